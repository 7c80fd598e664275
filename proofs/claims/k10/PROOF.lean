import PyProof.Rows.All
import Wide.All
import OpenK.AllK
import Wide.FinOn
import HandS.ForMost
import HandS.Evl
import HandS.Iter
import HandS.Walk
import HandS.Comp
import KE.GoesMore
import KE.GoesEnum
import HandS.Lambda
import HandS.SortKw
import KE.SortKeyHeap
import PyProof.Rows.SortStr
import PyProof.EqAt
import PyProof.EqKinds
import PyProof.TupleCall
import PyProof.Rows.SortShell
import PyProof.Rows.SortWalk
import KE.KSortTup
import HandS.Base
import HandS.Call
import HandS.Dict
import HandS.Sort
import HandS.SortOrd
import HandS.SortRule
import HandS.Text
import HandS.StrMore
import PyProof.Rows.StrIf
import HandS.Star
import HandS.SlotsOwn
import HandS.OwnEq
import HandS.Defaults
import HandS.RaiseMore
import HandS.ClsMeth
import HandS.Codes
import KE.KCallOwn
import HandS.CallLocal
import KE.KOpsOwn
import HandS.TupMul
import HandS.SetFor
import HandS.Strs
import HandS.TupSets
import PyProof.SetRoads
import HandS.MakeKwOnly
import HandS.ForExc
import HandS.ExcInit
import HandS.ExcValue
import HandS.ExcField
import HandS.IsInst
import KE.KExcIs
import HandS.Wide
import HandS.TupAny
import HandS.Conv
import HandS.Keys
import HandS.ExcIs
import HandS.Deep
import HandS.WordsExc
import HandS.TupLe
import PyProof.StrOps2
import HandS.Small
import HandS.List
import PyProof.StrLawsIn
import PyProof.Rows.StrFacts
import PyProof.P3In
import HandS.DictComp
import PyProof.Rows.InDataRows
import PyProof.ReprRoads
import HandS.EndTab
import KE.KNest
import PyProof.StrLawsFirst
import HandS.New
import HandS.TryOnly
import HandS.Records
import PyProof.FactsAll.dict
import PyProof.FactsAll.subtypes
import HandS.Style
import PyProof.Conv_bool
import HandS.MakeKw
import PySem.Challenge.RW_layerpost_k10_rules_right_or_wrong
set_option Elab.async false
set_option linter.all false
set_option maxRecDepth 100000
set_option maxHeartbeats 8000000
/-! zip(a text, a tuple) -/
namespace ZsT
open PySem PySem.Spec PyProof.Rows L2
/-- the signs of x beside what the tuple at b holds -/
def It2 (K : PySem.W.Frag) (x : Str) (b : Addr) : It :=
  ⟨fun i H => i < x.cps.size ∧ ∃ ys, SqT K H b ys ∧ i < ys.length,
    fun i H v H' => ∃ T c y, v = .ref T ∧ H T = none ∧ H' = upd H T (.tup [.str ⟨#[c]⟩, y]) ∧ x.cps[i]? = some c ∧ ∀ ys, SqT K H b ys → ys[i]? = some y,
    fun i H => i ≤ x.cps.size ∧ ∃ ys, SqT K H b ys ∧ i ≤ ys.length ∧ (i = x.cps.size ∨ i = ys.length)⟩
/-- the cells of such a zip -/
abbrev cells5 (N : Addr) : List Addr := [N + 4, N + 2, N + 3, N, N + 1]
/-- how they stand at the i-th turn -/
structure At5 (x : Str) (t : Tok) (b N i : Nat) (h : Heap) : Prop where
  z : IsZip h (N + 4) (N + 2) (N + 3) .none
  ti : IsTupOf2 h (N + 2) (.ref N) (.ref (N + 1))
  to : ∃ p q, IsTupOf2 h (N + 3) p q
  s1 : h.IsStrIter N (strIterType x) x t i
  s2 : h.IsTupleIter (N + 1) b i
  lt : b < N
theorem At5.keep {x : Str} {t : Tok} {b N i : Nat} {h h' : Heap} (a : At5 x t b N i h) (k : ∀ c ∈ cells5 N, ∀ o, h.get? c = some o → h'.get? c = some o) : At5 x t b N i h' := by
  obtain ⟨z, ti, ⟨p, q, to⟩, s1, s2, lt⟩ := a
  refine ⟨k _ (by simp) _ z, k _ (by simp) _ ti, ⟨p, q, k _ (by simp) _ to⟩, ?_, ?_, lt⟩
  · obtain ⟨o, e, r⟩ := s1
    exact ⟨o, k N (by simp) o e, r⟩
  · obtain ⟨o, e, r⟩ := s2
    exact ⟨o, k (N + 1) (by simp) o e, r⟩
theorem sep {b N : Nat} (lt : b < N) : ZipSep2 (N + 4) (N + 2) (N + 3) N (N + 1) [N] [N + 1, b] := zip_sep2 (fp1 := []) (fp2 := [b]) (fun c h => by cases h) fun c h => by rw [List.mem_singleton.mp h]; exact lt
theorem below {x : Str} {t : Tok} {b N i : Nat} {h : Heap} (a : At5 x t b N i h) : ∀ c ∈ cells5 N, c < h.objs.size := fun c hc => by
  have top : N + 4 < h.objs.size := Heap.lt_size a.z
  simp only [List.mem_cons, List.not_mem_nil, or_false] at hc
  have top : (N : Nat) + 4 < h.objs.size := top
  rcases hc with rfl | rfl | rfl | rfl | rfl
  · exact top
  · exact (by omega : (N : Nat) + 2 < h.objs.size)
  · exact (by omega : (N : Nat) + 3 < h.objs.size)
  · exact Nat.lt_of_le_of_lt (Nat.le_add_right _ 4) top
  · exact (by omega : (N : Nat) + 1 < h.objs.size)
theorem turn2 {P : Program} {w : World} {K : PySem.W.Frag} {elts : List Expr} {kk : Nat} {tpos : Pos} {x : Str} {t : Tok} {b N : Nat} :
    Turn P w K (.Tuple elts kk tpos) (It2 K x b) (cells5 N) (N + 4) (fun i h => At5 x t b N i h) where
  mem := by simp
  obj := fun i h a c hc => by
    obtain ⟨z, ti, ⟨p, q, to⟩, ⟨o1, e1, _, d1⟩, ⟨o2, e2, _, d2⟩, _⟩ := a
    simp only [List.mem_cons, List.not_mem_nil, or_false] at hc
    rcases hc with rfl | rfl | rfl | rfl | rfl
    · exact ⟨_, z, fun v q => nomatch q⟩
    · exact ⟨_, ti, fun v q => nomatch q⟩
    · exact ⟨_, to, fun v q => nomatch q⟩
    · exact ⟨o1, e1, fun v q => by rw [d1] at q; cases q⟩
    · exact ⟨o2, e2, fun v q => by rw [d2] at q; cases q⟩
  keep := fun i h h' a k => a.keep k
  item := by
    intro X hP hw hK hc i pins s σ H E I hf a hg
    subst hP hw hK
    obtain ⟨hi, ys, hq, hy⟩ := hg
    obtain ⟨its, rv, p, _⟩ := I.tuple hq
    have hh := I.ok.hd hc
    have len := rv.length
    have D1 := Draws.text (prog := X.prog) (w := X.w) (A := X.A.in1) hh N x t
    have D2 := Draws.tuple (prog := X.prog) (w := X.w) (A := X.A.in1) hh (N + 1) b (Nat.ne_of_lt (Nat.lt_succ_of_lt a.lt)) its.toArray
    refine wpAny_pyNext_zipD2_item (sep a.lt) D1 D2 a.z a.ti a.to.choose_spec.choose_spec a.s1 ⟨a.s2, p⟩ hi (by rw [List.size_toArray, ← len]; exact hy) fun x1 x2 h' tk y1 y2 z' to' s1' s2' hT hsz hk => ?_
    obtain ⟨c, u, hcx, rfl⟩ := y1
    have keep : ∀ d o, d ∉ cells5 N → s.heap.get? d = some o → h'.get? d = some o := fun d o hd e => hk d o (fun q => hd (by simp [q])) (fun q => hd (by simp [q])) (fun q => hd (by simp [q])) (fun q => hd (by simp [q])) e
    have bel := below a
    refine ⟨_, rfl, wpAny_letOwnedTupleGo_zip (s := { s with heap := h', toks := tk }) z' fun h'' z'' sb => ?_⟩
    have nz : ∀ d ∈ cells5 N, s.heap.objs.size ≠ d := fun d hd => Nat.ne_of_gt (bel d hd)
    have hT2 : h''.get? s.heap.objs.size = some { cls := .type "tuple", data := .seq #[.str ⟨#[c]⟩ u, x2] } := (sb.2 _ (nz _ (by simp))).trans hT
    have x2' : its[i]? = some x2 := by
      rw [← List.getElem?_toArray]
      exact y2
    obtain ⟨y, hyi⟩ : ∃ y, ys[i]? = some y := ⟨_, List.getElem?_eq_getElem hy⟩
    obtain ⟨u2, hu2, ru2⟩ := rv.get hyi
    rw [x2'] at hu2
    obtain rfl := Option.some.inj hu2
    have new : ObjOk X.prog X.w (upd H s.heap.objs.size (.tup [.str ⟨#[c]⟩, y])) h'' s.heap.objs.size (.tup [.str ⟨#[c]⟩, y]) :=
      ⟨by show 2 ≤ sizeLine; decide, [.str ⟨#[c]⟩ u, x2], .cons ⟨u, rfl⟩ (.cons ru2 .nil), ⟨_, hT2, rfl, _, rfl⟩⟩
    have same : ∀ d, d ≠ N + 4 → h''.get? d = h'.get? d := fun d hd => sb.2 d hd
    have I1 : Inv X pins σ (upd H s.heap.objs.size (.tup [.str ⟨#[c]⟩, y])) { s with heap := h'', toks := tk } :=
      I.turnedNew (ch := cells5 N) (fun d o hb q => (same d fun q' => hb (by simp [q'])).trans (keep d o hb q)) hf (Nat.le_refl _) new
    refine ⟨.ref s.heap.objs.size, _, I1, rfl, ⟨_, c, y, rfl, I.hok.fresh (Nat.le_refl _), rfl, hcx, fun l hl => by rw [I.tuple_inj hl hq]; exact hyi⟩, ⟨z'', ?_, ⟨_, _, (same (N + 3) (by show (N + 3 : Nat) ≠ N + 4; omega)).trans to'⟩, ?_, ?_, a.lt⟩, fun d hd => ?_⟩
    · exact (same (N + 2) (by show (N + 2 : Nat) ≠ N + 4; omega)).trans (hk _ _ (by show (N + 2 : Nat) ≠ N + 4; omega) (by show (N + 2 : Nat) ≠ N + 3; omega) (by show (N + 2 : Nat) ≠ N; omega) (by show (N + 2 : Nat) ≠ N + 1; omega) a.ti)
    · obtain ⟨o, e, r⟩ := s1'
      exact ⟨o, (same N (by show (N : Nat) ≠ N + 4; omega)).trans e, r⟩
    · obtain ⟨o, e, r⟩ := s2'.1
      exact ⟨o, (same (N + 1) (by show (N + 1 : Nat) ≠ N + 4; omega)).trans e, r⟩
    · rw [upd_ne (nz d hd).symm]
      exact (hf d hd).1
  done := by
    intro X hP hw hK hc i pins s σ H E I hf a hg
    subst hP hw hK
    obtain ⟨hi, ys, hq, hy, hend⟩ := hg
    obtain ⟨its, rv, p, _⟩ := I.tuple hq
    have hh := I.ok.hd hc
    have len := rv.length
    have D1 := Draws.text (prog := X.prog) (w := X.w) (A := X.A.in1) hh N x t
    have D2 := Draws.tuple (prog := X.prog) (w := X.w) (A := X.A.in1) hh (N + 1) b (Nat.ne_of_lt (Nat.lt_succ_of_lt a.lt)) its.toArray
    refine wpAny_pyNext_zipD2_end (sep a.lt) D1 D2 a.z a.ti a.to.choose_spec.choose_spec a.s1 ⟨a.s2, p⟩ hi (by rw [List.size_toArray, ← len]; exact hy) (hend.imp id fun e => by rw [e, List.size_toArray, len]) fun h' tk hk => ⟨rfl, I.turnedL (ch := cells5 N) (fun d o hb q =>
      hk d o (fun q' => hb (by simp [q'])) (fun q' => hb (by simp [q'])) (fun q' => hb (by simp [q'])) (fun q' => hb (by simp [q'])) q) hf⟩
  self := fun A i s Q E a h => wpAny_pyIter_zip a.z h
def iZs (K : PySem.W.Frag) (ta : TA) : TI := fun σ H R => ta σ H fun vs H1 => ∃ x b ys, vs = [.str x, .ref b] ∧ SqT K H1 b ys ∧ R (It2 K x b) H1
theorem pi_zs {X : Cx} {e e2 : Expr} {ta : TA} {p pos tpos : Pos} {elts : List Expr} {kk : Nat} (hg : Gl X "zip") (hm : X.mg "zip" = none) (ha : PA X [e, e2] ta)
    (hs : starEach [e, e2] X.env = (false, eval e X.env) :: starEach [e2] X.env := by rfl) (hpl : (backTo pos (starEach [e2] X.env)).any (·.1) = false := by rfl) :
    PI X (.Tuple elts kk tpos) (.Call (.Name "zip" p) [e, e2] [] pos) (iZs X.K ta) := by
  refine ⟨fun pins s σ H R I h => ?_⟩
  refine Call_ (ld_blt I hg hm PyProof.Rows.boot_zip (PyProof.Rows.callWith_type1 (thn (ha.run pos pins s σ H _ I h) fun us s1 ⟨vs, H1, I1, r1, q1⟩ => ?_) hs hpl))
  obtain ⟨x, b, ys, rfl, hq, q⟩ := q1
  cases r1 with
  | cons r rr =>
    cases rr with
    | cons r' rr =>
      cases rr
      cases r'
      obtain ⟨t, rfl⟩ := r
      obtain ⟨its, rv, pt, _⟩ := I1.tuple hq
      have lb : b < s1.heap.objs.size := by
        obtain ⟨o, ho, _⟩ := id pt
        exact Heap.lt_size ho
      refine zip_begins2 (begins_text x t) (begins_tuple b its.toArray) trivial pt fun h' z ti to s1' s2' hsz hk => wpAny_pyIter_zip z ?_
      refine ⟨s1.heap.objs.size + 4, cells5 s1.heap.objs.size, _, _, H1, rfl, I1.kept (t' := s1.toks) hk, turn2 (t := t), ⟨z, ti, ⟨_, _, to⟩, ⟨_, s1', rfl, rfl⟩, ⟨_, s2', rfl, rfl⟩, lb⟩, fun c hcm => ?_, q⟩
      have hle : s1.heap.objs.size ≤ c := by
        simp only [List.mem_cons, List.not_mem_nil, or_false] at hcm
        rcases hcm with z | z | z | z | z
        · rw [z]; exact Nat.le_add_right _ _
        · rw [z]; exact Nat.le_add_right _ _
        · rw [z]; exact Nat.le_add_right _ _
        · rw [z]; exact Nat.le_refl _
        · rw [z]; exact Nat.le_add_right _ _
      exact I1.fpOk hle (I1.hok.fresh hle)
end ZsT
/-! pure: what is put behind signs, bodies, and letters of bodies, over lists of signs -/
namespace Fr
abbrev L := List Nat
abbrev LP := List (L × L)
/-- the longest ending so far, and its put -/
def best (s : L) : LP → L × L → L × L
  | [], b => b
  | q :: r, b => best s r (if b.1.length < q.1.length ∧ q.1 <:+ s then q else b)
def putL (ps : LP) (s : L) : L := (best s ps ([], [])).2
/-- the last eight -/
def tail8 (s : L) : L := s.drop (s.length - 8)
theorem tail8_len (s : L) : (tail8 s).length = min 8 s.length := by
  unfold tail8
  rw [List.length_drop]
  omega
theorem tail8_le (s : L) : (tail8 s).length ≤ 8 := by rw [tail8_len]; omega
theorem tail8_suf (s : L) : tail8 s <:+ s := List.drop_suffix _ _
theorem suf_tail {w s : L} (h : w.length ≤ 8) : w <:+ tail8 s ↔ w <:+ s := by
  constructor
  · exact fun z => z.trans (tail8_suf s)
  · intro z
    refine List.suffix_of_suffix_length_le z (tail8_suf s) ?_
    have := z.length_le
    rw [tail8_len]
    omega
theorem tail8_app (s t : L) : tail8 (tail8 s ++ t) = tail8 (s ++ t) := by
  by_cases h : s.length ≤ 8
  · have : tail8 s = s := by
      unfold tail8
      rw [show s.length - 8 = 0 by omega, List.drop_zero]
    rw [this]
  · have e : tail8 s ++ t = (s ++ t).drop (s.length - 8) := by
      unfold tail8
      rw [List.drop_append_of_le_length (by omega)]
    unfold tail8
    rw [show s.drop (s.length - 8) ++ t = tail8 s ++ t from rfl, e, List.drop_drop, List.length_drop, List.length_append]
    congr 1
    omega
theorem tail8_same {s s' : L} (h : tail8 s = tail8 s') (t : L) : tail8 (s ++ t) = tail8 (s' ++ t) := by rw [← tail8_app, h, tail8_app]
/-- what watches and puts are: 1 to 8 signs, and one -/
structure Pok (ps : LP) : Prop where
  w1 : ∀ q ∈ ps, 1 ≤ q.1.length
  w8 : ∀ q ∈ ps, q.1.length ≤ 8
  p1 : ∀ q ∈ ps, q.2.length = 1
  sg : ∀ q ∈ ps, ∀ c ∈ q.2, c = 48 ∨ c = 49
theorem best_dep {s s' : L} : ∀ {ps : LP} {b : L × L}, (∀ q ∈ ps, (q.1 <:+ s ↔ q.1 <:+ s')) → best s ps b = best s' ps b
  | [], _, _ => rfl
  | q :: r, b, h => by
    have e : (b.1.length < q.1.length ∧ q.1 <:+ s) = (b.1.length < q.1.length ∧ q.1 <:+ s') := by rw [h q List.mem_cons_self]
    show best s r _ = best s' r _
    simp only [e]
    exact best_dep fun p hp => h p (List.mem_cons_of_mem _ hp)
theorem best_mem {s : L} : ∀ {ps : LP} {b : L × L}, best s ps b = b ∨ best s ps b ∈ ps
  | [], _ => .inl rfl
  | q :: r, b => by
    show best s r _ = b ∨ best s r _ ∈ q :: r
    split
    · rcases best_mem (s := s) (ps := r) (b := q) with h | h
      · exact .inr (by rw [h]; exact List.mem_cons_self)
      · exact .inr (List.mem_cons_of_mem _ h)
    · rcases best_mem (s := s) (ps := r) (b := b) with h | h
      · exact .inl h
      · exact .inr (List.mem_cons_of_mem _ h)
theorem best_snoc {s : L} {q : L × L} : ∀ {ps : LP} {b : L × L}, best s (ps ++ [q]) b = if (best s ps b).1.length < q.1.length ∧ q.1 <:+ s then q else best s ps b
  | [], _ => rfl
  | p :: r, b => best_snoc (ps := r)
section
variable {ps : LP}
theorem put_tail (O : Pok ps) (s : L) : putL ps (tail8 s) = putL ps s := congrArg Prod.snd (best_dep fun q hq => suf_tail (O.w8 q hq))
theorem put_same (O : Pok ps) {s s' : L} (h : tail8 s = tail8 s') : putL ps s = putL ps s' := by rw [← put_tail O s, h, put_tail O]
theorem put_or (O : Pok ps) (s : L) : putL ps s = [] ∨ ∃ c, putL ps s = [c] ∧ (c = 48 ∨ c = 49) := by
  unfold putL
  rcases best_mem (s := s) (ps := ps) (b := ([], [])) with h | h
  · exact .inl (by rw [h])
  · refine .inr ?_
    obtain ⟨c, e⟩ := List.length_eq_one_iff.mp (O.p1 _ h)
    exact ⟨c, e, O.sg _ h c (by rw [e]; exact List.mem_singleton.mpr rfl)⟩
theorem put_nil (O : Pok ps) : putL ps [] = [] := by
  have h : ∀ {qs : LP} {b : L × L}, (∀ q ∈ qs, 1 ≤ q.1.length) → best [] qs b = b := fun {qs} => by
    induction qs with
    | nil => intro b _; rfl
    | cons q r ih =>
      intro b z
      show best [] r _ = b
      rw [if_neg (fun y => by
        have := y.2.length_le
        have := z q List.mem_cons_self
        simp only [List.length_nil] at *
        omega)]
      exact ih fun p hp => z p (List.mem_cons_of_mem _ hp)
  unfold putL
  rw [h O.w1]
/-! ### signs sent until nothing is put in -/
def run (ps : LP) : Nat → L → Option L
  | 0, _ => none
  | n + 1, s => if putL ps s = [] then some s else run ps n (s ++ putL ps s)
def chain (ps : LP) (s : L) : Nat → L
  | 0 => s
  | k + 1 => chain ps s k ++ putL ps (chain ps s k)
theorem run_at {s : L} : ∀ {n k : Nat}, (∀ i, i < k → putL ps (chain ps s i) ≠ []) → run ps (n + k) s = run ps n (chain ps s k) := fun {n k} => by
  induction k generalizing n with
  | zero => intro _; rfl
  | succ k ih =>
    intro h
    have e : n + (k + 1) = (n + 1) + k := by omega
    rw [e, ih fun i hi => h i (by omega)]
    show (if putL ps (chain ps s k) = [] then _ else _) = _
    rw [if_neg (h k (by omega))]
    rfl
theorem run_none {s : L} (h : ∀ i, putL ps (chain ps s i) ≠ []) (n : Nat) : run ps n s = none := by
  have := run_at (ps := ps) (s := s) (n := 0) (k := n) fun i _ => h i
  rw [Nat.zero_add] at this
  rw [this]
  rfl
theorem chain_same (O : Pok ps) {s : L} {j k : Nat} (h : tail8 (chain ps s j) = tail8 (chain ps s k)) : ∀ r, tail8 (chain ps s (j + r)) = tail8 (chain ps s (k + r))
  | 0 => h
  | r + 1 => by
    have ih := chain_same O h r
    show tail8 (chain ps s (j + r) ++ putL ps (chain ps s (j + r))) = tail8 (chain ps s (k + r) ++ putL ps (chain ps s (k + r)))
    rw [put_same O ih]
    exact tail8_same ih _
theorem endless (O : Pok ps) {s : L} {j k : Nat} (hj : j < k) (h : tail8 (chain ps s j) = tail8 (chain ps s k)) (up : ∀ i, i < k → putL ps (chain ps s i) ≠ []) : ∀ i, putL ps (chain ps s i) ≠ [] := by
  intro i
  induction i using Nat.strongRecOn with
  | ind i ih =>
    rcases Nat.lt_or_ge i k with z | z
    · exact up i z
    · have e := put_same O (chain_same O h (i - k))
      rw [show k + (i - k) = i by omega] at e
      rw [← e]
      exact ih _ (by omega)
theorem chain_len (O : Pok ps) {s : L} : ∀ {k : Nat}, (∀ i, i < k → putL ps (chain ps s i) ≠ []) → (chain ps s k).length = s.length + k
  | 0, _ => rfl
  | k + 1, h => by
    have ih := chain_len O (s := s) (k := k) fun i hi => h i (by omega)
    rcases put_or O (chain ps s k) with z | ⟨c, z, _⟩
    · exact absurd z (h k (by omega))
    · show (chain ps s k ++ putL ps (chain ps s k)).length = _
      rw [z, List.length_append, ih]
      rfl
def Sgs (s : L) : Prop := ∀ c ∈ s, c = 48 ∨ c = 49
theorem Sgs.app {s t : L} (h : Sgs s) (h' : Sgs t) : Sgs (s ++ t) := fun c hc => (List.mem_append.mp hc).elim (h c) (h' c)
theorem put_sgs (O : Pok ps) (s : L) : Sgs (putL ps s) := fun c hc => by
  rcases put_or O s with z | ⟨d, z, q⟩
  · rw [z] at hc
    cases hc
  · rw [z, List.mem_singleton] at hc
    rw [hc]
    exact q
theorem chain_sgs (O : Pok ps) {s : L} (h : Sgs s) : ∀ k, Sgs (chain ps s k)
  | 0 => h
  | k + 1 => (chain_sgs O h k).app (put_sgs O _)
end
/-! ### few tails -/
theorem few_of {α : Type} [DecidableEq α] : ∀ (xs ks : List α), ks.Nodup → (∀ k ∈ ks, k ∈ xs) → ks.length ≤ xs.length
  | [], ks, _, h => by
    cases ks with
    | nil => exact Nat.le_refl _
    | cons k ks => exact absurd (h k List.mem_cons_self) (by simp)
  | a :: l, ks, hn, h => by
    have sub : ∀ k ∈ ks.erase a, k ∈ l := fun k hk => by
      obtain ⟨h1, h2⟩ := (List.Nodup.mem_erase_iff hn).mp hk
      exact (List.mem_cons.mp (h k h2)).resolve_left h1
    have r1 := few_of l (ks.erase a) (hn.erase a) sub
    have len : ks.length ≤ (ks.erase a).length + 1 := by
      by_cases m : a ∈ ks
      · rw [List.length_erase_of_mem m]
        omega
      · rw [List.erase_of_not_mem m]
        omega
    rw [List.length_cons]
    omega
def allN : Nat → List L
  | 0 => [[]]
  | n + 1 => (allN n).map (48 :: ·) ++ (allN n).map (49 :: ·)
theorem allN_len : ∀ n, (allN n).length = 2 ^ n
  | 0 => rfl
  | n + 1 => by
    have := allN_len n
    show ((allN n).map _ ++ (allN n).map _).length = _
    rw [List.length_append, List.length_map, List.length_map, this]
    omega
theorem allN_mem : ∀ {s : L}, Sgs s → s ∈ allN s.length
  | [], _ => List.mem_singleton.mpr rfl
  | c :: s, h => by
    have ih := allN_mem (s := s) fun d hd => h d (List.mem_cons_of_mem _ hd)
    show c :: s ∈ (allN s.length).map _ ++ (allN s.length).map _
    rcases h c List.mem_cons_self with e | e
    · exact List.mem_append_left _ (List.mem_map.mpr ⟨s, ih, by rw [e]⟩)
    · exact List.mem_append_right _ (List.mem_map.mpr ⟨s, ih, by rw [e]⟩)
section
variable {ps : LP}
/-- so many different tails at most -/
theorem few_tails (O : Pok ps) {s : L} {k : Nat} (h1 : 1 ≤ s.length) (sg : Sgs s) (up : ∀ i, i < k → putL ps (chain ps s i) ≠ []) (nd : ∀ i j, i < j → j < k → tail8 (chain ps s i) ≠ tail8 (chain ps s j)) : k ≤ 263 := by
  have a := few_of (allN 8) ((List.range (k - 7)).map fun i => tail8 (chain ps s (i + 7))) ?_ ?_
  · rw [allN_len, List.length_map, List.length_range] at a
    omega
  · unfold List.Nodup
    rw [List.pairwise_map]
    refine List.Pairwise.imp_of_mem ?_ (List.pairwise_lt_range (n := k - 7))
    intro i j hi hj hij
    have := List.mem_range.mp hj
    exact nd (i + 7) (j + 7) (by omega) (by omega)
  · intro t ht
    obtain ⟨i, hi, rfl⟩ := List.mem_map.mp ht
    have hi := List.mem_range.mp hi
    have len := chain_len O (s := s) (k := i + 7) fun j hj => up j (by omega)
    have m := allN_mem (s := tail8 (chain ps s (i + 7))) fun c hc => chain_sgs O sg _ c ((tail8_suf _).subset hc)
    rwa [tail8_len, len, show min 8 (s.length + (i + 7)) = 8 by omega] at m
theorem run_up : ∀ {n : Nat} {s t : L}, run ps n s = some t → s <+: t ∧ putL ps t = []
  | 0, _, _, h => by cases h
  | n + 1, s, t, h => by
    have h : (if putL ps s = [] then some s else run ps n (s ++ putL ps s)) = some t := h
    split at h
    · cases h
      rename_i z
      exact ⟨List.prefix_refl _, z⟩
    · have ih := run_up h
      exact ⟨(List.prefix_append _ _).trans ih.1, ih.2⟩
theorem run_len (O : Pok ps) : ∀ {n : Nat} {s t : L}, run ps n s = some t → t.length ≤ s.length + n
  | 0, _, _, h => by cases h
  | n + 1, s, t, h => by
    have h : (if putL ps s = [] then some s else run ps n (s ++ putL ps s)) = some t := h
    split at h
    · cases h
      omega
    · have ih := run_len O h
      rcases put_or O s with z | ⟨c, z, _⟩
      · contradiction
      · rw [z, List.length_append] at ih
        simp only [List.length_singleton] at ih
        omega
theorem run_sgs (O : Pok ps) : ∀ {n : Nat} {s t : L}, Sgs s → run ps n s = some t → Sgs t
  | 0, _, _, _, h => by cases h
  | n + 1, s, t, g, h => by
    have h : (if putL ps s = [] then some s else run ps n (s ++ putL ps s)) = some t := h
    split at h
    · cases h
      exact g
    · exact run_sgs O (g.app (put_sgs O s)) h
/-- the signs behind s that are sent for the sign c, if they have an end -/
def sentL (ps : LP) (s : L) (c : Nat) : Option L := run ps 300 (s ++ [c])
/-- the body of r behind s -/
def bodyL (ps : LP) : L → L → Option L
  | s, [] => some s
  | s, c :: r => match sentL ps s c with
    | none => none
    | some t => bodyL ps t r
theorem body_len (O : Pok ps) : ∀ {r s t : L}, bodyL ps s r = some t → t.length ≤ s.length + 301 * r.length
  | [], s, t, h => by
    cases h
    omega
  | c :: r, s, t, h => by
    unfold bodyL at h
    split at h
    · cases h
    · rename_i u e
      have := body_len O h
      have := run_len O e
      rw [List.length_append, List.length_singleton] at this
      rw [List.length_cons]
      omega
theorem body_sgs (O : Pok ps) : ∀ {r s t : L}, Sgs s → Sgs r → bodyL ps s r = some t → Sgs t
  | [], s, t, g, _, h => by
    cases h
    exact g
  | c :: r, s, t, g, gr, h => by
    unfold bodyL at h
    split at h
    · cases h
    · rename_i u e
      exact body_sgs O (run_sgs O (g.app fun d hd => gr d (by rw [List.mem_singleton.mp hd]; exact List.mem_cons_self)) e) (fun d hd => gr d (List.mem_cons_of_mem _ hd)) h
theorem body_more : ∀ {r s t : L}, bodyL ps s r = some t → s <+: t
  | [], s, t, h => by
    cases h
    exact List.prefix_refl _
  | c :: r, s, t, h => by
    unfold bodyL at h
    split at h
    · cases h
    · rename_i u e
      exact ((List.prefix_append _ _).trans (run_up e).1).trans (body_more h)
theorem body_ge : ∀ {r s t : L}, bodyL ps s r = some t → s.length + r.length ≤ t.length
  | [], s, t, h => by
    cases h
    exact Nat.le_refl _
  | c :: r, s, t, h => by
    unfold bodyL at h
    split at h
    · cases h
    · rename_i u e
      have := body_ge h
      have := (run_up e).1.length_le
      rw [List.length_append, List.length_singleton] at this
      rw [List.length_cons]
      omega
/-! ### letters of bodies -/
/-- the letter of rest, behind done -/
def tkn (ps : LP) : L → L → Option L
  | d, [] => if putL ps d = [] then some [] else none
  | d, c :: r => if putL ps d = [] then (tkn ps (d ++ [c]) r).map (c :: ·) else if [c] = putL ps d then tkn ps (d ++ [c]) r else none
theorem tkn_len : ∀ {r d t : L}, tkn ps d r = some t → t.length ≤ r.length
  | [], d, t, h => by
    unfold tkn at h
    split at h
    · cases h
      exact Nat.le_refl _
    · cases h
  | c :: r, d, t, h => by
    unfold tkn at h
    split at h
    · obtain ⟨u, hu, rfl⟩ := Option.map_eq_some_iff.mp h
      have := tkn_len hu
      simp only [List.length_cons]
      omega
    · split at h
      · have := tkn_len h
        rw [List.length_cons]
        omega
      · cases h
theorem tkn_sgs : ∀ {r d t : L}, Sgs r → tkn ps d r = some t → Sgs t
  | [], d, t, _, h => by
    unfold tkn at h
    split at h
    · cases h
      exact fun c hc => by cases hc
    · cases h
  | c :: r, d, t, g, h => by
    have gr : Sgs r := fun x hx => g x (List.mem_cons_of_mem _ hx)
    unfold tkn at h
    split at h
    · obtain ⟨u, hu, rfl⟩ := Option.map_eq_some_iff.mp h
      exact fun x hx => by
        rcases List.mem_cons.mp hx with e | e
        · rw [e]
          exact g c List.mem_cons_self
        · exact tkn_sgs gr hu x e
    · split at h
      · exact tkn_sgs gr h
      · cases h
end
end Fr
/-! pure: states of bodies, over lists of signs -/
namespace Fr
def Beg (W : List L) (e : L) : Prop := ∃ w ∈ W, e <+: w
instance {W : List L} {e : L} : Decidable (Beg W e) := inferInstanceAs (Decidable (∃ w ∈ W, e <+: w))
/-- the longest ending that is a beginning of a word -/
def stOf (W : List L) : L → L
  | [] => []
  | c :: r => if Beg W (c :: r) then c :: r else stOf W r
section
variable {W : List L} {s t u x y e : L}
theorem Beg.pre (h : Beg W (x ++ y)) : Beg W x := by
  obtain ⟨w, hw, p⟩ := h
  exact ⟨w, hw, (List.prefix_append x y).trans p⟩
theorem st_suf : ∀ (s : L), stOf W s <:+ s
  | [] => List.suffix_refl _
  | c :: r => by
    unfold stOf
    split
    · exact List.suffix_refl _
    · exact (st_suf r).trans (List.suffix_cons c r)
theorem beg_nil (hW : W ≠ []) : Beg W [] := by
  cases W with
  | nil => exact absurd rfl hW
  | cons w r => exact ⟨w, List.mem_cons_self, List.nil_prefix⟩
theorem st_beg (hW : W ≠ []) : ∀ (s : L), Beg W (stOf W s)
  | [] => beg_nil hW
  | c :: r => by
    unfold stOf
    split
    · assumption
    · exact st_beg hW r
theorem suf_cons {c : Nat} {r : L} (h : x <:+ c :: r) : x = c :: r ∨ x <:+ r := by
  obtain ⟨p, hp⟩ := h
  cases p with
  | nil => exact .inl hp
  | cons d p => exact .inr ⟨p, (List.cons.inj hp).2⟩
theorem st_max : ∀ {s : L}, x <:+ s → Beg W x → x <:+ stOf W s
  | [], h, _ => h
  | c :: r, h, b => by
    unfold stOf
    split
    · exact h
    · rename_i n
      rcases suf_cons h with e | e
      · exact absurd (e ▸ b) n
      · exact st_max e b
theorem suf_anti (h : x <:+ y) (h' : y <:+ x) : x = y := h.eq_of_length (Nat.le_antisymm h.length_le h'.length_le)
theorem st_is (hW : W ≠ []) (h1 : e <:+ s) (h2 : Beg W e) (h3 : ∀ x, x <:+ s → Beg W x → x <:+ e) : stOf W s = e :=
  suf_anti (h3 _ (st_suf s) (st_beg hW s)) (st_max h1 h2)
theorem suf_app (h : x <:+ s ++ t) : x <:+ t ∨ ∃ y, x = y ++ t ∧ y <:+ s := by
  obtain ⟨p, hp⟩ := h
  rcases List.append_eq_append_iff.mp hp with ⟨a, h1, h2⟩ | ⟨a, h1, h2⟩
  · exact .inr ⟨a, h2, ⟨p, h1.symm⟩⟩
  · exact .inl ⟨a, h2.symm⟩
theorem suf_app_r (h : y <:+ s) : y ++ t <:+ s ++ t := by
  obtain ⟨p, rfl⟩ := h
  exact ⟨p, by simp⟩
theorem st_app (hW : W ≠ []) (s t : L) : stOf W (s ++ t) = stOf W (stOf W s ++ t) := by
  refine (st_is hW ?_ (st_beg hW _) fun x hx b => ?_).symm
  · rcases suf_app (st_suf (W := W) (s ++ t)) with h | ⟨y, h1, h2⟩
    · exact h.trans (List.suffix_append _ _)
    · rw [h1]
      exact suf_app_r (st_max h2 (by
        have := st_beg hW (s ++ t)
        rw [h1] at this
        exact this.pre))
  · exact st_max (hx.trans (suf_app_r (st_suf s))) b
theorem beg_len (W8 : ∀ w ∈ W, w.length ≤ 8) (h : Beg W e) : e.length ≤ 8 := by
  obtain ⟨w, hw, p⟩ := h
  exact Nat.le_trans p.length_le (W8 w hw)
theorem st_len (hW : W ≠ []) (W8 : ∀ w ∈ W, w.length ≤ 8) (s : L) : (stOf W s).length ≤ 8 := beg_len W8 (st_beg hW s)
theorem st_tail8 (hW : W ≠ []) (W8 : ∀ w ∈ W, w.length ≤ 8) (s : L) : stOf W (tail8 s) = stOf W s := by
  refine (st_is hW ((st_suf _).trans (tail8_suf s)) (st_beg hW _) fun x hx b => ?_).symm
  exact st_max ((suf_tail (beg_len W8 b)).mpr hx) b
theorem st_nil : stOf W [] = [] := rfl
end
section
variable {ps : LP} {W : List L} {s t u x e : L} {c : Nat}
theorem put_st (hW : ∀ q ∈ ps, q.1 ∈ W) (s u : L) : putL ps (s ++ u) = putL ps (stOf W s ++ u) := by
  refine congrArg Prod.snd (best_dep fun q hq => ⟨fun h => ?_, fun h => h.trans (suf_app_r (st_suf s))⟩)
  rcases suf_app h with h | ⟨y, h1, h2⟩
  · exact h.trans (List.suffix_append _ _)
  · rw [h1]
    exact suf_app_r (st_max h2 ⟨q.1, hW q hq, by rw [h1]; exact List.prefix_append _ _⟩)
theorem run_st {s e : L} (h : ∀ u, putL ps (s ++ u) = putL ps (e ++ u)) : ∀ (n : Nat) (u : L), (run ps n (s ++ u)).map (List.drop s.length) = (run ps n (e ++ u)).map (List.drop e.length)
  | 0, _ => rfl
  | n + 1, u => by
    show (if putL ps (s ++ u) = [] then some (s ++ u) else run ps n (s ++ u ++ putL ps (s ++ u))).map _ = (if putL ps (e ++ u) = [] then some (e ++ u) else run ps n (e ++ u ++ putL ps (e ++ u))).map _
    rw [h u]
    split
    · show some _ = some _
      rw [List.drop_left, List.drop_left]
    · rw [List.append_assoc, List.append_assoc]
      exact run_st h n _
/-- what is sent behind s for the sign c -/
def sendL (ps : LP) (s : L) (c : Nat) : Option L := (sentL ps s c).map (List.drop s.length)
theorem sent_pre {s t : L} {c : Nat} (h : sentL ps s c = some t) : s <+: t := (List.prefix_append s [c]).trans (run_up h).1
theorem sent_send (s : L) (c : Nat) : sentL ps s c = (sendL ps s c).map (s ++ ·) := by
  unfold sendL
  cases h : sentL ps s c with
  | none => rfl
  | some t =>
    obtain ⟨r, rfl⟩ := sent_pre h
    show some _ = some (s ++ (s ++ r).drop s.length)
    rw [List.drop_left]
theorem send_st (hW : ∀ q ∈ ps, q.1 ∈ W) (s : L) (c : Nat) : sendL ps s c = sendL ps (stOf W s) c := run_st (put_st hW s) 300 [c]
theorem body_app : ∀ (r r' s : L), bodyL ps s (r ++ r') = (bodyL ps s r).bind fun t => bodyL ps t r'
  | [], _, _ => rfl
  | c :: r, r', s => by
    show (match sentL ps s c with | none => none | some t => bodyL ps t (r ++ r')) = (match sentL ps s c with | none => none | some t => bodyL ps t r).bind _
    cases sentL ps s c with
    | none => rfl
    | some t => exact body_app r r' t
theorem body_one (s : L) (c : Nat) : bodyL ps s [c] = sentL ps s c := by
  show (match sentL ps s c with | none => none | some t => bodyL ps t []) = _
  cases sentL ps s c <;> rfl
theorem body_snoc (r s : L) (c : Nat) : bodyL ps s (r ++ [c]) = (bodyL ps s r).bind fun t => (sendL ps t c).map (t ++ ·) := by
  rw [body_app]
  congr 1
  funext t
  rw [body_one, sent_send]
theorem snoc_ind {P : L → Prop} (h0 : P []) (hs : ∀ r c, P r → P (r ++ [c])) (r : L) : P r := by
  have h : ∀ n (r : L), r.length = n → P r := fun n => by
    induction n with
    | zero => intro r e; rw [List.length_eq_zero_iff.mp e]; exact h0
    | succ n ih =>
      intro r e
      have ne : r ≠ [] := fun z => by rw [z] at e; cases e
      rw [← List.dropLast_concat_getLast ne]
      exact hs _ _ (ih _ (by rw [List.length_dropLast, e]; rfl))
  exact h _ r rfl
/-! ### walks over all states -/
def Bit (c : Nat) : Prop := c = 48 ∨ c = 49
/-- a letter with this body -/
def Rch (ps : LP) (r t : L) : Prop := Sgs r ∧ bodyL ps [] r = some t
theorem rch_nil : Rch ps [] [] := ⟨fun c hc => (by cases hc), rfl⟩
theorem Rch.next {r t u : L} {c : Nat} (h : Rch ps r t) (hc : Bit c) (hu : sendL ps t c = some u) : Rch ps (r ++ [c]) (t ++ u) :=
  ⟨h.1.app fun d hd => by rw [List.mem_singleton.mp hd]; exact hc, by rw [body_snoc, h.2]; show (sendL ps t c).map _ = _; rw [hu]; rfl⟩
/-- row: states, each reached; the first n of them go on within the row -/
structure Wlk (ps : LP) (W : List L) (row : List L) (n : Nat) : Prop where
  nd : row.Nodup
  nil : [] ∈ row
  rch : ∀ e ∈ row, ∃ r t, Rch ps r t ∧ stOf W t = e
  on : ∀ i e, i < n → row[i]? = some e → ∀ c, Bit c → ∀ u, sendL ps e c = some u → stOf W (e ++ u) ∈ row
def NoPuts (ps : LP) (row : List L) : Prop := ∀ e ∈ row, ∀ c, Bit c → sendL ps e c ≠ none
theorem Wlk.all {row : List L} (hW : W ≠ []) (hp : ∀ q ∈ ps, q.1 ∈ W) (w : Wlk ps W row row.length) (np : NoPuts ps row) : ∀ r, Sgs r → ∃ t, bodyL ps [] r = some t ∧ stOf W t ∈ row := fun r => by
  induction r using snoc_ind with
  | h0 => exact fun _ => ⟨[], rfl, w.nil⟩
  | hs r c ih =>
    intro sg
    obtain ⟨t, h1, h2⟩ := ih fun d hd => sg d (List.mem_append_left _ hd)
    have bc : Bit c := sg c (List.mem_append_right _ (List.mem_singleton.mpr rfl))
    cases hu : sendL ps (stOf W t) c with
    | none => exact absurd hu (np _ h2 c bc)
    | some u =>
      refine ⟨t ++ u, ?_, ?_⟩
      · rw [body_snoc, h1]
        show (sendL ps t c).map _ = _
        rw [send_st hp, hu]
        rfl
      · obtain ⟨i, hi⟩ := List.getElem?_of_mem h2
        rw [st_app hW]
        exact w.on i _ (List.getElem?_eq_some_iff.mp hi).1 hi c bc u hu
theorem Wlk.mem {row : List L} (hW : W ≠ []) (hp : ∀ q ∈ ps, q.1 ∈ W) (w : Wlk ps W row row.length) (np : NoPuts ps row) (e : L) : e ∈ row ↔ ∃ r t, Rch ps r t ∧ stOf W t = e := by
  refine ⟨w.rch e, ?_⟩
  rintro ⟨r, t, h, rfl⟩
  obtain ⟨t', h1, h2⟩ := w.all hW hp np r h.1
  rw [h.2] at h1
  cases h1
  exact h2
/-- puts without an end -/
def PutsC (ps : LP) : Prop := ∃ r, Sgs r ∧ bodyL ps [] r = none
theorem Wlk.puts {row : List L} (hW : W ≠ []) (hp : ∀ q ∈ ps, q.1 ∈ W) (w : Wlk ps W row row.length) : PutsC ps ↔ ¬ NoPuts ps row := by
  constructor
  · rintro ⟨r, sg, h⟩ np
    obtain ⟨t, h1, _⟩ := w.all hW hp np r sg
    rw [h] at h1
    cases h1
  · intro h
    refine Classical.byContradiction fun n => h fun e he c hc hu => ?_
    obtain ⟨r, t, h1, rfl⟩ := w.rch e he
    refine n ⟨r ++ [c], h1.1.app fun d hd => by rw [List.mem_singleton.mp hd]; exact hc, ?_⟩
    rw [body_snoc, h1.2]
    show (sendL ps t c).map _ = _
    rw [send_st hp, hu]
    rfl
theorem puts_one {r : L} {c : Nat} {e t : L} (hp : ∀ q ∈ ps, q.1 ∈ W) (h : Rch ps r t) (he : stOf W t = e) (hc : Bit c) (hu : sendL ps e c = none) : PutsC ps :=
  ⟨r ++ [c], h.1.app fun d hd => by rw [List.mem_singleton.mp hd]; exact hc, by
    rw [body_snoc, h.2]
    show (sendL ps t c).map _ = _
    rw [send_st hp, he, hu]
    rfl⟩
/-! ### the flag in a body -/
def FlagC (ps : LP) (f : L) : Prop := ∃ r t, Rch ps r t ∧ f <:+: t
theorem inf_split {f : L} (hf : f ≠ []) (hb : Beg W f.dropLast) (h : f <:+: s ++ u) : f <:+: s ∨ f <:+: stOf W s ++ u := by
  obtain ⟨p, q, h⟩ := h
  rcases List.append_eq_append_iff.mp h with ⟨a, h1, h2⟩ | ⟨a, h1, h2⟩
  · exact .inl ⟨p, a, h1.symm⟩
  · by_cases ha : a = []
    · subst ha
      rw [List.append_nil] at h1
      exact .inl ⟨p, [], by rw [List.append_nil]; exact h1⟩
    · refine .inr ?_
      have sf : f <:+ s ++ a := ⟨p, h1⟩
      have big : f <:+ stOf W s ++ a := by
        rcases suf_app sf with z | ⟨y, z1, z2⟩
        · exact z.trans (List.suffix_append _ _)
        · rw [z1]
          refine suf_app_r (st_max z2 ?_)
          have e : f.dropLast = y ++ a.dropLast := by rw [z1, List.dropLast_append_of_ne_nil ha]
          rw [e] at hb
          exact hb.pre
      rw [h2, ← List.append_assoc]
      exact big.isInfix.trans (List.prefix_append _ _).isInfix
theorem inf_mono {f s t u : L} (h : f <:+: s ++ u) (hs : s <:+ t) : f <:+: t ++ u := h.trans (suf_app_r hs).isInfix
/-- no step from a state brings the flag in: none of the bodies has it -/
theorem flag_none {row : List L} {f : L} (hW : W ≠ []) (hp : ∀ q ∈ ps, q.1 ∈ W) (hf : f ≠ []) (hb : Beg W f.dropLast) (w : Wlk ps W row row.length) (np : NoPuts ps row) (no : ∀ e ∈ row, ∀ c, Bit c → ∀ u, sendL ps e c = some u → ¬ f <:+: e ++ u) : ¬ FlagC ps f := by
  have key : ∀ r t, Rch ps r t → ¬ f <:+: t := fun r => by
    induction r using snoc_ind with
    | h0 =>
      intro t h
      obtain rfl : [] = t := Option.some.inj h.2
      exact fun z => hf (List.infix_nil.mp z)
    | hs r c ih =>
      intro t h z
      have bc : Bit c := h.1 c (List.mem_append_right _ (List.mem_singleton.mpr rfl))
      have hb2 := h.2
      rw [body_snoc] at hb2
      cases h1 : bodyL ps [] r with
      | none => rw [h1] at hb2; cases hb2
      | some t' =>
        rw [h1] at hb2
        have hb2 : (sendL ps t' c).map (t' ++ ·) = some t := hb2
        obtain ⟨u, hu, rfl⟩ := Option.map_eq_some_iff.mp hb2
        have hr : Rch ps r t' := ⟨fun d hd => h.1 d (List.mem_append_left _ hd), h1⟩
        rcases inf_split hf hb z with k | k
        · exact ih t' hr k
        · rw [send_st hp] at hu
          exact no _ ((w.mem hW hp np _).mpr ⟨r, t', hr, rfl⟩) c bc u hu k
  rintro ⟨r, t, h, z⟩
  exact key r t h z
theorem flag_some {f : L} {r t u e : L} {c : Nat} (hp : ∀ q ∈ ps, q.1 ∈ W) (h : Rch ps r t) (he : stOf W t = e) (hc : Bit c) (hu : sendL ps e c = some u) (z : f <:+: e ++ u) : FlagC ps f :=
  ⟨r ++ [c], t ++ u, h.next hc (by rw [send_st hp, he]; exact hu), inf_mono z (he ▸ st_suf t)⟩
/-! ### the flag's last sign left out -/
theorem st_same {f t : L} {R : List L} (hf : f ≠ []) (no : ¬ f <:+: t) : stOf (f :: R) t = stOf (f.dropLast :: R) t := by
  have up : ∀ x, Beg (f.dropLast :: R) x → Beg (f :: R) x := by
    rintro x ⟨w, hw, p⟩
    rcases List.mem_cons.mp hw with rfl | hw
    · exact ⟨f, List.mem_cons_self, p.trans (List.dropLast_prefix f)⟩
    · exact ⟨w, List.mem_cons_of_mem _ hw, p⟩
  have down : ∀ x, x <:+ t → Beg (f :: R) x → Beg (f.dropLast :: R) x := by
    rintro x hx ⟨w, hw, p⟩
    rcases List.mem_cons.mp hw with rfl | hw
    · obtain ⟨q, hq⟩ := p
      by_cases h0 : q = []
      · subst h0
        rw [List.append_nil] at hq
        subst hq
        exact absurd hx.isInfix no
      · exact ⟨_, List.mem_cons_self, ⟨q.dropLast, by rw [← hq, List.dropLast_append_of_ne_nil h0]⟩⟩
    · exact ⟨w, List.mem_cons_of_mem _ hw, p⟩
  refine (st_is (by simp) (st_suf t) ?_ fun x hx b => st_max hx (up x b)).symm
  exact down _ (st_suf t) (st_beg (by simp) t)
/-! ### few states -/
def begs (W : List L) : List L := W.flatMap fun w => (List.range (w.length + 1)).map fun i => w.take i
theorem begs_mem (h : Beg W e) : e ∈ begs W := by
  obtain ⟨w, hw, p⟩ := h
  refine List.mem_flatMap.mpr ⟨w, hw, List.mem_map.mpr ⟨e.length, List.mem_range.mpr (by have := p.length_le; omega), ?_⟩⟩
  exact (List.prefix_iff_eq_take.mp p).symm
theorem begs_len : ∀ {W : List L}, (∀ w ∈ W, w.length ≤ 8) → (begs W).length ≤ 9 * W.length
  | [], _ => Nat.le_refl _
  | w :: r, h => by
    have ih := begs_len (W := r) fun v hv => h v (List.mem_cons_of_mem _ hv)
    have := h w List.mem_cons_self
    unfold begs at ih ⊢
    rw [List.flatMap_cons, List.length_append, List.length_map, List.length_range, List.length_cons]
    omega
theorem few_states {row : List L} (W8 : ∀ w ∈ W, w.length ≤ 8) (nd : row.Nodup) (hb : ∀ e ∈ row, Beg W e) : row.length ≤ 9 * W.length :=
  Nat.le_trans (few_of (begs W) row nd fun e he => begs_mem (hb e he)) (begs_len W8)
theorem Wlk.few {row : List L} {n : Nat} (hW : W ≠ []) (W8 : ∀ w ∈ W, w.length ≤ 8) (w : Wlk ps W row n) : row.length ≤ 9 * W.length :=
  few_states W8 w.nd fun e he => by
    obtain ⟨r, t, _, rfl⟩ := w.rch e he
    exact st_beg hW t
end
end Fr
/-! pure: the walk over all states, step by step -/
namespace Fr
/-- the number of a letter: one more bit ahead -/
def num (r : L) : Nat := r.foldl (fun v c => 2 * v + (c - 48)) 1
theorem num_nil : num [] = 1 := rfl
theorem num_snoc (r : L) (c : Nat) : num (r ++ [c]) = 2 * num r + (c - 48) := by
  unfold num
  rw [List.foldl_append]
  rfl
theorem at2 {k c : Nat} (h : ([48, 49] : List Nat)[k]? = some c) : c = 48 + k ∧ k < 2 := by
  match k, h with
  | 0, h => exact ⟨(Option.some.inj h).symm, by decide⟩
  | 1, h => exact ⟨(Option.some.inj h).symm, by decide⟩
/-- the order of a walk that stands at the n-th state, its first i signs done -/
structure Wo (ps : LP) (W : List L) (ol : List (L × L)) (n i : Nat) : Prop where
  srt : ∀ (a b : Nat) (p q : L × L), a < b → ol[a]? = some p → ol[b]? = some q → num p.2 < num q.2
  inc : ∀ q : L × L, ol[n]? = some q → ∀ p ∈ ol, num p.2 < 2 * num q.2 + i
  on : ∀ (j : Nat) (p : L × L), ol[j]? = some p → ∀ k c, ([48, 49] : List Nat)[k]? = some c → (j < n ∨ (j = n ∧ k < i)) → ∀ u, sendL ps p.1 c = some u → ∃ r2, (stOf W (p.1 ++ u), r2) ∈ ol ∧ num r2 ≤ 2 * num p.2 + k
  nil : ([], []) ∈ ol
structure Wk0 (ps : LP) (W : List L) (ol : List (L × L)) (n : Nat) : Prop where
  wlk : Wlk ps W (ol.map Prod.fst) n
  rch : ∀ p ∈ ol, ∃ t, Rch ps p.2 t ∧ stOf W t = p.1
  short : ∀ p ∈ ol, p.2.length < ol.length
structure Wk (ps : LP) (W : List L) (ol : List (L × L)) (n : Nat) : Prop extends Wk0 ps W ol n where
  o : Wo ps W ol n 0
/-- the n-th state has gone on with the first i signs -/
structure Wki (ps : LP) (W : List L) (ol : List (L × L)) (n : Nat) (e r : L) (i : Nat) : Prop where
  wk : Wk0 ps W ol n
  at_ : ol[n]? = some (e, r)
  on : ∀ c ∈ [48, 49].take i, ∀ u, sendL ps e c = some u → stOf W (e ++ u) ∈ ol.map Prod.fst
  oi : Wo ps W ol n i
section
variable {ps : LP} {W : List L} {ol : List (L × L)} {n i c : Nat} {e r u : L}
theorem wk_start : Wk ps W [([], [])] 0 :=
  ⟨⟨⟨List.nodup_cons.mpr ⟨by simp, List.nodup_nil⟩, List.mem_cons_self, fun e he => ⟨[], [], rch_nil, by rw [List.mem_singleton.mp he]; rfl⟩, fun i e h => by omega⟩,
    fun p hp => ⟨[], by rw [List.mem_singleton.mp hp]; exact ⟨rch_nil, rfl⟩⟩, fun p hp => by rw [List.mem_singleton.mp hp]; exact Nat.zero_lt_one⟩, by
    refine ⟨fun a b p q h h1 h2 => ?_, fun q hq p hp => ?_, fun j p hj k c hk h => ?_, ?_⟩
    · have := (List.getElem?_eq_some_iff.mp h2).1
      rw [List.length_singleton] at this
      omega
    · have := Option.some.inj hq
      rw [List.mem_singleton.mp hp, ← this]
      show num [] < 2 * num [] + 0
      rw [num_nil]
      decide
    · omega
    · exact List.mem_cons_self⟩
theorem Wk.begin (w : Wk ps W ol n) (h : ol[n]? = some (e, r)) : Wki ps W ol n e r 0 := ⟨w.toWk0, h, fun c hc => (by cases hc), w.o⟩
theorem take2 {i c : Nat} (hc : [48, 49][i]? = some c) {d : Nat} (h : d ∈ [48, 49].take (i + 1)) : d ∈ [48, 49].take i ∨ d = c := by
  rw [List.take_add_one, hc, List.mem_append] at h
  rcases h with h | h
  · exact .inl h
  · exact .inr (List.mem_singleton.mp h)
theorem bit2 {i c : Nat} (hc : [48, 49][i]? = some c) : Bit c := by
  have := List.mem_of_getElem? hc
  simp only [List.mem_cons, List.not_mem_nil, or_false] at this
  exact this
theorem Wo.none (w : Wo ps W ol n i) (h0 : ol[n]? = some (e, r)) (hc : [48, 49][i]? = some c) (h : ∀ u, sendL ps e c = some u → ∃ r2, (stOf W (e ++ u), r2) ∈ ol) : Wo ps W ol n (i + 1) := by
  refine ⟨w.srt, fun q hq p hp => ?_, fun j p hj k d hk hh u hu => ?_, w.nil⟩
  · have := w.inc q hq p hp
    omega
  · rcases hh with hh | ⟨rfl, hh⟩
    · exact w.on j p hj k d hk (.inl hh) u hu
    · rcases Nat.lt_or_ge k i with z | z
      · exact w.on j p hj k d hk (.inr ⟨rfl, z⟩) u hu
      · obtain rfl : k = i := by omega
        rw [h0] at hj
        obtain rfl := Option.some.inj hj
        rw [hc] at hk
        obtain rfl := Option.some.inj hk
        obtain ⟨r2, h2⟩ := h u hu
        exact ⟨r2, h2, Nat.le_of_lt (w.inc _ h0 _ h2)⟩
theorem Wki.none (w : Wki ps W ol n e r i) (hc : [48, 49][i]? = some c) (h : sendL ps e c = none) : Wki ps W ol n e r (i + 1) :=
  ⟨w.wk, w.at_, fun d hd u hu => (take2 hc hd).elim (fun z => w.on d z u hu) fun z => (by rw [z, h] at hu; cases hu), w.oi.none w.at_ hc fun u hu => by rw [h] at hu; cases hu⟩
theorem Wki.old (w : Wki ps W ol n e r i) (hc : [48, 49][i]? = some c) (h : sendL ps e c = some u) (m : stOf W (e ++ u) ∈ ol.map Prod.fst) : Wki ps W ol n e r (i + 1) :=
  ⟨w.wk, w.at_, fun d hd v hv => (take2 hc hd).elim (fun z => w.on d z v hv) fun z => (by rw [z, h] at hv; cases hv; exact m), w.oi.none w.at_ hc fun v hv => by
    rw [h] at hv
    cases hv
    obtain ⟨p, hp, e1⟩ := List.mem_map.mp m
    exact ⟨p.2, by rw [← e1]; exact hp⟩⟩
theorem Wki.mem (w : Wki ps W ol n e r i) : (e, r) ∈ ol := List.mem_of_getElem? w.at_
theorem Wki.new (hW : W ≠ []) (hp : ∀ q ∈ ps, q.1 ∈ W) (w : Wki ps W ol n e r i) (hc : [48, 49][i]? = some c) (h : sendL ps e c = some u) (m : stOf W (e ++ u) ∉ ol.map Prod.fst) : Wki ps W (ol ++ [(stOf W (e ++ u), r ++ [c])]) n e r (i + 1) := by
  have lt : n < ol.length := (List.getElem?_eq_some_iff.mp w.at_).1
  obtain ⟨t, ht, te⟩ := w.wk.rch _ w.mem
  have te : stOf W t = e := te
  have ht : Rch ps r t := ht
  have nx : Rch ps (r ++ [c]) (t ++ u) := ht.next (bit2 hc) (by rw [send_st hp, te]; exact h)
  have st : stOf W (t ++ u) = stOf W (e ++ u) := by rw [st_app hW, te]
  have mapE : (ol ++ [(stOf W (e ++ u), r ++ [c])]).map Prod.fst = ol.map Prod.fst ++ [stOf W (e ++ u)] := by rw [List.map_append]; rfl
  have up : ∀ {x : L}, x ∈ ol.map Prod.fst → x ∈ (ol ++ [(stOf W (e ++ u), r ++ [c])]).map Prod.fst := fun h => by rw [mapE]; exact List.mem_append_left _ h
  have ord : Wo ps W (ol ++ [(stOf W (e ++ u), r ++ [c])]) n (i + 1) := by
    refine ⟨fun x y p q xy hx hy => ?_, fun q hq p hp => ?_, fun j p hj k d hk hh v hv => ?_, List.mem_append_left _ w.oi.nil⟩
    · have yl := (List.getElem?_eq_some_iff.mp hy).1
      rw [List.length_append, List.length_singleton] at yl
      rw [List.getElem?_append_left (by omega)] at hx
      rcases Nat.lt_or_ge y ol.length with z | z
      · rw [List.getElem?_append_left z] at hy
        exact w.oi.srt x y p q xy hx hy
      · rw [List.getElem?_append_right z, show y - ol.length = 0 by omega] at hy
        obtain rfl := Option.some.inj hy
        have this : num p.2 < 2 * num r + i := w.oi.inc _ w.at_ _ (List.mem_of_getElem? hx)
        show num p.2 < num (r ++ [c])
        rw [num_snoc, (at2 hc).1]
        omega
    · rw [List.getElem?_append_left lt, w.at_] at hq
      obtain rfl := Option.some.inj hq
      show num p.2 < 2 * num r + (i + 1)
      rcases List.mem_append.mp hp with hp | hp
      · have this : num p.2 < 2 * num r + i := w.oi.inc _ w.at_ _ hp
        omega
      · rw [List.mem_singleton.mp hp]
        show num (r ++ [c]) < _
        rw [num_snoc, (at2 hc).1]
        omega
    · rw [List.getElem?_append_left (by omega)] at hj
      rcases Nat.lt_or_ge j n with z | z
      · obtain ⟨r2, h1, h2⟩ := w.oi.on j p hj k d hk (.inl z) v hv
        exact ⟨r2, List.mem_append_left _ h1, h2⟩
      · obtain rfl : j = n := by omega
        rcases Nat.lt_or_ge k i with y | y
        · obtain ⟨r2, h1, h2⟩ := w.oi.on j p hj k d hk (.inr ⟨rfl, y⟩) v hv
          exact ⟨r2, List.mem_append_left _ h1, h2⟩
        · obtain rfl : k = i := by omega
          rw [w.at_] at hj
          obtain rfl := Option.some.inj hj
          rw [hc] at hk
          obtain rfl := Option.some.inj hk
          have hv : sendL ps e c = some v := hv
          rw [h] at hv
          obtain rfl := Option.some.inj hv
          refine ⟨r ++ [c], List.mem_append_right _ (List.mem_singleton.mpr rfl), ?_⟩
          show num (r ++ [c]) ≤ 2 * num r + k
          rw [num_snoc, (at2 hc).1]
          omega
  refine ⟨⟨⟨?_, up w.wk.wlk.nil, ?_, ?_⟩, ?_, ?_⟩, ?_, ?_, ord⟩
  · rw [mapE, List.nodup_append]
    refine ⟨w.wk.wlk.nd, List.nodup_cons.mpr ⟨by simp, List.nodup_nil⟩, fun a ha b hb z => m ?_⟩
    rw [← List.mem_singleton.mp hb, ← z]
    exact ha
  · intro x hx
    rw [mapE] at hx
    rcases List.mem_append.mp hx with hx | hx
    · exact w.wk.wlk.rch x hx
    · exact ⟨_, _, nx, by rw [List.mem_singleton.mp hx]; exact st⟩
  · intro j x hj hx d hd v hv
    rw [mapE, List.getElem?_append_left (by rw [List.length_map]; omega)] at hx
    exact up (w.wk.wlk.on j x hj hx d hd v hv)
  · intro p hp'
    rcases List.mem_append.mp hp' with hp' | hp'
    · exact w.wk.rch p hp'
    · rw [List.mem_singleton.mp hp']
      exact ⟨_, nx, st⟩
  · intro p hp'
    rw [List.length_append]
    rcases List.mem_append.mp hp' with hp' | hp'
    · have := w.wk.short p hp'
      omega
    · rw [List.mem_singleton.mp hp']
      have := w.wk.short _ w.mem
      show (r ++ [c]).length < _
      have this : r.length < ol.length := this
      rw [List.length_append]
      show r.length + 1 < ol.length + 1
      omega
  · rw [List.getElem?_append_left lt]
    exact w.at_
  · intro d hd v hv
    rcases take2 hc hd with z | z
    · exact up (w.on d z v hv)
    · rw [z, h] at hv
      cases hv
      rw [mapE]
      exact List.mem_append_right _ (List.mem_singleton.mpr rfl)
theorem Wki.done (w : Wki ps W ol n e r 2) : Wk ps W ol (n + 1) := by
  refine ⟨⟨⟨w.wk.wlk.nd, w.wk.wlk.nil, w.wk.wlk.rch, fun j x hj hx d hd v hv => ?_⟩, w.wk.rch, w.wk.short⟩, ⟨w.oi.srt, fun q hq p hp => ?_, fun j p hj k d hk hh v hv => w.oi.on j p hj k d hk (by have := (at2 hk).2; omega) v hv, w.oi.nil⟩⟩
  rotate_left
  · have h1 : num p.2 < 2 * num r + 2 := w.oi.inc _ w.at_ p hp
    have h2 : num r < num q.2 := w.oi.srt n (n + 1) _ q (by omega) w.at_ hq
    omega
  rcases Nat.lt_or_ge j n with z | z
  · exact w.wk.wlk.on j x z hx d hd v hv
  · obtain rfl : j = n := by omega
    rw [List.getElem?_map, w.at_] at hx
    obtain rfl : e = x := Option.some.inj hx
    refine w.on d ?_ v hv
    show d ∈ [48, 49]
    rcases hd with rfl | rfl
    · exact List.mem_cons_self
    · exact List.mem_cons_of_mem _ List.mem_cons_self
theorem Wk0.few (hW : W ≠ []) (W8 : ∀ w ∈ W, w.length ≤ 8) (w : Wk0 ps W ol n) : ol.length ≤ 9 * W.length := by
  have := w.wlk.few hW W8
  rwa [List.length_map] at this
theorem Wk0.len (hW : W ≠ []) (W8 : ∀ w ∈ W, w.length ≤ 8) (w : Wk0 ps W ol n) : ∀ p ∈ ol, p.1.length ≤ 8 := fun p hp => by
  obtain ⟨t, _, h⟩ := w.rch p hp
  rw [← h]
  exact st_len hW W8 t
theorem Wk0.sgs (O : Pok ps) (w : Wk0 ps W ol n) : ∀ p ∈ ol, Sgs p.1 := fun p hp => by
  obtain ⟨t, h1, h2⟩ := w.rch p hp
  rw [← h2]
  exact fun c hc => body_sgs O (fun d hd => by cases hd) h1.1 h1.2 c ((st_suf t).subset hc)
theorem Wk0.uniq (w : Wk0 ps W ol n) {a r r' : L} (h : (a, r) ∈ ol) (h' : (a, r') ∈ ol) : r = r' := by
  have key : ∀ l : List (L × L), (l.map Prod.fst).Nodup → (a, r) ∈ l → (a, r') ∈ l → r = r' := fun l => by
    induction l with
    | nil => intro _ h; cases h
    | cons p q ih =>
      intro nd h1 h2
      rw [List.map_cons, List.nodup_cons] at nd
      rcases List.mem_cons.mp h1 with e1 | h1
      · rcases List.mem_cons.mp h2 with e2 | h2
        · rw [← e2] at e1
          cases e1
          rfl
        · exact absurd (List.mem_map.mpr ⟨_, h2, by rw [← e1]⟩) nd.1
      · rcases List.mem_cons.mp h2 with e2 | h2
        · exact absurd (List.mem_map.mpr ⟨_, h1, by rw [← e2]⟩) nd.1
        · exact ih nd.2 h1 h2
  exact key ol w.wlk.nd h h'
theorem send_len (O : Pok ps) {s u : L} {c : Nat} (h : sendL ps s c = some u) : u.length ≤ 301 := by
  unfold sendL at h
  obtain ⟨t, ht, rfl⟩ := Option.map_eq_some_iff.mp h
  have := run_len O ht
  rw [List.length_append, List.length_singleton] at this
  rw [List.length_drop]
  omega
theorem send_sgs (O : Pok ps) {s u : L} {c : Nat} (hs : Sgs s) (hc : Bit c) (h : sendL ps s c = some u) : Sgs u := by
  unfold sendL at h
  obtain ⟨t, ht, rfl⟩ := Option.map_eq_some_iff.mp h
  have := run_sgs O (hs.app fun d hd => by rw [List.mem_singleton.mp hd]; exact hc) ht
  exact fun d hd => this d (List.mem_of_mem_drop hd)
/-- a move: the next state and what is sent -/
def mvOf (ps : LP) (W : List L) (e : L) (c : Nat) : Option (L × L) := (sendL ps e c).map fun u => (stOf W (e ++ u), u)
end
end Fr
/-! pure: letters after which a rule goes wrong; the least of them -/
namespace Fr
/-- f begins within t where f stands behind it -/
def Early (f t : L) : Prop := ∃ i, i < t.length ∧ f <+: (t ++ f).drop i
/-- the rule is wrong after y -/
def Wr (ps : LP) (f y : L) : Prop := ∀ t, bodyL ps [] y = some t → Early f t
/-- a step breaks the rule -/
def Brk (ps : LP) (W : List L) (f e : L) (c : Nat) : Prop := ∀ u, sendL ps e c = some u → f <:+: e ++ u ∨ Early f (stOf W (e ++ u))
section
variable {ps : LP} {W : List L} {ol : List (L × L)} {n i c : Nat} {e r u f t y : L}
theorem snoc_cases (s : L) : s = [] ∨ ∃ s' c, s = s' ++ [c] := by
  induction s using snoc_ind with
  | h0 => exact .inl rfl
  | hs s c _ => exact .inr ⟨s, c, rfl⟩
theorem num_pos : ∀ (r : L), 1 ≤ num r := fun r => by
  induction r using snoc_ind with
  | h0 => exact Nat.le_refl 1
  | hs r c ih => rw [num_snoc]; omega
theorem num_bit {c : Nat} (h : Bit c) : num (r ++ [c]) = 2 * num r + (c - 48) ∧ c - 48 ≤ 1 := by
  refine ⟨num_snoc r c, ?_⟩
  rcases h with rfl | rfl <;> decide
theorem num_inj : ∀ {r s : L}, Sgs r → Sgs s → num r = num s → r = s := fun {r} => by
  induction r using snoc_ind with
  | h0 =>
    intro s _ hs h
    rcases snoc_cases s with rfl | ⟨s', c, rfl⟩
    · rfl
    · rw [num_snoc, num_nil] at h
      have := num_pos s'
      omega
  | hs r c ih =>
    intro s hr hs h
    rcases snoc_cases s with rfl | ⟨s', d, rfl⟩
    · rw [num_snoc, num_nil] at h
      have := num_pos r
      omega
    · have bc := num_bit (r := r) (hr c (List.mem_append_right _ (List.mem_singleton.mpr rfl)))
      have bd := num_bit (r := s') (hs d (List.mem_append_right _ (List.mem_singleton.mpr rfl)))
      have h1 := hr c (List.mem_append_right _ (List.mem_singleton.mpr rfl))
      have h2 := hs d (List.mem_append_right _ (List.mem_singleton.mpr rfl))
      have cd : c = d := by
        rcases h1 with rfl | rfl <;> rcases h2 with rfl | rfl <;> first | rfl | (exfalso; omega)
      subst cd
      rw [ih (fun x hx => hr x (List.mem_append_left _ hx)) (fun x hx => hs x (List.mem_append_left _ hx)) (by omega)]
theorem num_len : ∀ (r : L), Sgs r → 2 ^ r.length ≤ num r ∧ num r < 2 ^ (r.length + 1) := fun r => by
  induction r using snoc_ind with
  | h0 => intro _; exact ⟨Nat.le_refl 1, by decide⟩
  | hs r c ih =>
    intro h
    have := ih fun x hx => h x (List.mem_append_left _ hx)
    have b := num_bit (r := r) (h c (List.mem_append_right _ (List.mem_singleton.mpr rfl)))
    rw [b.1, List.length_append, List.length_singleton, Nat.pow_succ, Nat.pow_succ]
    rw [Nat.pow_succ] at this
    omega
theorem early_inf (hf : f ≠ []) (h : f <:+: t) : Early f t := by
  obtain ⟨p, q, rfl⟩ := h
  refine ⟨p.length, ?_, ?_⟩
  · have := List.length_pos_iff.mpr hf
    simp only [List.length_append]
    omega
  · rw [List.append_assoc, List.append_assoc, List.drop_left]
    exact List.prefix_append _ _
theorem early_suf {s : L} (h : Early f s) (hs : s <:+ t) : Early f t := by
  obtain ⟨q, rfl⟩ := hs
  obtain ⟨i, h1, h2⟩ := h
  refine ⟨q.length + i, by rw [List.length_append]; omega, ?_⟩
  rw [List.append_assoc, ← List.drop_drop, List.drop_left]
  exact h2
theorem early_step (hf : f ≠ []) (hfW : f ∈ W) (no : ¬ Early f t) : Early f (t ++ u) ↔ (f <:+: stOf W t ++ u ∨ Early f (stOf W (t ++ u))) := by
  constructor
  · rintro ⟨i, h1, h2⟩
    by_cases z : f <:+: t ++ u
    · have hb : Beg W f.dropLast := ⟨f, hfW, List.dropLast_prefix f⟩
      rcases inf_split hf hb z with y | y
      · exact absurd (early_inf hf y) no
      · exact .inl y
    · refine .inr ?_
      rw [List.drop_append_of_le_length (by omega)] at h2
      generalize hs : (t ++ u).drop i = s at h2
      have ss : s <:+ t ++ u := hs ▸ List.drop_suffix i _
      have sl : s.length = (t ++ u).length - i := by rw [← hs, List.length_drop]
      have sf : s <+: f := by
        rcases List.prefix_or_prefix_of_prefix h2 (List.prefix_append s f) with y | y
        · exact absurd (y.isInfix.trans ss.isInfix) z
        · exact y
      have : s <:+ stOf W (t ++ u) := st_max ss ⟨f, hfW, sf⟩
      exact early_suf ⟨0, by omega, by rw [List.drop_zero]; exact h2⟩ this
  · rintro (h | h)
    · exact early_inf hf (inf_mono h (st_suf t))
    · exact early_suf h (st_suf _)
theorem wr_nil (hf : f ≠ []) : ¬ Wr ps f [] := fun h => by
  obtain ⟨i, h1, _⟩ := h [] rfl
  exact absurd h1 (Nat.not_lt_zero _)
theorem not_wr {y : L} (h : ¬ Wr ps f y) : ∃ t, bodyL ps [] y = some t ∧ ¬ Early f t := by
  apply Classical.byContradiction
  intro no
  exact h fun t ht => Classical.byContradiction fun z => no ⟨t, ht, z⟩
/-- one step from a letter that is not wrong -/
theorem wr_step (hW : W ≠ []) (hp : ∀ q ∈ ps, q.1 ∈ W) (hf : f ≠ []) (hfW : f ∈ W) {y t : L} {c : Nat} (hy : bodyL ps [] y = some t) (no : ¬ Early f t) : Wr ps f (y ++ [c]) ↔ Brk ps W f (stOf W t) c := by
  unfold Wr Brk
  rw [body_snoc, hy]
  show (∀ t', (sendL ps t c).map (t ++ ·) = some t' → Early f t') ↔ _
  rw [send_st hp t c]
  have key : ∀ u, Early f (t ++ u) ↔ (f <:+: stOf W t ++ u ∨ Early f (stOf W (stOf W t ++ u))) := fun u => by
    rw [early_step hf hfW no, st_app hW]
  constructor
  · intro h u hu
    rw [hu] at h
    exact (key u).mp (h _ rfl)
  · intro h t' ht'
    obtain ⟨u, hu, rfl⟩ := Option.map_eq_some_iff.mp ht'
    exact (key u).mpr (h u hu)
/-- the steps that were looked at break nothing -/
def Clean (ps : LP) (W : List L) (f : L) (ol : List (L × L)) (n i : Nat) : Prop := ∀ (j : Nat) (p : L × L), ol[j]? = some p → ∀ (k c : Nat), ([48, 49] : List Nat)[k]? = some c → (j < n ∨ (j = n ∧ k < i)) → ¬ Brk ps W f p.1 c
theorem clean_start : Clean ps W f ol 0 0 := fun j p _ k c _ h => by omega
theorem Clean.next (h : Clean ps W f ol n 2) : Clean ps W f ol (n + 1) 0 := fun j p hj k c hk hh => h j p hj k c hk (by have := (at2 hk).2; omega)
theorem Clean.one (h : Clean ps W f ol n i) (hn : ol[n]? = some (e, r)) (hc : ([48, 49] : List Nat)[i]? = some c) (no : ¬ Brk ps W f e c) : Clean ps W f ol n (i + 1) := fun j p hj k d hk hh => by
  rcases hh with hh | ⟨rfl, hh⟩
  · exact h j p hj k d hk (.inl hh)
  · rcases Nat.lt_or_ge k i with z | z
    · exact h j p hj k d hk (.inr ⟨rfl, z⟩)
    · obtain rfl : k = i := by omega
      rw [hn] at hj
      obtain rfl := Option.some.inj hj
      rw [hc] at hk
      obtain rfl := Option.some.inj hk
      exact no
theorem Clean.app {p : L × L} (h : Clean ps W f ol n i) (lt : n < ol.length) : Clean ps W f (ol ++ [p]) n i := fun j q hj k d hk hh => by
  rw [List.getElem?_append_left (by omega)] at hj
  exact h j q hj k d hk hh
/-- what of a walk's order stands at its end too -/
structure Wq (ps : LP) (W : List L) (ol : List (L × L)) (n i : Nat) : Prop where
  srt : ∀ (a b : Nat) (p q : L × L), a < b → ol[a]? = some p → ol[b]? = some q → num p.2 < num q.2
  on : ∀ (j : Nat) (p : L × L), ol[j]? = some p → ∀ k c, ([48, 49] : List Nat)[k]? = some c → (j < n ∨ (j = n ∧ k < i)) → ∀ u, sendL ps p.1 c = some u → ∃ r2, (stOf W (p.1 ++ u), r2) ∈ ol ∧ num r2 ≤ 2 * num p.2 + k
  nil : ([], []) ∈ ol
theorem Wo.q (o : Wo ps W ol n i) : Wq ps W ol n i := ⟨o.srt, o.on, o.nil⟩
theorem Wq.less (o : Wq ps W ol ol.length 0) (n i : Nat) : Wq ps W ol n i := ⟨o.srt, fun j p hj k c hk _ => o.on j p hj k c hk (.inl (List.getElem?_eq_some_iff.mp hj).1), o.nil⟩
def Rchs (ps : LP) (W : List L) (ol : List (L × L)) : Prop := ∀ p ∈ ol, ∃ t, Rch ps p.2 t ∧ stOf W t = p.1
/-- below the bound nothing is wrong, and each state is there -/
theorem fine_below (hW : W ≠ []) (hp : ∀ q ∈ ps, q.1 ∈ W) (hf : f ≠ []) (hfW : f ∈ W) (o : Wq ps W ol n i) (cl : Clean ps W f ol n i) (B : Nat) (hB : ∀ (j : Nat) (p : L × L), ol[j]? = some p → ∀ k, k < 2 → 2 * num p.2 + k < B → (j < n ∨ (j = n ∧ k < i))) :
    ∀ y, Sgs y → num y < B → ¬ Wr ps f y ∧ ∃ t r, bodyL ps [] y = some t ∧ (stOf W t, r) ∈ ol ∧ num r ≤ num y := fun y => by
  induction y using snoc_ind with
  | h0 =>
    intro _ _
    exact ⟨wr_nil hf, [], [], rfl, o.nil, Nat.le_refl _⟩
  | hs y c ih =>
    intro hy hB'
    have bc := hy c (List.mem_append_right _ (List.mem_singleton.mpr rfl))
    have nb := num_bit (r := y) bc
    have yp := num_pos y
    obtain ⟨no, t, r, ht, hr, le⟩ := ih (fun x hx => hy x (List.mem_append_left _ hx)) (by omega)
    obtain ⟨t', ht', no'⟩ := not_wr no
    rw [ht] at ht'
    obtain rfl := Option.some.inj ht'
    obtain ⟨j, hj⟩ := List.mem_iff_getElem?.mp hr
    have kc : ([48, 49] : List Nat)[c - 48]? = some c := by rcases bc with rfl | rfl <;> rfl
    have hh := hB j _ hj (c - 48) (by omega) (by show 2 * num r + _ < B; omega)
    have nbk : ¬ Brk ps W f (stOf W t) c := cl j _ hj _ c kc hh
    have nw : ¬ Wr ps f (y ++ [c]) := fun z => nbk ((wr_step hW hp hf hfW ht no').mp z)
    obtain ⟨t2, ht2, _⟩ := not_wr nw
    have hb := ht2
    rw [body_snoc, ht] at hb
    have hb : (sendL ps t c).map (t ++ ·) = some t2 := hb
    obtain ⟨u, hu, rfl⟩ := Option.map_eq_some_iff.mp hb
    rw [send_st hp t c] at hu
    obtain ⟨r2, h1, h2⟩ := o.on j _ hj _ c kc hh u hu
    refine ⟨nw, t ++ u, r2, ht2, ?_, ?_⟩
    · rw [st_app hW]
      exact h1
    · have : num r2 ≤ 2 * num r + (c - 48) := h2
      omega
/-- the least letter after which the rule is wrong -/
def LeastW (ps : LP) (f l : L) : Prop := Sgs l ∧ Wr ps f l ∧ ∀ y, Sgs y → Wr ps f y → num l ≤ num y
def NoneW (ps : LP) (f : L) : Prop := ∀ y, Sgs y → ¬ Wr ps f y
theorem LeastW.uniq {l l' : L} (h : LeastW ps f l) (h' : LeastW ps f l') : l = l' := num_inj h.1 h'.1 (Nat.le_antisymm (h.2.2 _ h'.1 h'.2.1) (h'.2.2 _ h.1 h.2.1))
theorem Wk.clean_none (hW : W ≠ []) (hp : ∀ q ∈ ps, q.1 ∈ W) (hf : f ≠ []) (hfW : f ∈ W) (w : Wk ps W ol ol.length) (cl : Clean ps W f ol ol.length 0) : NoneW ps f := fun y hy =>
  (fine_below hW hp hf hfW w.o.q cl (num y + 1) (fun j p hj k _ _ => .inl (List.getElem?_eq_some_iff.mp hj).1) y hy (Nat.lt_succ_self _)).1
theorem Wq.bound (o : Wq ps W ol n i) (hi : i ≤ 2) (hn : ol[n]? = some (e, r)) : ∀ (j : Nat) (p : L × L), ol[j]? = some p → ∀ k, k < 2 → 2 * num p.2 + k < 2 * num r + i → (j < n ∨ (j = n ∧ k < i)) := fun j p hj k hk h => by
  rcases Nat.lt_trichotomy j n with z | rfl | z
  · exact .inl z
  · rw [hn] at hj
    obtain rfl := Option.some.inj hj
    have h : 2 * num r + k < 2 * num r + i := h
    exact .inr ⟨rfl, by omega⟩
  · have : num r < num p.2 := o.srt n j _ p z hn hj
    omega
/-- at the i-th step from the n-th state: what was not looked at before -/
theorem at_step (hW : W ≠ []) (hp : ∀ q ∈ ps, q.1 ∈ W) (hf : f ≠ []) (hfW : f ∈ W) (rch : Rchs ps W ol) (hn : ol[n]? = some (e, r)) (o : Wq ps W ol n i) (cl : Clean ps W f ol n i) (hc : ([48, 49] : List Nat)[i]? = some c) :
    (∀ y, Sgs y → num y < num (r ++ [c]) → ¬ Wr ps f y) ∧ ∃ t, Rch ps r t ∧ stOf W t = e ∧ ¬ Early f t ∧ (Wr ps f (r ++ [c]) ↔ Brk ps W f e c) := by
  have i2 := (at2 hc)
  have fine := fine_below hW hp hf hfW o cl _ (o.bound (Nat.le_of_lt i2.2) hn)
  have nb : num (r ++ [c]) = 2 * num r + i := by rw [num_snoc, i2.1]; omega
  obtain ⟨t, ht, he⟩ := rch _ (List.mem_of_getElem? hn)
  have ht : Rch ps r t := ht
  have he : stOf W t = e := he
  have rp := num_pos r
  obtain ⟨t', h1, h2⟩ := not_wr (fine r ht.1 (by omega)).1
  rw [ht.2] at h1
  obtain rfl := Option.some.inj h1
  refine ⟨fun y hy lt => (fine y hy (by omega)).1, t, ht, he, h2, ?_⟩
  rw [← he]
  exact wr_step hW hp hf hfW ht.2 h2
theorem at_least (hW : W ≠ []) (hp : ∀ q ∈ ps, q.1 ∈ W) (hf : f ≠ []) (hfW : f ∈ W) (rch : Rchs ps W ol) (hn : ol[n]? = some (e, r)) (o : Wq ps W ol n i) (cl : Clean ps W f ol n i) (hc : ([48, 49] : List Nat)[i]? = some c) (b : Wr ps f (r ++ [c])) : LeastW ps f (r ++ [c]) := by
  obtain ⟨h1, t, h2, _⟩ := at_step hW hp hf hfW rch hn o cl hc
  refine ⟨h2.1.app fun d hd => by rw [List.mem_singleton.mp hd]; exact bit2 hc, b, fun y hy z => ?_⟩
  apply Classical.byContradiction
  intro lt
  exact h1 y hy (by omega) z
theorem at_fine (hW : W ≠ []) (hp : ∀ q ∈ ps, q.1 ∈ W) (hf : f ≠ []) (hfW : f ∈ W) (rch : Rchs ps W ol) (hn : ol[n]? = some (e, r)) (o : Wq ps W ol n i) (cl : Clean ps W f ol n i) (hc : ([48, 49] : List Nat)[i]? = some c) (b : ¬ Wr ps f (r ++ [c])) :
    ¬ Brk ps W f e c ∧ ∃ t u, bodyL ps [] (r ++ [c]) = some t ∧ ¬ f <:+: t ∧ sendL ps e c = some u ∧ stOf W t = stOf W (e ++ u) := by
  obtain ⟨_, t, h2, he, _, h3⟩ := at_step hW hp hf hfW rch hn o cl hc
  refine ⟨fun z => b (h3.mpr z), ?_⟩
  obtain ⟨t2, ht2, no⟩ := not_wr b
  have hb := ht2
  rw [body_snoc, h2.2] at hb
  have hb : (sendL ps t c).map (t ++ ·) = some t2 := hb
  obtain ⟨u, hu, rfl⟩ := Option.map_eq_some_iff.mp hb
  refine ⟨_, u, ht2, fun z => no (early_inf hf z), by rw [← he, ← send_st hp]; exact hu, by rw [st_app hW, he]⟩
theorem NoneW.puts (h : NoneW ps f) : ¬ PutsC ps := fun ⟨r, h1, h2⟩ => h r h1 fun t ht => by rw [h2] at ht; cases ht
theorem NoneW.flag (hf : f ≠ []) (h : NoneW ps f) : ¬ FlagC ps f := fun ⟨r, t, h1, h2⟩ => h r h1.1 fun t' ht' => by
  rw [h1.2] at ht'
  obtain rfl := Option.some.inj ht'
  exact early_inf hf h2
theorem LeastW.not_none {l : L} (h : LeastW ps f l) (n : NoneW ps f) : False := n l h.1 h.2.1
end
end Fr
/-! general: sorted(texts, key=lambda x: (len(x), x)) -/
namespace SLn
open PySem PySem.Spec PyProof.Rows L2 LamX
section
variable {prog : Program} {w : World} {A : Around} {E : Value → Shared → Prop} {s : Shared}
/-- the lambda called with a text -/
theorem act {f c' : Addr} {params : Arguments} {scope : Scope} {q x : Str} {cl : List (Str × Addr)} {pm ctv : Value} {mg mb : Str → Option Value} {p1 p2 p3 p4 p5 : Pos} {k : Nat} {z : Str} {t : Tok}
    (hf : s.heap.get? f = some (PySem.W.kla_obj "<lambda>" q params (.Tuple [.Call (.Name "len" p1) [.Name x p2] [] p3, .Name x p4] k p5) scope cl pm c' ctv))
    (hc : ∃ (oc : Obj) (vs : Array Value) (t : Tok), s.heap.get? c' = some oc ∧ oc.data = .fields vs ∧ vs[1]? = some (.str q t)) (hd : A.depth < recursionLimit)
    (hb : bindArgs (PySem.W.kla_fn "<lambda>" q params (.Tuple [.Call (.Name "len" p1) [.Name x p2] [] p3, .Name x p4] k p5) scope cl pm (.ref c') ctv) ⟨[.str z t], []⟩ = pure [(x, .str z t)])
    (nl : s.heap.NoLimit) (hg : s.heap.Ns mainGlobals mg) (hm : mg "len" = none) (hbt : s.heap.Ns builtinsNs mb) (hmb : mb "len" = some (.builtin "len"))
    (kind : scope.kind = .function) (co : scope.isCoroutine = false) (gen : scope.isGenerator = false) (nocell : ∀ y ∈ scope.names, y.2 ≠ .cell) (loc : scope.names.lookup x = some .local) (glo : scope.names.lookup (("len" : Str)) = some .globalImplicit)
    (hz : z.length ≤ sizeLine) (hx : (x == ("__debug__" : Str)) = false) :
    wpAny (model prog w) A (call (.ref f) [.str z t]) (PySem.W.KeyPure (.tuple [.int z.length, .str z]) s) E s := by
  obtain ⟨oc, vs, tq, hoc, hdc, hvc⟩ := hc
  refine wpAny_call (PySem.W.kla_callFunE hd hf rfl co gen rfl ⟨c', oc, vs, tq, rfl, hoc, hdc, hvc⟩ ?_)
  rw [hb]
  refine wpAny_pure (wpAny_newFunctionEnv nocell (fun y hy => by rw [List.mem_singleton.mp hy]; exact loc) (fun h₁ hns hsb => ⟨nl.fresh _ hsb, ?_⟩) kind)
  show codeAny _ _ (.expr _ (PySem.W.envX q scope s.heap.objs.size f (.ref c') cl)) _ _
  have kp : ∀ b o, s.heap.get? b = some o → h₁.get? b = some o := fun b o e => hsb.extBut b o (Nat.ne_of_lt (Heap.lt_size e)) (Heap.get?_push_of_some _ e)
  have hv : (fun y => ([(x, Value.str z t)] : List (Str × Value)).reverse.lookup y) x = some (.str z t) := by
    show List.lookup x [(x, Value.str z t)] = _
    simp [List.lookup]
  have get : ∀ {M : Model} {B : Around} {E' : Value → Shared → Prop} {Q : Value → Shared → Prop} {tk : Nat} {p : Pos}, Q (.str z t) { s with heap := h₁, toks := tk } →
      wpAny M B (eval (.Name x p) (PySem.W.envX q scope s.heap.objs.size f (.ref c') cl)) Q E' { s with heap := h₁, toks := tk } := fun h =>
    wpAny_Name (wpAny_loadName_local kind loc hns hv h) hx
  refine PySem.W.kla_codeExpr (wpAny_Tuple_spliced ?_)
  refine Calls.spliced_cons (wpAny_Call_Name_kw (Calls.Name_function_global kind glo (Calls.loadGlobal_builtin (hg.keeps kp) hm (hbt.keeps kp) hmb ?_) (by decide)))
  refine Calls.callWith_builtin (by rfl) (Calls.evalArgs_plain (Calls.spliced_cons (get (Calls.spliced_nil ?_))))
  refine PyProof.Rows.len_str (by
    have := hz
    rw [sizeLine_eq] at this
    omega) ?_
  refine Calls.spliced_cons (get (Calls.spliced_nil ⟨?_, ?_⟩))
  · show 2 ≤ sizeLine
    decide
  · exact ⟨_, _, rfl, fun b o e => Heap.get?_push_of_some _ (kp b o e), .tuple (Heap.get?_push_size _ rfl) rfl rfl (.cons (.int _ _) (.cons (.str _ _) .nil))⟩
end
/-- shorter ones first, of equal length ascending -/
def Le (a b : Str) : Prop := a.length < b.length ∨ (a.length = b.length ∧ a.cps.toList ≤ b.cps.toList)
def kk (z : Str) : PyData := .tuple [.int z.length, .str z]
theorem le_tr {a b c : Str} (h : Le a b) (h' : Le b c) : Le a c := by
  rcases h with h | ⟨h1, h2⟩
  · rcases h' with h' | ⟨k1, k2⟩
    · exact .inl (by omega)
    · exact .inl (by omega)
  · rcases h' with h' | ⟨k1, k2⟩
    · exact .inl (by omega)
    · exact .inr ⟨by omega, List.le_trans h2 k2⟩
theorem le_tot (a b : Str) : Le a b ∨ Le b a := by
  rcases Nat.lt_trichotomy a.length b.length with h | h | h
  · exact .inl (.inl h)
  · rcases List.le_total a.cps.toList b.cps.toList with k | k
    · exact .inl (.inr ⟨h, k⟩)
    · exact .inr (.inr ⟨h.symm, k⟩)
  · exact .inr (.inl h)
theorem str_ext {a b : Str} (h : a.cps.toList = b.cps.toList) : a = b := by
  cases a
  cases b
  simp only [Str.mk.injEq]
  exact Array.toList_inj.mp h
theorem le_anti {a b : Str} (h : Le a b) (h' : Le b a) : a = b := by
  rcases h with h | ⟨h1, h2⟩
  · rcases h' with h' | ⟨k1, k2⟩
    · omega
    · omega
  · rcases h' with h' | ⟨k1, k2⟩
    · omega
    · exact str_ext (List.le_antisymm h2 k2)
theorem le_is (a b : Str) : PySem.W.dataLe false kk a b = true ↔ Le a b := by
  show (!PySem.W.dataLt (kk b) (kk a)) = true ↔ _
  unfold kk
  rw [PySem.W.dataLt_pair (by simp [PySem.W.alike]) (by simp [PySem.W.alike]), PySem.W.dataLt_int, PySem.W.dataLt_str]
  simp only [PyData.eqv, beq_iff_eq]
  unfold Le
  by_cases h1 : (b.length : Int) = (a.length : Int)
  · rw [if_pos h1]
    have h1' : a.length = b.length := by omega
    by_cases h2 : b = a
    · rw [if_pos h2]
      subst h2
      simp
    · rw [if_neg h2, Bool.not_eq_true', decide_eq_false_iff_not]
      constructor
      · exact fun z => .inr ⟨h1', List.not_lt.mp z⟩
      · rintro (z | ⟨_, z⟩)
        · omega
        · exact List.not_lt.mpr z
  · rw [if_neg h1, Bool.not_eq_true', decide_eq_false_iff_not]
    constructor
    · exact fun z => .inl (by omega)
    · rintro (z | ⟨z, _⟩)
      · omega
      · omega
theorem sort_is (zs : List Str) : (zs.mergeSort (PySem.W.dataLe false kk)).Perm zs ∧ (zs.mergeSort (PySem.W.dataLe false kk)).Pairwise Le := by
  refine ⟨List.mergeSort_perm _ _, ?_⟩
  have h := List.pairwise_mergeSort (le := PySem.W.dataLe false kk) (fun a b c h h' => (le_is a c).mpr (le_tr ((le_is a b).mp h) ((le_is b c).mp h')))
    (fun a b => by
      rw [Bool.or_eq_true, le_is, le_is]
      exact le_tot a b) zs
  exact h.imp fun h => (le_is _ _).mp h
/-- one such row only -/
theorem row_one : ∀ {l m : List Str}, l.Pairwise Le → m.Pairwise Le → l.Perm m → l = m
  | [], m, _, _, h => (List.nil_perm.mp h).symm
  | x :: l, m, hl, hm, h => by
    cases m with
    | nil => exact absurd h.length_eq (by simp)
    | cons y m =>
      obtain ⟨a1, a2⟩ := List.pairwise_cons.mp hl
      obtain ⟨b1, b2⟩ := List.pairwise_cons.mp hm
      have e : x = y := by
        rcases List.mem_cons.mp (h.mem_iff.mp List.mem_cons_self) with z | z
        · exact z
        · rcases List.mem_cons.mp (h.mem_iff.mpr (List.mem_cons_self (a := y) (l := m))) with z' | z'
          · exact z'.symm
          · exact le_anti (a1 y z') (b1 x z)
      subst e
      rw [row_one a2 b2 ((List.perm_cons x).mp h)]
theorem each_vals : ∀ {zs : List Str} {us : List Value}, Vals (zs.map V.str) us → PySem.W.EachIs (fun v z => ∃ t, v = Value.str z t) us zs
  | [], us, r => by
    cases us with
    | nil => exact .nil
    | cons u us => exact absurd r.length (by simp)
  | z :: zs, us, r => by
    cases us with
    | nil => exact absurd r.length (by simp)
    | cons u us =>
      cases r with
      | cons h1 h2 => exact .cons h1 (each_vals h2)
theorem vals_each : ∀ {zs : List Str} {us : List Value}, PySem.W.EachIs (fun v z => ∃ t, v = Value.str z t) us zs → Vals (zs.map V.str) us
  | _, _, .nil => .nil
  | _, _, .cons h t => .cons h (vals_each t)
/-- the rule: the new list is a rising row of the same texts -/
def tSln (T : List (Addr × Str)) (te : TE) : TE := fun σ H Q => te σ H fun v H1 => ∃ (a : Addr) (zs : List Str), v = .ref a ∧ H1 a = some (.lst (zs.map V.str)) ∧ (∀ z ∈ zs, z.length ≤ 100000) ∧ Tabs T H1 ∧
  ∀ (H2 : Hp) (b : Addr) (ys : List Str), ExtN H1 H2 → Tabs T H2 → H2 b = none → ys.Perm zs → ys.Pairwise Le → Q (.ref b) (upd H2 b (.lst (ys.map V.str)))
theorem pe_sln {X : Cx} {k : Nat} {T : List (Addr × Str)} {e : Expr} {te : TE} {c P : Addr} {params : Arguments} {scope : Scope} {x : Str} {p p1 p2 p3 p4 p5 lpos kpos pos : Pos} {j : Nat} (he : PE X e te) (hr : Room k X.A)
    (hg : Gl X "sorted") (hm : X.mg "sorted" = none) (hml : X.mg "len" = none)
    (TB : TabB X.base X.mg c P) (hcode : X.env.code = .ref c) (hmT : (P, X.env.qual ++ "<lambda>") ∈ T) (hu : ∀ p ∈ T, p.1 = P → p.2 = X.env.qual ++ "<lambda>") (hdef : defaultsOf params X.env = ([], []))
    (hbind : ∀ (q : Str) (cl : List (Str × Addr)) (pm cv ctv v : Value), bindArgs (PySem.W.kla_fn "<lambda>" q params (.Tuple [.Call (.Name "len" p1) [.Name x p2] [] p3, .Name x p4] j p5) scope cl pm cv ctv) ⟨[v], []⟩ = pure [(x, v)])
    (kind : scope.kind = .function) (co : scope.isCoroutine = false) (gen : scope.isGenerator = false) (nofree : ∀ y ∈ scope.names, y.2 ≠ .cell ∧ y.2 ≠ .free) (loc : scope.names.lookup x = some .local) (glo : scope.names.lookup (("len" : Str)) = some .globalImplicit)
    (hsl : starEach [e] X.env = [(false, eval e X.env)] := by rfl) (hx : (x == ("__debug__" : Str)) = false := by decide) :
    PE X (.Call (.Name "sorted" p) [e] [⟨some "key", .Lambda params (.Tuple [.Call (.Name "len" p1) [.Name x p2] [] p3, .Name x p4] j p5) scope lpos, kpos⟩] pos) (tSln T te) := by
  refine ⟨fun pins s σ H Q I h => ?_⟩
  refine wpAny_Call_Name_kw (ld_blt (u := .builtin "sorted") I hg hm (by decide +kernel) ?_)
  refine PyProof.Rows.callWith_kw ?_ (by rw [hsl]; rfl) (by rw [hsl]; rfl) (by rfl) (by rfl)
  rw [hsl]
  refine Calls.spliced_cons (thn (he.run pins s σ H _ I h) fun u s1 ⟨v, H1, I1, r1, q1⟩ => Calls.spliced_nil ?_)
  obtain ⟨a, zs, rfl, ha, hzs, hT, k1⟩ := q1
  obtain rfl : u = Value.ref a := r1
  show wpAny _ _ (evalAll [do let v ← eval (.Lambda params (.Tuple [.Call (.Name "len" p1) [.Name x p2] [] p3, .Name x p4] j p5) scope lpos) X.env; standAt pos; pure v]) _ _ s1
  refine wpAny_evalAll_cons (wpAny_bind (lam_make2 I1 TB hcode hmT hu hT hdef (fun y hy e => absurd e (nofree y hy).2) fun f c' pm ctv H2 s2 I2 eN T2 hf hfn hfr hco => wpAny_bind (wpAny_standAt (wpAny_pure (wpAny_evalAll_nil ?_)))))
  show wpAny _ _ (call (.builtin "sorted") [.ref a] [(("key" : Str), Value.ref f)]) _ _ s2
  have ha2 : H2 a = some (.lst (zs.map V.str)) := eN _ _ ha (fun ps z => by cases z)
  obtain ⟨hz, its, n, rv, hob⟩ := I2.hok a _ ha2
  obtain ⟨oc, vsc, tc, hoc, hdc, hvc⟩ := (I2.hok c' _ hco).1
  obtain ⟨mb, b1, b2⟩ := I2.mod.blt
  rw [List.length_map] at hz
  have ev := each_vals rv
  refine PySem.W.sorted_key_data (b := false) (kw := [(Str.ofString "key", Value.ref f)]) kk (l := a) (vs := its) ⟨_, hob, rfl, n, rfl⟩ ev (PySem.W.AllAlike.of fun _ _ => by simp [PySem.W.alike, PySem.W.alikeAll, kk]) (PySem.W.Sortable.tuples fun _ => ⟨_, _, rfl⟩) hz (fun z _ => ?_) (PyProof.Rows.ksk_s1 _ _) (fun _ => PyProof.Rows.ksk_l1 _ _) (fun _ => PyProof.Rows.ksk_t1 _ _)
    (fun v z ⟨t, ev⟩ hzm h tk kp => ?_) fun out c2 h' tk kp hfree hnew _ eo => ?_
  · have hd : (kk z).depth = 1 := by simp [kk, PyData.depth, PyData.depthAll]
    have := hr.un
    omega
  · subst ev
    exact act (z := z) (t := t) (kp _ _ hf) ⟨oc, vsc, tc, kp _ _ hoc, hdc, hvc⟩ hr.depth (hbind _ _ _ _ _ _) (I2.nolimit.keeps kp) ((I2.mod.glob.keeps I2.bk).keeps kp) hml ((b1.keeps I2.bk).keeps kp) (b2 _ (by decide)) kind co gen (fun y hy => (nofree y hy).1) loc glo (by have := hzs z hzm; exact Nat.le_trans this (by decide)) hx
  · obtain ⟨sp, so⟩ := sort_is zs
    have nb : H2 (s2.heap.objs.size + 1) = none := I2.hok.fresh (Nat.le_succ _)
    refine ⟨.ref (s2.heap.objs.size + 1), upd H2 (s2.heap.objs.size + 1) (.lst ((zs.mergeSort (PySem.W.dataLe false kk)).map V.str)), I2.laid (t' := tk) kp (Nat.le_succ _) ?_, rfl, k1 H2 _ _ eN T2 nb sp so⟩
    exact ⟨by rw [List.length_map, sp.length_eq]; exact hz, out, c2, vals_each eo, hnew⟩
end SLn
/-! texts in order: one row only -/
namespace StO
open PySem PySem.Spec PyProof.Rows L2
def lt (a b : Str) : Prop := ltCps a.cps.toList b.cps.toList = true
theorem lt_iff {a b : Str} : lt a b ↔ a.cps.toList < b.cps.toList := by
  unfold lt
  rw [ltCps_eq, decide_eq_true_iff]
theorem str_ext {a b : Str} (h : a.cps.toList = b.cps.toList) : a = b := by
  cases a
  cases b
  simp only [Str.mk.injEq]
  exact Array.toList_inj.mp h
theorem lt_irr (a : Str) : ¬ lt a a := fun h => List.lt_irrefl _ (lt_iff.mp h)
theorem lt_tr {a b c : Str} (h : lt a b) (h' : lt b c) : lt a c := lt_iff.mpr (List.lt_trans (lt_iff.mp h) (lt_iff.mp h'))
theorem lt_of_ne {a b : Str} (h : ¬ lt b a) (n : a ≠ b) : lt a b := by
  rw [lt_iff] at h ⊢
  have le : a.cps.toList ≤ b.cps.toList := List.not_lt.mp h
  by_cases z : a.cps.toList < b.cps.toList
  · exact z
  · exact absurd (str_ext (List.le_antisymm le (List.not_lt.mp z))) n
/-- rising, each once -/
theorem chain : ∀ (p : Str) (l : List Str), risingS p l = true → (p :: l).Nodup → (p :: l).Pairwise lt
  | p, [], _, _ => List.pairwise_singleton ..
  | p, x :: r, h, d => by
    have h : (!ltCps x.cps.toList p.cps.toList && risingS x r) = true := h
    obtain ⟨h1, h2⟩ := Bool.and_eq_true_iff.mp h
    obtain ⟨d1, d2⟩ := List.nodup_cons.mp d
    have ih := chain x r h2 d2
    have px : lt p x := lt_of_ne (fun z => by
      have z : ltCps x.cps.toList p.cps.toList = true := z
      rw [z] at h1
      cases h1) fun z => d1 (z ▸ List.mem_cons_self)
    refine List.pairwise_cons.mpr ⟨fun y hy => ?_, ih⟩
    rcases List.mem_cons.mp hy with rfl | hy
    · exact px
    · exact lt_tr px ((List.pairwise_cons.mp ih).1 y hy)
theorem rows {l : List Str} (h : sortedS l = true) (d : l.Nodup) : l.Pairwise lt := by
  cases l with
  | nil => exact List.Pairwise.nil
  | cons x r => exact chain x r h d
theorem one : ∀ {l m : List Str}, l.Pairwise lt → m.Pairwise lt → (∀ z, z ∈ l ↔ z ∈ m) → l = m
  | [], [], _, _, _ => rfl
  | [], y :: m, _, _, h => absurd ((h y).mpr List.mem_cons_self) (by simp)
  | x :: l, [], _, _, h => absurd ((h x).mp List.mem_cons_self) (by simp)
  | x :: l, y :: m, hl, hm, h => by
    obtain ⟨a1, a2⟩ := List.pairwise_cons.mp hl
    obtain ⟨b1, b2⟩ := List.pairwise_cons.mp hm
    have e : x = y := by
      rcases List.mem_cons.mp ((h x).mp List.mem_cons_self) with z | z
      · exact z
      · rcases List.mem_cons.mp ((h y).mpr List.mem_cons_self) with u | u
        · exact u.symm
        · exact absurd (lt_tr (a1 y u) (b1 x z)) (lt_irr x)
    subst e
    refine congrArg (x :: ·) (one a2 b2 fun z => ?_)
    constructor
    · intro hz
      rcases List.mem_cons.mp ((h z).mp (List.mem_cons_of_mem _ hz)) with rfl | q
      · exact absurd (a1 z hz) (lt_irr z)
      · exact q
    · intro hz
      rcases List.mem_cons.mp ((h z).mpr (List.mem_cons_of_mem _ hz)) with rfl | q
      · exact absurd (b1 z hz) (lt_irr z)
      · exact q
end StO
/-! sorted of a tuple of pairs of texts -/
namespace SrtT
open PySem PyProof.Rows SrtO
/-- one text before another -/
def ltB (x y : Str) : Bool := decide (x.cps.toList < y.cps.toList)
theorem ltB_irr (x : Str) : ltB x x = false := decide_eq_false (List.lt_irrefl _)
theorem ltB_tr {x y z : Str} (h : ltB x y = true) (h' : ltB y z = true) : ltB x z = true := decide_eq_true (List.lt_trans (of_decide_eq_true h) (of_decide_eq_true h'))
theorem str_ext {a b : Str} (h : a.cps.toList = b.cps.toList) : a = b := by
  cases a
  cases b
  congr
  exact Array.toList_inj.mp h
theorem ltB_tot {x y : Str} (h : ltB x y = false) (n : x ≠ y) : ltB y x = true := by
  have h1 := of_decide_eq_false h
  refine decide_eq_true ?_
  rcases List.le_iff_lt_or_eq.mp (List.not_lt.mp h1) with z | z
  · exact z
  · exact absurd (str_ext z).symm n
/-- pairs, by their first, then by their second -/
def lexT (p q : Str × Str) : Bool := if p.1 = q.1 then ltB p.2 q.2 else ltB p.1 q.1
theorem lexT_irr (p : Str × Str) : lexT p p = false := by unfold lexT; rw [if_pos rfl]; exact ltB_irr _
theorem lexT_tr {p q r : Str × Str} (h : lexT p q = true) (h' : lexT q r = true) : lexT p r = true := by
  unfold lexT at *
  by_cases a : p.1 = q.1
  · rw [if_pos a] at h
    by_cases b : q.1 = r.1
    · rw [if_pos b] at h'
      rw [if_pos (a.trans b)]
      exact ltB_tr h h'
    · rw [if_neg b] at h'
      rw [if_neg (a ▸ b), a]
      exact h'
  · rw [if_neg a] at h
    by_cases b : q.1 = r.1
    · rw [if_pos b] at h'
      rw [if_neg (b ▸ a), ← b]
      exact h
    · rw [if_neg b] at h'
      have c := ltB_tr h h'
      rw [if_neg (fun z => by
        rw [z, ltB_irr] at c
        cases c)]
      exact c
theorem lexT_tot {p q : Str × Str} (h : lexT p q = false) (n : p ≠ q) : lexT q p = true := by
  unfold lexT at *
  by_cases a : p.1 = q.1
  · rw [if_pos a] at h
    rw [if_pos a.symm]
    exact ltB_tot h fun z => n (Prod.ext a z)
  · rw [if_neg a] at h
    rw [if_neg (fun z => a z.symm)]
    exact ltB_tot h a
theorem swo_lexT {α : Type} (k : α → Str × Str) : Swo fun v u => lexT (k v) (k u) := by
  refine ⟨fun x y h => ?_, fun x y z h1 h2 => ?_⟩
  · cases c : lexT (k y) (k x) with
    | false => rfl
    | true =>
      have := lexT_tr h c
      rw [lexT_irr] at this
      cases this
  · cases c : lexT (k z) (k x) with
    | false => rfl
    | true =>
      by_cases e : k y = k x
      · rw [e] at h2
        rw [c] at h2
        cases h2
      · have a := lexT_tot h1 e
        have b := lexT_tr c a
        rw [b] at h2
        cases h2
def IsPairT (h : Heap) (v : Value) (p : Str × Str) : Prop := ∃ a o t u n, v = .ref a ∧ h.get? a = some o ∧ o.cls = .type "tuple" ∧ o.data = .seq #[.str p.1 t, .str p.2 u] n
theorem IsPairT.keeps {h h' : Heap} {v : Value} {p : Str × Str} (q : IsPairT h v p) (k : ∀ b o, h.get? b = some o → o.cls = .type "tuple" → h'.get? b = some o) : IsPairT h' v p := by
  obtain ⟨a, o, t, u, n, e, ho, hc, hd⟩ := q
  exact ⟨a, o, t, u, n, e, k _ _ ho hc, hc, hd⟩
theorem firsts_of {h : Heap} {k : Value → Str × Str} : ∀ {vs : List Value}, (∀ v ∈ vs, IsPairT h v (k v)) → ∃ fs : List Value, PySem.W.KatTups h vs fs ∧ fs.length = vs.length ∧ ∀ f ∈ fs, ∃ x t, f = Value.str x t
  | [], _ => ⟨[], PySem.W.KatTups.nil, rfl, fun _ hm => by simp at hm⟩
  | v :: vs, hp => by
    obtain ⟨fs, h1, h2, h3⟩ := firsts_of (k := k) (vs := vs) fun v' hm => hp v' (List.mem_cons_of_mem _ hm)
    obtain ⟨a, o, t, u, n, e, ho, hc, hd⟩ := hp v (List.mem_cons_self ..)
    subst e
    refine ⟨.str _ t :: fs, PySem.W.KatTups.cons ho hc hd rfl h1, by rw [List.length_cons, List.length_cons, h2], fun f hm => ?_⟩
    rcases List.mem_cons.mp hm with rfl | hm
    · exact ⟨_, t, rfl⟩
    · exact h3 f hm
section
variable {prog : Program} {w : World} {A : Around} {E : Value → Shared → Prop} {s : Shared}
theorem pair_cmp {vs : List Value} {k : Value → Str × Str} (hp : ∀ v ∈ vs, IsPairT s.heap v (k v)) : Cmp prog w A s (tuples' true) (fun p => p.1 ∈ vs) (lt2 fun v u => lexT (k v) (k u)) := by
  intro p q hm hm'
  have h1 := hp _ hm
  have h2 := hp _ hm'
  show wpAny (model prog w) A (keyLt' (tuples' true) p.1 q.1) (fun r s' => s' = s ∧ r = lexT (k p.1) (k q.1)) (fun _ _ => False) s
  unfold lexT
  generalize k p.1 = P at h1 ⊢
  generalize k q.1 = P' at h2 ⊢
  obtain ⟨x, y⟩ := P
  obtain ⟨x', y'⟩ := P'
  obtain ⟨a, o, t, u, n, e, ho, hc, hd⟩ := h1
  obtain ⟨a', o', t', u', n', e', ho', hc', hd'⟩ := h2
  rw [e, e']
  refine PySem.W.kat_lt ho hd ho' hd' ?_
  show PySem.W.KatLex prog w A true (decide (2 < 2)) _ [(.str x t, .str x' t'), (.str y u, .str y' u')] 0 s
  refine PySem.W.kat_cons (SeqAt.EqAt.str_str x t x' t' prog w _ _ ?_)
  refine PySem.W.kat_go (fun e1 => ?_) (fun e1 => ?_)
  · have ex : x = x' := by simpa using e1
    refine PySem.W.kat_yes (PySem.W.kat_cons (SeqAt.EqAt.str_str y u y' u' prog w _ _ ?_))
    refine PySem.W.kat_go (fun e2 => ?_) (fun e2 => ?_)
    · have ey : y = y' := by simpa using e2
      have e3 : (if x = x' then ltB y y' else ltB x x') = false := by
        rw [if_pos ex, ey]
        exact ltB_irr _
      exact PySem.W.kat_yes (PySem.W.kat_nil ⟨rfl, e3.symm⟩)
    · have e3 : (if x = x' then ltB y y' else ltB x x') = ltB y y' := if_pos ex
      refine PySem.W.kat_no (PySem.W.kat_one _ _ (PyProof.Rows.lt_str ?_))
      exact (show s = s ∧ ltB y y' = (if x = x' then ltB y y' else ltB x x') from ⟨rfl, e3.symm⟩)
  · have ex : ¬ x = x' := by simpa using e1
    have e3 : (if x = x' then ltB y y' else ltB x x') = ltB x x' := if_neg ex
    exact PySem.W.kat_no (oneLt_str ⟨rfl, e3.symm⟩)
theorem pairs_sortable {a : Addr} {vs : List Value} {k : Value → Str × Str} (h0 : 0 < vs.length) (hp : ∀ v ∈ vs, IsPairT s.heap v (k v)) (ha : ∀ o, s.heap.get? a = some o → o.cls ≠ .type "tuple") : SortableO prog w A s a vs fun v u => lexT (k v) (k u) := by
  intro h' keep
  have hp' : ∀ v ∈ vs, IsPairT h' v (k v) := fun v hm => (hp v hm).keeps fun b o e c => keep b o (fun z => by subst z; exact ha o e c) e
  obtain ⟨fs, h1, h2, h3⟩ := firsts_of hp'
  refine ⟨tuples' true, fun Q E hq => ?_, pair_cmp hp'⟩
  refine PySem.W.kat_kind (T := .type "str") h1 (by omega) (fun f hm => ?_) (by rfl) ?_
  · obtain ⟨x, t, rfl⟩ := h3 f hm
    exact PySem.W.Looks.now
  · have e : (Value.type "str" != Value.type "tuple") = true := by first | decide +kernel | rfl | decide
    rw [e]
    exact hq
/-- what sorted collects of a tuple -/
theorem collect_tup {l : Addr} {vs : List Value} {Q : List Value → Shared → Prop} (hl : s.heap.IsTuple l vs.toArray)
    (h : Q vs { s with heap := (s.heap.push (seqObj "list" #[] 0)).update s.heap.objs.size (Obj.mapSeq (· ++ vs.toArray)) }) (hsz : vs.length ≤ sizeLine) :
    wpAny (model prog w) A (collect (.ref l)) Q E s := by
  obtain ⟨o, ho, hc, n, hd⟩ := id hl
  unfold collect
  refine wpAny_bind (wpAny_runValue (codeAny_builtin entry_proto_collect' ?_))
  show wpAny _ _ (do again (.builtin "list.__iadd__" ⟨[← newList [], .ref l], []⟩)) _ _ s
  refine wpAny_bind (wpAny_newList (wpAny_pure ⟨Code.quiet_builtin _ (by decide +kernel), codeAny_builtin entry_list_iadd' ?_⟩))
  show wpAny _ _ (Builtin.List.listExtendWith (.ref s.heap.objs.size) (.ref l) (.ref s.heap.objs.size)) _ _ { s with heap := s.heap.push (seqObj "list" #[] 0) }
  unfold Builtin.List.listExtendWith
  have ho' : (s.heap.push (seqObj "list" #[] 0)).get? l = some o := Heap.get?_push_of_some _ ho
  refine wpAny_bind (wpAny_typeOf (T := "tuple") ⟨o, ho', hc⟩ ?_)
  have ht : (Value.type "tuple" == Value.type "tuple") = true := by rfl
  rw [if_pos (by rw [ht]; simp)]
  refine wpAny_bind (listItems_at ho' hd ?_)
  refine wpAny_bind (listItems_at (xs := #[]) (n := 0) (Heap.get?_push_size _ rfl) rfl ?_)
  rw [if_neg (by simp)]
  refine wpAny_bind (listUpdate_at (xs := #[]) (n := 0) (Heap.get?_push_size _ rfl) rfl ?_ (Nat.zero_le _) (by show (#[] ++ vs.toArray).size ≤ sizeLine + 1; simp only [Array.size_append, List.size_toArray, List.length_nil]; omega))
  refine wpAny_pure ?_
  show wpAny (model prog w) A (do
      let o ← load s.heap.objs.size
      match o.data with
      | .seq xs _ => pure xs.toList
      | _ => unsupported "internal:collect") Q E { s with heap := (s.heap.push (seqObj "list" #[] 0)).update s.heap.objs.size (Obj.mapSeq (· ++ vs.toArray)) }
  refine wpAny_bind (wpAny_load (get?_update_seq (Heap.get?_push_size _ rfl) _) ?_)
  show wpAny _ _ (pure ((#[] : Array Value) ++ vs.toArray).toList) Q E _
  rw [show ((#[] : Array Value) ++ vs.toArray).toList = vs by simp]
  exact wpAny_pure h
theorem sorted_tup {l : Addr} {vs : List Value} {k : Value → Str × Str} {Q : Value → Shared → Prop} (hl : s.heap.IsTuple l vs.toArray) (hz : vs.length ≤ sizeLine) (hp : ∀ v ∈ vs, IsPairT s.heap v (k v))
    (h : ∀ (h' : Heap) (d : Addr) (out : List Value), Srtd (fun v u => lexT (k v) (k u)) out → Stb (fun v u => lexT (k v) (k u)) out vs → (∀ b o, s.heap.get? b = some o → h'.get? b = some o) → s.heap.objs.size ≤ d → (∃ n, h'.get? d = some (seqObj "list" out.toArray n)) → Q (.ref d) { s with heap := h' }) :
    wpAny (model prog w) A (call (.builtin "sorted") [.ref l]) Q E s := by
  refine Calls.call_function_entry kind_sorted plain_sorted entry_sorted (args_sorted1 _) ?_
  unfold Builtin.«sorted»
  refine wpAny_bind (m := checkCount "sorted" 1 1 _) (wpAny_pure ?_)
  refine wpAny_bind (collect_tup hl ?_ hz)
  refine wpAny_bind (wpAny_newList ?_ hz)
  have hsz : ((s.heap.push (seqObj "list" #[] 0)).update s.heap.objs.size (Obj.mapSeq (· ++ vs.toArray))).objs.size = s.heap.objs.size + 1 := by
    rw [Heap.size_update, size_push']
  have hoL : (((s.heap.push (seqObj "list" #[] 0)).update s.heap.objs.size (Obj.mapSeq (· ++ vs.toArray))).push (seqObj "list" vs.toArray 0)).get? (s.heap.objs.size + 1) = some (seqObj "list" vs.toArray 0) := by
    rw [← hsz]; exact Heap.get?_push_size _ rfl
  have keep : ∀ b o, s.heap.get? b = some o → b ≠ s.heap.objs.size + 1 ∧ (((s.heap.push (seqObj "list" #[] 0)).update s.heap.objs.size (Obj.mapSeq (· ++ vs.toArray))).push (seqObj "list" vs.toArray 0)).get? b = some o := fun b o q => by
    have hlt : b < s.heap.objs.size := Heap.lt_size q
    refine ⟨Nat.ne_of_lt (Nat.lt_succ_of_lt hlt), Heap.get?_push_of_some _ ?_⟩
    rw [Heap.get?_update_ne _ _ _ _ (Nat.ne_of_lt hlt)]
    exact Heap.get?_push_of_some _ q
  show wpAny _ _ _ _ _ { s with heap := ((s.heap.push (seqObj "list" #[] 0)).update s.heap.objs.size (Obj.mapSeq (· ++ vs.toArray))).push (seqObj "list" vs.toArray 0) }
  rw [hsz]
  refine wpAny_bind (wpAny_holding (wpAny_call_entry slot_list_sort ⟨_, hoL, rfl⟩ entry_list_sort (list_sort_ord (swo_lexT k) hoL hz (fun h2 => pairs_sortable (by omega) (fun v hm => (hp v hm).keeps fun b o e _ => (keep b o e).2) fun o e => ?_) fun out hs hb => ⟨_, rfl, ?_⟩) (args_list_sort _)))
  · have e' : some o = some (seqObj "list" vs.toArray 0) := e.symm.trans hoL
    cases e'
    intro c
    exact absurd (Value.type.inj c) (by decide)
  · exact wpAny_pure ⟨_, rfl, h _ _ out hs hb (fun b o e => sortedAll_old e) (Nat.le_succ _) (sortedAll_at s.heap vs out.toArray)⟩
end
end SrtT
namespace L2
open PySem PySem.Spec PyProof.Rows
abbrev ltT (k : V → Str × Str) (x y : V) : Bool := SrtT.lexT (k x) (k y)
/-- sorted(xs), xs a tuple of pairs of texts (k says which): a new list -/
def rSortedTT (K : PySem.W.Frag) : List V → Hp → VK → Prop := fun vs H Q => ∃ (a : Addr) (xs : List V) (k : V → Str × Str), vs = [V.ref a] ∧ SqT K H a xs ∧ (∀ x ∈ xs, ∃ t, x = V.ref t ∧ H t = some (.tup [.str (k x).1, .str (k x).2])) ∧
  ∀ ys p, SrtO.Srtd (ltT k) ys → ys.Perm xs → H p = none → Q (.ref p) (upd H p (.lst ys))
section
variable {X : Cx}
theorem cr_sortedTT : CallR X (.builtin "sorted") (rSortedTT X.K) := by
  intro pins s σ H vs us Q I r h
  obtain ⟨a, xs, k, rfl, hs, hx, q⟩ := h
  obtain ⟨its, rv, hl, hz⟩ := I.tuple hs
  obtain ⟨u, rfl, ru⟩ := vals1 r
  obtain rfl : u = Value.ref a := ru
  obtain ⟨e1, e2⟩ := refs_back rv fun x m => by
    obtain ⟨t, e, _⟩ := hx x m
    exact ⟨t, e⟩
  refine SrtT.sorted_tup (k := fun u => k (backV u)) hl (by rw [← rv.length]; exact hz) (fun v hv => ?_) fun h' d out h1 h2 kp hd hn => ?_
  · obtain ⟨t, rfl⟩ := e2 v hv
    have hm : V.ref t ∈ xs := by rw [e1]; exact List.mem_map.mpr ⟨_, hv, rfl⟩
    obtain ⟨t', e, ht⟩ := hx _ hm
    cases e
    obtain ⟨_, its2, r2, o, ho, hc, n, hd⟩ := I.hok _ _ ht
    obtain ⟨u1, u2, rfl, ri, rj⟩ := vals2 r2
    obtain ⟨t1, rfl⟩ := ri
    obtain ⟨t2, rfl⟩ := rj
    exact ⟨t, o, t1, t2, n, rfl, ho, hc, hd⟩
  · have h3 : ∀ u ∈ out, ∃ a, u = Value.ref a := fun u hu => e2 u (h2.perm.mem_iff.mp hu)
    obtain ⟨n, hn⟩ := hn
    have hb : (out.map backV).Perm xs := by
      rw [e1]
      exact h2.perm.map backV
    refine ⟨.ref d, upd H d (.lst (out.map backV)), I.laid (t' := s.toks) kp hd ⟨?_, out, n, vals_back h3, hn⟩, rfl, q _ d (SrtO.srtd_map h1) hb (I.hok.fresh hd)⟩
    rw [hb.length_eq]
    exact hz
end
end L2
/-! pure: signs, distinct texts, words -/
namespace K10
open PySem L2 Evl SrtT
abbrev oi : Str := "01"
abbrev mt : Str := ""
abbrev colon : Str := ":"
abbrev comma : Str := ","
/-! ### signs -/
theorem tw_all {p : Nat → Bool} : ∀ {l : List Nat}, l.all p = true → l.takeWhile p = l
  | [], _ => rfl
  | a :: l, h => by
    rw [List.all_cons, Bool.and_eq_true] at h
    rw [List.takeWhile_cons, if_pos h.1, tw_all h.2]
theorem tw_lt {p : Nat → Bool} : ∀ {l : List Nat}, l.all p = false → (l.takeWhile p).length < l.length
  | a :: l, h => by
    rw [List.takeWhile_cons]
    by_cases ha : p a = true
    · rw [List.all_cons, ha, Bool.true_and] at h
      rw [if_pos ha]
      have := tw_lt h
      rw [List.length_cons, List.length_cons]
      omega
    · rw [if_neg ha]
      simp
theorem tw_off {p : Nat → Bool} : ∀ {l : List Nat}, l.all p = false → (l.drop (l.takeWhile p).length).all p = false
  | a :: l, h => by
    rw [List.takeWhile_cons]
    by_cases ha : p a = true
    · rw [List.all_cons, ha, Bool.true_and] at h
      rw [if_pos ha]
      exact tw_off h
    · rw [if_neg ha]
      show List.all (a :: l) p = false
      rw [List.all_cons, Bool.eq_false_iff.mpr ha, Bool.false_and]
def isO (c : Nat) : Bool := decide (c = 48 ∨ c = 49)
/-- a text of signs alone -/
def Sg (z : Str) : Bool := (TL.tl z).all isO
def signsB (z : Str) : Bool := decide (V.str (Txt.stripChars z oi) = V.str mt)
theorem goes_is (c : Nat) : oi.cps.contains c = isO c := by
  have e : oi.cps = #[48, 49] := by decide +kernel
  rw [e]
  unfold isO
  by_cases h : c = 48
  · subst h; decide +kernel
  · by_cases h2 : c = 49
    · subst h2; decide +kernel
    · simp [h, h2]
theorem strip_tl (z : Str) : TL.tl (Txt.stripChars z oi) = [] ↔ Sg z = true := by
  unfold Txt.stripChars
  rw [PyProof.Rows.stripBy_eq, TL.tl_strSub]
  have e : oi.cps.contains = isO := funext goes_is
  rw [e]
  have lo : stripLo isO true z = ((TL.tl z).takeWhile isO).length := rfl
  have hi : stripHi isO true z (stripLo isO true z) = z.length - (((TL.tl z).drop (stripLo isO true z)).reverse.takeWhile isO).length := rfl
  rw [hi, lo]
  constructor
  · intro h
    cases q : Sg z with
    | true => rfl
    | false =>
      have q : (TL.tl z).all isO = false := q
      have a := tw_lt q
      have b := tw_off q
      have c : (((TL.tl z).drop ((TL.tl z).takeWhile isO).length).reverse.takeWhile isO).length < ((TL.tl z).drop ((TL.tl z).takeWhile isO).length).reverse.length := tw_lt (by rw [List.all_reverse]; exact b)
      rw [List.length_reverse, List.length_drop, ← TL.len_tl] at c
      have d := congrArg List.length h
      rw [List.length_take, List.length_drop, ← TL.len_tl] at d
      rw [← TL.len_tl] at a
      simp only [List.length_nil] at d
      omega
  · intro h
    have h : (TL.tl z).all isO = true := h
    rw [tw_all h, List.drop_length, List.take_nil]
theorem signs_is (z : Str) : signsB z = Sg z := by
  unfold signsB
  rw [Bool.eq_iff_iff, decide_eq_true_iff, ← strip_tl]
  constructor
  · intro h
    rw [V.str.inj h]
    decide +kernel
  · intro h
    exact congrArg V.str (TL.ext_tl (h.trans (by decide +kernel)))
theorem sg_ok {z : Str} (h : Sg z = true) : PyData.strOk z = true := by
  unfold PyData.strOk
  have h : (TL.tl z).all isO = true := h
  rw [List.all_eq_true] at h
  rw [← Array.all_toList, List.all_eq_true]
  intro c hc
  have := h c hc
  unfold isO at this
  rw [decide_eq_true_iff] at this ⊢
  omega
theorem sg_free {z : Str} {s : Nat} (h : Sg z = true) (hs : s < 48) : s ∉ TL.tl z := fun m => by
  have h : (TL.tl z).all isO = true := h
  have := List.all_eq_true.mp h s m
  unfold isO at this
  rw [decide_eq_true_iff] at this
  omega
/-! ### distinct texts -/
theorem few : ∀ (xs ks : List Str), ks.Nodup → (∀ k ∈ ks, k ∈ xs) → ks.length ≤ xs.length ∧ (¬ xs.Nodup → ks.length < xs.length)
  | [], ks, _, h => by
    cases ks with
    | nil => exact ⟨Nat.le_refl _, fun z => absurd List.nodup_nil z⟩
    | cons k ks => exact absurd (h k List.mem_cons_self) (by simp)
  | a :: l, ks, hn, h => by
    by_cases ha : a ∈ l
    · have := few l ks hn fun k hk => (List.mem_cons.mp (h k hk)).elim (fun e => e ▸ ha) id
      rw [List.length_cons]
      exact ⟨by omega, fun _ => by omega⟩
    · have sub : ∀ k ∈ ks.erase a, k ∈ l := fun k hk => by
        obtain ⟨h1, h2⟩ := (List.Nodup.mem_erase_iff hn).mp hk
        exact (List.mem_cons.mp (h k h2)).resolve_left h1
      obtain ⟨r1, r2⟩ := few l (ks.erase a) (hn.erase a) sub
      have len : ks.length ≤ (ks.erase a).length + 1 := by
        by_cases m : a ∈ ks
        · rw [List.length_erase_of_mem m]
          omega
        · rw [List.erase_of_not_mem m]
          omega
      rw [List.length_cons]
      refine ⟨by omega, fun z => ?_⟩
      have := r2 fun y => z (List.nodup_cons.mpr ⟨ha, y⟩)
      omega
theorem all_there (xs ks : List Str) (hx : xs.Nodup) (h : ∀ k ∈ xs, k ∈ ks) : xs.length ≤ ks.length := (few ks xs hx h).1
/-! ### rows that rise -/
theorem one_row {α : Type} {R : α → α → Prop} (irr : ∀ x, ¬ R x x) (tr : ∀ x y z, R x y → R y z → R x z) : ∀ {l m : List α}, l.Pairwise R → m.Pairwise R → (∀ z, z ∈ l ↔ z ∈ m) → l = m
  | [], [], _, _, _ => rfl
  | [], y :: m, _, _, h => absurd ((h y).mpr List.mem_cons_self) (by simp)
  | x :: l, [], _, _, h => absurd ((h x).mp List.mem_cons_self) (by simp)
  | x :: l, y :: m, hl, hm, h => by
    obtain ⟨a1, a2⟩ := List.pairwise_cons.mp hl
    obtain ⟨b1, b2⟩ := List.pairwise_cons.mp hm
    have e : x = y := by
      rcases List.mem_cons.mp ((h x).mp List.mem_cons_self) with z | z
      · exact z
      · rcases List.mem_cons.mp ((h y).mpr List.mem_cons_self) with u | u
        · exact u.symm
        · exact absurd (tr _ _ _ (a1 y u) (b1 x z)) (irr x)
    subst e
    refine congrArg (x :: ·) (one_row irr tr a2 b2 fun z => ?_)
    constructor
    · intro hz
      rcases List.mem_cons.mp ((h z).mp (List.mem_cons_of_mem _ hz)) with rfl | q
      · exact absurd (a1 z hz) (irr z)
      · exact q
    · intro hz
      rcases List.mem_cons.mp ((h z).mpr (List.mem_cons_of_mem _ hz)) with rfl | q
      · exact absurd (b1 z hz) (irr z)
      · exact q
abbrev Pr := Str × Str
/-- pairs whose watches rise -/
def Rise (l : List Pr) : Prop := l.Pairwise fun p q => ltB p.1 q.1 = true
theorem ltB_ne {x y : Str} (h : ltB x y = true) : x ≠ y := fun e => by
  rw [e, ltB_irr] at h
  cases h
theorem rise_lex {l : List Pr} (h : Rise l) : l.Pairwise fun p q => lexT p q = true := List.Pairwise.imp (fun {p q} z => by
  unfold lexT
  rw [if_neg (ltB_ne z)]
  exact z) h
theorem rise_nodup {l : List Pr} (h : Rise l) : (l.map (·.1)).Nodup := by
  unfold List.Nodup
  rw [List.pairwise_map]
  exact List.Pairwise.imp (fun z => ltB_ne z) h
/-- a sorted row that has the same pairs is the row that rises -/
theorem sort_one {l m : List Pr} (hs : l.Pairwise fun p q => lexT q p = false) (hp : l.Perm m) (hm : Rise m) : l = m := by
  have nd : m.Nodup := List.Pairwise.imp (fun {p q} z e => by
    rw [e, ltB_irr] at z
    cases z) hm
  have nl : l.Pairwise (· ≠ ·) := hp.nodup_iff.mpr nd
  have up : l.Pairwise fun p q => lexT p q = true := by
    have := hs.and nl
    exact this.imp fun {p q} z => lexT_tot z.1 fun e => z.2 e.symm
  exact one_row (R := fun p q => lexT p q = true) (fun x h => by
    rw [lexT_irr] at h
    cases h) (fun _ _ _ => lexT_tr) up (rise_lex hm) fun z => hp.mem_iff
end K10
/-! pure: the words of a rule, and where they go wrong -/
namespace K10
open PySem L2 Evl SrtT
/-! ### texts of words -/
def tx (ws : List Str) : Str := Txt.join " " ws
def Free (ws : List Str) : Prop := ∀ w ∈ ws, 32 ∉ TL.tl w
theorem split_tx {ws : List Str} (h : ws ≠ []) (f : Free ws) : Txt.split (tx ws) " " = ws := TL.split_join (y := " ") (s := 32) (S := []) (by decide +kernel) (by decide +kernel) h f
theorem tl_tx (ws : List Str) : TL.tl (tx ws) = TL.joinL [32] (ws.map TL.tl) := by
  unfold tx
  rw [TL.join_eq, TL.tl_join]
  rfl
theorem glue_len (S : List Nat) : ∀ l : List (List Nat), (TL.joinL S l).length ≤ (l.map (·.length)).sum + S.length * l.length
  | [] => by simp [TL.joinL]
  | [p] => by simp [TL.joinL]
  | p :: q :: r => by
    have ih := glue_len S (q :: r)
    show (p ++ (S ++ TL.joinL S (q :: r))).length ≤ _
    rw [List.length_append, List.length_append, List.map_cons, List.sum_cons, List.length_cons (a := p), Nat.mul_add]
    omega
def wsum (ws : List Str) : Nat := (ws.map (·.length)).sum
theorem tx_len (ws : List Str) : (tx ws).length ≤ wsum ws + ws.length := by
  rw [TL.len_tl, tl_tx]
  have := glue_len [32] (ws.map TL.tl)
  rw [List.map_map, List.length_map, List.length_singleton, Nat.one_mul] at this
  have e : ((List.length (α := Nat)) ∘ TL.tl) = fun w : Str => w.length := funext fun w => (TL.len_tl w).symm
  rw [show (fun x : List Nat => x.length) ∘ TL.tl = fun w : Str => w.length from e] at this
  exact this
/-! ### what may stand at a place -/
def gw (ws : List Str) (i : Nat) : Str := ws.getD i mt
def sgB (z : Str) (lo hi : Int) : Bool := signsB z && (decide (lo ≤ (z.length : Int)) && decide ((z.length : Int) ≤ hi))
theorem sgB_iff {z : Str} {lo hi : Int} : sgB z lo hi = true ↔ Sg z = true ∧ lo ≤ (z.length : Int) ∧ (z.length : Int) ≤ hi := by
  unfold sgB
  rw [signs_is, Bool.and_eq_true, Bool.and_eq_true, decide_eq_true_iff, decide_eq_true_iff]
def standB (ws : List Str) (i : Nat) : Bool :=
  if i = 0 then sgB (gw ws 0) 2 8 else if i = 1 then decide (gw ws 1 = colon)
  else if (i - 2) % 3 = 0 then sgB (gw ws i) 1 8 && (decide ((i - 2) / 3 < 4) && (decide ((i - 2) / 3 = 0) || ltB (gw ws (i - 3)) (gw ws i)))
  else if (i - 2) % 3 = 1 then sgB (gw ws i) 1 1 else decide (gw ws i = comma)
def Odd3 (n : Nat) : Prop := n = 1 ∨ (2 < n ∧ n % 3 ≠ 1)
/-- where the words go wrong, if they do -/
def Due (ws : List Str) : Option Nat → Prop
  | some d => (∀ i, i < d → i < ws.length → standB ws i = true) ∧ d ≤ ws.length ∧ (d < ws.length → standB ws d = false) ∧ (d = ws.length → Odd3 ws.length)
  | none => (∀ i, i < ws.length → standB ws i = true) ∧ ¬ Odd3 ws.length
theorem due_one {ws : List Str} {a b : Option Nat} (ha : Due ws a) (hb : Due ws b) : a = b := by
  have lone : ∀ {d : Nat}, Due ws (some d) → Due ws none → False := fun {d} h g => by
    obtain ⟨h1, h2, h3, h4⟩ := h
    rcases Nat.lt_or_ge d ws.length with z | z
    · have := g.1 d z
      rw [h3 z] at this
      cases this
    · exact g.2 (h4 (by omega))
  cases a with
  | none =>
    cases b with
    | none => rfl
    | some d => exact (lone hb ha).elim
  | some d =>
    cases b with
    | none => exact (lone ha hb).elim
    | some e =>
      obtain ⟨h1, h2, h3, h4⟩ := ha
      obtain ⟨g1, g2, g3, g4⟩ := hb
      rcases Nat.lt_trichotomy d e with z | z | z
      · have := g1 d z (by omega)
        rw [h3 (by omega)] at this
        cases this
      · exact congrArg some z
      · have := h1 e z (by omega)
        rw [g3 (by omega)] at this
        cases this
/-! ### rules -/
def PairOk (p : Pr) : Prop := sgB p.1 1 8 = true ∧ sgB p.2 1 1 = true
structure Good (f : Str) (ps : List Pr) : Prop where
  flag : sgB f 2 8 = true
  ok : ∀ p ∈ ps, PairOk p
  many : ps.length ≤ 4
  rise : Rise ps
def pw : List Pr → List Str
  | [] => []
  | [p] => [p.1, p.2]
  | p :: q :: r => p.1 :: p.2 :: comma :: pw (q :: r)
def rw_ (f : Str) (ps : List Pr) : List Str := f :: colon :: pw ps
theorem pw_len : ∀ (ps : List Pr), ps ≠ [] → (pw ps).length + 1 = 3 * ps.length
  | [], h => absurd rfl h
  | [p], _ => rfl
  | p :: q :: r, _ => by
    have := pw_len (q :: r) (by simp)
    show (pw (q :: r)).length + 3 + 1 = _
    rw [List.length_cons (a := p)]
    omega
theorem pw_at : ∀ (ps : List Pr) (k : Nat) (p : Pr), ps[k]? = some p → (pw ps)[3 * k]? = some p.1 ∧ (pw ps)[3 * k + 1]? = some p.2 ∧ (k + 1 < ps.length → (pw ps)[3 * k + 2]? = some comma)
  | [], k, p, h => by simp at h
  | [q], k, p, h => by
    cases k with
    | zero =>
      obtain rfl : q = p := by simpa using h
      exact ⟨rfl, rfl, fun z => by simp at z⟩
    | succ k => simp at h
  | q :: q2 :: r, k, p, h => by
    cases k with
    | zero =>
      obtain rfl : q = p := by simpa using h
      exact ⟨rfl, rfl, fun _ => rfl⟩
    | succ k =>
      have ih := pw_at (q2 :: r) k p (by simpa using h)
      have e : 3 * (k + 1) = 3 * k + 3 := by omega
      rw [e]
      refine ⟨ih.1, ih.2.1, fun z => ih.2.2 ?_⟩
      rw [List.length_cons] at z
      omega
theorem ltB_chain {g : Nat → Str} {m : Nat} (h : ∀ k, k + 1 < m → ltB (g k) (g (k + 1)) = true) : ∀ j i, i < j → j < m → ltB (g i) (g j) = true
  | 0, i, h1, _ => by omega
  | j + 1, i, h1, h2 => by
    by_cases e : i = j
    · subst e
      exact h i h2
    · exact ltB_tr (ltB_chain h j i (by omega) (by omega)) (h j h2)
theorem gw_get {ws : List Str} {i : Nat} (h : i < ws.length) : ws[i]? = some (gw ws i) := by
  unfold gw
  rw [List.getD_eq_getElem?_getD, List.getElem?_eq_getElem h]
  rfl
/-- the pairs that the words tell -/
def pairsOf (ws : List Str) : List Pr := (List.range ((ws.length - 1) / 3)).map fun k => (gw ws (2 + 3 * k), gw ws (3 + 3 * k))
theorem due_none {ws : List Str} (h0 : ws ≠ []) (h : Due ws none) : Good (gw ws 0) (pairsOf ws) ∧ ws = rw_ (gw ws 0) (pairsOf ws) := by
  obtain ⟨st, n3⟩ := h
  have l0 : 0 < ws.length := List.length_pos_iff.mpr h0
  have l1 : ws.length ≠ 1 := fun z => n3 (.inl z)
  have hm : ws.length = 2 ∨ ws.length % 3 = 1 := by
    by_cases z : 2 < ws.length
    · exact .inr (Classical.byContradiction fun y => n3 (.inr ⟨z, y⟩))
    · omega
  have s0 := st 0 l0
  have s1 := st 1 (by omega)
  have s1 : decide (gw ws 1 = colon) = true := s1
  have len : (pairsOf ws).length = (ws.length - 1) / 3 := by unfold pairsOf; rw [List.length_map, List.length_range]
  have getp : ∀ k, k < (ws.length - 1) / 3 → (pairsOf ws)[k]? = some (gw ws (2 + 3 * k), gw ws (3 + 3 * k)) := fun k hk => by
    unfold pairsOf
    rw [List.getElem?_map, List.getElem?_range hk]
    rfl
  have w0 : ∀ k, k < (ws.length - 1) / 3 → sgB (gw ws (2 + 3 * k)) 1 8 = true ∧ k < 4 ∧ (k = 0 ∨ ltB (gw ws (3 * k - 1)) (gw ws (2 + 3 * k)) = true) := fun k hk => by
    have := st (2 + 3 * k) (by omega)
    unfold standB at this
    rw [if_neg (by omega), if_neg (by omega), if_pos (by omega), show (2 + 3 * k - 2) / 3 = k by omega, show 2 + 3 * k - 3 = 3 * k - 1 by omega] at this
    rw [Bool.and_eq_true, Bool.and_eq_true, Bool.or_eq_true, decide_eq_true_iff, decide_eq_true_iff] at this
    exact ⟨this.1, this.2.1, this.2.2⟩
  have w1 : ∀ k, k < (ws.length - 1) / 3 → sgB (gw ws (3 + 3 * k)) 1 1 = true := fun k hk => by
    have := st (3 + 3 * k) (by omega)
    unfold standB at this
    rw [if_neg (by omega), if_neg (by omega), if_neg (by omega), if_pos (by omega)] at this
    exact this
  have w2 : ∀ k, k + 1 < (ws.length - 1) / 3 → gw ws (4 + 3 * k) = comma := fun k hk => by
    have := st (4 + 3 * k) (by omega)
    unfold standB at this
    rw [if_neg (by omega), if_neg (by omega), if_neg (by omega), if_neg (by omega), decide_eq_true_iff] at this
    exact this
  have many : (ws.length - 1) / 3 ≤ 4 := by
    rcases Nat.lt_or_ge 4 ((ws.length - 1) / 3) with z | z
    · have := (w0 4 z).2.1
      omega
    · exact z
  refine ⟨⟨s0, fun p hp => ?_, by rw [len]; exact many, ?_⟩, ?_⟩
  · obtain ⟨k, hk, rfl⟩ := List.mem_map.mp hp
    have hk := List.mem_range.mp hk
    exact ⟨(w0 k hk).1, w1 k hk⟩
  · unfold Rise pairsOf
    rw [List.pairwise_map, List.pairwise_iff_getElem]
    intro i j hi hj hij
    rw [List.length_range] at hi hj
    rw [List.getElem_range, List.getElem_range]
    exact ltB_chain (g := fun k => gw ws (2 + 3 * k)) (m := (ws.length - 1) / 3) (fun k hk => by
      rcases (w0 (k + 1) hk).2.2 with z | z
      · omega
      · rw [show 3 * (k + 1) - 1 = 2 + 3 * k by omega] at z
        exact z) j i hij hj
  · refine List.ext_getElem? fun i => ?_
    have plen : (rw_ (gw ws 0) (pairsOf ws)).length = ws.length := by
      show (pw (pairsOf ws)).length + 2 = _
      by_cases e : pairsOf ws = []
      · rw [e]
        rw [e] at len
        simp only [List.length_nil] at len
        show 0 + 2 = _
        omega
      · have := pw_len _ e
        rw [len] at this
        have : 0 < (ws.length - 1) / 3 := by rw [← len]; exact List.length_pos_iff.mpr e
        omega
    rcases Nat.lt_or_ge i ws.length with hi | hi
    · rw [gw_get hi]
      match i, hi with
      | 0, _ => rfl
      | 1, _ => exact congrArg some (of_decide_eq_true s1)
      | i + 2, hi =>
        show _ = (pw (pairsOf ws))[i]?
        have hk : i / 3 < (ws.length - 1) / 3 := by omega
        obtain ⟨p1, p2, p3⟩ := pw_at (pairsOf ws) (i / 3) _ (getp _ hk)
        rcases (by omega : i = 3 * (i / 3) ∨ i = 3 * (i / 3) + 1 ∨ i = 3 * (i / 3) + 2) with e | e | e
        · rw [show (pw (pairsOf ws))[i]? = (pw (pairsOf ws))[3 * (i / 3)]? from congrArg (fun z => (pw (pairsOf ws))[z]?) e, p1]
          exact congrArg (fun z => some (gw ws z)) (by omega)
        · rw [show (pw (pairsOf ws))[i]? = (pw (pairsOf ws))[3 * (i / 3) + 1]? from congrArg (fun z => (pw (pairsOf ws))[z]?) e, p2]
          exact congrArg (fun z => some (gw ws z)) (by omega)
        · rw [show (pw (pairsOf ws))[i]? = (pw (pairsOf ws))[3 * (i / 3) + 2]? from congrArg (fun z => (pw (pairsOf ws))[z]?) e, p3 (by rw [len]; omega), ← w2 (i / 3) (by omega)]
          exact congrArg (fun z => some (gw ws z)) (by omega)
    · rw [List.getElem?_eq_none hi, List.getElem?_eq_none (by rw [plen]; exact hi)]
end K10
/-! pure: the words of a good rule stand; its text in other words -/
namespace K10
open PySem L2 Evl SrtT
section
variable {f : Str} {ps : List Pr}
theorem rw_len : (rw_ f ps).length = (pw ps).length + 2 := rfl
theorem pw_size : (pw ps).length = 3 * ps.length - 1 := by
  by_cases e : ps = []
  · subst e; rfl
  · have := pw_len ps e
    omega
theorem gw_rw (j : Nat) : gw (rw_ f ps) (j + 2) = (pw ps).getD j mt := by
  unfold gw rw_
  rw [List.getD_cons_succ, List.getD_cons_succ]
theorem gw_pw {j : Nat} {z : Str} (h : (pw ps)[j]? = some z) : gw (rw_ f ps) (j + 2) = z := by
  rw [gw_rw, List.getD_eq_getElem?_getD, h]
  rfl
theorem rw_odd : ¬ Odd3 (rw_ f ps).length := by
  rw [rw_len, pw_size]
  unfold Odd3
  omega
theorem good_get (k : Nat) (h : k < ps.length) : ∃ p, ps[k]? = some p ∧ p ∈ ps := ⟨ps[k], List.getElem?_eq_getElem h, List.getElem_mem h⟩
theorem good_due (G : Good f ps) : Due (rw_ f ps) none := by
  refine ⟨fun i hi => ?_, rw_odd⟩
  rw [rw_len, pw_size] at hi
  match i, hi with
  | 0, _ => exact G.flag
  | 1, _ => exact decide_eq_true (show colon = colon from rfl)
  | i + 2, hi =>
    have hk : i / 3 < ps.length := by omega
    obtain ⟨p, hp, pm⟩ := good_get (ps := ps) (i / 3) hk
    obtain ⟨p1, p2, p3⟩ := pw_at ps (i / 3) p hp
    obtain ⟨o1, o2⟩ := G.ok p pm
    have := G.many
    unfold standB
    rw [if_neg (by omega), if_neg (by omega), show i + 2 - 2 = i by omega]
    rcases (by omega : i = 3 * (i / 3) ∨ i = 3 * (i / 3) + 1 ∨ i = 3 * (i / 3) + 2) with e | e | e
    · rw [if_pos (by omega)]
      have g1 : gw (rw_ f ps) (i + 2) = p.1 := gw_pw (by rw [show (pw ps)[i]? = (pw ps)[3 * (i / 3)]? from congrArg (fun z => (pw ps)[z]?) e]; exact p1)
      rw [g1, o1, Bool.true_and, Bool.and_eq_true, Bool.or_eq_true, decide_eq_true_iff, decide_eq_true_iff]
      refine ⟨by omega, ?_⟩
      by_cases z : i / 3 = 0
      · exact .inl z
      · obtain ⟨q, hq, _⟩ := good_get (ps := ps) (i / 3 - 1) (by omega)
        obtain ⟨q1, _, _⟩ := pw_at ps (i / 3 - 1) q hq
        have g2 : gw (rw_ f ps) (i + 2 - 3) = q.1 := by
          rw [show i + 2 - 3 = 3 * (i / 3 - 1) + 2 by omega]
          exact gw_pw q1
        rw [g2]
        have r := G.rise
        unfold Rise at r
        rw [List.pairwise_iff_getElem] at r
        have := r (i / 3 - 1) (i / 3) (by omega) hk (by omega)
        rw [List.getElem?_eq_getElem (by omega)] at hq
        rw [List.getElem?_eq_getElem hk] at hp
        rw [Option.some.inj hq, Option.some.inj hp] at this
        exact .inr this
    · rw [if_neg (by omega), if_pos (by omega)]
      rw [gw_pw (show (pw ps)[i]? = some p.2 by rw [show (pw ps)[i]? = (pw ps)[3 * (i / 3) + 1]? from congrArg (fun z => (pw ps)[z]?) e]; exact p2)]
      exact o2
    · rw [if_neg (by omega), if_neg (by omega)]
      rw [gw_pw (show (pw ps)[i]? = some comma by rw [show (pw ps)[i]? = (pw ps)[3 * (i / 3) + 2]? from congrArg (fun z => (pw ps)[z]?) e]; exact p3 (by omega))]
      exact decide_eq_true rfl
theorem pairs_rw : pairsOf (rw_ f ps) = ps := by
  unfold pairsOf
  refine List.ext_getElem? fun k => ?_
  rw [List.getElem?_map, rw_len, pw_size]
  have e : (3 * ps.length - 1 + 2 - 1) / 3 = ps.length := by omega
  rw [e]
  rcases Nat.lt_or_ge k ps.length with h | h
  · obtain ⟨p, hp, _⟩ := good_get (ps := ps) k h
    obtain ⟨p1, p2, _⟩ := pw_at ps k p hp
    rw [List.getElem?_range h, hp]
    show some (gw (rw_ f ps) (2 + 3 * k), gw (rw_ f ps) (3 + 3 * k)) = some p
    rw [show 2 + 3 * k = 3 * k + 2 by omega, show 3 + 3 * k = 3 * k + 1 + 2 by omega, gw_pw p1, gw_pw p2]
  · rw [List.getElem?_eq_none (by rw [List.length_range]; exact h), List.getElem?_eq_none h]
    rfl
theorem sgB_free {z : Str} {lo hi : Int} {s : Nat} (h : sgB z lo hi = true) (hs : s < 48) : s ∉ TL.tl z := sg_free (sgB_iff.mp h).1 hs
theorem colon_free : 32 ∉ TL.tl colon := by
  rw [show TL.tl colon = [58] by decide +kernel]
  decide
theorem comma_free : 32 ∉ TL.tl comma := by
  rw [show TL.tl comma = [44] by decide +kernel]
  decide
theorem pw_mem {z : Str} : ∀ {ps : List Pr}, z ∈ pw ps → z = comma ∨ ∃ p ∈ ps, z = p.1 ∨ z = p.2
  | [], h => by simp [pw] at h
  | [p], h => by
    rcases List.mem_cons.mp h with e | e
    · exact .inr ⟨p, List.mem_cons_self, .inl e⟩
    · exact .inr ⟨p, List.mem_cons_self, .inr (List.mem_singleton.mp e)⟩
  | p :: q :: r, h => by
    have h : z ∈ p.1 :: p.2 :: comma :: pw (q :: r) := h
    rcases List.mem_cons.mp h with e | e
    · exact .inr ⟨p, List.mem_cons_self, .inl e⟩
    · rcases List.mem_cons.mp e with e | e
      · exact .inr ⟨p, List.mem_cons_self, .inr e⟩
      · rcases List.mem_cons.mp e with e | e
        · exact .inl e
        · rcases pw_mem e with e | ⟨p', hp, e⟩
          · exact .inl e
          · exact .inr ⟨p', List.mem_cons_of_mem _ hp, e⟩
theorem good_free (G : Good f ps) : Free (rw_ f ps) := fun z hz => by
  rcases List.mem_cons.mp hz with rfl | hz
  · exact sgB_free G.flag (by decide)
  · rcases List.mem_cons.mp hz with rfl | hz
    · exact colon_free
    · rcases pw_mem hz with rfl | ⟨p, hp, rfl | rfl⟩
      · exact comma_free
      · exact sgB_free (G.ok p hp).1 (by decide)
      · exact sgB_free (G.ok p hp).2 (by decide)
theorem good_short (G : Good f ps) : ∀ z ∈ rw_ f ps, z.length ≤ 8 := fun z hz => by
  rcases List.mem_cons.mp hz with rfl | hz
  · have := sgB_iff.mp G.flag
    omega
  · rcases List.mem_cons.mp hz with rfl | hz
    · decide +kernel
    · rcases pw_mem hz with rfl | ⟨p, hp, rfl | rfl⟩
      · decide +kernel
      · have := sgB_iff.mp (G.ok p hp).1
        omega
      · have := sgB_iff.mp (G.ok p hp).2
        omega
end
/-! ### the text of a rule in the law's words -/
/-- w p , w p , .. -/
def pairTx (p : Pr) : Str := p.1 ++ " " ++ p.2
def toldTx (ps : List Pr) : Str := Txt.join " , " (ps.map pairTx)
def ruleTx (f : Str) (ps : List Pr) : Str := f ++ " :" ++ (if toldTx ps = mt then mt else " " ++ toldTx ps)
theorem tl_sp : TL.tl (" " : Str) = [32] := by decide +kernel
theorem tl_told : ∀ ps : List Pr, TL.tl (toldTx ps) = TL.joinL [32] ((pw ps).map TL.tl)
  | [] => by decide +kernel
  | [p] => by
    show TL.tl (p.1 ++ " " ++ p.2) = TL.tl p.1 ++ ([32] ++ TL.tl p.2)
    rw [TL.tl_append, TL.tl_append, tl_sp, List.append_assoc]
  | p :: q :: r => by
    have ih := tl_told (q :: r)
    have e1 : TL.tl (toldTx (p :: q :: r)) = TL.tl (pairTx p) ++ ([32, 44, 32] ++ TL.tl (toldTx (q :: r))) := by
      unfold toldTx
      rw [TL.join_eq, TL.join_eq, TL.tl_join, TL.tl_join, show TL.tl (" , " : Str) = [32, 44, 32] by decide +kernel]
      rfl
    obtain ⟨a, b, hab⟩ : ∃ a b, (pw (q :: r)).map TL.tl = a :: b := by
      cases r with
      | nil => exact ⟨_, _, rfl⟩
      | cons r1 r2 => exact ⟨_, _, rfl⟩
    have e2 : TL.joinL [32] ((pw (p :: q :: r)).map TL.tl) = TL.tl p.1 ++ ([32] ++ (TL.tl p.2 ++ ([32] ++ (TL.tl comma ++ ([32] ++ TL.joinL [32] ((pw (q :: r)).map TL.tl)))))) := by
      show TL.joinL [32] (TL.tl p.1 :: TL.tl p.2 :: TL.tl comma :: (pw (q :: r)).map TL.tl) = _
      rw [hab]
      rfl
    rw [e1, e2, ← ih, show TL.tl comma = [44] by decide +kernel]
    unfold pairTx
    rw [TL.tl_append, TL.tl_append, tl_sp]
    simp
theorem told_mt (ps : List Pr) (h : ∀ p ∈ ps, p.1.length ≠ 0) : (toldTx ps = mt) ↔ ps = [] := by
  constructor
  · intro e
    cases ps with
    | nil => rfl
    | cons p r =>
      have z := congrArg TL.tl e
      rw [tl_told, show TL.tl mt = [] by decide +kernel] at z
      have l := h p List.mem_cons_self
      rw [TL.len_tl] at l
      cases r with
      | nil =>
        have z : TL.tl p.1 ++ ([32] ++ TL.tl p.2) = [] := z
        simp at z
      | cons q r =>
        have z : TL.joinL [32] (TL.tl p.1 :: TL.tl p.2 :: TL.tl comma :: (pw (q :: r)).map TL.tl) = [] := z
        have z : TL.tl p.1 ++ ([32] ++ TL.joinL [32] (TL.tl p.2 :: TL.tl comma :: (pw (q :: r)).map TL.tl)) = [] := z
        simp at z
  · intro e
    subst e
    decide +kernel
theorem rule_tx {f : Str} {ps : List Pr} (h : ∀ p ∈ ps, p.1.length ≠ 0) : ruleTx f ps = tx (rw_ f ps) := by
  refine TL.ext_tl ?_
  unfold ruleTx
  rw [tl_tx]
  by_cases e : ps = []
  · rw [if_pos ((told_mt ps h).mpr e)]
    subst e
    rw [TL.tl_append, TL.tl_append, show TL.tl (" :" : Str) = [32, 58] by decide +kernel, show TL.tl mt = [] by decide +kernel]
    show TL.tl f ++ [32, 58] ++ [] = TL.tl f ++ ([32] ++ TL.tl colon)
    rw [show TL.tl colon = [58] by decide +kernel]
    simp
  · rw [if_neg (fun z => e ((told_mt ps h).mp z)), TL.tl_append, TL.tl_append, TL.tl_append, tl_told, tl_sp, show TL.tl (" :" : Str) = [32, 58] by decide +kernel]
    obtain ⟨a, b, hab⟩ : ∃ a b, (pw ps).map TL.tl = a :: b := by
      match ps, e with
      | [p], _ => exact ⟨_, _, rfl⟩
      | p :: q :: r, _ => exact ⟨_, _, rfl⟩
    show _ = TL.joinL [32] (TL.tl f :: TL.tl colon :: (pw ps).map TL.tl)
    rw [hab]
    show _ = TL.tl f ++ ([32] ++ (TL.tl colon ++ ([32] ++ TL.joinL [32] (a :: b))))
    rw [show TL.tl colon = [58] by decide +kernel]
    simp
end K10
/-! pure: the same over texts -/
namespace K10
open PySem L2 Evl SrtT Fr
abbrev mk (l : L) : Str := ⟨l.toArray⟩
theorem mk_len (l : L) : (mk l).length = l.length := by rw [TL.len_tl]
theorem mk_eq {z : Str} {l : L} (h : TL.tl z = l) : z = mk l := TL.ext_tl h
theorem mk_inj {l m : L} (h : mk l = mk m) : l = m := congrArg TL.tl h
theorem mk_app (l m : L) : mk l ++ mk m = mk (l ++ m) := mk_eq (TL.tl_append _ _)
def lp (ps : List Pr) : LP := ps.map fun p => (TL.tl p.1, TL.tl p.2)
theorem sgs_iff {z : Str} : Sg z = true ↔ Sgs (TL.tl z) := by
  unfold Sg Sgs
  rw [List.all_eq_true]
  constructor
  · exact fun h c hc => of_decide_eq_true (h c hc)
  · exact fun h c hc => decide_eq_true (h c hc)
theorem sg_mk {l : L} (h : Sgs l) : Sg (mk l) = true := sgs_iff.mpr h
theorem good_pok {f : Str} {ps : List Pr} (g : Good f ps) : Pok (lp ps) := by
  have all : ∀ q ∈ lp ps, ∃ p ∈ ps, q = (TL.tl p.1, TL.tl p.2) ∧ PairOk p := fun q hq => by
    obtain ⟨p, hp, rfl⟩ := List.mem_map.mp hq
    exact ⟨p, hp, rfl, g.ok p hp⟩
  refine ⟨fun q hq => ?_, fun q hq => ?_, fun q hq => ?_, fun q hq => ?_⟩
  all_goals obtain ⟨p, hp, rfl, ok⟩ := all q hq; have h1 := sgB_iff.mp ok.1; have h2 := sgB_iff.mp ok.2; rw [TL.len_tl] at h1 h2
  · show 1 ≤ (TL.tl p.1).length
    omega
  · show (TL.tl p.1).length ≤ 8
    omega
  · show (TL.tl p.2).length = 1
    omega
  · exact sgs_iff.mp h2.1
/-- the longest watch so far, and its put -/
def bestS (z : L) : List Pr → Pr → Pr
  | [], b => b
  | q :: r, b => bestS z r (if b.1.length < q.1.length ∧ TL.tl q.1 <:+ z then q else b)
theorem bestS_snoc {z : L} {q : Pr} : ∀ {ps : List Pr} {b : Pr}, bestS z (ps ++ [q]) b = if (bestS z ps b).1.length < q.1.length ∧ TL.tl q.1 <:+ z then q else bestS z ps b
  | [], _ => rfl
  | p :: r, _ => bestS_snoc (ps := r)
def tlp (p : Pr) : L × L := (TL.tl p.1, TL.tl p.2)
theorem bestS_tl (z : L) : ∀ (ps : List Pr) (b : Pr), tlp (bestS z ps b) = best z (lp ps) (tlp b)
  | [], _ => rfl
  | q :: r, b => by
    show tlp (bestS z r _) = best z (lp r) _
    rw [bestS_tl z r]
    congr 1
    have e : (b.1.length < q.1.length ∧ TL.tl q.1 <:+ z) ↔ ((tlp b).1.length < (TL.tl q.1, TL.tl q.2).1.length ∧ (TL.tl q.1, TL.tl q.2).1 <:+ z) := by
      rw [TL.len_tl, TL.len_tl]
      exact Iff.rfl
    by_cases h : b.1.length < q.1.length ∧ TL.tl q.1 <:+ z
    · rw [if_pos h, if_pos (e.mp h)]
      rfl
    · rw [if_neg h, if_neg fun y => h (e.mpr y)]
theorem bestS_mem {z : L} : ∀ {ps : List Pr} {b : Pr}, bestS z ps b = b ∨ bestS z ps b ∈ ps
  | [], _ => .inl rfl
  | q :: r, b => by
    show bestS z r _ = b ∨ bestS z r _ ∈ q :: r
    split
    · rcases bestS_mem (z := z) (ps := r) (b := q) with h | h
      · exact .inr (by rw [h]; exact List.mem_cons_self)
      · exact .inr (List.mem_cons_of_mem _ h)
    · rcases bestS_mem (z := z) (ps := r) (b := b) with h | h
      · exact .inl h
      · exact .inr (List.mem_cons_of_mem _ h)
def putS (ps : List Pr) (z : L) : Str := (bestS z ps (mt, mt)).2
theorem tl_mt : TL.tl mt = [] := by decide +kernel
theorem tl_putS (ps : List Pr) (z : L) : TL.tl (putS ps z) = putL (lp ps) z := by
  have e := bestS_tl z ps (mt, mt)
  have e0 : tlp (mt, mt) = ([], []) := by
    show (TL.tl mt, TL.tl mt) = _
    rw [tl_mt]
  rw [e0] at e
  exact congrArg Prod.snd e
theorem putS_mk (ps : List Pr) (z : L) : putS ps z = mk (putL (lp ps) z) := mk_eq (tl_putS ps z)
theorem putS_mt (ps : List Pr) (z : L) : putS ps z = mt ↔ putL (lp ps) z = [] := by
  rw [← tl_putS]
  constructor
  · intro h
    rw [h, tl_mt]
  · intro h
    exact TL.ext_tl (h.trans tl_mt.symm)
/-! ### endings and slices -/
theorem suffix_iff {w z : L} : w <:+ z ↔ w.length ≤ z.length ∧ z.drop (z.length - w.length) = w := by
  constructor
  · intro h
    exact ⟨h.length_le, (List.suffix_iff_eq_drop.mp h).symm⟩
  · rintro ⟨_, h⟩
    rw [← h]
    exact List.drop_suffix _ _
theorem ends_is (a b : Str) : Txt.endswith a b = decide (TL.tl b <:+ TL.tl a) := by
  rw [← PyProof.Rows.ends_fact (b := Txt.endswith a b) rfl rfl, PySem.StrLaws.subAt_eq, Bool.eq_iff_iff, Bool.and_eq_true, decide_eq_true_iff, decide_eq_true_iff, beq_iff_eq, suffix_iff, TL.len_tl a, TL.len_tl b, Nat.zero_add]
  constructor
  · rintro ⟨h1, h2⟩
    refine ⟨h1, ?_⟩
    rw [List.take_of_length_le (by rw [List.length_drop]; show (TL.tl a).length - _ ≤ _; omega)] at h2
    exact h2
  · rintro ⟨h1, h2⟩
    refine ⟨h1, ?_⟩
    rw [List.take_of_length_le (by rw [List.length_drop]; show (TL.tl a).length - _ ≤ _; omega)]
    exact h2
theorem tl_cut (z : Str) (lo hi : Option Int) : TL.tl (cutS z lo hi) = ((TL.tl z).drop (HT.sIx z.length 0 lo)).take (HT.sIx z.length z.length hi - HT.sIx z.length 0 lo) := rfl
theorem sIx_neg (n d k : Nat) (hk : 0 < k) : HT.sIx n d (some (-(k : Int))) = n - k := by
  show (if -(k : Int) < 0 then (-(k : Int) + (n : Int)).toNat else min (-(k : Int)).toNat n) = n - k
  rw [if_pos (by omega)]
  omega
/-- z[-k:] -/
theorem tl_last (z : Str) (k : Nat) (hk : 0 < k) : TL.tl (cutS z (some (-(k : Int))) none) = (TL.tl z).drop (z.length - k) := by
  rw [tl_cut, sIx_neg _ _ _ hk, HT.sIx_none]
  exact List.take_of_length_le (by rw [List.length_drop, ← TL.len_tl]; exact Nat.le_refl _)
theorem last8 (z : Str) : TL.tl (cutS z (some (-8)) none) = tail8 (TL.tl z) := by
  have := tl_last z 8 (by decide)
  rw [TL.len_tl] at this
  exact this
theorem last_is {z w : Str} (hw : w.length ≠ 0) : (cutS z (some (-(w.length : Int))) none = w) ↔ TL.tl w <:+ TL.tl z := by
  have e := tl_last z w.length (by omega)
  rw [suffix_iff, ← TL.len_tl, ← TL.len_tl]
  constructor
  · intro h
    rw [h] at e
    have l := congrArg List.length e
    rw [List.length_drop, ← TL.len_tl, ← TL.len_tl] at l
    exact ⟨by omega, e.symm⟩
  · rintro ⟨_, h⟩
    exact TL.ext_tl (e.trans h)
/-- z[:k], z[i:j], z[k:] -/
theorem tl_first (z : Str) (k : Nat) : TL.tl (cutS z none (some (k : Int))) = (TL.tl z).take k := by
  rw [tl_cut, HT.sIx_none, HT.sIx_nat, List.drop_zero, Nat.sub_zero, TL.len_tl]
  rw [List.take_eq_take_iff]
  omega
theorem tl_part (z : Str) (i j : Nat) : TL.tl (cutS z (some (i : Int)) (some (j : Int))) = ((TL.tl z).drop i).take (j - i) := by
  rw [tl_cut, HT.sIx_nat, HT.sIx_nat, TL.len_tl]
  rcases Nat.le_total i (TL.tl z).length with h | h
  · rw [Nat.min_eq_left h, List.take_eq_take_iff, List.length_drop]
    omega
  · rw [Nat.min_eq_right h, List.drop_length, List.drop_of_length_le h, List.take_nil, List.take_nil]
theorem tl_rest (z : Str) (k : Nat) : TL.tl (cutS z (some (k : Int)) none) = (TL.tl z).drop k := by
  rw [tl_cut, HT.sIx_nat, HT.sIx_none, TL.len_tl, List.take_of_length_le (by rw [List.length_drop]; exact Nat.le_refl _)]
  rcases Nat.le_total k (TL.tl z).length with h | h
  · rw [Nat.min_eq_left h]
  · rw [Nat.min_eq_right h, List.drop_length, List.drop_of_length_le h]
end K10
/-! str of an own instance; str of an int or a text; C.m() of a static method; o.m(k = v) -/
namespace OwX
open PySem PySem.Spec PyProof.Rows L2 ClX StX
/-- a class's own __str__ -/
structure StrIn (K : PySem.W.Frag) (C g : Addr) : Prop where
  there : PySem.W.findIn K (.ref C) "__str__" = some (some (.ref g))
  isDef : PySem.W.isFn K (.ref g) = true
section
variable {X : Cx} {CX : CXT} {n : Nat} {C g : Addr} {sp : Sp} {E : XK}
theorem call_strI (c : StrIn X.K C g) (F : FnR X.prog X.w X.K X.mg X.base CX n g sp) (hr : Room (n + 2) X.A) (hx : Passes CX X E) :
    CallR X (.type "str") (fun xs H Q => ∃ a, xs = [.ref a] ∧ InsC X H a C ∧ sp [.ref a] H (fun v H' => ∃ y, v = .str y ∧ Q v H') E) := by
  intro pins s σ H xs us Q I r h
  obtain ⟨a, rfl, ha, q⟩ := h
  obtain ⟨u, rfl, ru⟩ := vals1 r
  cases (show u = Value.ref a from ru)
  obtain ⟨ox, od, J, _⟩ := insC_at I ha
  refine PySem.W.kso_call hr.in1.in1.units0 I.kIn J c.there c.isDef ?_
  refine wpAny_mono (wpAny_call (SlX.run_at (us := [.ref a]) (ws := [.ref a]) F hr.in1.in1 I.env0.in1.in1 hx I (.cons rfl .nil) q)) (fun v s' back => ?_) fun _ _ z => z
  obtain ⟨v', H', I', rv, y, ey, qy⟩ := back
  subst ey
  obtain ⟨t, et⟩ := (show ∃ t, v = Value.str y t from rv)
  subst et
  exact ⟨.str y, H', I', ⟨t, rfl⟩, qy⟩
/-- of an int that is not too long, and of a text -/
theorem call_strV : CallR X (.type "str") (fun xs H Q => (∃ i, xs = [.int i] ∧ i.natAbs.log2 < 1920 ∧ Q (.str (toString i)) H) ∨ ∃ a, xs = [.str a] ∧ Q (.str a) H) := fun pins s σ H xs us Q I r h =>
  h.elim (fun hi => call_str_int pins s σ H xs us Q I r hi) fun ha => SkE.call_str_str pins s σ H xs us Q I r ha
end
section
variable {X : Cx} {k : Nat} {C p f : Addr} {mc : Value} {fd : FuncData} {ps ks : List Str} {sp : Sp} {o : Expr} {m : Str} {pos apos : Pos} {ta : TE} {tk : TA} {pl : Sem Bool} {kws : List Keyword} {g : List Value → List Value → List Value} {gV : List V → List V → List V}
/-- o.m(k = v, ..), keywords alone -/
theorem pe_methKw (he : PE X o ta) (c : Cls X.K C) (hm : Meth X.K C m f) (F : FnOk X.prog X.w X.K X.mg X.base CX0 k f fd ps sp) (hr : Room k X.A) (hb : KBn X.K fd ps 1 ks g gV) (hkw : PK X kws tk)
    (some_ : (backToKw pos (keywordEach kws X.env)).all (·.1.isSome) = true := by rfl) (names : (backToKw pos (keywordEach kws X.env)).filterMap (·.1) = ks := by rfl)
    (none_ : ((backTo pos (starEach [] X.env)).any (·.1) || (backToKw pos (keywordEach kws X.env)).any (·.1.isNone)) = false := by rfl)
    (form : eval (.Call (.Attribute o m apos) [] kws pos) X.env = (do let ov ← eval o X.env; standAt apos.atName; let (f, first) ← holding [ov] (getMethod ov m pl); callWith pos f first (backTo pos (starEach [] X.env)) (backToKw pos (keywordEach kws X.env))) := by rfl) :
    PE X (.Call (.Attribute o m apos) [] kws pos) (fun σ H Q => ta σ H fun x H1 => ∃ a dx fs, x = .ref a ∧ H1 a = some (.ins C dx fs) ∧ fs.lookup m = none ∧ tk σ H1 fun zs H2 => zs.length = ks.length ∧ sp (gV [.ref a] zs) H2 Q E0) := by
  refine ⟨fun pins s σ H Q I h => PySem.W.methodCall_KW (pl := pl) (thn (he.run pins s σ H _ I h) fun u s1 ⟨x, H1, J, rx, a, dx, fs, ex, ea, l, q⟩ => ?_) form⟩
  subst ex
  cases (show u = Value.ref a from rx)
  refine getmeth_ok J ea c hm l (PySem.W.callWith_KW0 (first := [.ref a]) (h₀ := X.base) J.ok.mod.kin hm.kp some_ ?_ none_)
  refine thn (hkw.run pos pins s1 σ H1 _ J q) fun ws s2 ⟨zs, H2, J2, rz, l2, q2⟩ => ⟨J2.kIn, ?_⟩
  rw [names]
  exact run_fnN (us := [.ref a]) (vs := [.ref a]) F hr hb pass0 J2 (.cons rfl .nil) rz rfl l2 q2
end
end OwX
/-! C.m(k = v) of a class method; x(e, ..), x a name of the def that holds a class -/
namespace ClK
open PySem PySem.Spec PyProof.Rows L2 ClX StX
section
variable {X : Cx} {CX : CXT} {k : Nat} {C p g f : Addr} {mc : Value} {fd : FuncData} {ps ks : List Str} {sp : Sp} {E : XK} {o e : Expr} {es : List Expr} {x m : Str} {pos apos p1 : Pos} {ta : TE} {tk t : TA} {pl : Sem Bool} {kws : List Keyword} {gg : List Value → List Value → List Value} {gV : List V → List V → List V} {i : Nat}
/-- C.m(k = v, ..), keywords alone, m a class method -/
theorem pe_cmethK (he : PE X o ta) (r : CRead X.K C mc) (c : CMet X.K C mc m p g) (F : FnOk X.prog X.w X.K X.mg X.base CX k g fd ps sp) (hr : Room k X.A) (hx : Passes CX X E) (hb : KBn X.K fd ps 1 ks gg gV) (hkw : PK X kws tk)
    (some_ : (backToKw pos (keywordEach kws X.env)).all (·.1.isSome) = true := by rfl) (names : (backToKw pos (keywordEach kws X.env)).filterMap (·.1) = ks := by rfl)
    (none_ : ((backTo pos (starEach [] X.env)).any (·.1) || (backToKw pos (keywordEach kws X.env)).any (·.1.isNone)) = false := by rfl)
    (form : eval (.Call (.Attribute o m apos) [] kws pos) X.env = (do let ov ← eval o X.env; standAt apos.atName; let (f, first) ← holding [ov] (getMethod ov m pl); callWith pos f first (backTo pos (starEach [] X.env)) (backToKw pos (keywordEach kws X.env))) := by rfl) :
    PE X (.Call (.Attribute o m apos) [] kws pos) (fun σ H Q => ta σ H fun x H1 => x = .ref C ∧ tk σ H1 fun zs H2 => zs.length = ks.length ∧ sp (gV [.ref C] zs) H2 Q E) := by
  refine ⟨fun pins s σ H Q I h => PySem.W.methodCall_KW (pl := pl) (thn (he.run pins s σ H _ I h) fun u s1 ⟨x, H1, I1, rx, ex, q⟩ => ?_) form⟩
  subst ex
  cases (show u = Value.ref C from rx)
  refine getmethcm_ok I1 r c fun s2 I2 => ?_
  refine PySem.W.callWith_of (P := PySem.W.MethP X.K s1.heap.objs.size g (.ref C)) none_ (PySem.W.keeps_M c.fi) (PyProof.Rows.evalArgs_kw2_nil some_ (thn (hkw.run pos _ s2 σ H1 _ I2 q) fun ws s3 ⟨zs, H2, I3, rz, l2, q2⟩ => ⟨⟨pin_at I3, I3.kIn⟩, ?_⟩))
  rw [names]
  have went : wpAny (model X.prog X.w) X.A (call (.ref s1.heap.objs.size) [] (ks.zip ws)) (EP X ((s1.heap.objs.size, PySem.W.methodObj (.ref g) (.ref C)) :: pins) σ Q) X.xe s3 := by
    refine wpAny_call (PySem.W.method_call (pin_at I3) (codeAny_mono (F.run X.A X.stack s3 H2 ⟨[.ref C], ks.zip ws⟩ (gg [.ref C] ws) (gV [.ref C] zs) Q E hr I3.env0 (hb.to s3 [.ref C] ws I3.kIn rfl (rz.length.symm.trans l2)) (hb.rel (.cons rfl .nil) rz) q2) fun r s' back => ?_))
    match r, back with
    | .error er, z => exact hx _ _ _ _ _ _ I3 z
    | .ok (.ret u), z => exact I3.after z
    | .ok .next, z => exact z.elim
    | .ok .brk, z => exact z.elim
    | .ok .cont, z => exact z.elim
  exact thn went fun _ _ y => unpinE y
/-- x(e, ..), x a name of the def (slot i) that holds the class at C -/
def tMakeL (i : Nat) (C : Addr) (sp : Sp) (E : XK) (t : TA) : TE := fun σ H Q => σ[i]? = some (some (.ref C)) ∧ tMakeR C sp E t σ H Q
theorem pe_makeL (M : Mk X.K C f) (F : FnR X.prog X.w X.K X.mg X.base CX k f sp) (hr : Room (k + 1) X.A) (hN : X.N[i]? = some x) (hv : Vis X.env.scope x) (hx : Passes CX X E) (ha : PA X (e :: es) t)
    (notDebug : (x == ("__debug__" : Str)) = false := by decide) (notDict : (x == ("__classdict__" : Str)) = false := by decide)
    (head : starEach (e :: es) X.env = (false, eval e X.env) :: starEach es X.env := by rfl) (plain : (backTo pos (starEach es X.env)).any (·.1) = false := by rfl) : PE X (.Call (.Name x p1) (e :: es) [] pos) (tMakeL i C sp E t) := by
  refine ⟨fun pins s σ H Q I ⟨hs, h⟩ => ?_⟩
  refine wpAny_Call_Name_kw (thn ((pe_var (pos := p1) (i := i) hN hv notDebug notDict).run pins s σ H (fun v H1 => v = .ref C ∧ H1 = H) I ⟨.ref C, hs, rfl, rfl⟩) fun u s1 ⟨v, H1, I1, r1, ev, eH⟩ => ?_)
  subst ev eH
  cases (show u = Value.ref C from r1)
  exact PySem.W.callWith_K (h₀ := X.base) I1.ok.mod.kin M.kp (thn (ha.run pos pins s1 σ _ _ I1 h) fun us s2 ⟨vs, H2, I2, r, q⟩ => ⟨I2.kIn, run_makeR M F hr hx I2 r q⟩) head plain
end
/-- nothing is let out where nothing is wished -/
theorem passN {P : Program} {w : World} {X : Cx} (hp : X.prog = P) (hw : X.w = w) : Passes (L2.CX P w) X E0 := fun _ _ _ _ _ _ _ ⟨_, _, _, _, _, _, _, _, _, _, _, _, z⟩ => z.elim
end ClK
/-! operators of own classes, for instances with a dict or with slots -/
namespace OpX
open PySem PySem.Spec PyProof.Rows L2 StX
section
variable {prog : Program} {w : World} {A : Around} {E : Value → Shared → Prop} {s : Shared} {K : PySem.W.Frag} {x y C f L : Addr} {h₀ : Heap} {m : Str → Option Value} {ox oy : Obj} {od od' : Option Obj}
/-- some answer came -/
def Told (Q : Value → Shared → Prop) (r : Option Value) (s' : Shared) : Prop := ∃ v, r = some v ∧ Q v s'
/-- what an operator's first try told is the operator's word -/
theorem told_pure {M : Model} {B : Around} {F : Value → Shared → Prop} {Q : Value → Shared → Prop} {t : Sem (Option Value)} {k : Option Value → Sem Value} {s' : Shared} (h : wpAny M B t (Told Q) F s') (hk : ∀ v, k (some v) = pure v) : wpAny M B (t >>= k) Q F s' :=
  wpAny_bind (wpAny_mono h (fun r s'' ⟨v, e, q⟩ => by rw [e, hk]; exact wpAny_pure q) fun _ _ z => z)
open Builtin in
/-- object's own != asks the class's == and turns its bool about -/
theorem turned {Q : Value → Shared → Prop} {b : Value} (hu : A.in1.units < cLine) (X : K.In s.heap) (I : PySem.W.InstAt s.heap x ox C od) (hm : PySem.W.mroIn K C (.type "object") = some true)
    (hs : PySem.W.findIn K (.ref C) "__eq__" = some (some (.ref f))) (hf : PySem.W.isFn K (.ref f) = true)
    (h : wpAny (model prog w) A.in1 (call (.ref f) [.ref x, b]) (fun r s' => ∃ c, r = .bool c ∧ Q (.bool (!c)) s') E s) : wpAny (model prog w) A (call (.builtin "object.__ne__") [.ref x, b]) Q E s := by
  refine wpAny_call (codeAny_call_builtin PySem.F.slot_object_ne.plain PySem.F.entry_object_ne (PySem.W.check_slot (i := "object.__ne__") (owner := "object") (n := "__ne__") (by decide +kernel) (by decide +kernel) (I.type.andThen (PySem.W.looks_mroIn X hm)) (PySem.F.args_object_ne_2 _ _) ?_))
  show wpAny _ _ (Builtin.«object.__ne__» _) _ _ _
  unfold Builtin.«object.__ne__»
  exact wpAny_bind (m := slotArgs "__ne__" 1 _) (wpAny_pure (wpAny_bind (m := cRoomFor _ _) (wpAny_cRoomFor hu (wpAny_bind (m := callSpecialIfBound? (.ref x) (Str.ofString "__eq__") _)
    (PySem.W.ifBound_K X I hs hf (wpAny_mono h (fun r s' ⟨c, e, q⟩ => by
      subst e
      exact wpAny_bind (m := truthy (.bool c)) (wpAny_truthy_bool (wpAny_pure q))) fun _ _ z => z))))))
/-- x != y, both of one class that has an own == and object's != -/
theorem ne_same {Q : Value → Shared → Prop} (hu : A.units < cLine) (hu1 : A.in1.units < cLine) (X : K.In s.heap) (I : PySem.W.InstAt s.heap x ox C od) (J : PySem.W.InstAt s.heap y oy C od')
    (hne : PySem.W.findIn K (.ref C) "__ne__" = some (some (.builtin "object.__ne__"))) (hm : PySem.W.mroIn K C (.type "object") = some true) (hs : PySem.W.findIn K (.ref C) "__eq__" = some (some (.ref f))) (hf : PySem.W.isFn K (.ref f) = true)
    (h : wpAny (model prog w) A.in1 (call (.ref f) [.ref x, .ref y]) (fun r s' => ∃ c, r = .bool c ∧ Q (.bool (!c)) s') E s) : wpAny (model prog w) A (richCompare .NotEq (.ref x) (.ref y)) Q E s := by
  have word := turned (Q := fun v s' => Q v s' ∧ ∃ c, v = .bool c) hu1 X I hm hs hf (wpAny_mono h (fun r s' ⟨c, e, q⟩ => ⟨c, e, q, _, rfl⟩) fun _ _ z => z)
  have bnd : PySem.W.Looks (model prog w) s.heap (bindSpecial (.builtin "object.__ne__") (.ref x)) (.builtin "object.__ne__", [.ref x]) := PySem.W.Looks.of_pure (PySem.F.slot_object_ne.bind _)
  have asked : wpAny (model prog w) A (call (.builtin "object.__ne__") ([.ref x] ++ [.ref y]) >>= fun v => pure (some v)) (Told fun v s' => Q v s' ∧ ∃ c, v = .bool c) E s := wpAny_bind (wpAny_mono word (fun v s' q => wpAny_pure ⟨v, rfl, q⟩) fun _ _ z => z)
  have tried : wpAny (model prog w) A (tryCompare (.ref x) (cmpInfo .NotEq).2.1 (.ref y)) (Told Q) E s := by
    unfold tryCompare callSpecialIfBound? bindSpecialIfBound?
    refine wpAny_bind (wpAny_holding (wpAny_bind (wpAny_bind (wpAny_bind (I.type.here ((PySem.W.looks_findIn X hne).here (wpAny_bind (wpAny_askSetting (wpAny_ite ?_)))))))))
    split
    · refine wpAny_bind (bnd.here (wpAny_pure ?_))
      exact wpAny_mono asked (fun r s' ⟨v, e, q, c, ec⟩ => by
        subst e ec
        exact wpAny_pure ⟨_, rfl, q⟩) fun _ _ z => z
    · refine wpAny_tryCatch (wpAny_bind (bnd.here (wpAny_pure ?_)))
      exact wpAny_mono asked (fun r s' ⟨v, e, q, c, ec⟩ => by
        subst e ec
        exact wpAny_pure ⟨_, rfl, q⟩) fun _ _ z => z
  have same : (Value.ref C != Value.ref C) = false := by simp
  unfold richCompare
  rw [oneThing_ref]
  refine wpAny_holding (wpAny_bind (wpAny_cRoomFor hu (wpAny_bind (I.type.here (wpAny_bind (J.type.here ?_))))))
  rw [same, if_neg Bool.false_ne_true]
  exact wpAny_bind (wpAny_pure (told_pure tried fun _ => rfl))
end
section
variable {X : Cx} {CX : CXT} {n : Nat} {C g : Addr} {sp : Sp} {E : XK}
/-- x op y: both of the class at C -/
def rS (X : Cx) (C : Addr) (sp : Sp) (E : XK) : R2 := fun x y H Q => ∃ a b, x = .ref a ∧ y = .ref b ∧ InsC X H a C ∧ InsC X H b C ∧ sp [.ref a, .ref b] H Q E
/-- x op i: x of the class at C, i an int -/
def rI (X : Cx) (C : Addr) (sp : Sp) (E : XK) : R2 := fun x y H Q => ∃ a i, x = .ref a ∧ y = .int i ∧ InsC X H a C ∧ sp [.ref a, .int i] H Q E
/-- i op x: the reflected one -/
def rR (X : Cx) (C : Addr) (sp : Sp) (E : XK) : R2 := fun x y H Q => ∃ a i, x = .int i ∧ y = .ref a ∧ InsC X H a C ∧ sp [.ref a, .int i] H Q E
/-- the def of an operator -/
structure Has (K : PySem.W.Frag) (C g : Addr) (name : Str) : Prop where
  at_ : PySem.W.findIn K (.ref C) name = some (some (.ref g))
  fn : PySem.W.isFn K (.ref g) = true
theorem run_own {pins : List (Addr × Obj)} {σ : L2.St} {H : Hp} {s : Shared} {Q : VK} {us : List Value} {vs : List V} (F : FnR X.prog X.w X.K X.mg X.base CX n g sp) (hr : Room n X.A) (hx : Passes CX X E) (I : Inv X pins σ H s) (r : Vals vs us)
    (q : sp vs H Q E) : wpAny (model X.prog X.w) X.A (call (.ref g) us) (PySem.W.CmpBack (EP X pins σ Q)) X.xe s := by
  refine wpAny_mono (wpAny_call (run_fnR F hr hx I r q)) (fun w s' z => ?_) fun _ _ x => x
  obtain ⟨z', H', I', rz, qz⟩ := z
  exact SlX.cmpback rz ⟨z', H', I', rz, qz⟩
theorem op_binS {op : Operator} (hc : PySem.W.selfFirst X.K C = true) (h : Has X.K C g (PySem.dunder op.info.2)) (F : FnR X.prog X.w X.K X.mg X.base CX n g sp) (hr : Room n X.A) (hx : Passes CX X E) :
    OpR X (binaryOp op) (rS X C sp E) := by
  intro pins s σ H x y v u Q I rx ry hq
  obtain ⟨a, b, rfl, rfl, ha, hb, q⟩ := hq
  cases (show v = Value.ref a from rx)
  cases (show u = Value.ref b from ry)
  obtain ⟨ox, od, J, _⟩ := insC_at I ha
  obtain ⟨ox', od', J', _⟩ := insC_at I hb
  obtain ⟨m, hF⟩ := I.fr
  exact PySem.W.binop_K hF I.ok.mod.kin J J'.type hc h.at_ h.fn (run_own (us := [.ref a, .ref b]) (vs := [.ref a, .ref b]) F hr hx I (.cons rfl (.cons rfl .nil)) q)
theorem op_binI {op : Operator} {fo ro rc : Option Value} (hc : PySem.W.selfFirst X.K C = true) (h : Has X.K C g (PySem.dunder op.info.2)) (hrf : PySem.W.findIn X.K (.ref C) (dunderR op.info.2) = some rc) (hp : rc = none ∨ ∃ g : Addr, rc = some (.ref g))
    (h1 : PySem.W.findIn X.K (.type "int") (PySem.dunder op.info.2) = some fo) (h2 : PySem.W.findIn X.K (.type "int") (dunderR op.info.2) = some ro) (hsub : PySem.W.subIn X.K (.type "int") (.ref C) = some false)
    (F : FnR X.prog X.w X.K X.mg X.base CX n g sp) (hr : Room n X.A) (hx : Passes CX X E) : OpR X (binaryOp op) (rI X C sp E) := by
  intro pins s σ H x y v u Q I rx ry hq
  obtain ⟨a, i, rfl, rfl, ha, q⟩ := hq
  cases (show v = Value.ref a from rx)
  obtain ⟨t, e⟩ := (show ∃ t, u = Value.int i t from ry)
  subst e
  obtain ⟨ox, od, J, _⟩ := insC_at I ha
  obtain ⟨m, hF⟩ := I.fr
  exact PySem.W.ksp_binT (T := "int") hF I.ok.mod.kin J rfl hc h.at_ h.fn hrf hp h1 h2 hsub (run_own (us := [.ref a, .int i t]) (vs := [.ref a, .int i]) F hr hx I (.cons rfl (.cons ⟨t, rfl⟩ .nil)) q)
/-- x == y: x of the class at C; y an instance of a class that is not below C -/
def rEqO (X : Cx) (C : Addr) (sp : Sp) (E : XK) : R2 := fun x y H Q => ∃ a b C', x = .ref a ∧ y = .ref b ∧ InsC X H a C ∧ InsC X H b C' ∧ PySem.W.notFirst X.K C (.ref C') = true ∧ sp [.ref a, .ref b] H Q E
theorem op_eqO {op : CmpOp} (hop : ∀ a b, compareOp op a b = richCompare op a b) (h : Has X.K C g (cmpInfo op).2.1) (F : FnR X.prog X.w X.K X.mg X.base CX n g sp)
    (hr : Room n X.A) (hx : Passes CX X E) : OpR X (compareOp op) (rEqO X C sp E) := by
  intro pins s σ H x y v u Q I rx ry hq
  obtain ⟨a, b, C', rfl, rfl, ha, hb, hn, q⟩ := hq
  cases (show v = Value.ref a from rx)
  cases (show u = Value.ref b from ry)
  obtain ⟨ox, od, J, _⟩ := insC_at I ha
  obtain ⟨ox', od', J', _⟩ := insC_at I hb
  obtain ⟨m, hF⟩ := I.fr
  rw [hop]
  exact PySem.W.cmp_K (op := op) (tb := .ref C') hr.units0 hF I.ok.mod.kin J J'.type hn h.at_ h.fn (run_own (us := [.ref a, .ref b]) (vs := [.ref a, .ref b]) F hr hx I (.cons rfl (.cons rfl .nil)) q)
/-- x != y, both of the class at C, which has an own == -/
def rNeO (X : Cx) (C : Addr) (sp : Sp) (E : XK) : R2 := fun x y H Q => ∃ a b, x = .ref a ∧ y = .ref b ∧ InsC X H a C ∧ InsC X H b C ∧ sp [.ref a, .ref b] H (fun v H' => ∃ c, v = .bl c ∧ Q (.bl (!c)) H') E
theorem op_neO (h : Has X.K C g "__eq__") (hne : PySem.W.findIn X.K (.ref C) "__ne__" = some (some (.builtin "object.__ne__"))) (hm : PySem.W.mroIn X.K C (.type "object") = some true) (F : FnR X.prog X.w X.K X.mg X.base CX n g sp)
    (hr : Room (n + 1) X.A) (hx : Passes CX X E) : OpR X (compareOp .NotEq) (rNeO X C sp E) := fun pins s σ H x y v u Q I rx ry ⟨a, b, ex, ey, ha, hb, q⟩ => by
  subst ex ey
  cases (show v = Value.ref a from rx)
  cases (show u = Value.ref b from ry)
  obtain ⟨ox, od, J, _⟩ := insC_at I ha
  obtain ⟨ox', od', J', _⟩ := insC_at I hb
  refine ne_same hr.units0 hr.in1.units0 I.kIn J J' hne hm h.at_ h.fn (wpAny_mono (wpAny_call (SlX.run_at (us := [.ref a, .ref b]) (ws := [.ref a, .ref b]) F hr.in1 I.env0.in1 hx I (.cons rfl (.cons rfl .nil)) q)) (fun r s' back => ?_) fun _ _ z => z)
  obtain ⟨_, H', I', rr, c, ec, qc⟩ := back
  subst ec
  cases (show r = Value.bool c from rr)
  exact ⟨c, rfl, .bl (!c), H', I', rfl, qc⟩
end
end OpX
/-! operators of own classes: an int on the left, +=, in, len, truth, [] -/
namespace OpX
open PySem PySem.Spec PyProof.Rows L2 StX
section
variable {prog : Program} {w : World} {A : Around} {E : Value → Shared → Prop} {s : Shared} {K : PySem.W.Frag} {x C f L : Addr} {h₀ : Heap} {m : Str → Option Value} {ox : Obj} {od : Option Obj} {b tb : Value}
open Builtin in
/-- an int does not know an instance -/
theorem intMul_ref {Q : Value → Shared → Prop} {i : Int} {t : Tok} (ho : s.heap.get? x = some ox) (hd : ox.data = .plain) (h : Q .notImplemented s) : wpAny (model prog w) A (call (.builtin "int.__mul__") [.int i t, .ref x]) Q E s := by
  refine wpAny_call (codeAny_call_builtin PySem.F.slot_int_mul.plain PySem.F.entry_int_mul (PySem.F.slot_int_mul.check _ _ _ _ _ _ _ _ (typeIs_int _ _ _) (PySem.F.args_int_mul_2 _ _) ?_))
  unfold Builtin.«int.__mul__»
  unfold Int.intBinary
  refine wpAny_bind (m := slotArgs "__mul__" 1 _) (wpAny_pure ?_)
  refine wpAny_bind (m := Int.intOfSelf _) (wpAny_bind (m := asInt? _) (wpAny_pure (wpAny_pure ?_)))
  refine wpAny_bind (m := asInt? (.ref x)) (wpAny_bind (wpAny_load ho ?_))
  rw [hd]
  exact wpAny_pure (wpAny_bind (wpAny_rule (wpAny_pure h)))
/-- i * x, x of a class with * on both sides: an int declines, the class's reflected one is asked -/
theorem bin1_rint {i : Int} {t : Tok} {g : Addr} {Q : Value → Shared → Prop} (X : K.In s.heap) (I : PySem.W.InstAt s.heap x ox C od) (hd : ox.data = .plain) (hc : PySem.W.selfFirst K C = true) (hm : PySem.W.findIn K (.ref C) (PySem.dunder "mul") = some (some (.ref g)))
    (hs : PySem.W.findIn K (.ref C) (dunderR "mul") = some (some (.ref f))) (hf : PySem.W.isFn K (.ref f) = true) (hsub : PySem.W.subIn K (.ref C) (.type "int") = some false)
    (h : wpAny (model prog w) A (call (.ref f) [.ref x, .int i t]) (PySem.W.CmpBack Q) E s) : wpAny (model prog w) A (binaryOp1 "mul" (.int i t) (.ref x)) (Told Q) E s := by
  obtain ⟨cd, rest, hcd, hmm⟩ := PySem.W.ksp_first hc
  have mine := PySem.W.fills_K (M := model prog w) X hcd hmm hm
  have apart := PySem.W.looks_subIn (M := model prog w) X hsub
  have plainInt : numberSlotInPython (.type "int") "mul" = pure false := rfl
  have unlike : (Value.type "int" == Value.ref C) = false := by simp
  have answer := PySem.W.ksp_try (name := dunderR "mul") X I hs hf h
  unfold binaryOp1
  refine wpAny_bind (wpAny_typeOf (typeIs_int _ _ _) (wpAny_bind (I.type.here (wpAny_bind (wpAny_of_eq PySem.F.fills_int_mul ?_)))))
  simp only [unlike, Bool.false_eq_true, if_false]
  refine wpAny_bind (mine.here ?_)
  simp only [Bool.and_self, if_true]
  refine wpAny_bind (apart.here ?_)
  simp only [plainInt, Bool.not_false, Bool.and_self, Bool.false_eq_true, if_true, if_false, pure_bind]
  refine wpAny_bind (wpAny_tryMethod_declines (typeIs_int _ _ _) PySem.F.slot_int_mul (intMul_ref I.at_ hd ⟨rfl, ?_⟩))
  simp only [pure_bind]
  exact wpAny_bind (wpAny_mono answer (fun r s' ⟨v, e, q⟩ => by
    subst e
    exact wpAny_bind (wpAny_rule (wpAny_pure ⟨v, rfl, q⟩))) fun _ _ z => z)
/-- x op y, both of one class with an own op -/
theorem bin1_same {nm : String} {y : Addr} {oy : Obj} {od' : Option Obj} {Q : Value → Shared → Prop} (X : K.In s.heap) (I : PySem.W.InstAt s.heap x ox C od) (J : PySem.W.InstAt s.heap y oy C od') (hc : PySem.W.selfFirst K C = true)
    (hs : PySem.W.findIn K (.ref C) (PySem.dunder nm) = some (some (.ref f))) (hf : PySem.W.isFn K (.ref f) = true) (h : wpAny (model prog w) A (call (.ref f) [.ref x, .ref y]) (PySem.W.CmpBack Q) E s) :
    wpAny (model prog w) A (binaryOp1 nm (.ref x) (.ref y)) (Told Q) E s := by
  obtain ⟨cd, rest, hcd, hmm⟩ := PySem.W.ksp_first hc
  have answer := PySem.W.ksp_try (name := PySem.dunder nm) X I hs hf h
  have alike : (Value.ref C == Value.ref C) = true := by simp
  unfold binaryOp1
  refine wpAny_bind (I.type.here (wpAny_bind (J.type.here (wpAny_bind ((PySem.W.fills_K (M := model prog w) X hcd hmm hs).here ?_)))))
  simp only [alike, pure_bind, Bool.and_false, Bool.false_and, Bool.false_eq_true, if_true, if_false]
  exact wpAny_bind (wpAny_mono answer (fun r s' ⟨v, e, q⟩ => by
    subst e
    exact wpAny_pure ⟨v, rfl, q⟩) fun _ _ z => z)
theorem mul_of_bin1 {M : Model} {a b : Value} {Q : Value → Shared → Prop} (h : wpAny M A (binaryOp1 "mul" a b) (Told Q) E s) : wpAny M A (binaryOp .Mult a b) Q E s := by
  unfold binaryOp
  exact wpAny_holding (told_pure (t := binaryOp1 "mul" a b) h fun _ => rfl)
/-- a class of the text whose only base is object, without an own in-place operator -/
structure NoI (K : PySem.W.Frag) (C : Addr) (nm : String) : Prop where
  mro : (PySem.W.clsIn K C).any (fun cd => cd.mro == [.ref C, .type "object"]) = true
  own : PySem.W.findIn K (.ref C) (dunderI nm) = some none
  obj : PySem.W.findIn K (.type "object") (dunderI nm) = some none
theorem fillsI_no {M : Model} {h : Heap} {nm : String} {add : Bool} (X : K.In h) (N : NoI K C nm) : PySem.W.Looks M h (fillsInplaceSlot (.ref C) nm add) false := by
  intro A Q E s k q
  obtain ⟨cd, hc, hm⟩ := PySem.W.any_some N.mro
  have hm' : cd.mro = [.ref C, .type "object"] := beq_iff_eq.mp hm
  unfold fillsInplaceSlot
  refine wpAny_bind ((PySem.W.looks_clsIn X hc).andThen (f := fun cd => pure cd.mro) .now A _ E s k ?_)
  rw [hm', List.anyM_cons]
  refine wpAny_bind (wpAny_bind (PySem.W.looks_findIn X N.own A _ E s k (wpAny_pure ?_)))
  simp only [Bool.false_eq_true, if_false]
  rw [List.anyM_cons]
  refine wpAny_bind (wpAny_bind (PySem.W.looks_findIn X N.obj A _ E s k (wpAny_pure ?_)))
  simp only [Bool.false_eq_true, if_false]
  exact wpAny_pure q
theorem inp_of_bin1 {op : Operator} {b : Value} {Q : Value → Shared → Prop} (X : K.In s.heap) (I : PySem.W.InstAt s.heap x ox C od) (N : NoI K C op.info.2) (h : wpAny (model prog w) A (binaryOp1 op.info.2 (.ref x) b) (Told Q) E s) :
    wpAny (model prog w) A (inplaceOp op (.ref x) b) Q E s := by
  unfold inplaceOp
  refine wpAny_holding (wpAny_bind (I.type.here (wpAny_bind ((fillsI_no X N).here ?_))))
  rw [if_neg Bool.false_ne_true]
  exact told_pure h fun _ => rfl
end
section
variable {X : Cx} {CX : CXT} {n : Nat} {C g g' : Addr} {sp : Sp} {E : XK}
theorem op_rmul (hc : PySem.W.selfFirst X.K C = true) (hm : PySem.W.findIn X.K (.ref C) (PySem.dunder "mul") = some (some (.ref g'))) (h : Has X.K C g (dunderR "mul")) (hsub : PySem.W.subIn X.K (.ref C) (.type "int") = some false)
    (F : FnR X.prog X.w X.K X.mg X.base CX n g sp) (hr : Room n X.A) (hx : Passes CX X E) : OpR X (binaryOp .Mult) (rR X C sp E) := by
  intro pins s σ H x y v u Q I rx ry hq
  obtain ⟨a, i, rfl, rfl, ha, q⟩ := hq
  cases (show u = Value.ref a from ry)
  obtain ⟨t, e⟩ := (show ∃ t, v = Value.int i t from rx)
  subst e
  obtain ⟨ox, od, J, hd⟩ := insC_at I ha
  exact mul_of_bin1 (bin1_rint I.kIn J hd hc hm h.at_ h.fn hsub (run_own (us := [.ref a, .int i t]) (vs := [.ref a, .int i]) F hr hx I (.cons rfl (.cons ⟨t, rfl⟩ .nil)) q))
theorem op_inS {op : Operator} (hc : PySem.W.selfFirst X.K C = true) (N : NoI X.K C op.info.2) (h : Has X.K C g (PySem.dunder op.info.2)) (F : FnR X.prog X.w X.K X.mg X.base CX n g sp) (hr : Room n X.A) (hx : Passes CX X E) :
    OpR X (inplaceOp op) (rS X C sp E) := by
  intro pins s σ H x y v u Q I rx ry hq
  obtain ⟨a, b, rfl, rfl, ha, hb, q⟩ := hq
  cases (show v = Value.ref a from rx)
  cases (show u = Value.ref b from ry)
  obtain ⟨ox, od, J, _⟩ := insC_at I ha
  obtain ⟨ox', od', J', _⟩ := insC_at I hb
  exact inp_of_bin1 I.kIn J N (bin1_same I.kIn J J' hc h.at_ h.fn (run_own (us := [.ref a, .ref b]) (vs := [.ref a, .ref b]) F hr hx I (.cons rfl (.cons rfl .nil)) q))
end
end OpX
/-! a tuple times any number from one on; x(*y), x a name of the def that holds a class; an own object beside a list -/
namespace RdX
open PySem PySem.Spec PyProof.Rows L2 StX OpX
/-- t * 1 is t itself -/
theorem once_mul (l : Addr) (items : Array Value) (n : Nat) (dd : Option Addr) (sl : Array (Option Value)) (u : Tok) : Meets (Builtin.«tuple.__mul__» ⟨[.ref l, .int 1 u], []⟩) (fun _ R s => s.heap.get? l = some { cls := .type "tuple", dict := dd, data := .seq items n, slots := sl } ∧ R (.ok (.ret (.ref l))) s) := Meets.of_wp fun prog w A R s hh => by
  rcases s with ⟨hp, gs, ds, tk, sys⟩
  rcases hh with ⟨at_, goal⟩
  have f1 := AutoSeq1.idx_int
  have c0 : (decide ((1 : Int) < -(2 ^ 63)) || decide ((1 : Int) ≥ 2 ^ 63)) = false := by decide
  have c1 : (items.isEmpty || (1 : Int) == 1) = true := by rw [show ((1 : Int) == 1) = true from rfl, Bool.or_true]
  wp_walk using wpAny_loadPart' at_
  repeat (first
    | (refine wpAny_ite_false (decide_eq_false (by rw [c0]; exact Bool.false_ne_true)) ?_; wp_walk using wpAny_loadPart' at_)
    | (refine wpAny_ite_true (decide_eq_true c1) ?_; wp_walk using wpAny_loadPart' at_))
  exact ⟨_, rfl, goal⟩
def rOnce (K : PySem.W.Frag) : R2 := fun x y H Q => ∃ l xs, x = .ref l ∧ y = .int 1 ∧ SqT K H l xs ∧ Q (.ref l) H
section
variable {X : Cx}
theorem op_once : OpR X (binaryOp .Mult) (rOnce X.K) := by
  intro pins s σ H x y v u Q I rx ry hq
  obtain ⟨l, xs, rfl, rfl, hT, q⟩ := hq
  cases (show v = Value.ref l from rx)
  obtain ⟨t, e⟩ := (show ∃ t, u = Value.int 1 t from ry)
  subst e
  obtain ⟨its, r, ⟨⟨cls, dd, data, sl⟩, ho, hc, n, hd⟩, hs⟩ := I.tuple hT
  simp only at hc hd
  subst hc hd
  have kind : s.TypeIs (.ref l) "tuple" := ⟨_, ho, rfl⟩
  exact wpAny_binaryOp_repeat_ref (T := "tuple") (U := "int") (by decide) kind (fun s' => typeIs_int s' 1 t) noFill_tuple_mul F.fills_int_mul F.slot_int_rmul repeat_tuple F.slot_int_index.lookup
    (call_meets F.slot_int_rmul (typeIs_int s 1 t) F.entry_int_rmul (F.args_int_rmul_2 _ _) (int_rmul_tuple 1 t l its.toArray n dd sl) ⟨ho, rfl, kind, call_meets F.slot_tuple_mul kind F.entry_tuple_mul (F.args_tuple_mul_2 _ _) (once_mul l its.toArray n dd sl t) ⟨ho, ⟨.ref l, H, I, rfl, q⟩⟩⟩)
end
section
variable {X : Cx} {CX : CXT} {k n i : Nat} {f C g : Addr} {sp : Sp} {E : XK} {x : Str} {e : Expr} {te : TE} {p q pos : Pos}
/-- C(*y), C a class of the module -/
def tMakeS (X : Cx) (C : Addr) (sp : Sp) (E : XK) (te : TE) : TE := fun σ H Q => te σ H fun y H1 => ∃ a xs, y = V.ref a ∧ (SqT X.K H1 a xs ∨ SqL X.K H1 a xs) ∧ ∀ x dx, H1 x = Option.none → H1 dx = Option.none → dx ≠ x →
  sp (V.ref x :: xs) (upd (upd H1 dx (.own x)) x (.ins C dx [])) (fun v H2 => v = .non ∧ Q (.ref x) H2) E
theorem pe_makeS1 (M : Mk X.K C f) (F : FnR X.prog X.w X.K X.mg X.base CX k f sp) (hr : Room (k + 1) X.A) (hg : Gl X x) (hm : X.mg x = some (.ref C)) (hx : Passes CX X E) (he : PE X e te) (hd : (x == ("__debug__" : Str)) = false := by decide)
    (hst : starEach [.Starred e q] X.env = [(true, eval e X.env)] := by rfl) : PE X (.Call (.Name x p) [.Starred e q] [] pos) (tMakeS X C sp E te) := by
  refine ⟨fun pins s σ H Q I h => wpAny_Call_Name_kw (ld_glob I hg hm (PySem.W.callWith_S (h₀ := X.base) I.ok.mod.kin M.kp (thn (he.run pins s σ H _ I h) fun v s1 z => ?_) hst) hd)⟩
  obtain ⟨y, H1, J, ry, a, xs, ey, hxs, q⟩ := z
  subst ey
  cases (show v = Value.ref a from ry)
  exact star_any J hxs fun us s2 J2 rv => ⟨J2.kIn, run_makeR M F hr hx J2 rv q⟩
/-- x(*y), x a name of the def (slot i) that holds the class at C -/
def tMakeLS (X : Cx) (i : Nat) (C : Addr) (sp : Sp) (E : XK) (te : TE) : TE := fun σ H Q => σ[i]? = some (some (.ref C)) ∧ tMakeS X C sp E te σ H Q
theorem pe_makeLS (M : Mk X.K C f) (F : FnR X.prog X.w X.K X.mg X.base CX k f sp) (hr : Room (k + 1) X.A) (hN : X.N[i]? = some x) (hv : Vis X.env.scope x) (hx : Passes CX X E) (he : PE X e te) (hd : (x == ("__debug__" : Str)) = false := by decide) (hcd : (x == ("__classdict__" : Str)) = false := by decide)
    (hst : starEach [.Starred e q] X.env = [(true, eval e X.env)] := by rfl) : PE X (.Call (.Name x p) [.Starred e q] [] pos) (tMakeLS X i C sp E te) := by
  refine ⟨fun pins s σ H Q I ⟨hs, h⟩ => wpAny_Call_Name_kw (thn ((pe_var (pos := p) (i := i) hN hv hd hcd).run pins s σ H (fun v H1 => v = .ref C ∧ H1 = H) I ⟨.ref C, hs, rfl, rfl⟩) fun u s1 z => ?_)⟩
  obtain ⟨v, H1, J, r1, ev, eH⟩ := z
  subst ev eH
  cases (show u = Value.ref C from r1)
  refine PySem.W.callWith_S (h₀ := X.base) J.ok.mod.kin M.kp (thn (he.run pins s1 σ _ _ J h) fun v s2 z => ?_) hst
  obtain ⟨y, H2, J2, ry, a, xs, ey, hxs, q⟩ := z
  subst ey
  cases (show v = Value.ref a from ry)
  exact star_any J2 hxs fun us s3 J3 rv => ⟨J3.kIn, run_makeR M F hr hx J3 rv q⟩
/-- x == y: x of the class at C, y a list -/
def rEqL (X : Cx) (C : Addr) (sp : Sp) (E : XK) : R2 := fun x y H Q => ∃ a b ys, x = .ref a ∧ y = .ref b ∧ InsC X H a C ∧ SqL X.K H b ys ∧ PySem.W.notFirst X.K C (.type "list") = true ∧ sp [.ref a, .ref b] H Q E
theorem op_eqL {op : CmpOp} (hop : ∀ a b, compareOp op a b = richCompare op a b) (h : Has X.K C g (cmpInfo op).2.1) (F : FnR X.prog X.w X.K X.mg X.base CX n g sp) (hr : Room n X.A) (hx : Passes CX X E) : OpR X (compareOp op) (rEqL X C sp E) := fun pins s σ H x y v u Q I rx ry hq => by
  obtain ⟨a, b, ys, rfl, rfl, ha, hb, hn, q⟩ := hq
  cases (show v = Value.ref a from rx)
  cases (show u = Value.ref b from ry)
  obtain ⟨ox, od, J, _⟩ := insC_at I ha
  obtain ⟨its, rv, pl, _⟩ := I.list hb
  obtain ⟨o, ho, hc, _⟩ := pl.isList
  obtain ⟨m, hF⟩ := I.fr
  have kind : PySem.W.Looks (model X.prog X.w) s.heap (typeOf (.ref b)) (.type "list") := fun _ _ _ _ k z => wpAny_typeOf_ref (k _ _ ho) (by rw [hc]; exact z)
  rw [hop]
  exact PySem.W.cmp_K (op := op) (tb := .type "list") hr.units0 hF I.ok.mod.kin J kind hn h.at_ h.fn (run_own (us := [.ref a, .ref b]) (vs := [.ref a, .ref b]) F hr hx I (.cons rfl (.cons rfl .nil)) q)
end
end RdX
/-! x(e, .., *y), x a name of the def that holds a class; range(a, b, c), c above nought -/
namespace RdX
open PySem PySem.Spec PyProof.Rows L2 StX OpX ClX ClK
section
variable {X : Cx} {CX : CXT} {k i : Nat} {f C : Addr} {sp : Sp} {E : XK} {x : Str} {e : Expr} {es : List Expr} {t : TA} {p pos : Pos}
theorem pe_makeL2 (M : Mk X.K C f) (F : FnR X.prog X.w X.K X.mg X.base CX k f sp) (hr : Room (k + 1) X.A) (hN : X.N[i]? = some x) (hv : Vis X.env.scope x) (hx : Passes CX X E) (ha : PA X (e :: es) t) (hd : (x == ("__debug__" : Str)) = false := by decide) (hcd : (x == ("__classdict__" : Str)) = false := by decide)
    (head : starEach (e :: es) X.env = (false, eval e X.env) :: starEach es X.env := by rfl) (starred : (backTo pos (starEach es X.env)).any (·.1) = true := by rfl) : PE X (.Call (.Name x p) (e :: es) [] pos) (tMakeL i C sp E t) := by
  refine ⟨fun pins s σ H Q I ⟨hs, h⟩ => wpAny_Call_Name_kw (thn ((pe_var (pos := p) (i := i) hN hv hd hcd).run pins s σ H (fun v H1 => v = .ref C ∧ H1 = H) I ⟨.ref C, hs, rfl, rfl⟩) fun u s1 z => ?_)⟩
  obtain ⟨v, H1, J, r1, ev, eH⟩ := z
  subst ev eH
  cases (show u = Value.ref C from r1)
  refine PySem.W.callWith_S2 (h₀ := X.base) J.ok.mod.kin M.kp (thn (ha.run pos pins s1 σ _ _ J h) fun us s2 z => ?_) head starred
  obtain ⟨vs, H2, J2, r, q⟩ := z
  exact ⟨J2.kIn, run_makeR M F hr hx J2 r q⟩
end
theorem rgc_up {i j c : Int} (hc : 0 < c) (hc2 : c < 1000000) (hi : 0 ≤ i) (hi2 : i < 1000000) (hj : i ≤ j) (hj2 : j < 1000000) : RgC i j c ((j - i + c - 1) / c).toNat := by
  have e : Builtin.Range.rangeSize i j c = (((j - i + c - 1) / c).toNat : Int) := by
    unfold Builtin.Range.rangeSize
    rw [if_pos hc]
    by_cases h : i < j
    · rw [if_pos h, show j - i + c - 1 = (j - i - 1) + c by omega, Int.add_ediv_of_dvd_right (Int.dvd_refl c), Int.ediv_self (by omega)]
      have : 0 ≤ (j - i - 1) / c := Int.ediv_nonneg (by omega) (by omega)
      omega
    · have h2 : i = j := by omega
      subst h2
      rw [if_neg h, Int.ediv_eq_zero_of_lt (by omega) (by omega)]
      rfl
  refine ⟨by omega, by omega, ?_, e⟩
  unfold Builtin.Range.small
  rw [e]
  have b : ((j - i + c - 1) / c) ≤ j - i + c - 1 := Int.ediv_le_self _ (by omega)
  have b0 : 0 ≤ ((j - i + c - 1) / c) := Int.ediv_nonneg (by omega) (by omega)
  rw [Int.toNat_of_nonneg b0]
  generalize (j - i + c - 1) / c = n at b b0 ⊢
  simp only [Builtin.Range.rangeFitsLong, Bool.and_eq_true, Bool.or_eq_true, decide_eq_true_eq, beq_iff_eq, if_pos hc]
  omega
end RdX
/-! enumerate over a tuple -/
namespace EnT
open PySem PySem.Spec PyProof.Rows L2
/-- the iterator of a tuple, as it begins -/
abbrev tupIt (t : Addr) : Obj := { cls := .type "tuple_iterator", data := .fields #[.ref t, .int 0 0] }
/-- the enumeration over the iterator at n, as it begins -/
abbrev enuAt (n : Addr) : Obj := { cls := .type "enumerate", data := .fields #[.none, .bool false, .ref n, rawInt 0, .none, .none] }
set_option maxHeartbeats 2000000 in
theorem new_enumT (t : Addr) (its : Array Value) : Meets (Builtin.«enumerate.__new__» ⟨[.type "enumerate", .ref t], []⟩)
    (fun _ R s => s.heap.IsTuple t its ∧ R (.ok (.ret (.ref (s.heap.push (tupIt t)).objs.size))) { s with heap := (s.heap.push (tupIt t)).push (enuAt s.heap.objs.size) }) := Meets.of_wp fun P w A R s hh => by
  rcases s with ⟨hp, gs, ds, tk, sys⟩
  rcases hh with ⟨hT, goal⟩
  have kind := sub_enumerate
  have begin_ : ∀ {B : Around} {E : Value → Shared → Prop} {Q : Value → Shared → Prop}, Q (.ref hp.objs.size) ⟨hp.push (tupIt t), gs, ds, tk, sys⟩ → wpAny (model P w) B (pyIter (.ref t)) Q E ⟨hp, gs, ds, tk, sys⟩ := fun q => wpAny_pyIter_tuple hT q
  wp_walk using begin_
  refine wpAny_stack_any (fun _ => wpAny_pure ?_)
  split
  next c _ _ _ _ _ => cases (c == Value.type "enumerate") <;> (wp_walk using begin_; exact ⟨_, rfl, goal⟩)
  next => (wp_walk using begin_; exact ⟨_, rfl, goal⟩)
theorem call_enumT {P : Program} {w : World} {A : Around} {E : Value → Shared → Prop} {s : Shared} {t : Addr} {its : Array Value} {Q : Value → Shared → Prop} (hT : s.heap.IsTuple t its)
    (k : ∀ h', IsEnum h' (s.heap.objs.size + 1) s.heap.objs.size 0 .none → h'.IsTupleIter s.heap.objs.size t 0 → (∀ b o, s.heap.get? b = some o → h'.get? b = some o) → Q (.ref (s.heap.objs.size + 1)) { s with heap := h' }) :
    wpAny (model P w) A (call (.type "enumerate") [.ref t]) Q E s := by
  have sz : (s.heap.push (tupIt t)).objs.size = s.heap.objs.size + 1 := Heap.size_push ..
  have at1 : ((s.heap.push (tupIt t)).push (enuAt s.heap.objs.size)).get? (s.heap.objs.size + 1) = some (enuAt s.heap.objs.size) := sz ▸ Heap.get?_push_size (s.heap.push (tupIt t)) rfl
  have at0 : ((s.heap.push (tupIt t)).push (enuAt s.heap.objs.size)).get? s.heap.objs.size = some (tupIt t) := Heap.get?_push_of_some _ (Heap.get?_push_size _ rfl)
  refine callType_new F.called_enumerate (by decide) (F.typeCall_enumerate_1 _) (F.newCall_enumerate_1 _) (fun obj => F.args_object_init_2 obj _) F.entry_enumerate_new (new_enumT t its) ⟨hT, ?_⟩
  show _ ∧ _
  rw [sz]
  exact ⟨⟨_, at1, rfl⟩, k _ at1 ⟨_, at0, rfl, rfl⟩ fun b o e => Heap.get?_push_of_some _ (Heap.get?_push_of_some _ e)⟩
/-- the tuple at a, turn by turn: each item with its place, in a new pair -/
def Itn (K : PySem.W.Frag) (a : Addr) : It where
  go i H := ∃ (ys : List V) (y : V), SqT K H a ys ∧ ys[i]? = some y
  yld i H v H' := ∃ T y, v = .ref T ∧ H T = none ∧ H' = upd H T (.tup [.int (i : Nat), y]) ∧ ∀ ys, SqT K H a ys → ys[i]? = some y
  stop i H := ∃ ys : List V, SqT K H a ys ∧ ys.length = i
theorem turn_enumT {P : Program} {w : World} {K : PySem.W.Frag} {elts : List Expr} {kk : Nat} {tpos : Pos} (a e it : Addr) :
    Turn P w K (.Tuple elts kk tpos) (Itn K a) [e, it] e (fun i h => (∃ old, IsEnum h e it ((i : Nat) : Int) old) ∧ h.IsTupleIter it a i) where
  mem := List.mem_cons_self ..
  obj := fun i h ⟨⟨old, he⟩, o, ho, _, hd⟩ b hb => by
    rcases List.mem_cons.mp hb with rfl | hb
    · exact ⟨_, he, fun v q => nomatch q⟩
    · obtain rfl := List.mem_singleton.mp hb
      exact ⟨o, ho, fun v q => by rw [hd] at q; cases q⟩
  keep := fun i h h' ⟨⟨old, he⟩, hi⟩ k => ⟨⟨old, k e (List.mem_cons_self ..) _ he⟩, hi.at fun o q => k it (by simp) o q⟩
  item := by
    rintro X rfl rfl rfl hc i pins s σ H E I hf ⟨⟨old, he⟩, hit⟩ ⟨ys, y, hq, hy⟩
    obtain ⟨its, rv, p, hz⟩ := I.tuple hq
    have ht : s.heap.IsTuple a its.toArray := p
    obtain ⟨u, hu, ru⟩ := rv.get hy
    have len : i < its.length := (List.getElem?_eq_some_iff.mp hu).1
    have ai : a ≠ it := fun z => by
      obtain ⟨o1, g1, c1, _⟩ := ht
      obtain ⟨o2, g2, c2, _⟩ := id hit
      rw [z, g2] at g1
      rw [← Option.some.inj g1, c2] at c1
      exact absurd c1 (by decide)
    have ei : e ≠ it := fun z => by
      obtain ⟨o2, g2, c2, _⟩ := id hit
      have g1 : s.heap.get? e = _ := he
      rw [z, g2] at g1
      rw [Option.some.inj g1] at c2
      exact absurd (show Value.type "enumerate" = Value.type "tuple_iterator" from c2) (by decide)
    have ea : e ≠ a := fun z => by
      obtain ⟨o2, g2, c2, _⟩ := ht
      have g1 : s.heap.get? e = _ := he
      rw [z, g2] at g1
      rw [Option.some.inj g1] at c2
      exact absurd (show Value.type "enumerate" = Value.type "tuple" from c2) (by decide)
    refine wpAny_pyNext_enum_itemD (Draws.tuple (A := X.A.in1) (I.ok.hd hc) it a ai its.toArray) he ⟨hit, ht⟩ (by simpa using len) ei (by simp [ei, ea]) fun x h' tk hx ho hst hT sz1 hk => ?_
    have xu : x = u := by
      have : its[i]? = some x := by simpa using hx
      rw [hu] at this
      exact (Option.some.inj this).symm
    subst xu
    have hel : e < s.heap.objs.size := Heap.lt_size he
    have hil : it < s.heap.objs.size := by obtain ⟨_, q, _⟩ := hit; exact Heap.lt_size q
    refine ⟨_, rfl, wpAny_letOwnedTupleGo_enum (s := { s with heap := h', toks := tk + 1 }) ho fun h2 he2 sb => ?_⟩
    have pair : h2.get? s.heap.objs.size = some { cls := .type "tuple", data := .seq #[.int i tk, x] } := (sb.2 _ (Nat.ne_of_gt hel)).trans hT
    have new : ObjOk X.prog X.w (upd H s.heap.objs.size (.tup [.int (i : Nat), y])) h2 s.heap.objs.size (.tup [.int (i : Nat), y]) :=
      ⟨by show 2 ≤ sizeLine; decide, [.int i tk, x], .cons ⟨_, rfl⟩ (.cons ru .nil), ⟨_, pair, rfl, _, rfl⟩⟩
    have J : Inv X pins σ (upd H s.heap.objs.size (.tup [.int (i : Nat), y])) { s with heap := h2, toks := tk + 1 } :=
      I.turnedNew (ch := [e, it]) (fun b o hb q => (sb.2 b fun z => hb (by simp [z])).trans (hk b o (fun z => hb (by simp [z])) (fun z => hb (by simp [z])) q)) hf (Nat.le_refl _) new
    refine ⟨.ref s.heap.objs.size, _, J, rfl, ⟨_, y, rfl, I.hok.fresh (Nat.le_refl _), rfl, fun zs hz => by rw [I.tuple_inj hz hq]; exact hy⟩, ⟨⟨x, ?_⟩, hst.1.at fun o q => (sb.2 it (Ne.symm ei)).trans q⟩, fun b hb => ?_⟩
    · have e1 : ((i + 1 : Nat) : Int) = (i : Int) + 1 := rfl
      rw [e1]
      exact he2
    · have lt : b < s.heap.objs.size := by
        rcases List.mem_cons.mp hb with rfl | hb
        · exact hel
        · obtain rfl := List.mem_singleton.mp hb
          exact hil
      rw [upd_ne (Nat.ne_of_lt lt)]
      exact (hf b hb).1
  done := by
    rintro X rfl rfl rfl hc i pins s σ H E I hf ⟨⟨old, he⟩, hit⟩ ⟨ys, hq, hy⟩
    obtain ⟨its, rv, p, hz⟩ := I.tuple hq
    have ht : s.heap.IsTuple a its.toArray := p
    have hl := rv.length
    obtain ⟨f0, f1, f2, f3, f4, f5⟩ := hf it (by simp)
    have ai : a ≠ it := fun z => by
      obtain ⟨o1, g1, c1, _⟩ := ht
      obtain ⟨o2, g2, c2, _⟩ := id hit
      rw [z, g2] at g1
      rw [← Option.some.inj g1, c2] at c1
      exact absurd c1 (by decide)
    have hi : its.toArray.size = i := by rw [List.size_toArray]; omega
    exact wpAny_pyNext_enum_endD (Draws.tuple (A := X.A.in1) (I.ok.hd hc) it a ai its.toArray) he (hi.symm ▸ ⟨hit, ht⟩) fun h' eb => ⟨rfl, I.turned (t' := s.toks) (fun b o hb z => eb b o hb z) f0 f1 f3 f4 f5⟩
  self := fun A i s Q E ⟨⟨_, he⟩, _⟩ h => wpAny_pyIter_enum he h
/-- enumerate(a tuple) -/
def iEnumT (K : PySem.W.Frag) (ta : TA) : TI := fun σ H R => ta σ H fun vs H1 => ∃ a ys, vs = [.ref a] ∧ SqT K H1 a ys ∧ R (Itn K a) H1
theorem pi_enumT {X : Cx} {e : Expr} {ta : TA} {p pos tpos : Pos} {elts : List Expr} {kk : Nat} (hg : Gl X "enumerate") (hm : X.mg "enumerate" = none) (ha : PA X [e] ta)
    (one : starEach [e] X.env = [(false, eval e X.env)] := by rfl) : PI X (.Tuple elts kk tpos) (.Call (.Name "enumerate" p) [e] [] pos) (iEnumT X.K ta) := by
  refine ⟨fun pins s σ H R I h => Call_ (ld_blt I hg hm boot_enumerate (PyProof.Rows.callWith_type1 (thn (ha.run pos pins s σ H _ I h) fun us s1 ⟨vs, H1, J, r1, a, ys, ev, hq, q⟩ => ?_) one rfl))⟩
  subst ev
  rcases r1 with _ | ⟨r, r0⟩
  cases r0
  cases r
  obtain ⟨its, rv, at_, hz⟩ := J.tuple hq
  refine call_enumT (its := its.toArray) at_ fun h' he hit hk => wpAny_pyIter_enum he ?_
  refine ⟨s1.heap.objs.size + 1, [s1.heap.objs.size + 1, s1.heap.objs.size], _, _, H1, rfl, J.kept (t' := s1.toks) hk, turn_enumT a _ _, ⟨⟨.none, he⟩, hit⟩, fun b hb => ?_, q⟩
  have le : s1.heap.objs.size ≤ b := by
    rcases List.mem_cons.mp hb with rfl | hb
    · exact Nat.le_succ _
    · exact Nat.le_of_eq (List.mem_singleton.mp hb).symm
  exact J.fpOk le (J.hok.fresh le)
theorem walk_enumT {K : PySem.W.Frag} {a : Addr} {ys : List V} : Walk (Itn K a) ys.length (fun H => SqT K H a ys) (YPair (fun i => some (.int (i : Nat))) (fun i => ys[i]?)) :=
  ⟨fun i _ hi q => ⟨ys, ys[i], q, List.getElem?_eq_getElem hi⟩, fun _ q => ⟨ys, q, rfl⟩, fun i H v H' _ q ⟨T, y, h1, h2, h3, h4⟩ => ⟨T, .int (i : Nat), y, h1, h2, h3, rfl, h4 ys q⟩⟩
end EnT
/-! set(a list of texts), sorted(it) -/
namespace StS
open PySem PySem.Spec PyProof.Rows L2
/-- the text of a row of a set, and what such a row is -/
def rowT (e : Int × Value) : Str := strOf e.2
def RowT (P : Program) (w : World) (e : Int × Value) : Prop := ∃ k t, e.2 = .str k t ∧ e.1 = (PySem.strKind P w).hash k
/-- at a stands a set of the texts ks, in the order of its rows; its table rises and may be walked -/
def TxS (P : Program) (w : World) (h : Heap) (a : Addr) (ks : List Str) : Prop := ∃ (o : Obj) (es : Array (Int × Value)) (ep : Nat) (t : SetTable), (h.get? a = some o ∧ o.ExactSet ∧ o.data = .set es ep t) ∧
  ((∀ e ∈ es.toList, RowT P w e) ∧ es.toList.map rowT = ks ∧ ks.Nodup) ∧ (es.size < scanBound ∧ t.fits es.size = true) ∧ Ris t.place.toList ∧ (w.params.followText "set-order" = true ∨ t.led = true)
section
variable {P : Program} {w : World} {h h' : Heap} {a : Addr} {ks : List Str}
theorem TxS.at (R : TxS P w h a ks) (k : ∀ o, h.get? a = some o → h'.get? a = some o) : TxS P w h' a ks := by
  obtain ⟨o, es, ep, t, ⟨ho, q⟩, r⟩ := R
  exact ⟨o, es, ep, t, ⟨k o ho, q⟩, r⟩
theorem row_is {e : Int × Value} (r : RowT P w e) (k : Str) : (PySem.strKind P w).is k e.2 = true ↔ rowT e = k := by
  obtain ⟨k0, t, h1, _⟩ := r
  have mine : (PySem.strKind P w).is k0 e.2 = true := by rw [h1]; exact strKind_is P w k0 t
  rw [KeyKind.is_eq_decide mine k, decide_eq_true_iff, show rowT e = k0 by unfold rowT; rw [h1]; rfl]
  exact eq_comm
theorem rows_elems {l : List (Int × Value)} (g : ∀ e ∈ l, RowT P w e) : ElemsOf (PySem.strKind P w) l := fun e he => by
  obtain ⟨k, t, h1, h2⟩ := g e he
  exact ⟨⟨k, by rw [h1]; exact strKind_is P w k t, h2⟩, by rw [h1]; rfl⟩
theorem TxS.len (R : TxS P w h a ks) : ∃ (o : Obj) (es : Array (Int × Value)) (ep : Nat) (t : SetTable), h.get? a = some o ∧ es.size = ks.length := by
  obtain ⟨o, es, ep, t, ⟨ho, _⟩, ⟨_, e, _⟩, _⟩ := R
  exact ⟨o, es, ep, t, ho, by rw [← e, List.length_map, Array.length_toList]⟩
end
section
variable {P : Program} {w : World} {A : Around} {E : Value → Shared → Prop} {s : Shared} {a : Addr} {ks : List Str}
/-- behind the new row: the table may be laid anew -/
theorem settle {g : Bool → Sem Unit} (quiet : ∀ (b : Bool) (s1 : Shared) (Q : Unit → Shared → Prop), Q () s1 → wpAny (model P w) A (g b) Q E s1) {o : Obj} {es es1 : Array (Int × Value)} {ep : Nat} {t t2 : SetTable}
    (ho : s.heap.get? a = some o) (hx : o.ExactSet) (hd : o.data = .set es ep t) (rows : ∀ e ∈ es1.toList, RowT P w e) (once : (es1.toList.map rowT).Nodup) (few : es1.size < scanBound) (fit : t2.fits es1.size = true) (ris : Ris t2.place.toList)
    (led : w.params.followText "set-order" = true ∨ t2.led = true) {old : Bool} {R : Option Bool → Shared → Prop} (out : ∀ h' ks', Heap.SameBut a s.heap h' → ks'.Perm (es1.toList.map rowT) → TxS P w h' a ks' → R (some true) { s with heap := h' }) :
    wpAny (model P w) A (do
        storeSet a es1 t2
        if (!old && t2.tooFull) = true then do
            g (relayAll t2 es1 (SetTable.grown es1.size)).2.2
            storeSet a (relayAll t2 es1 (SetTable.grown es1.size)).1 (relayAll t2 es1 (SetTable.grown es1.size)).2.1
            pure (some true)
          else pure (some true)) R E s := by
  have stored := store_at (es' := es1) (t' := t2) ho hd
  have but1 := Heap.SameBut.update s.heap a (Obj.putSet es1 t2)
  refine wpAny_bind (wpAny_storeSet_of ho hd ?_ (fits_of_scanBound few))
  split
  · have q1 := relayAll_perm t2 es1 (SetTable.grown es1.size)
    have q2 := relayAll_fits t2 es1 (SetTable.grown es1.size)
    have q3 := relayAll_ris t2 es1 (SetTable.grown es1.size)
    have q4 := relayAll_led t2 es1 (SetTable.grown es1.size)
    revert q1 q2 q3 q4
    generalize relayAll t2 es1 (SetTable.grown es1.size) = Z
    obtain ⟨es2, t3, gave⟩ := Z
    dsimp only
    intro q1 q2 q3 q4
    have size : es2.size = es1.size := by rw [← Array.length_toList, q1.length_eq, Array.length_toList]
    have few2 : es2.size < scanBound := size ▸ few
    refine wpAny_bind (quiet _ _ _ (wpAny_bind (wpAny_storeSet_of stored rfl ?_ (fits_of_scanBound few2))))
    exact wpAny_pure (out _ (es2.toList.map rowT) (but1.trans (Heap.SameBut.update _ a _)) (q1.map rowT) ⟨_, es2, _, t3, ⟨store_at stored rfl, hx, rfl⟩, ⟨fun e he => rows e (q1.mem_iff.mp he), rfl, (q1.map rowT).nodup_iff.mpr once⟩, ⟨few2, q2⟩, q3,
      led.imp id fun z => q4.trans z⟩)
  · exact wpAny_pure (out _ _ but1 (List.Perm.refl _) ⟨_, es1, _, t2, ⟨stored, hx, rfl⟩, ⟨rows, rfl, once⟩, ⟨few, fit⟩, ris, led⟩)
/-- a text is added -/
theorem add {k : Str} {tk : Tok} {Q : Bool → Shared → Prop} (R : TxS P w s.heap a ks) (room : ks.length + 1 < scanBound)
    (out : ∀ b h' ks', Heap.SameBut a s.heap h' → (k ∈ ks ∧ ks' = ks ∨ k ∉ ks ∧ ks'.Perm (k :: ks)) → TxS P w h' a ks' → Q b { s with heap := h' }) :
    wpAny (model P w) A (setAddHashed a (.str k tk) ((PySem.strKind P w).hash k)) Q E s := by
  obtain ⟨o, es, ep, t, ⟨ho, hx, hd⟩, ⟨rows, ek, once⟩, ⟨few, fit⟩, ris, led⟩ := id R
  have size : es.size = ks.length := by rw [← ek, List.length_map, Array.length_toList]
  have mine : (PySem.strKind P w).is k (.str k tk) = true := strKind_is P w k tk
  have scan : (Value.str k tk).scannable = true := rfl
  have elems := rows_elems rows
  have within : k ∈ ks ↔ ∃ e ∈ es.toList, (PySem.strKind P w).is k e.2 = true := by
    rw [← ek, List.mem_map]
    exact ⟨fun ⟨e, he, q⟩ => ⟨e, he, (row_is (rows e he) k).mpr q⟩, fun ⟨e, he, q⟩ => ⟨e, he, (row_is (rows e he) k).mp q⟩⟩
  have calm : ∀ (b : Bool) (s1 : Shared) (Q' : Unit → Shared → Prop), Q' () s1 → wpAny (model P w) A (match b with | true => rule "set.scan.the-table-gave-way" | false => pure ()) Q' E s1 := fun b s1 Q' q => by
    cases b
    · exact wpAny_pure q
    · exact wpAny_rule q
  unfold setAddHashed setAddHashedIn
  refine wpAny_holding (wpAny_bind (wpAny_setState_of ho hd fit ?_))
  dsimp only
  rw [byScan_of scan few elems, if_pos rfl]
  unfold setAddByScan
  refine wpAny_bind (wpAny_bind (wpAny_rule (wpAny_bind (wpAny_setScan_of mine ho hd fit elems ?_))))
  cases found : List.findIdx? (fun e => (PySem.strKind P w).is k e.2) es.toList with
  | some j =>
    dsimp only
    obtain ⟨lt, is, _⟩ := List.findIdx?_eq_some_iff_getElem.mp found
    exact wpAny_pure (wpAny_pure (out _ s.heap ks (Heap.SameBut.refl a s.heap) (.inl ⟨within.mpr ⟨_, List.getElem_mem lt, is⟩, rfl⟩) R))
  | none =>
    dsimp only
    have new : k ∉ ks := fun z => by
      obtain ⟨e, he, q⟩ := within.mp z
      have := List.findIdx?_eq_none_iff.mp found e he
      rw [q] at this
      cases this
    have q1 := layNew_perm t es ((PySem.strKind P w).hash k) (.str k tk)
    have q2 := layNew_fits t es ((PySem.strKind P w).hash k) (.str k tk)
    have q3 := layNew_ris t es ((PySem.strKind P w).hash k) (.str k tk) ris
    have q4 := layNew_led t es ((PySem.strKind P w).hash k) (.str k tk)
    revert q1 q2 q3 q4
    generalize layNew t es ((PySem.strKind P w).hash k) (.str k tk) = Z
    obtain ⟨es1, t1, old, gave⟩ := Z
    dsimp only
    intro q1 q2 q3 q4
    have pm : es1.toList.Perm (((PySem.strKind P w).hash k, Value.str k tk) :: es.toList) := by
      rw [Array.toList_push] at q1
      exact q1.trans (List.perm_append_singleton _ _)
    have pk : (es1.toList.map rowT).Perm (k :: ks) := by
      have := pm.map rowT
      rwa [List.map_cons, ek] at this
    have rows1 : ∀ e ∈ es1.toList, RowT P w e := fun e he => by
      rcases List.mem_cons.mp (pm.mem_iff.mp he) with z | z
      · exact z ▸ ⟨k, tk, rfl, rfl⟩
      · exact rows e z
    have few1 : es1.size < scanBound := by
      have := pm.length_eq
      rw [Array.length_toList, List.length_cons, Array.length_toList, size] at this
      omega
    have once1 : (es1.toList.map rowT).Nodup := pk.nodup_iff.mpr (List.nodup_cons.mpr ⟨new, once⟩)
    have led1 : w.params.followText "set-order" = true ∨ t1.led = true := led.imp id fun z => q4.trans z
    refine wpAny_bind (calm _ _ _ ?_)
    split
    · refine wpAny_bind ?_
      rw [hashByValue_scannable 8 scan]
      refine wpAny_pure (settle (fun b s1 Q' q => calm b s1 Q' q) ho hx hd rows1 once1 few1 ?_ ?_ ?_ fun h' ks' sb p r => ?_)
      · first | (split <;> first | exact q2 | exact SetTable.fits_plain_off q2) | exact q2
      · first | (split <;> exact q3) | exact q3
      · first | (split <;> exact led1) | exact led1
      · dsimp only
        exact wpAny_pure (out _ h' ks' sb (.inr ⟨new, p.trans pk⟩) r)
    · refine wpAny_bind (wpAny_pure ?_)
      rw [if_pos rfl]
      refine settle (fun b s1 Q' q => calm b s1 Q' q) ho hx hd rows1 once1 few1 q2 q3 led1 fun h' ks' sb p r => ?_
      dsimp only
      exact wpAny_pure (out _ h' ks' sb (.inr ⟨new, p.trans pk⟩) r)
end
end StS
namespace StS
open PySem PySem.Spec PyProof.Rows L2
section
variable {P : Program} {w : World} {A : Around} {E : Value → Shared → Prop} {s : Shared}
/-- the same texts, each once -/
def Same (ks xs : List Str) : Prop := ks.Nodup ∧ (∀ k, k ∈ ks ↔ k ∈ xs) ∧ ks.length ≤ xs.length
abbrev blank (w : World) : Obj := { cls := .type "set", dict := none, data := .set #[] 0 (.fresh 0 0 (!w.params.followText "set-order")) }
def Done (P : Program) (w : World) (s : Shared) (xs : List Str) (s2 : Shared) : Prop := ∃ hp tk ks, s2 = { s with heap := hp, toks := tk } ∧ TxS P w hp s.heap.objs.size ks ∧ Same ks xs ∧ ∀ b u, s.heap.get? b = some u → hp.get? b = some u
theorem blank_tx {h : Heap} {a : Addr} (e : h.get? a = some (blank w)) : TxS P w h a [] := by
  refine ⟨_, #[], 0, .fresh 0 0 (!w.params.followText "set-order"), ⟨e, ⟨rfl, rfl, rfl⟩, rfl⟩, ⟨fun e he => absurd he (by simp), rfl, List.nodup_nil⟩, ⟨by unfold scanBound; decide, ?_⟩, ?_, ?_⟩
  · rfl
  · exact List.Pairwise.nil
  · cases q : w.params.followText "set-order" with
    | true => exact .inl rfl
    | false => exact .inr rfl
/-- one text after the other -/
theorem goes {I : Addr} {fp wr : List Addr} {G : Array GenState → Array GenState → Prop} {n : Nat} {Pv : Nat → Value → Prop} {St : Nat → Shared → Prop} {R : Result → Shared → Prop} (W : WalksS P w A.in1 I fp wr G n Pv St) (S : Addr) (apart : S ∉ fp) (xs : List Str) (many : n = xs.length)
    (few : xs.length + 1 < scanBound) (tells : ∀ i v, Pv i v → ∃ t, v = .str (xs.getD i Str.empty) t) (left : Nat) : ∀ (i : Nat) (s : Shared) (ks : List Str), n = i + left → St i s → TxS P w s.heap S ks → Same ks (xs.take i) →
      (∀ s' ks', Moved (S :: wr) G s s' → TxS P w s'.heap S ks' → Same ks' xs → R (.ok (.ret .none)) s') → codeAny (model P w) A (.builtin "set.update.loop" ⟨[.ref S, .ref I], []⟩) R s := by
  have off : S ∉ wr := fun z => apart (W.sub _ z)
  have more : ∀ b ∈ wr, b ∈ S :: wr := fun b z => List.mem_cons_of_mem _ z
  induction left with
  | zero =>
    intro i s ks hn st set same out
    have all : xs.take i = xs := List.take_of_length_le (by omega)
    rw [all] at same
    have hin : n = i := hn
    subst hin
    refine codeAny_builtin F.entry_set_update_loop (by
      rw [Around.under_plainId F.plain_set_update_loop _]
      exact wpAny_bind (m := pyNext (.ref I)) (W.done s _ _ st fun s' hm => wpAny_pure (out s' ks (hm.mono more) (set.at fun o e => hm.heap S o off e) same)))
  | succ left ih =>
    intro i s ks hn st set same out
    have lt : i < n := by omega
    refine codeAny_builtin F.entry_set_update_loop (by
      rw [Around.under_plainId F.plain_set_update_loop _]
      refine wpAny_bind (m := pyNext (.ref I)) (W.item i s _ _ lt st fun v s' hP st' hm => ?_)
      obtain ⟨t, rfl⟩ := tells i v hP
      have set' : TxS P w s'.heap S ks := set.at fun o e => hm.heap S o off e
      show wpAny _ A.in1 (holding [Value.str (xs.getD i Str.empty) t] (setAdd S (.str (xs.getD i Str.empty) t)) >>= _) _ _ s'
      have room : ks.length + 1 < scanBound := by
        have := same.2.2
        rw [List.length_take] at this
        omega
      have at_i : xs[i]? = some (xs.getD i Str.empty) := by
        rw [List.getD_eq_getElem?_getD, List.getElem?_eq_getElem (by omega)]
        rfl
      unfold setAdd
      refine wpAny_bind (wpAny_holding (wpAny_holding (wpAny_bind ((PySem.strKind P w).pyHash (k := xs.getD i Str.empty) (strKind_is _ _ _ _) (add (s := { s' with toks := s'.toks + 1 }) set' room fun b h2 ks2 sb which set2 => ?_)))))
      have same2 : Same ks2 (xs.take (i + 1)) := by
        obtain ⟨s1, s2, s3⟩ := same
        rw [List.take_add_one, at_i]
        rcases which with ⟨hin, rfl⟩ | ⟨hout, pm⟩
        · refine ⟨s1, fun k => ?_, by rw [List.length_append]; omega⟩
          rw [List.mem_append]
          refine ⟨fun z => .inl ((s2 k).mp z), fun z => z.elim (s2 k).mpr fun z => ?_⟩
          have e : k = xs.getD i Str.empty := by simpa using z
          rw [e]
          exact hin
        · refine ⟨pm.nodup_iff.mpr (List.nodup_cons.mpr ⟨hout, s1⟩), fun k => ?_, ?_⟩
          · rw [pm.mem_iff, List.mem_cons, List.mem_append, s2 k]
            simp only [Option.toList_some, List.mem_singleton]
            exact Or.comm
          · rw [pm.length_eq, List.length_cons, List.length_append]
            simpa using s3
      refine wpAny_pure ⟨plainId_quiet F.plain_set_update_loop _, ih (i + 1) _ ks2 (by omega) (W.frame _ s' _ _ st' (Nat.le_succ _) fun b hb o e => ?_) set2 same2 fun s3 ks3 mv set3 same3 => ?_⟩
      · exact (sb.2 b fun z => apart (z ▸ hb)).trans e
      · exact out s3 ks3 (Moved.trans W.gtrans ((hm.mono more).then_heap (Nat.le_succ _) fun b o hb e => (sb.2 b fun z => hb (z ▸ List.mem_cons_self)).trans e) mv) set3 same3)
theorem tells_at : ∀ {vs : List Value} {xs : List Str}, StrsAre vs xs → ∀ (i : Nat) (v : Value), vs[i]? = some v → ∃ t, v = .str (xs.getD i Str.empty) t
  | _, _, .nil, i, v, e => by cases e
  | _, _, .cons y t r, 0, v, e => ⟨t, (Option.some.inj e).symm⟩
  | _, _, .cons y t r, i + 1, v, e => tells_at r i v e
theorem blank_at : (s.heap.push (blank w)).get? s.heap.objs.size = some (blank w) := Heap.get?_push_size _ rfl
theorem runs {l : Addr} {its : Array Value} {xs : List Str} (quiet : A.in1.handled = none) (here : s.heap.IsList l its) (are : StrsAre its.toList xs) (few : xs.length + 1 < scanBound) {R : Result → Shared → Prop} (out : ∀ s2, Done P w s xs s2 → R (.ok (.ret .none)) s2) :
    codeAny (model P w) A (.builtin "set.update.loop" ⟨[.ref s.heap.objs.size, .ref (s.heap.objs.size + 1)], []⟩) R { s with heap := (s.heap.push (blank w)).push { cls := .type "list_iterator", data := .fields #[.ref l, .int 0 0] } } := by
  have low : l < s.heap.objs.size := by
    obtain ⟨u, hu, _⟩ := here
    exact Heap.lt_size hu
  have wide : (s.heap.push (blank w)).objs.size = s.heap.objs.size + 1 := Heap.size_push ..
  have many : its.size = xs.length := (Array.length_toList ..).symm.trans are.len_eq
  have apart : s.heap.objs.size ∉ [s.heap.objs.size + 1, l] := fun z => by
    rcases List.mem_cons.mp z with z | z
    · exact absurd z (Nat.ne_of_lt (Nat.lt_succ_self _))
    · exact absurd (List.mem_singleton.mp z) (Nat.ne_of_gt low)
  have old : ∀ b u, s.heap.get? b = some u → ((s.heap.push (blank w)).push { cls := .type "list_iterator", data := .fields #[.ref l, .int 0 0] }).get? b = some u := fun b u e => Heap.get?_push_of_some _ (Heap.get?_push_of_some _ e)
  have iter : ((s.heap.push (blank w)).push { cls := .type "list_iterator", data := .fields #[.ref l, .int 0 0] }).get? (s.heap.objs.size + 1) = some { cls := .type "list_iterator", data := .fields #[.ref l, .int 0 0] } := by
    rw [← wide]
    exact Heap.get?_push_size _ rfl
  refine goes (Walks.list (prog := P) (w := w) quiet (s.heap.objs.size + 1) l (Nat.ne_of_lt (Nat.lt_succ_of_lt low)) its).toS s.heap.objs.size apart xs many few (fun i v hv => tells_at are i v (by rw [Array.getElem?_toList]; exact hv)) its.size 0 _ [] (by omega)
    ⟨⟨_, iter, rfl, rfl⟩, (here.push _).push _⟩ (blank_tx (Heap.get?_push_of_some _ blank_at)) ⟨List.nodup_nil, fun k => by simp, Nat.zero_le _⟩ fun s2 ks moved set same => ?_
  refine out s2 ⟨s2.heap, s2.toks, ks, ?_, set, same, fun b u e => moved.heap b u (fun z => ?_) (old b u e)⟩
  · have a1 := moved.gens
    have a2 := moved.drawn
    have a3 := moved.os
    cases s2
    cases s
    simp only at a1 a2 a3
    subst a1 a2 a3
    rfl
  · have lt := Heap.lt_size e
    rcases List.mem_cons.mp z with z | z
    · exact absurd z (Nat.ne_of_lt lt)
    · exact absurd (List.mem_singleton.mp z) (Nat.ne_of_lt (Nat.lt_succ_of_lt lt))
/-- a new set, told the list's texts -/
theorem fills {l : Addr} {its : Array Value} {xs : List Str} (quiet : A.handled = none) (here : s.heap.IsList l its) (are : StrsAre its.toList xs) (few : xs.length + 1 < scanBound) {B : Around} {R : Result → Shared → Prop} (out : ∀ s2, Done P w s xs s2 → R (.ok (.ret .none)) s2) :
    wpAny (model P w) A (Builtin.«set.__init__» ⟨[.ref s.heap.objs.size, .ref l], []⟩) (fun fin s2 => match fin with | .done f => R (.ok f) s2 | .again c => c.quiet = true ∧ codeAny (model P w) B c R s2) E { s with heap := s.heap.push (blank w) } := by
  have listed : (s.heap.push (blank w)).IsList l its := here.push _
  obtain ⟨⟨ucls, udict, udata, uslots⟩, hu, hc, k, hd⟩ := listed
  simp only at hc hd
  subst hc hd
  have b1 := F.sub_list_set
  have b2 := F.sub_list_frozenset
  have b3 : (Value.type "list" == Value.type "dict") = false := by decide
  have b4 := blank_at (w := w) (s := s)
  unfold Builtin.«set.__init__» noKeywords Builtin.Frozenset.updateFrom
  generalize name : pyIter = walk
  wp_walk
  subst name
  have wide : (s.heap.push (blank w)).objs.size = s.heap.objs.size + 1 := Heap.size_push ..
  refine wpAny_pyIter_list (here.push _) (wpAny_bind (wpAny_runValue ?_))
  rw [wide]
  exact runs (by simp [quiet]) here are few fun s2 z => wpAny_pure (wpAny_pure (out s2 z))
/-- set(xs) -/
theorem makes {l : Addr} {its : Array Value} {xs : List Str} {Q : Value → Shared → Prop} (quiet : A.handled = none) (here : s.heap.IsList l its) (are : StrsAre its.toList xs) (few : xs.length + 1 < scanBound)
    (out : ∀ s2, Done P w s xs s2 → Q (.ref s.heap.objs.size) s2) : wpAny (model P w) A (call (.type "set") [.ref l]) Q E s := by
  have all := F.called_set
  obtain ⟨c0, c1, c2⟩ := all.mro
  have d1 := all.made
  have d2 := all.sub
  have d3 := all.notType
  have d4 := all.canCreate
  have d5 := F.typeCall_set_1 (.ref l)
  refine wpAny_call (codeAny_of_tree ?_)
  show wpAny _ _ (callAny (.type "set") ⟨[.ref l], []⟩) _ _ _
  refine wpAny_pure ⟨Code.quiet_builtin _ (by decide +kernel), codeAny_builtin F.entry_type_call ?_⟩
  rw [Around.under_plain (weight_type_call_type "set" [.ref l] []) rfl]
  repeat (any_goals (first | assumption | wp_step))
  refine codeAny_mono (code_set_led1 (.ref l) (E := E) (Q₁ := fun v s1 => v = .ref s.heap.objs.size ∧ s1 = { s with heap := s.heap.push (blank w) }) ⟨rfl, rfl⟩) fun r s1 h1 => ?_
  cases r with
  | error e => exact h1
  | ok f =>
    cases f with
    | next => exact h1.elim
    | brk => exact h1.elim
    | cont => exact h1.elim
    | ret v =>
      obtain ⟨rfl, rfl⟩ := h1
      have e0 := blank_at (w := w) (s := s)
      have e1 : Shared.TypeIs { s with heap := s.heap.push (blank w) } (.ref s.heap.objs.size) "set" := ⟨_, e0, rfl⟩
      have e2 := all.init.lookup
      have e3 := all.init.bind (.ref s.heap.objs.size)
      repeat (any_goals (first | assumption | wp_step))
      refine codeAny_mono (codeAny_call_builtin (R := wants (fun v s2 => v = .none ∧ Done P w s xs s2) E) all.init.plain F.entry_set_init (check_set_init_1 e1 (fills (by simp [quiet]) here are few fun s2 z => ⟨rfl, z⟩))) fun r s2 h2 => ?_
      cases r with
      | error e => exact h2
      | ok f =>
        cases f with
        | next => exact h2.elim
        | brk => exact h2.elim
        | cont => exact h2.elim
        | ret v =>
          obtain ⟨rfl, z⟩ := h2
          repeat (any_goals (first | assumption | wp_step))
          exact out s2 z
/-- sorted(a set of texts) -/
theorem sorts {a : Addr} {ks : List Str} {Q : Value → Shared → Prop} (R : TxS P w s.heap a ks) (quiet : A.handled = none) (few64 : ks.length < 64)
    (out : ∀ s' p (row : Array Value) (c : Nat) (ys : List Str), (∀ b o, s.heap.get? b = some o → s'.heap.get? b = some o) → s'.gens = s.gens → s'.os = s.os → s.heap.objs.size ≤ p → s'.heap.get? p = some (seqObj "list" row c) → StrsAre row.toList ys → ys.Perm ks → sortedS ys = true → Q (.ref p) s') :
    wpAny (model P w) A (call (.builtin "sorted") [.ref a]) Q E s := by
  obtain ⟨o, es, ep, t, ⟨ho, hx, hd⟩, ⟨rows, ek, once⟩, ⟨few, fit⟩, ris, led⟩ := R
  have size : es.toList.length = ks.length := by rw [← ek, List.length_map]
  refine Calls.call_function_entry kind_sorted plain_sorted entry_sorted (args_sorted1 (.ref a)) (by
    unfold Builtin.«sorted»
    refine wpAny_bind (m := checkCount "sorted" 1 1 _) (wpAny_pure (wpAny_bind (collect_set (A := A.in1) quiet ⟨o, ho, hx.1, hd⟩ fit few ris led fun s1 vs keep lt gens os pm => ?_)))
    have many : vs.length < 64 := by
      rw [pm.length_eq, List.length_map, size]
      exact few64
    have are : StrsAre vs (vs.map strOf) := strsAre_map vs fun v hv => by
      obtain ⟨e, he, q⟩ := List.mem_map.mp (pm.mem_iff.mp hv)
      obtain ⟨k, tk, h1, _⟩ := rows e he
      exact ⟨k, tk, q ▸ h1⟩
    have perm : (vs.map strOf).Perm ks := by
      have := pm.map strOf
      rw [List.map_map] at this
      rw [← ek]
      exact this
    refine wpAny_bind (wpAny_newList ?_ (by rw [sizeLine_eq]; omega))
    have hoL : (s1.heap.push (seqObj "list" vs.toArray 0)).get? s1.heap.objs.size = some (seqObj "list" vs.toArray 0) := Heap.get?_push_size _ rfl
    refine wpAny_bind (wpAny_holding (wpAny_call_entry slot_list_sort ⟨_, hoL, rfl⟩ entry_list_sort (list_sort_treeK strKind_oneLt hoL are.keysOf (fun v₁ v₂ rest e => keyKind_strs (by rw [← e]; exact are)) many fun st' hp hs => ⟨_, rfl, ?_⟩) (args_list_sort _)))
    obtain ⟨ys, y1, y2, y3⟩ := sorted_out_str are hp hs
    obtain ⟨c, hc⟩ := sortedHeap_at (vs := vs) (out := (arrOf st').map (·.2)) hoL
    refine wpAny_pure ⟨_, rfl, out _ s1.heap.objs.size _ c ys (fun b u e => ?_) gens os lt hc y1 (y2.trans perm) y3⟩
    have q := keep b u e
    have small := Heap.lt_size q
    have same : (sortedHeap (s1.heap.push (seqObj "list" vs.toArray 0)) s1.heap.objs.size vs ((arrOf st').map (·.2))).get? b = (s1.heap.push (seqObj "list" vs.toArray 0)).get? b := sortedHeap_old (Nat.ne_of_lt small) (by rw [size_push']; exact Nat.lt_succ_of_lt small)
    exact same.trans (Heap.get?_push_of_some _ q))
end
/-- the set of texts at a, tracked -/
def SetT (P : Program) (w : World) (a : Addr) (ks : List Str) : HO := .ext fun h => TxS P w h a ks
section
variable {X : Cx}
theorem setT_ok {P : Program} {w : World} {H : Hp} {h : Heap} {a : Addr} {ks : List Str} (R : TxS P w h a ks) : ObjOk P w H h a (SetT P w a ks) := by
  obtain ⟨o, es, ep, t, ho, _⟩ := R.len
  exact ⟨R, ⟨o, ho⟩, fun _ _ q k => q.at k⟩
def rSetT (X : Cx) : List V → Hp → VK → Prop := fun vs H Q => ∃ l xs, vs = [.ref l] ∧ SqL X.K H l (xs.map V.str) ∧ xs.length < 1000 ∧ ∀ a ks, H a = none → Same ks xs → Q (.ref a) (upd H a (SetT X.prog X.w a ks))
theorem cr_setT (hc : X.calm = true) : CallR X (.type "set") (rSetT X) := by
  intro pins s σ H vs us Q I r hq
  obtain ⟨l, xs, rfl, hl, hz, q⟩ := hq
  rw [Vals.ref1 r]
  obtain ⟨its, rv, here, _⟩ := I.list hl
  refine makes (I.ok.hd hc) here.isList (xs := xs) (by simpa using rv.strs) (by unfold scanBound; omega) fun s2 z => ?_
  obtain ⟨hp, tk, ks, rfl, R, same, keep⟩ := z
  exact ⟨.ref s.heap.objs.size, _, I.laid (t' := tk) keep (Nat.le_refl _) (setT_ok R), rfl, q _ ks (I.hok.fresh (Nat.le_refl _)) same⟩
def rSortT (X : Cx) : List V → Hp → VK → Prop := fun vs H Q => ∃ a ks, vs = [.ref a] ∧ H a = some (SetT X.prog X.w a ks) ∧ ks.length < 64 ∧ ∀ ys p, ys.Perm ks → sortedS ys = true → H p = none → Q (.ref p) (upd H p (.lst (ys.map V.str)))
theorem cr_sortT (hc : X.calm = true) : CallR X (.builtin "sorted") (rSortT X) := by
  intro pins s σ H vs us Q I r hq
  obtain ⟨a, ks, rfl, ha, hz, q⟩ := hq
  rw [Vals.ref1 r]
  refine sorts ((I.hok a _ ha).1) (I.ok.hd hc) hz fun s' p row c ys keep gens os le at_ are perm srt => ?_
  have new : H p = none := I.hok.fresh le
  have short : (ys.map V.str).length ≤ sizeLine := by rw [List.length_map, perm.length_eq, sizeLine_eq]; omega
  have J : Inv X pins σ (upd H p (.lst (ys.map V.str))) { s with heap := s'.heap, gens := s'.gens, drawn := s'.drawn, toks := s'.toks } :=
    I.call (ch := []) (Un.laid keep le new) (I.hok.laid keep le ⟨short, row.toList, c, vals_of_strs are, at_⟩) (by rw [gens]; exact I.bare) (fun _ z => absurd z (by simp))
  have same : s' = { s with heap := s'.heap, gens := s'.gens, drawn := s'.drawn, toks := s'.toks } := by
    cases s'
    cases s
    cases os
    rfl
  rw [same]
  exact ⟨.ref p, _, J, rfl, q ys p perm srt new⟩
end
end StS
/-! len of a set of texts -/
namespace StS
open PySem PySem.Spec PyProof.Rows L2
section
variable {X : Cx}
def rLenS (X : Cx) : List V → Hp → VK → Prop := fun vs H Q => ∃ a ks, vs = [.ref a] ∧ H a = some (SetT X.prog X.w a ks) ∧ ks.length < 1000 ∧ Q (.int (ks.length : Int)) H
theorem cr_lenS : CallR X (.builtin "len") (rLenS X) := by
  intro pins s σ H vs us Q I r hq
  obtain ⟨a, ks, rfl, ha, hz, q⟩ := hq
  rw [Vals.ref1 r]
  obtain ⟨o, es, ep, t, ⟨ho, hx, hd⟩, ⟨_, ek, _⟩, ⟨_, fit⟩, _⟩ := (I.hok a _ ha).1
  have size : es.size = ks.length := by rw [← ek, List.length_map, Array.length_toList]
  exact call_len_set ho hx hd fit (by rw [size]; omega) ⟨.int ks.length, H, I.tok _, ⟨_, by rw [size]⟩, q⟩
end
end StS
/-! a static method called off its class -/
namespace StM
open PySem PySem.Spec PyProof.Rows L2 ClX
/-- C.m is a staticmethod: its record at p, its def at g -/
structure SMet (K : PySem.W.Frag) (C : Addr) (mc : Value) (m : Str) (p g : Addr) : Prop where
  at_ : PySem.W.findCls K (.ref C) mc m = some (.get (.builtin "staticmethod.__get__") (.ref p) .none (.ref C))
  rc : ∃ rest, PySem.W.recIn K p "staticmethod" = some (.ref g :: rest)
  kp : PySem.W.keepIn K (.ref g) = true
/-- e.m(..), e the class at C -/
def tSMeth (C : Addr) (sp : Sp) (E : XK) (ta : TE) (t : TA) : TE := fun σ H Q => ta σ H fun x H1 => x = .ref C ∧ t σ H1 fun vs H2 => sp vs H2 Q E
section
variable {X : Cx} {CX : CXT} {k : Nat} {C p g : Addr} {mc : Value} {sp : Sp} {E : XK} {o e : Expr} {es : List Expr} {m : Str} {pos apos : Pos} {ta : TE} {t : TA} {pl : Sem Bool}
theorem pe_smeth (he : PE X o ta) (r : CRead X.K C mc) (c : SMet X.K C mc m p g) (F : FnR X.prog X.w X.K X.mg X.base CX k g sp) (hr : Room k X.A) (hx : Passes CX X E) (ha : PA X (e :: es) t)
    (hst : starEach (e :: es) X.env = (false, eval e X.env) :: starEach es X.env := by rfl) (hpl : (backTo pos (starEach es X.env)).any (·.1) = false := by rfl)
    (ht : eval (.Call (.Attribute o m apos) (e :: es) [] pos) X.env = (do
      let ov ← eval o X.env
      standAt apos.atName
      let (f, first) ← holding [ov] (getMethod ov m pl)
      callWith pos f first (backTo pos (starEach (e :: es) X.env)) (backToKw pos (keywordEach [] X.env))) := by rfl) :
    PE X (.Call (.Attribute o m apos) (e :: es) [] pos) (tSMeth C sp E ta t) := by
  refine ⟨fun pins s σ H Q I h => ?_⟩
  refine PySem.W.methodCall_KW (pl := pl) (thn (he.run pins s σ H _ I h) fun u s1 ⟨x, H1, I1, rx, ex, q⟩ => ?_) ht
  subst ex
  obtain rfl : u = Value.ref C := rx
  obtain ⟨rest, hp⟩ := c.rc
  refine PySem.W.method_cls I1.kIn r.ga (PySem.W.cls_bind I1.kIn r.rd c.at_ ?_)
  refine wpAny_call (PySem.W.sm_get (s := { s1 with toks := s1.toks + 1 }) I1.kIn hp (PySem.W.handed_on rfl ?_))
  have I2 : Inv X pins σ H1 { s1 with toks := s1.toks + 1 } := I1.tok _
  refine PySem.W.callWith_K (h₀ := X.base) I2.ok.mod.kin c.kp (thn (ha.run pos pins _ σ H1 _ I2 q) fun us s3 ⟨vs, H2, I3, rv, q2⟩ => ⟨I3.kIn, ?_⟩) hst hpl
  exact wpAny_call (run_fnR (us := us) (vs := vs) F hr hx I3 rv q2)
end
end StM
/-! x == y, y a tuple; C.m(k = v, ..) of a static method -/
namespace EqT
open PySem PySem.Spec PyProof.Rows L2 StX OpX
section
variable {X : Cx} {CX : CXT} {n : Nat} {C g : Addr} {sp : Sp} {E : XK}
/-- x == y: x of the class at C; y a tuple -/
def rEqT (X : Cx) (C : Addr) (sp : Sp) (E : XK) : R2 := fun x y H Q => ∃ a b ys, x = .ref a ∧ y = .ref b ∧ InsC X H a C ∧ SqT X.K H b ys ∧ PySem.W.notFirst X.K C (.type "tuple") = true ∧ sp [.ref a, .ref b] H Q E
theorem op_eqT {op : CmpOp} (hop : ∀ a b, compareOp op a b = richCompare op a b) (h : Has X.K C g (cmpInfo op).2.1) (F : FnR X.prog X.w X.K X.mg X.base CX n g sp)
    (hr : Room n X.A) (hx : Passes CX X E) : OpR X (compareOp op) (rEqT X C sp E) := by
  intro pins s σ H x y v u Q I rx ry hq
  obtain ⟨a, b, ys, rfl, rfl, ha, hb, hn, q⟩ := hq
  cases (show v = Value.ref a from rx)
  cases (show u = Value.ref b from ry)
  obtain ⟨ox, od, J, _⟩ := insC_at I ha
  obtain ⟨its, rv, ⟨o, ho, hc, nn, hd⟩, _⟩ := I.tuple hb
  have ty : PySem.W.Looks (model X.prog X.w) s.heap (typeOf (.ref b)) (.type "tuple") := fun A Q E s k q => wpAny_typeOf_ref (k _ _ ho) (by rw [hc]; exact q)
  obtain ⟨m, hF⟩ := I.fr
  rw [hop]
  exact PySem.W.cmp_K (op := op) (tb := .type "tuple") hr.units0 hF I.ok.mod.kin J ty hn h.at_ h.fn (run_own (us := [.ref a, .ref b]) (vs := [.ref a, .ref b]) F hr hx I (.cons rfl (.cons rfl .nil)) q)
end
end EqT
namespace StM
open PySem PySem.Spec PyProof.Rows L2 ClX
/-- e.m(k = v, ..), e the class at C -/
def tSMethK (C : Addr) (n : Nat) (sp : Sp) (gV : List V → List V → List V) (E : XK) (ta : TE) (tk : TA) : TE := fun σ H Q => ta σ H fun x H1 => x = .ref C ∧ tk σ H1 fun zs H2 => zs.length = n ∧ sp (gV [] zs) H2 Q E
section
variable {X : Cx} {k : Nat} {C p f : Addr} {mc : Value} {fd : FuncData} {ps ks : List Str} {sp : Sp} {o : Expr} {m : Str} {pos apos : Pos} {ta : TE} {tk : TA} {pl : Sem Bool} {kws : List Keyword} {g : List Value → List Value → List Value} {gV : List V → List V → List V}
theorem pe_smethK (he : PE X o ta) (r : CRead X.K C mc) (c : SMet X.K C mc m p f) (F : FnOk X.prog X.w X.K X.mg X.base CX0 k f fd ps sp) (hr : Room k X.A) (hb : KBn X.K fd ps 0 ks g gV) (hkw : PK X kws tk)
    (some_ : (backToKw pos (keywordEach kws X.env)).all (·.1.isSome) = true := by rfl) (names : (backToKw pos (keywordEach kws X.env)).filterMap (·.1) = ks := by rfl)
    (none_ : ((backTo pos (starEach [] X.env)).any (·.1) || (backToKw pos (keywordEach kws X.env)).any (·.1.isNone)) = false := by rfl)
    (form : eval (.Call (.Attribute o m apos) [] kws pos) X.env = (do let ov ← eval o X.env; standAt apos.atName; let (f, first) ← holding [ov] (getMethod ov m pl); callWith pos f first (backTo pos (starEach [] X.env)) (backToKw pos (keywordEach kws X.env))) := by rfl) :
    PE X (.Call (.Attribute o m apos) [] kws pos) (tSMethK C ks.length sp gV E0 ta tk) := by
  refine ⟨fun pins s σ H Q I h => PySem.W.methodCall_KW (pl := pl) (thn (he.run pins s σ H _ I h) fun u s1 ⟨x, H1, J, rx, ex, q⟩ => ?_) form⟩
  subst ex
  cases (show u = Value.ref C from rx)
  obtain ⟨rest, hp⟩ := c.rc
  refine PySem.W.method_cls J.kIn r.ga (PySem.W.cls_bind J.kIn r.rd c.at_ (wpAny_call (PySem.W.sm_get (s := { s1 with toks := s1.toks + 1 }) J.kIn hp (PySem.W.handed_on rfl ?_))))
  have J2 : Inv X pins σ H1 { s1 with toks := s1.toks + 1 } := J.tok _
  refine PySem.W.callWith_KW0 (first := []) (h₀ := X.base) J2.ok.mod.kin c.kp some_ ?_ none_
  refine thn (hkw.run pos pins _ σ H1 _ J2 q) fun ws s2 ⟨zs, H2, I2, rz, l2, q2⟩ => ⟨I2.kIn, ?_⟩
  rw [names]
  exact run_fnN (us := []) (vs := []) F hr hb pass0 I2 .nil rz rfl l2 q2
end
end StM
/-! C.m(k = v, ..) of a static method that may let an error out; C(k = v), __init__ with a star behind -/
namespace StM
open PySem PySem.Spec PyProof.Rows L2 ClX
section
variable {X : Cx} {CX : CXT} {E : XK} {k : Nat} {C p f : Addr} {mc : Value} {fd : FuncData} {ps ks : List Str} {sp : Sp} {o : Expr} {m : Str} {pos apos : Pos} {ta : TE} {tk : TA} {pl : Sem Bool} {kws : List Keyword} {g : List Value → List Value → List Value} {gV : List V → List V → List V}
theorem pe_smethKx (he : PE X o ta) (r : CRead X.K C mc) (c : SMet X.K C mc m p f) (F : FnOk X.prog X.w X.K X.mg X.base CX k f fd ps sp) (hr : Room k X.A) (hx : Passes CX X E) (hb : KBn X.K fd ps 0 ks g gV) (hkw : PK X kws tk)
    (some_ : (backToKw pos (keywordEach kws X.env)).all (·.1.isSome) = true := by rfl) (names : (backToKw pos (keywordEach kws X.env)).filterMap (·.1) = ks := by rfl)
    (none_ : ((backTo pos (starEach [] X.env)).any (·.1) || (backToKw pos (keywordEach kws X.env)).any (·.1.isNone)) = false := by rfl)
    (form : eval (.Call (.Attribute o m apos) [] kws pos) X.env = (do let ov ← eval o X.env; standAt apos.atName; let (f, first) ← holding [ov] (getMethod ov m pl); callWith pos f first (backTo pos (starEach [] X.env)) (backToKw pos (keywordEach kws X.env))) := by rfl) :
    PE X (.Call (.Attribute o m apos) [] kws pos) (tSMethK C ks.length sp gV E ta tk) := by
  constructor
  intro pins s σ H Q I h
  refine PySem.W.methodCall_KW (pl := pl) (thn (he.run pins s σ H _ I h) fun u s1 back => ?_) form
  obtain ⟨x, H1, J, rx, ex, q⟩ := back
  subst ex
  cases (show u = Value.ref C from rx)
  obtain ⟨rest, hp⟩ := c.rc
  refine PySem.W.method_cls J.kIn r.ga (PySem.W.cls_bind J.kIn r.rd c.at_ (wpAny_call (PySem.W.sm_get (s := { s1 with toks := s1.toks + 1 }) J.kIn hp (PySem.W.handed_on rfl ?_))))
  have J2 : Inv X pins σ H1 { s1 with toks := s1.toks + 1 } := J.tok _
  refine PySem.W.callWith_KW0 (first := []) (h₀ := X.base) J2.ok.mod.kin c.kp some_ ?_ none_
  refine thn (hkw.run pos pins _ σ H1 _ J2 q) fun ws s2 back => ?_
  obtain ⟨zs, H2, I2, rz, l2, q2⟩ := back
  refine ⟨I2.kIn, ?_⟩
  rw [names]
  exact run_fnN (us := []) (vs := []) F hr hb hx I2 .nil rz rfl l2 q2
end
end StM
namespace StX
open PySem PySem.Spec PyProof.Rows L2
section
variable {CX : CXT} {P : Program} {w : World} {K : PySem.W.Frag} {mg : Str → Option Value} {base : Heap} {k : Nat} {f : Addr} {name qual : Str} {params : Arguments} {body : List Stmt} {scope : Scope} {dV kV doc pm cdv ct oc : Value} {an od : Option Addr} {osl : Array (Option Value)} {N : List Str} {sp : Sp}
/-- a def (self, x, *v), asked with x by its name -/
def Kw1 (P : Program) (w : World) (K : PySem.W.Frag) (mg : Str → Option Value) (base : Heap) (CX : CXT) (k : Nat) (f : Addr) (x : Str) (sp : Sp) : Prop := ∀ (A : Around) (outer : List Env) (s : Shared) (H : Hp) (u0 u1 : Value) (v0 v1 : V) (Q : VK) (E : XK),
  Room k A → Env0 P w K mg base A outer s H → RelV v0 u0 → RelV v1 u1 → (∀ p, H p = none → sp [v0, v1, .ref p] (upd H p (.tup [])) Q E) → codeAny (model P w) A (.call (.ref f) ⟨[u0], [(x, u1)]⟩) (CR CX outer P w H s Q E) s
theorem kw1 {a0 x pv : Str} (lk : K.lookup f = some ⟨oc, od, .func (PySem.W.fnOf name qual params body scope dV kV doc pm an cdv ct), osl⟩) (hcd : PySem.W.codeIn K cdv qual = true) (S : FnScope N [a0, x, pv] scope) (up : CXUp CX)
    (binds : ∀ u0 u1 : Value, bindArgs (PySem.W.fnOf name qual params body scope dV kV doc pm an cdv ct) ⟨[u0], [(x, u1)]⟩ = (newTuple [] >>= fun t => pure [(a0, u0), (x, u1), (pv, t)]))
    (runs : ∀ (A : Around) (outer : List Env) (s : Shared) (H : Hp) (vs : List V) (Q : VK) (E : XK), Room k (A.deeper (envOfC qual scope s.heap.objs.size f cdv)) → sp vs H Q E →
      ∃ t, PSs (cxOf CX P w K mg base N qual scope f cdv A outer s H E) body t ∧ t { nx := fun _ H' => Q .non H', rt := Q } (start N vs) H) : Kw1 P w K mg base CX (k + 1) f x sp := by
  intro A outer s H u0 u1 v0 v1 Q E room e0 r0 r1 told
  have fresh : H s.heap.objs.size = Option.none := e0.hok.fresh (Nat.le_refl _)
  have laid := un_laid (fs := frs outer) (s := s) (o := ({ cls := .type "tuple", data := .seq #[] } : Obj)) (u := .tup []) fresh
  have obj : ObjOk P w (upd H s.heap.objs.size (.tup [])) (s.heap.push ({ cls := .type "tuple", data := .seq #[] } : Obj)) s.heap.objs.size (.tup []) := ⟨Nat.zero_le _, [], .nil, ⟨_, Heap.get?_push_size _ rfl, rfl, _, rfl⟩⟩
  apply run_bnd lk hcd S room e0 (G := fun xs H2 => ∃ p, H p = Option.none ∧ xs = [v0, v1, V.ref p] ∧ H2 = upd H p (.tup []))
  · intro A' Ex Q' h
    rw [binds]
    refine wpAny_bind (wpAny_newTuple (wpAny_pure ?_) (Nat.zero_le _))
    exact h _ _ [v0, v1, V.ref s.heap.objs.size] [u0, u1, Value.ref s.heap.objs.size] (env0_laid e0 obj) laid rfl (fun e s' => up outer s H _ _ E e s' laid (fun b o q => Heap.get?_push_of_some _ q) rfl) (.cons r0 (.cons r1 (.cons rfl .nil))) rfl ⟨_, fresh, rfl, rfl⟩
  · rintro s2 H2 xs ⟨p, hp, rfl, rfl⟩ room'
    exact runs A outer s2 _ _ Q E room' (told p hp)
end
end StX
namespace StX
open PySem PySem.Spec PyProof.Rows L2
section
variable {X : Cx} {CX : CXT} {E : XK} {k : Nat} {C f : Addr} {n x : Str} {sp : Sp} {tk : TA} {kws : List Keyword} {p pos : Pos}
/-- C(x = e), what stands behind x in __init__ is a star -/
def tMakeKw (C : Addr) (sp : Sp) (E : XK) (tk : TA) : TE := fun σ H Q => tk σ H fun zs H1 => ∃ z, zs = [z] ∧ ∀ o dx, H1 o = Option.none → H1 dx = Option.none → dx ≠ o → ∀ q, (upd (upd H1 dx (.own o)) o (.ins C dx [])) q = Option.none →
  sp [V.ref o, z, V.ref q] (upd (upd (upd H1 dx (.own o)) o (.ins C dx [])) q (.tup [])) (fun v H2 => v = .non ∧ Q (.ref o) H2) E
theorem pe_makeKw (M : Mk X.K C f) (F : Kw1 X.prog X.w X.K X.mg X.base CX k f x sp) (room : Room (k + 1) X.A) (glob : Gl X n) (isC : X.mg n = some (.ref C)) (hx : Passes CX X E) (hkw : PK X kws tk)
    (all_ : (backToKw pos (keywordEach kws X.env)).all (·.1.isSome) = true := by rfl) (name : (backToKw pos (keywordEach kws X.env)).filterMap (·.1) = [x] := by rfl)
    (plain : ((backTo pos (starEach [] X.env)).any (·.1) || (backToKw pos (keywordEach kws X.env)).any (·.1.isNone)) = false := by rfl) (nd : (n == ("__debug__" : Str)) = false := by decide) : PE X (.Call (.Name n p) [] kws pos) (tMakeKw C sp E tk) := by
  constructor
  intro pins s σ H Q I h
  apply wpAny_Call_Name_kw
  refine ld_glob I glob isC ?_ nd
  refine PySem.W.callWith_KW0 (first := []) (h₀ := X.base) I.ok.mod.kin M.kp all_ ?_ plain
  refine thn (hkw.run pos pins s σ H _ I h) fun ws s2 back => ?_
  obtain ⟨zs, H2, I2, rz, z, ez, told⟩ := back
  subst ez
  obtain ⟨u, eu, ru⟩ := vals1 rz
  subst eu
  refine ⟨I2.kIn, ?_⟩
  rw [name]
  have I3 := Inv.made (C := C) I2
  have here := told (s2.heap.objs.size + 1) s2.heap.objs.size (I2.hok.fresh (Nat.le_succ _)) (I2.hok.fresh (Nat.le_refl _)) (Nat.ne_of_lt (Nat.lt_succ_self _))
  have ran := F _ X.stack _ _ (Value.ref (s2.heap.objs.size + 1)) u (V.ref (s2.heap.objs.size + 1)) z _ E (room.make C [] [(x, u)]) (I3.env0.make C [] [(x, u)]) rfl ru here
  refine wpAny_call (make_map (f := f) (vs := []) (kw := [(x, u)]) I2.kIn M.makes M.init (beq_iff_eq.mp M.fn) (codeAny_mono ran fun r s3 out => ?_))
  match r, out with
  | .error e, out => exact hx pins σ _ _ e s3 I3 out
  | .ok (.ret v), out =>
    obtain ⟨v', H', I4, rv, ev, q3⟩ := I3.after out
    subst ev
    exact ⟨rv, ⟨V.ref (s2.heap.objs.size + 1), H', I4, rfl, q3⟩⟩
  | .ok .next, out => exact out.elim
  | .ok .brk, out => exact out.elim
  | .ok .cont, out => exact out.elim
end
end StX
/-! an error that was caught, kept in a name behind its suite: isinstance of it, its fields -/
namespace EXC
open PySem PySem.Spec PyProof.Rows L2
/-- a caught error at a: its class, its own dict -/
def ExC (cls : Value) (d : Option Addr) (a : Addr) : HO := .ext fun h => ∃ (oe : Obj) (vs : Array Value), h.get? a = some oe ∧ Zc cls d oe ∧ oe.data = .fields vs
theorem exC_ok {P : Program} {w : World} {H : Hp} {h : Heap} {a : Addr} {cls : Value} {d : Option Addr} {oe : Obj} {vs : Array Value} (e : h.get? a = some oe) (z : Zc cls d oe) (hd : oe.data = .fields vs) : ObjOk P w H h a (ExC cls d a) :=
  ⟨⟨oe, vs, e, z, hd⟩, ⟨oe, e⟩, fun _ _ ⟨o, v, q, r⟩ k => ⟨o, v, k o q, r⟩⟩
section
variable {X : Cx} {pins : List (Addr × Obj)} {σ : L2.St} {H : Hp} {s : Shared} {a : Addr} {o : HO}
/-- what stands there untracked, and did not stand at the entry, is tracked from now on -/
theorem Inv.track {oe : Obj} {vs : Array Value} (I : Inv X pins σ H s) (here : s.heap.get? a = some oe) (hd : oe.data = .fields vs) (n : H a = none) (n0 : X.s_0.heap.get? a = none) (nL : a ≠ X.env.locals) (nP : ∀ p ∈ X.pn ++ pins, p.1 ≠ a)
    (ok : ObjOk X.prog X.w (upd H a o) s.heap a o) : Inv X pins σ (upd H a o) s := by
  have off : ∀ b, b ≠ a → upd H a o b = H b := fun b hb => upd_ne hb
  have ne0 : ∀ b u, X.s_0.heap.get? b = some u → b ≠ a := fun b u e z => by rw [z, n0] at e; cases e
  have neS : ∀ b u, H b = some u → b ≠ a := fun b u e z => by rw [z, n] at e; cases e
  have base : Un X.fs X.ex X.H_0 (upd H a o) X.s_0.heap s.heap := {
    keep := I.base.keep
    slot := I.base.slot
    free := fun b u e m x => by rw [off b (ne0 b u e)]; exact I.base.free b u e m x
    there := I.base.there
    tups := fun b xs e => by
      have q := I.base.tups b xs e
      rw [off b (neS b _ q)]; exact q
    frzs := fun b u v e => by
      have q := I.base.frzs b u v e
      rw [off b (neS b _ q)]; exact q
    tbls := fun b ps e => by
      obtain ⟨m, q⟩ := I.base.tbls b ps e
      exact ⟨m, by rw [off b (neS b _ q)]; exact q⟩ }
  refine ⟨I.ok, I.os, I.bare, base, I.loc, I.cell, ?_, fun x c e => ?_, fun p hp => ?_, I.hok.laidN (fun _ _ e => e) n ok, I.len⟩
  · rw [off _ nL.symm]; exact I.free
  · have ne : c ≠ a := fun z => by
      obtain ⟨v, oc, hc, hv⟩ := I.cell x c e
      rw [z, here] at hc
      cases hc
      rw [hd] at hv
      cases hv
    rw [off _ ne]
    exact I.freeC x c e
  · obtain ⟨q1, q2, q3⟩ := I.pin p hp
    exact ⟨q1, by rw [off _ (nP p hp)]; exact q2, q3⟩
end
/-- what the clause 'except x as n' (n in slot i) wishes of each error of the body; behind it the error is kept -/
def wHeld (K : PySem.W.Frag) (c : Value) (i : Nat) (ts : Addr → Value → Option Addr → TS) (D : Ends) : WX := fun cls d σ H => PySem.W.exmOne K cls c = some true ∧
  ∀ a, H a = none → ts a cls d { nx := fun σ2 H2 => D.nx (σ2.set i none) (upd H2 a (ExC cls d a)), rt := fun _ _ => False, bk := fun _ _ => False, ct := fun _ _ => False } (σ.set i (some (.ref a))) H
section
variable {X : Cx} {x n : Str} {c : Value} {i : Nat} {body suite : List Stmt} {b₀ : Stmt} {np pos pos' : Pos} {tb : WX → TS} {ts : Addr → Value → Option Addr → TS}
theorem ps_try_held (hs : X.stack = X.env :: X.outer) (hf : X.env.frame = some X.env.locals) (hex : X.ex = []) (nd : X.N.Nodup) (at_i : X.N[i]? = some n) (loc : X.env.kindOf n = some .local) (hc : Names X x c)
    (hb : ∀ (W : WX) (pn : List (Addr × Obj)) (xe : Value → Shared → Prop), Takes (X.tr pn xe) W → PassesOwn (model X.prog X.w) X.A X.env xe → PSs (X.tr pn xe) body (tb W))
    (hsu : ∀ (a : Addr) (oe : Obj) (cls : Value) (d : Option Addr) (pn : List (Addr × Obj)), Zc cls d oe → (∃ vs, oe.data = .fields vs) → PSs (X.suite a ((a, oe) :: pn)) (b₀ :: suite) (ts a cls d)) :
    PS X (.Try body [.ExceptHandler (some (.Name x np)) (some n) (b₀ :: suite) pos'] [] [] pos) (fun D σ H => tb (wHeld X.K c i ts D) D σ H) := by
  refine ⟨fun pins s σ H D I h => ?_⟩
  have ok := I.ok
  have frames : X.A.frames = some (X.env :: X.outer) := ok.frames.trans (congrArg some hs)
  let catch' : Value → Shared → Prop := fun e s1 => wpAny (model X.prog X.w) X.A (noteFrame e X.env) (fun _ s2 => wpAny (model X.prog X.w) X.A (setFlight e none) (fun _ s3 =>
    wpAny (model X.prog X.w) X.A (handleBy e X.env [.ExceptHandler (some (.Name x np)) (some n) (b₀ :: suite) pos']) (SP X pins D) X.xe s3) X.xe s2) X.xe s1
  have takes : Takes (X.tr (X.pn ++ pins) catch') (wHeld X.K c i ts D) := by
    rintro u s' ⟨a, B, sI, ps, σ1, H1, cls, d, rfl, J0, nb, up, sky, na, os, ag, hit, next⟩
    have J : Inv X pins σ1 H1 sI := J0.ofTry ok
    rw [show (X.tr (X.pn ++ pins) catch').stack = X.env :: X.outer from hs] at sky
    show wpAny (model X.prog X.w) X.A (noteFrame (.ref a) X.env) _ _ _
    refine Sky.land Zc.steady frames hf sky fun h3 fl3 up3 => ?_
    have J3 : Inv X pins σ1 H1 { s' with heap := h3 } := J.landed nb (by exact fl3.1) (up.trans up3) os ag
    obtain ⟨o3, f3, g3, z3, d3⟩ := fl3.there
    have apart : a ∉ frs (X.env :: X.outer) := fun hm => by
      obtain ⟨_, o, e, hno⟩ := fl3.2.2.1.mem hm
      rw [g3] at e
      cases e
      exact hno _ d3
    have nL : a ≠ X.env.locals := fun z => apart (List.mem_filterMap.mpr ⟨X.env, List.mem_cons_self, by rw [hf, z]⟩)
    have nF : a ∉ X.fs := fun hm => by
      obtain ⟨e, he, q⟩ := List.mem_filterMap.mp hm
      exact apart (List.mem_filterMap.mpr ⟨e, List.mem_cons_of_mem _ he, q⟩)
    have new : sI.heap.get? a = none := by
      cases q : sI.heap.get? a with
      | none => rfl
      | some o =>
        have z := nb a o q (by rw [show (X.tr (X.pn ++ pins) catch').stack = X.env :: X.outer from hs]; exact apart)
        rw [fl3.2.1] at z
        cases z
    have new0 : X.s_0.heap.get? a = none := by
      cases q : X.s_0.heap.get? a with
      | none => rfl
      | some o =>
        obtain ⟨o2, z⟩ := J.base.there a o q (by rw [hex]; exact List.not_mem_nil)
        rw [new] at z
        cases z
    have unpinned : ∀ p ∈ X.pn ++ pins, p.1 ≠ a := fun p hp z => by
      have q := (J.pin p hp).1
      rw [z, new] at q
      cases q
    have S3 := J3.suite g3 d3 na nL nF
    refine wpAny_handleBy_cons (codeAny_handlers_test ?_) (by intro q; cases q)
    have looks : PySem.W.Looks (model X.prog X.w) h3 (typeOf (.ref a)) cls := fun _ _ _ _ k q => wpAny_typeOf_ref (k _ _ g3) (by rw [z3.1]; exact q)
    have hits := PySem.W.exm_one (M := model X.prog X.w) J3.kIn looks hit
    have named : ∀ {Q E : Value → Shared → Prop}, Q c { s' with heap := h3 } → wpAny (model X.prog X.w) (X.A.mark (some (.ref a))) (eval (.Name x np) X.env) Q E { s' with heap := h3 } := fun {Q E} q => by
      obtain ⟨g, nodbg, m | ⟨m, v, w⟩⟩ := hc
      · exact ld_glob (X := X.suite a ((a, o3) :: (X.pn ++ pins))) S3 g m q nodbg
      · exact ld_blt (X := X.suite a ((a, o3) :: (X.pn ++ pins))) S3 g m v q w nodbg
    refine named (hits.here (codeAny_handlers_suite_as (HandSPX.lands_againZ fl3 fun h4 fl4 up4 => ?_)))
    have J4 : Inv X pins σ1 H1 { s' with heap := h4 } := J.landed nb (by exact fl4.1) ((up.trans up3).trans up4) os ag
    obtain ⟨o4, f4, g4, z4, d4⟩ := fl4.there
    refine store_ok (X := X.suite a ((a, o4) :: (X.pn ++ pins))) (v := .ref a) (J4.suite g4 d4 na nL nF) nd at_i (.inl loc) rfl (fun s5 S5 => ?_) (.inr loc)
    refine wpAny_mono ((hsu a o4 cls d (X.pn ++ pins) z4 ⟨_, d4⟩).run [] s5 _ H1 _ S5 (next a na)) (fun fl s6 back => ?_) (fun _ _ z => z.elim)
    cases fl with
    | next =>
      obtain ⟨σ6, H6, S6, q6⟩ := back
      refine gone_ok (X := X.suite a ((a, o4) :: (X.pn ++ pins))) S6 nd at_i loc fun s7 S7 => ?_
      obtain ⟨p1, p2, _⟩ := S7.pin (a, o4) (List.mem_append_left _ List.mem_cons_self)
      exact ⟨_, _, Inv.track (S7.unsuite ok) p1 d4 p2 new0 nL unpinned (exC_ok p1 z4 d4), q6⟩
    | brk =>
      obtain ⟨_, _, _, z⟩ := back
      exact False.elim z
    | cont =>
      obtain ⟨_, _, _, z⟩ := back
      exact False.elim z
    | ret u =>
      obtain ⟨_, _, _, _, _, z⟩ := back
      exact False.elim z
  refine wpAny_Try_except (wpAny_mono ((hb _ _ catch' takes PassesOwn.looking).run [] s σ H D (I.toTry _) h) (fun fl s1 back => ?_) fun _ _ z => z)
  cases fl with
  | next =>
    obtain ⟨σ1, H1, J, q⟩ := back
    exact wpAny_execs_nil ⟨σ1, H1, J.ofTry ok, q⟩
  | brk =>
    obtain ⟨σ1, H1, J, q⟩ := back
    exact ⟨σ1, H1, J.ofTry ok, q⟩
  | cont =>
    obtain ⟨σ1, H1, J, q⟩ := back
    exact ⟨σ1, H1, J.ofTry ok, q⟩
  | ret u =>
    obtain ⟨v, σ1, H1, J, r, q⟩ := back
    exact ⟨v, σ1, H1, J.ofTry ok, r, q⟩
end
/-! ### isinstance of it, a field of it -/
def Dct (H : Hp) (d : Option Addr) : Prop := ∀ dd, d = some dd → ∃ fs, H dd = some (.xd fs)
theorem inst_of {X : Cx} {pins : List (Addr × Obj)} {σ : L2.St} {H : Hp} {s : Shared} {a C : Addr} {d : Option Addr} (I : Inv X pins σ H s) (ha : H a = some (ExC (.ref C) d a)) (hd : Dct H d) : ∃ ox od, PySem.W.InstAt s.heap a ox C od := by
  obtain ⟨⟨oe, vs, ho, hz, hf⟩, _, _⟩ := I.hok a _ ha
  have nc : PySem.W.notCls oe = true := by unfold PySem.W.notCls; rw [hf]
  cases d with
  | none => exact ⟨oe, none, ho, hz.1, nc, by rw [hz.2]; exact True.intro⟩
  | some dd =>
    obtain ⟨fs, e⟩ := hd dd rfl
    obtain ⟨mA, hns, _⟩ := (show ObjOk X.prog X.w H s.heap dd (.xd fs) from I.hok dd _ e)
    obtain ⟨od, hod, _⟩ := lookIn_ns hns
    exact ⟨oe, some od, ho, hz.1, nc, by rw [hz.2]; exact hod⟩
structure XcC (K : PySem.W.Frag) (C : Addr) : Prop where
  hcl : (PySem.W.clsIn K C).isSome = true
  hga : PySem.W.findIn K (.ref C) "__getattribute__" = some (some (.builtin "BaseException.__getattribute__"))
  hgt : PySem.W.findIn K (.ref C) "__getattr__" = some none
  hsub : PySem.W.subIn K (.ref C) (.type "BaseException") = some true
  hdct : PySem.W.hasDictIn K C = true
  ha : PySem.W.findIn K (.ref C) "__class__" = some (some (.builtin "object.__class__"))
  hn : PySem.W.specialIn K (.builtin "object.__class__") "__get__" = some (some (.builtin "getset_descriptor.__get__"))
  htk : PySem.W.takesIn K (.builtin "object.__class__") = some true
  hm : PySem.W.mroIn K C (.type "object") = some true
def rXc (K : PySem.W.Frag) : List V → Hp → VK → Prop := fun xs H Q => ∃ (a C : Addr) (d : Option Addr) (c : V) (u : Value) (b : Bool), xs = [.ref a, c] ∧ ClsV c u ∧ H a = some (ExC (.ref C) d a) ∧ Dct H d ∧ XcC K C ∧ PySem.W.kitOne K (.ref C) u = some b ∧ Q (.bl b) H
theorem call_xc {X : Cx} : CallR X (.builtin "isinstance") (rXc X.K) := by
  intro pins s σ H xs us Q I r h
  obtain ⟨a, C, d, c, u, b, rfl, k, xa, xd, T, e, q⟩ := h
  obtain ⟨u1, u2, rfl, r1, r2⟩ := vals2 r
  have e2 := k.eq r2
  subst e2
  obtain rfl : u1 = Value.ref a := r1
  obtain ⟨ox, od, J⟩ := inst_of I xa xd
  exact PySem.W.kia_one (PySem.W.kitx_exc T.hcl T.hga T.hgt T.hsub T.ha T.hn T.htk T.hm) I.kIn J e (fun z => nomatch z) fun tk => ⟨.bl b, H, I.tok tk, rfl, q⟩
/-- e.f, e a caught error -/
def tXcF (K : PySem.W.Frag) (f : Str) (te : TE) : TE := fun σ H Q => te σ H fun x H1 => ∃ (a C d : Addr) (fs : List (Str × V)) (v : V), x = .ref a ∧ H1 a = some (ExC (.ref C) (some d) a) ∧ H1 d = some (.xd fs) ∧ XcC K C ∧ PySem.W.findIn K (.ref C) f = some none ∧ fs.lookup f = some v ∧ Q v H1
theorem pe_xcF {X : Cx} {e : Expr} {te : TE} {pos : Pos} {n : Str} (he : PE X e te) (hb : attributeBase e n X.env (eval e X.env) = eval e X.env := by rfl) : PE X (.Attribute e n pos) (tXcF X.K n te) := by
  refine ⟨fun pins s σ H Q I h => attr_of hb (thn (he.run pins s σ H _ I h) fun u s1 ⟨x, H1, J, rx, a, C, d, fs, v, ex, ea, ed, T, own, l, q⟩ => ?_)⟩
  subst ex
  obtain rfl : u = Value.ref a := rx
  obtain ⟨⟨oe, vs, ho, hz, hf⟩, _, _⟩ := J.hok a _ ea
  obtain ⟨mA, hns, rel⟩ := (show ObjOk X.prog X.w H1 s1.heap d (.xd fs) from J.hok d _ ed)
  obtain ⟨od, hod, found⟩ := lookIn_ns hns
  obtain ⟨u2, hu, ru⟩ := RelO.some_of (v := v) (o := mA n) (l ▸ rel n)
  have at_ : PySem.W.InstAt s1.heap a oe C (some od) := ⟨ho, hz.1, by unfold PySem.W.notCls; rw [hf], by rw [hz.2]; exact hod⟩
  exact HandSPX.exc_get J.kIn at_ T.hga T.hgt T.hsub (PySem.W.findObj_own T.hdct own rfl (by rw [found, hu])) (handed_of ru) ⟨v, H1, J.tok _, ru, q⟩
end EXC
/-! sequences that come round: periods, borders of a row, the least period, the normal form of a growth -/
namespace Gr
/-! ### periods of a sequence -/
def Pd {α : Type} (d : Nat → α) (q : Nat) : Prop := ∀ k, d (k + q) = d k
section
variable {α : Type} {d : Nat → α} {p q n : Nat}
theorem Pd.zero : Pd d 0 := fun _ => rfl
theorem Pd.mul (h : Pd d q) : ∀ j k, d (k + j * q) = d k
  | 0, k => by rw [Nat.zero_mul, Nat.add_zero]
  | j + 1, k => by rw [Nat.succ_mul, ← Nat.add_assoc, h, Pd.mul h j]
theorem Pd.mod (h : Pd d q) (k : Nat) : d (k % q) = d k := by
  have e := Nat.mod_add_div k q
  rw [Nat.mul_comm] at e
  have := Pd.mul h (k / q) (k % q)
  rw [e] at this
  exact this.symm
theorem Pd.sub (hp : Pd d p) (hq : Pd d q) (h : p ≤ q) : Pd d (q - p) := fun k => by
  have e : k + (q - p) + p = k + q := by omega
  rw [← hp (k + (q - p)), e, hq]
theorem Pd.rem (hp : Pd d p) (hq : Pd d q) : Pd d (q % p) := fun k => by
  have e : k + q % p + q / p * p = k + q := by
    have := Nat.mod_add_div q p
    rw [Nat.mul_comm] at this
    omega
  rw [← Pd.mul hp (q / p) (k + q % p), e, hq]
theorem Pd.gcd : ∀ (p q : Nat), Pd d p → Pd d q → Pd d (Nat.gcd p q) := by
  intro p
  induction p using Nat.strongRecOn with
  | ind p ih =>
    intro q hp hq
    rcases Nat.eq_zero_or_pos p with h | h
    · rw [h, Nat.gcd_zero_left]
      exact hq
    · rw [Nat.gcd_rec]
      exact ih (q % p) (Nat.mod_lt _ h) p (hp.rem hq) hp
/-- the least one -/
structure Least (d : Nat → α) (p : Nat) : Prop where
  pos : 0 < p
  pd : Pd d p
  le : ∀ q, 0 < q → Pd d q → p ≤ q
end
/-! ### rows -/
def at' (g : List Int) (i : Nat) : Int := g.getD i 0
/-- the row, again and again -/
def dif (g : List Int) (k : Nat) : Int := at' g (k % g.length)
/-- within the row what stands p further on is the same -/
def Per (g : List Int) (p : Nat) : Prop := ∀ i, i + p < g.length → at' g (i + p) = at' g i
section
variable {g : List Int} {p q : Nat}
theorem dif_pd : Pd (dif g) g.length := fun k => by unfold dif; rw [Nat.add_mod_right]
theorem dif_lt {k : Nat} (h : k < g.length) : dif g k = at' g k := by unfold dif; rw [Nat.mod_eq_of_lt h]
theorem Pd.per (h : Pd (dif g) p) : Per g p := fun i hi => by
  have := h i
  rwa [dif_lt hi, dif_lt (by omega)] at this
theorem Per.mul (h : Per g p) : ∀ j i, i + j * p < g.length → at' g (i + j * p) = at' g i
  | 0, i, _ => by rw [Nat.zero_mul, Nat.add_zero]
  | j + 1, i, hi => by
    rw [Nat.succ_mul, ← Nat.add_assoc] at hi ⊢
    rw [h _ hi, Per.mul h j i (by omega)]
theorem Per.pd (h : Per g p) (hp : 0 < p) (hd : p ∣ g.length) (hn : 0 < g.length) : Pd (dif g) p := fun k => by
  obtain ⟨c, hc⟩ := hd
  have hr : k % g.length < g.length := Nat.mod_lt _ hn
  unfold dif
  rw [Nat.add_mod]
  generalize k % g.length = r at hr
  have hpn : p ≤ g.length := by
    rcases c with _ | c
    · rw [Nat.mul_zero] at hc; omega
    · rw [hc]; exact Nat.le_mul_of_pos_right p (Nat.succ_pos c)
  rcases Nat.lt_or_ge p g.length with h1 | h1
  · rw [Nat.mod_eq_of_lt h1]
    rcases Nat.lt_or_ge (r + p) g.length with h2 | h2
    · rw [Nat.mod_eq_of_lt h2]
      exact h r h2
    · rw [Nat.mod_eq_sub_mod h2, Nat.mod_eq_of_lt (by omega)]
      rcases c with _ | c
      · rw [Nat.mul_zero] at hc; omega
      have e : r + p - g.length + c * p = r := by
        have : p * (c + 1) = c * p + p := by rw [Nat.mul_comm, Nat.succ_mul]
        omega
      have z := h.mul c (r + p - g.length) (by rw [e]; exact hr)
      rw [e] at z
      exact z.symm
  · have e : p = g.length := Nat.le_antisymm hpn h1
    rw [e, Nat.mod_self, Nat.add_zero, Nat.mod_eq_of_lt hr]
end
/-! ### borders: the longest one of each beginning -/
/-- w signs at the end of the first m are the first w -/
def Bd (g : List Int) (m w : Nat) : Prop := w < m ∧ ∀ i, i < w → at' g (m - w + i) = at' g i
structure Lb (g : List Int) (m w : Nat) : Prop where
  bd : Bd g m w
  top : ∀ v, Bd g m v → v ≤ w
section
variable {g : List Int} {m w v : Nat}
theorem bd_zero (h : 0 < m) : Bd g m 0 := ⟨h, fun i hi => absurd hi (Nat.not_lt_zero i)⟩
theorem lb_one : Lb g 1 0 := ⟨bd_zero Nat.one_pos, fun v h => by have := h.1; omega⟩
theorem bd_succ : Bd g (m + 1) (v + 1) ↔ Bd g m v ∧ at' g m = at' g v := by
  constructor
  · rintro ⟨h, a⟩
    have hv : v < m := by omega
    refine ⟨⟨hv, fun i hi => ?_⟩, ?_⟩
    · have := a i (by omega)
      rwa [show m + 1 - (v + 1) + i = m - v + i by omega] at this
    · have := a v (by omega)
      rwa [show m + 1 - (v + 1) + v = m by omega] at this
  · rintro ⟨⟨h, a⟩, e⟩
    refine ⟨by omega, fun i hi => ?_⟩
    rw [show m + 1 - (v + 1) + i = m - v + i by omega]
    rcases Nat.lt_or_ge i v with h1 | h1
    · exact a i h1
    · have : i = v := by omega
      subst this
      rw [show m - i + i = m by omega]
      exact e
/-- a border of a border, and the other way round -/
theorem bd_trans (h : Bd g m w) (h2 : Bd g w v) : Bd g m v := by
  refine ⟨Nat.lt_trans h2.1 h.1, fun i hi => ?_⟩
  have := h.2 (w - v + i) (by have := h2.1; omega)
  rw [show m - w + (w - v + i) = m - v + i by have := h.1; have := h2.1; omega] at this
  rw [this]
  exact h2.2 i hi
theorem bd_down (h : Bd g m w) (h2 : Bd g m v) (hv : v < w) : Bd g w v := by
  refine ⟨hv, fun i hi => ?_⟩
  have a := h.2 (w - v + i) (by omega)
  rw [show m - w + (w - v + i) = m - v + i by have := h.1; omega] at a
  rw [← a]
  exact h2.2 i hi
/-- what the search for the next border keeps: a border, and none that goes on is longer -/
def Srch (g : List Int) (m w : Nat) : Prop := Bd g m w ∧ ∀ v, Bd g m v → at' g m = at' g v → v ≤ w
theorem srch_start (h : Lb g m w) : Srch g m w := ⟨h.bd, fun v b _ => h.top v b⟩
theorem srch_step (h : Srch g m w) (hw : 0 < w) (hne : at' g m ≠ at' g w) {w' : Nat} (b : Lb g w w') : Srch g m w' ∧ w' < w :=
  ⟨⟨bd_trans h.1 b.bd, fun v hv e => by
    have h1 := h.2 v hv e
    have h2 : v ≠ w := fun z => hne (z ▸ e)
    exact b.top v (bd_down h.1 hv (by omega))⟩, b.bd.1⟩
theorem srch_yes (h : Srch g m w) (e : at' g m = at' g w) : Lb g (m + 1) (w + 1) := by
  refine ⟨bd_succ.mpr ⟨h.1, e⟩, fun v hv => ?_⟩
  rcases v with _ | v
  · exact Nat.zero_le _
  · obtain ⟨a, b⟩ := bd_succ.mp hv
    exact Nat.succ_le_succ (h.2 v a b)
theorem srch_no (h : Srch g m 0) (e : at' g m ≠ at' g 0) : Lb g (m + 1) 0 := by
  refine ⟨bd_zero (Nat.succ_pos m), fun v hv => ?_⟩
  rcases v with _ | v
  · exact Nat.le_refl _
  · obtain ⟨a, b⟩ := bd_succ.mp hv
    have : v = 0 := Nat.le_zero.mp (h.2 v a b)
    subst this
    exact absurd b e
end
/-! ### the least period of a row, by its longest border -/
section
variable {g : List Int} {b : Nat}
theorem Per.bd {p : Nat} (h : Per g p) (hp : 0 < p) (hn : p ≤ g.length) : Bd g g.length (g.length - p) := by
  refine ⟨by omega, fun i hi => ?_⟩
  have := h i (by omega)
  rw [show g.length - (g.length - p) + i = i + p by omega]
  exact this
theorem Bd.per (h : Bd g g.length b) : Per g (g.length - b) := fun i hi => by
  have := h.2 i (by have := h.1; omega)
  rwa [Nat.add_comm] at this
theorem least_of (hn : 0 < g.length) (h : Lb g g.length b) : Least (dif g) (if g.length % (g.length - b) = 0 then g.length - b else g.length) := by
  have hb := h.bd.1
  have hq : 0 < g.length - b := by omega
  have per := h.bd.per
  have top : ∀ p, 0 < p → p ≤ g.length → Per g p → g.length - b ≤ p := fun p hp hpn pp => by
    have := h.top _ (pp.bd hp hpn)
    omega
  -- each period of the endless row has a divisor of the length below it that is one too
  have down : ∀ q, 0 < q → Pd (dif g) q → ∃ c, 0 < c ∧ c ∣ g.length ∧ c ≤ q ∧ c ≤ g.length ∧ Pd (dif g) c := fun q hq0 hqd =>
    ⟨Nat.gcd q g.length, Nat.gcd_pos_of_pos_left _ hq0, Nat.gcd_dvd_right _ _, Nat.gcd_le_left _ hq0, Nat.gcd_le_right _ hn, Pd.gcd q g.length hqd dif_pd⟩
  by_cases e : g.length % (g.length - b) = 0
  · rw [if_pos e]
    refine ⟨hq, per.pd hq (Nat.dvd_of_mod_eq_zero e) hn, fun q hq0 hqd => ?_⟩
    obtain ⟨c, c0, _, cq, cn, cd⟩ := down q hq0 hqd
    exact Nat.le_trans (top c c0 cn cd.per) cq
  · rw [if_neg e]
    refine ⟨hn, dif_pd, fun q hq0 hqd => ?_⟩
    obtain ⟨c, c0, cv, cq, cn, cd⟩ := down q hq0 hqd
    rcases Nat.lt_or_ge c g.length with h1 | h1
    · exfalso
      have h2 : g.length - b ≤ c := top c c0 cn cd.per
      obtain ⟨z, hz⟩ := cv
      have h3 : c + c ≤ g.length := by
        rcases z with _ | _ | z
        · rw [Nat.mul_zero] at hz; omega
        · rw [Nat.mul_one] at hz; omega
        · rw [hz, show z + 1 + 1 = z + 2 from rfl, Nat.mul_add, Nat.mul_two]; omega
      have pd : Pd (dif g) (g.length - b) := fun k => by
        have r : k % c < c := Nat.mod_lt _ c0
        have a : dif g (k % c) = dif g k := cd.mod k
        have a2 : dif g (k + (g.length - b)) = dif g (k % c + (g.length - b)) := by
          have e1 := Nat.mod_add_div k c
          rw [Nat.mul_comm] at e1
          have := cd.mul (k / c) (k % c + (g.length - b))
          rw [show k % c + (g.length - b) + k / c * c = k + (g.length - b) by omega] at this
          exact this
        rw [a2, ← a, dif_lt (by omega), dif_lt (by omega)]
        exact per _ (by omega)
      have q2 := Pd.gcd (g.length - b) g.length pd dif_pd
      have g0 : 0 < Nat.gcd (g.length - b) g.length := Nat.gcd_pos_of_pos_left _ hq
      have l1 := top _ g0 (Nat.gcd_le_right _ hn) q2.per
      have l2 := Nat.gcd_le_left (g.length) hq
      have e2 : Nat.gcd (g.length - b) g.length = g.length - b := Nat.le_antisymm l2 l1
      exact e (Nat.mod_eq_zero_of_dvd (e2 ▸ Nat.gcd_dvd_right (g.length - b) g.length))
    · exact Nat.le_trans h1 cq
end
end Gr
namespace Gr
/-! ### sums of beginnings -/
def acc (d : Nat → Int) : Nat → Int
  | 0 => 0
  | n + 1 => acc d n + d n
theorem acc_add (d : Nat → Int) (m : Nat) : ∀ n, acc d (m + n) = acc d m + acc (fun k => d (m + k)) n
  | 0 => by rw [Nat.add_zero]; exact (Int.add_zero _).symm
  | n + 1 => by
    rw [← Nat.add_assoc]
    show acc d (m + n) + d (m + n) = acc d m + (acc _ n + d (m + n))
    rw [acc_add d m n, Int.add_assoc]
theorem acc_congr {d e : Nat → Int} : ∀ n, (∀ k, k < n → d k = e k) → acc d n = acc e n
  | 0, _ => rfl
  | n + 1, h => by
    show acc d n + d n = acc e n + e n
    rw [acc_congr n fun k hk => h k (by omega), h n (Nat.lt_succ_self n)]
theorem acc_mul {d : Nat → Int} {p : Nat} (h : Pd d p) : ∀ j r, acc d (j * p + r) = j * acc d p + acc d r
  | 0, r => by rw [Nat.zero_mul, Nat.zero_add]; show acc d r = ((0 : Nat) : Int) * _ + _; rw [Int.natCast_zero, Int.zero_mul, Int.zero_add]
  | j + 1, r => by
    rw [Nat.succ_mul, show j * p + p + r = p + (j * p + r) by omega, acc_add]
    rw [acc_congr (e := d) (j * p + r) fun k _ => by rw [Nat.add_comm p k]; exact h k]
    rw [acc_mul h j r]
    rw [show ((j + 1 : Nat) : Int) = (j : Int) + 1 from rfl, Int.add_mul, Int.one_mul]
    omega
/-! ### growths -/
/-- the last one of a row -/
def lst (t : List Int) : Int := at' t (t.length - 1)
/-- the value at a number, by told values and gains -/
def val (t g : List Int) (n : Nat) : Int := if n < t.length then at' t n else lst t + acc (dif g) (n - t.length + 1)
section
variable {t t' g g' : List Int} {n : Nat}
theorem val_lt (h : n < t.length) : val t g n = at' t n := if_pos h
/-- from the last told value on -/
theorem val_ge (h0 : 0 < t.length) (k : Nat) : val t g (t.length - 1 + k) = lst t + acc (dif g) k := by
  unfold val
  rcases Nat.eq_zero_or_pos k with h | h
  · subst h
    rw [if_pos (by omega)]
    show at' t (t.length - 1 + 0) = lst t + 0
    rw [Int.add_zero]
    rfl
  · rw [if_neg (by omega), show t.length - 1 + k - t.length + 1 = k by omega]
theorem val_step (h0 : 0 < t.length) (k : Nat) : val t g (t.length - 1 + k + 1) - val t g (t.length - 1 + k) = dif g k := by
  rw [Nat.add_assoc, val_ge h0, val_ge h0]
  show lst t + (acc (dif g) k + dif g k) - (lst t + acc (dif g) k) = dif g k
  omega
/-- the rounds taken at once -/
theorem val_far (h0 : 0 < t.length) (hn : t.length ≤ n) : val t g n = lst t + ((n - t.length + 1) / g.length : Nat) * acc (dif g) g.length + acc (dif g) ((n - t.length + 1) % g.length) := by
  unfold val
  rw [if_neg (by omega)]
  have e := Nat.mod_add_div (n - t.length + 1) g.length
  rw [Nat.mul_comm, Nat.add_comm] at e
  rw [← e, acc_mul dif_pd, e, Int.add_assoc]
/-- the normal form -/
structure NF (t g : List Int) : Prop where
  told : 0 < t.length
  gains : 0 < g.length
  least : Least (dif g) g.length
  few : t.length = 1 ∨ at' t (t.length - 1) - at' t (t.length - 2) ≠ lst g
/-- by how much the values rise -/
def rise (t g : List Int) (n : Nat) : Int := val t g (n + 1) - val t g n
theorem rise_ge (h0 : 0 < t.length) (h : t.length - 1 ≤ n) : rise t g n = dif g (n - (t.length - 1)) := by
  have := val_step (g := g) h0 (n - (t.length - 1))
  rwa [show t.length - 1 + (n - (t.length - 1)) = n by omega] at this
/-- the number of gains is the least number by which the rises come round at last -/
theorem least_end (h : NF t g) {q : Nat} (hq : 0 < q) {m : Nat} (hm : ∀ n, m ≤ n → rise t g (n + q) = rise t g n) : g.length ≤ q := by
  refine h.least.le q hq fun k => ?_
  have a := hm (t.length - 1 + (k + m * g.length)) (by have : m ≤ m * g.length := Nat.le_mul_of_pos_right m h.gains; omega)
  rw [rise_ge h.told (by omega), rise_ge h.told (by omega)] at a
  rw [show t.length - 1 + (k + m * g.length) + q - (t.length - 1) = k + q + m * g.length by omega, show t.length - 1 + (k + m * g.length) - (t.length - 1) = k + m * g.length by omega] at a
  rwa [dif_pd.mul, dif_pd.mul] at a
theorem end_pd (h : NF t g) (n : Nat) (hn : t.length - 1 ≤ n) : rise t g (n + g.length) = rise t g n := by
  rw [rise_ge h.told (by omega), rise_ge h.told hn, show n + g.length - (t.length - 1) = n - (t.length - 1) + g.length by omega]
  exact dif_pd _
theorem at_eq_of {a b : List Int} (hl : a.length = b.length) (h : ∀ i, i < a.length → at' a i = at' b i) : a = b := by
  refine List.ext_getElem? fun i => ?_
  rcases Nat.lt_or_ge i a.length with h1 | h1
  · have := h i h1
    unfold at' at this
    rw [List.getD_eq_getElem?_getD, List.getD_eq_getElem?_getD] at this
    rw [List.getElem?_eq_getElem h1, List.getElem?_eq_getElem (hl ▸ h1)] at this ⊢
    exact congrArg some this
  · rw [List.getElem?_eq_none h1, List.getElem?_eq_none (hl ▸ h1)]
theorem told_le (h : NF t g) (h' : NF t' g') (e : ∀ n, val t g n = val t' g' n) (eg : g.length = g'.length) : t'.length ≤ t.length := by
  rcases Nat.lt_or_ge t.length t'.length with hl | hl
  · exfalso
    have re : ∀ n, rise t g n = rise t' g' n := fun n => by unfold rise; rw [e, e]
    rcases h'.few with z | z
    · have := h.told; omega
    · apply z
      have t0 := h.told
      have a : rise t' g' (t'.length - 2) = at' t' (t'.length - 1) - at' t' (t'.length - 2) := by
        unfold rise
        rw [show t'.length - 2 + 1 = t'.length - 1 by omega, val_lt (by omega), val_lt (by omega)]
      have b : rise t' g' (t'.length - 2 + g.length) = lst g' := by
        have g0 := h.gains
        rw [rise_ge h'.told (by omega), show t'.length - 2 + g.length - (t'.length - 1) = g'.length - 1 by omega, dif_lt (by omega)]
        rfl
      rw [← a, ← b, ← re, ← re]
      exact (end_pd h _ (by omega)).symm
  · exact hl
/-- one normal form -/
theorem nf_one (h : NF t g) (h' : NF t' g') (e : ∀ n, val t g n = val t' g' n) : t = t' ∧ g = g' := by
  have re : ∀ n, rise t g n = rise t' g' n := fun n => by unfold rise; rw [e, e]
  have l1 : g.length ≤ g'.length := least_end h h'.gains (m := t'.length - 1) fun n hn => by rw [re, re]; exact end_pd h' n hn
  have l2 : g'.length ≤ g.length := least_end h' h.gains (m := t.length - 1) fun n hn => by rw [← re, ← re]; exact end_pd h n hn
  have eg : g.length = g'.length := Nat.le_antisymm l1 l2
  have et : t.length = t'.length := Nat.le_antisymm (told_le h' h (fun n => (e n).symm) eg.symm) (told_le h h' e eg)
  refine ⟨at_eq_of et fun i hi => ?_, at_eq_of eg fun i hi => ?_⟩
  · have := e i
    rwa [val_lt hi, val_lt (et ▸ hi)] at this
  · have a := rise_ge (g := g) h.told (n := t.length - 1 + i) (by omega)
    have b := rise_ge (g := g') h'.told (n := t.length - 1 + i) (by omega)
    rw [re, b, show t.length - 1 + i - (t.length - 1) = i by omega, show t.length - 1 + i - (t'.length - 1) = i by omega, dif_lt hi, dif_lt (eg ▸ hi)] at a
    exact a.symm
end
/-! ### told values that the gains give anyway -/
section
variable {t g : List Int} {s : Nat}
/-- the gain that would be i steps ahead of the first one -/
def back (g : List Int) (s : Nat) : Int := at' g (g.length - 1 - s % g.length)
/-- the last s told values are those that the gains give -/
def Spr (t g : List Int) (s : Nat) : Prop := s < t.length ∧ ∀ i, i < s → at' t (t.length - 1 - i) - at' t (t.length - 1 - i - 1) = back g i
theorem spr_zero (h : 0 < t.length) : Spr t g 0 := ⟨h, fun i hi => absurd hi (Nat.not_lt_zero i)⟩
theorem spr_step (h : Spr t g s) (hs : s < t.length - 1) (e : at' t (t.length - 1 - s) - at' t (t.length - 1 - s - 1) = back g s) : Spr t g (s + 1) :=
  ⟨by omega, fun i hi => by
    rcases Nat.lt_or_ge i s with z | z
    · exact h.2 i z
    · rw [show i = s by omega]
      exact e⟩
/-- told values and gains without the last s told values -/
def cutT (t : List Int) (s : Nat) : List Int := t.take (t.length - s)
def cutG (g : List Int) (s : Nat) : List Int := g.drop (g.length - s % g.length) ++ g.take (g.length - s % g.length)
theorem cutT_len (hs : s < t.length) : (cutT t s).length = t.length - s := by
  unfold cutT
  rw [List.length_take]
  omega
theorem cutG_len : (cutG g s).length = g.length := by
  unfold cutG
  rw [List.length_append, List.length_drop, List.length_take]
  omega
theorem at_take {l : List Int} {n i : Nat} (h : i < n) : at' (l.take n) i = at' l i := by
  unfold at'
  rw [List.getD_eq_getElem?_getD, List.getD_eq_getElem?_getD, List.getElem?_take_of_lt h]
theorem at_drop {l : List Int} {n i : Nat} : at' (l.drop n) i = at' l (n + i) := by
  unfold at'
  rw [List.getD_eq_getElem?_getD, List.getD_eq_getElem?_getD, List.getElem?_drop]
theorem at_app {a b : List Int} {i : Nat} : at' (a ++ b) i = if i < a.length then at' a i else at' b (i - a.length) := by
  unfold at'
  rw [List.getD_eq_getElem?_getD, List.getD_eq_getElem?_getD, List.getD_eq_getElem?_getD]
  by_cases h : i < a.length
  · rw [if_pos h, List.getElem?_append_left h]
  · rw [if_neg h, List.getElem?_append_right (by omega)]
/-- the gains turned: each one s places later -/
theorem dif_cut (hg : 0 < g.length) (k : Nat) : dif (cutG g s) (k + s) = dif g k := by
  have hr : s % g.length < g.length := Nat.mod_lt _ hg
  have hk : k % g.length < g.length := Nat.mod_lt _ hg
  unfold dif
  rw [cutG_len, Nat.add_mod]
  unfold cutG
  generalize s % g.length = r at hr ⊢
  generalize k % g.length = q at hk ⊢
  rw [at_app, List.length_drop, show g.length - (g.length - r) = r by omega]
  rcases Nat.lt_or_ge (q + r) g.length with h | h
  · rw [Nat.mod_eq_of_lt h, if_neg (by omega), at_take (by omega), show q + r - r = q by omega]
  · rw [Nat.mod_eq_sub_mod h, Nat.mod_eq_of_lt (by omega), if_pos (by omega), at_drop, show g.length - r + (q + r - g.length) = q by omega]
theorem dif_cut' (hg : 0 < g.length) {k : Nat} (h : s ≤ k) : dif (cutG g s) k = dif g (k - s) := by
  have := dif_cut (s := s) hg (k - s)
  rwa [show k - s + s = k by omega] at this
/-- the gain i places ahead of the first one, told of the turned ones -/
theorem back_cut (hg : 0 < g.length) {i : Nat} (hi : i < s) : dif (cutG g s) (s - 1 - i) = back g i := by
  have p := (dif_pd (g := cutG g s)).mul (i + 1) (s - 1 - i)
  rw [cutG_len] at p
  rw [← p, dif_cut' hg (by have : i + 1 ≤ (i + 1) * g.length := Nat.le_mul_of_pos_right _ hg; omega)]
  unfold dif back
  congr 1
  have hr : i % g.length < g.length := Nat.mod_lt _ hg
  have e := Nat.mod_add_div i g.length
  generalize i % g.length = r at hr e ⊢
  generalize i / g.length = c at e
  have e3 : (i + 1) * g.length = i * g.length + g.length := by rw [Nat.add_mul, Nat.one_mul]
  have e5 : c * g.length = g.length * c := Nat.mul_comm _ _
  have i0 : i ≤ i * g.length := Nat.le_mul_of_pos_right _ hg
  have cl : c ≤ i := by
    have := Nat.le_mul_of_pos_left c hg
    omega
  -- the number of whole rounds left
  have e4 : s - 1 - i + (i + 1) * g.length - s = g.length - 1 - r + (i - c) * g.length := by
    have : (i - c) * g.length = i * g.length - c * g.length := Nat.sub_mul _ _ _
    have le2 : c * g.length ≤ i * g.length := Nat.mul_le_mul_right _ cl
    omega
  rw [e4, Nat.add_mul_mod_self_right, Nat.mod_eq_of_lt (by omega)]
theorem back_zero (hg : 0 < g.length) : back g 0 = lst g := by
  unfold back lst
  rw [Nat.zero_mod, Nat.sub_zero]
/-- what stands s places ahead of the last told value, by the gains -/
theorem spr_told (h : Spr t g s) : ∀ i, i ≤ s → at' t (t.length - 1 - s + i) = lst (cutT t s) + acc (fun k => back g (s - 1 - k)) i
  | 0, _ => by
    have := h.1
    show _ = lst (cutT t s) + 0
    unfold lst
    rw [cutT_len h.1, Int.add_zero]
    unfold cutT
    rw [at_take (by omega), Nat.add_zero, show t.length - s - 1 = t.length - 1 - s by omega]
  | i + 1, hi => by
    have h1 := h.1
    have a := spr_told h i (by omega)
    have b := h.2 (s - 1 - i) (by omega)
    rw [show t.length - 1 - (s - 1 - i) = t.length - 1 - s + (i + 1) by omega, show t.length - 1 - s + (i + 1) - 1 = t.length - 1 - s + i by omega, a] at b
    show _ = lst (cutT t s) + (acc _ i + back g (s - 1 - i))
    omega
/-- the same values -/
theorem val_cut (hg : 0 < g.length) (h : Spr t g s) (n : Nat) : val (cutT t s) (cutG g s) n = val t g n := by
  have h1 := h.1
  have len := cutT_len (t := t) h1
  rcases Nat.lt_or_ge n (t.length - s) with a | a
  · rw [val_lt (by omega), val_lt (by omega)]
    unfold cutT
    rw [at_take a]
  · obtain ⟨k, rfl⟩ : ∃ k, n = t.length - s - 1 + k := ⟨n - (t.length - s - 1), by omega⟩
    have v := val_ge (g := cutG g s) (t := cutT t s) (by omega) k
    rw [len] at v
    rw [v]
    have b : ∀ i, i < s → dif (cutG g s) i = back g (s - 1 - i) := fun i hi => by
      have := back_cut (g := g) (s := s) hg (i := s - 1 - i) (by omega)
      rwa [show s - 1 - (s - 1 - i) = i by omega] at this
    rcases Nat.lt_or_ge k (s + 1) with c | c
    · rw [val_lt (by omega), show t.length - s - 1 + k = t.length - 1 - s + k by omega, spr_told h k (by omega), acc_congr k fun i hi => b i (by omega)]
    · obtain ⟨j, rfl⟩ : ∃ j, k = s + j := ⟨k - s, by omega⟩
      rw [acc_add, acc_congr s b, acc_congr (e := dif g) j fun i _ => by rw [Nat.add_comm s i]; exact dif_cut hg i]
      have l := spr_told h s (Nat.le_refl s)
      rw [show t.length - 1 - s + s = t.length - 1 by omega] at l
      rw [show t.length - s - 1 + (s + j) = t.length - 1 + j by omega, val_ge (by omega)]
      unfold lst at l ⊢
      rw [l]
      omega
theorem least_cut (hg : 0 < g.length) (h : Least (dif g) g.length) : Least (dif (cutG g s)) (cutG g s).length := by
  refine ⟨by rw [cutG_len]; exact hg, dif_pd, fun q hq hp => ?_⟩
  rw [cutG_len]
  refine h.le q hq fun k => ?_
  have := hp (k + s)
  rw [show k + s + q = k + q + s by omega, dif_cut hg, dif_cut hg] at this
  exact this
/-- the search of told values has come to its end: the normal form -/
theorem nf_cut (hg : 0 < g.length) (l : Least (dif g) g.length) (h : Spr t g s) (e : s = t.length - 1 ∨ at' t (t.length - 1 - s) - at' t (t.length - 1 - s - 1) ≠ back g s) : NF (cutT t s) (cutG g s) := by
  have h1 := h.1
  have len := cutT_len (t := t) h1
  refine ⟨by omega, by rw [cutG_len]; exact hg, least_cut hg l, ?_⟩
  rcases e with e | e
  · left
    omega
  · by_cases z : t.length - s = 1
    · left
      omega
    · right
      rw [len]
      unfold cutT
      rw [at_take (by omega), at_take (by omega), show t.length - s - 1 = t.length - 1 - s by omega, show t.length - s - 2 = t.length - 1 - s - 1 by omega]
      have q : lst (cutG g s) = back g s := by
        have a := back_cut (g := g) (s := s + 1) hg (i := s) (Nat.lt_succ_self s)
        have r : dif (cutG g (s + 1)) (s + 1 - 1 - s) = dif (cutG g s) (g.length - 1) := by
          rw [show s + 1 - 1 - s = 0 by omega]
          have p := (dif_pd (g := cutG g (s + 1))).mul (s + 1) 0
          rw [cutG_len] at p
          have m : s + 1 ≤ (s + 1) * g.length := Nat.le_mul_of_pos_right _ hg
          rw [← p, dif_cut' hg (by omega)]
          have p2 := (dif_pd (g := cutG g s)).mul s (g.length - 1)
          rw [cutG_len] at p2
          have m2 : s ≤ s * g.length := Nat.le_mul_of_pos_right _ hg
          have e3 : (s + 1) * g.length = s * g.length + g.length := by rw [Nat.add_mul, Nat.one_mul]
          rw [← p2, dif_cut' hg (by omega)]
          congr 1
          omega
        rw [r, dif_lt (by rw [cutG_len]; omega)] at a
        unfold lst
        rw [cutG_len]
        exact a
      rw [q]
      exact e
end
end Gr
namespace Gr
/-! ### told values and gains of a sequence that rises in rounds at last -/
section
variable {f : Nat → Int} {b l : Nat}
def pT (f : Nat → Int) (b : Nat) : List Int := (List.range b).map f
def pG (f : Nat → Int) (b l : Nat) : List Int := (List.range l).map fun k => f (b + k) - f (b + k - 1)
theorem pT_len : (pT f b).length = b := by unfold pT; rw [List.length_map, List.length_range]
theorem pG_len : (pG f b l).length = l := by unfold pG; rw [List.length_map, List.length_range]
theorem at_map_range {h : Nat → Int} {n i : Nat} (hi : i < n) : at' ((List.range n).map h) i = h i := by
  unfold at'
  rw [List.getD_eq_getElem?_getD, List.getElem?_map, List.getElem?_range hi]
  rfl
theorem val_parted (hb : 0 < b) (hl : 0 < l) (h : ∀ n, b - 1 ≤ n → f (n + l + 1) - f (n + l) = f (n + 1) - f n) (n : Nat) : val (pT f b) (pG f b l) n = f n := by
  have lt := pT_len (f := f) (b := b)
  have lg := pG_len (f := f) (b := b) (l := l)
  rcases Nat.lt_or_ge n b with a | a
  · rw [val_lt (by omega)]
    exact at_map_range a
  · obtain ⟨k, rfl⟩ : ∃ k, n = b - 1 + k := ⟨n - (b - 1), by omega⟩
    have v := val_ge (t := pT f b) (g := pG f b l) (by omega) k
    rw [lt] at v
    rw [v]
    have d : ∀ i, dif (pG f b l) i = f (b - 1 + i + 1) - f (b - 1 + i) := fun i => by
      unfold dif
      rw [lg]
      have hi : i % l < l := Nat.mod_lt _ hl
      have e : at' (pG f b l) (i % l) = f (b + i % l) - f (b + i % l - 1) := at_map_range hi
      rw [e, show b + i % l = b - 1 + i % l + 1 by omega, Nat.add_sub_cancel]
      have p : Pd (fun i => f (b - 1 + i + 1) - f (b - 1 + i)) l := fun i => by
        have := h (b - 1 + i) (by omega)
        rw [show b - 1 + i + l = b - 1 + (i + l) by omega] at this
        exact this
      exact p.mod i
    have la : lst (pT f b) = f (b - 1) := by
      unfold lst
      rw [lt]
      exact at_map_range (by omega)
    rw [la]
    clear v
    induction k with
    | zero => show f (b - 1) + 0 = f (b - 1 + 0); rw [Int.add_zero, Nat.add_zero]
    | succ k ih =>
      show f (b - 1) + (acc _ k + dif (pG f b l) k) = f (b - 1 + (k + 1))
      have ih' : f (b - 1) + acc (dif (pG f b l)) k = f (b - 1 + k) := by
        rcases Nat.lt_or_ge (b - 1 + k) b with c | c
        · have : k = 0 := by omega
          subst this
          show f (b - 1) + 0 = f (b - 1 + 0)
          rw [Int.add_zero, Nat.add_zero]
        · exact ih c
      rw [d k, ← Int.add_assoc, ih', ← Nat.add_assoc]
      omega
end
/-! ### sums -/
section
variable {t g t' g' : List Int}
/-- rises of a growth come round behind its told values, by each number of which its gains are a divisor -/
theorem rise_pd (h0 : 0 < t.length) {l n : Nat} (hd : g.length ∣ l) (hn : t.length - 1 ≤ n) : val t g (n + l + 1) - val t g (n + l) = val t g (n + 1) - val t g n := by
  have a := rise_ge (g := g) h0 (n := n + l) (by omega)
  have b := rise_ge (g := g) h0 hn
  unfold rise at a b
  rw [a, b, show n + l - (t.length - 1) = n - (t.length - 1) + l by omega]
  obtain ⟨c, rfl⟩ := hd
  rw [Nat.mul_comm]
  exact dif_pd.mul c _
theorem val_sum (h0 : 0 < t.length) (h0' : 0 < t'.length) {b l : Nat} (hb : t.length ≤ b) (hb' : t'.length ≤ b) (hl : 0 < l) (hd : g.length ∣ l) (hd' : g'.length ∣ l) (n : Nat) :
    val (pT (fun n => val t g n + val t' g' n) b) (pG (fun n => val t g n + val t' g' n) b l) n = val t g n + val t' g' n := by
  refine val_parted (by omega) hl (fun n hn => ?_) n
  have a := rise_pd (g := g) h0 (l := l) (n := n) hd (by omega)
  have c := rise_pd (g := g') h0' (l := l) (n := n) hd' (by omega)
  omega
/-! ### each value so many times -/
def sc (k : Int) (l : List Int) : List Int := l.map fun x => k * x
theorem sc_len {k : Int} {l : List Int} : (sc k l).length = l.length := List.length_map _
theorem sc_at {k : Int} {l : List Int} {i : Nat} : at' (sc k l) i = k * at' l i := by
  unfold at' sc
  rw [List.getD_eq_getElem?_getD, List.getD_eq_getElem?_getD, List.getElem?_map]
  cases l[i]? with
  | none => show (0 : Int) = k * 0; rw [Int.mul_zero]
  | some x => rfl
theorem acc_sc {k : Int} {d : Nat → Int} : ∀ n, acc (fun i => k * d i) n = k * acc d n
  | 0 => (Int.mul_zero k).symm
  | n + 1 => by
    show acc _ n + k * d n = k * (acc d n + d n)
    rw [acc_sc n, Int.mul_add]
theorem val_sc {k : Int} {n : Nat} : val (sc k t) (sc k g) n = k * val t g n := by
  have d : dif (sc k g) = fun i => k * dif g i := funext fun i => by unfold dif; rw [sc_len, sc_at]
  unfold val
  rw [sc_len]
  by_cases h : n < t.length
  · rw [if_pos h, if_pos h, sc_at]
  · rw [if_neg h, if_neg h, d, acc_sc, Int.mul_add]
    unfold lst
    rw [sc_len, sc_at]
/-! ### begun later -/
/-- the gains turned the other way -/
def rot (g : List Int) (r : Nat) : List Int := g.drop r ++ g.take r
theorem rot_len {r : Nat} (h : r ≤ g.length) : (rot g r).length = g.length := by
  unfold rot
  rw [List.length_append, List.length_drop, List.length_take]
  omega
theorem dif_rot {r : Nat} (h : r < g.length) (k : Nat) : dif (rot g r) k = dif g (k + r) := by
  unfold dif
  rw [rot_len (Nat.le_of_lt h), Nat.add_mod, Nat.mod_eq_of_lt h]
  have hk : k % g.length < g.length := Nat.mod_lt _ (by omega)
  generalize k % g.length = q at hk ⊢
  unfold rot
  rw [at_app, List.length_drop]
  rcases Nat.lt_or_ge (q + r) g.length with c | c
  · rw [Nat.mod_eq_of_lt c, if_pos (by omega), at_drop, Nat.add_comm]
  · rw [Nat.mod_eq_sub_mod c, Nat.mod_eq_of_lt (by omega), if_neg (by omega), at_take (by omega)]
    congr 1
    omega
/-- still within the told values -/
theorem val_shift1 {m : Nat} (hm : m < t.length) (n : Nat) : val (t.drop m) g n = val t g (n + m) := by
  have l : (t.drop m).length = t.length - m := List.length_drop
  rcases Nat.lt_or_ge n (t.length - m) with a | a
  · rw [val_lt (by omega), val_lt (by omega), at_drop, Nat.add_comm]
  · obtain ⟨k, rfl⟩ : ∃ k, n = t.length - m - 1 + k := ⟨n - (t.length - m - 1), by omega⟩
    have v := val_ge (t := t.drop m) (g := g) (by omega) k
    rw [l] at v
    rw [v, show t.length - m - 1 + k + m = t.length - 1 + k by omega, val_ge (by omega)]
    unfold lst
    rw [l, at_drop, show m + (t.length - m - 1) = t.length - 1 by omega]
/-- behind them -/
theorem val_shift2 {m : Nat} (h0 : 0 < t.length) (hg : 0 < g.length) (hm : t.length ≤ m) (n : Nat) : val [val t g m] (rot g ((m - t.length + 1) % g.length)) n = val t g (n + m) := by
  have hr : (m - t.length + 1) % g.length < g.length := Nat.mod_lt _ hg
  have v := val_ge (t := [val t g m]) (g := rot g ((m - t.length + 1) % g.length)) Nat.one_pos n
  rw [show [val t g m].length - 1 + n = n from Nat.zero_add n] at v
  rw [v, show n + m = t.length - 1 + (m - t.length + 1 + n) by omega, val_ge h0, acc_add]
  have e : lst [val t g m] = lst t + acc (dif g) (m - t.length + 1) := by
    show val t g m = _
    have := val_ge (g := g) h0 (m - t.length + 1)
    rwa [show t.length - 1 + (m - t.length + 1) = m by omega] at this
  rw [e, Int.add_assoc]
  congr 2
  refine acc_congr n fun k _ => ?_
  rw [dif_rot hr]
  have p := (dif_pd (g := g)).mul ((m - t.length + 1) / g.length) (k + (m - t.length + 1) % g.length)
  have q := Nat.mod_add_div (m - t.length + 1) g.length
  rw [Nat.mul_comm] at q
  rw [← p]
  congr 1
  omega
end
end Gr
namespace K10
open PySem L2 Evl
def top (i : Nat) : Stmt := PySem.Challenge.pw_layerpost_k10_rules_right_or_wrong.main.body.getD i (.Pass ⟨0, 0, 0, 0⟩)
abbrev sPen : Stmt := top 39
abbrev sDraw : Stmt := top 40
abbrev sPick : Stmt := top 41
/-! ### the pen: a list of the cells, the place, the rest -/
def PenAt (H : Hp) (p l : Addr) (cells : List Int) (m : Nat) : Prop :=
  ∃ (k : Nat) (r : Int), H p = some (.lst [.ref l, .int (k : Int), .int r]) ∧ H l = some (.lst (cells.map V.int)) ∧ k ≤ m
/-- all but p is as it was -/
def Keep (p : Addr) (H H' : Hp) : Prop := ∀ b o, H b = some o → b ≠ p → H' b = some o
theorem Keep.of_ex {p : Addr} {H H' : Hp} (e : Ex H H') : Keep p H H' := fun b o h _ => e b o h
theorem Keep.trans {p : Addr} {H H1 H2 : Hp} (a : Keep p H H1) (b : Keep p H1 H2) : Keep p H H2 := fun c o h n => b c o (a c o h n) n
theorem Keep.upd {p : Addr} {H : Hp} {o : HO} : Keep p H (upd H p o) := fun b u h n => by rw [upd_ne n]; exact h
theorem PenAt.mono {H H' : Hp} {p l : Addr} {cells : List Int} {m n : Nat} (h : PenAt H p l cells m) (e : Ex H H') (hm : m ≤ n) : PenAt H' p l cells n := by
  obtain ⟨k, r, h1, h2, h3⟩ := h
  exact ⟨k, r, e _ _ h1, e _ _ h2, by omega⟩
theorem PenAt.ne {H : Hp} {p l : Addr} {cells : List Int} {m : Nat} (h : PenAt H p l cells m) : l ≠ p := by
  obtain ⟨k, r, h1, h2, _⟩ := h
  refine ne_of h2 h1 ?_
  intro z
  have z2 := HO.lst.inj z
  cases cells with
  | nil => exact absurd z2 (by simp)
  | cons c cs => exact absurd (List.cons.inj z2).1 (by intro q; cases q)
structure Glb (mg : Str → Option Value) : Prop where
  int : mg "int" = none
  abs : mg "abs" = none
  len : mg "len" = none
  list : mg "list" = none
def spDraw : Sp := fun vs H Q _ => ∃ (p l : Addr) (cells : List Int) (m : Nat) (many : Int), vs = [.ref p, .int many] ∧ PenAt H p l cells m ∧ m ≤ 50000 ∧ cells.length ≤ 63 ∧ 0 < many ∧ many ≤ 1000000000 ∧
  ∀ d H', 0 ≤ d → d < many → PenAt H' p l cells (m + 1) → Keep p H H' → Q (.int d) H'
theorem scDraw : FnScope ["_law_pen_here", "_law_many", "_law_digit", "_law_begun", "_law_cell", "_law_great", "_law_mixed"] ["_law_pen_here", "_law_many"] (defScope sDraw) := ⟨rfl, rfl, rfl, by decide +kernel, rfl, by decide +kernel, by decide +kernel⟩
theorem rc_int {i : Int} {H : Hp} : RC (fun xs H Q => (∃ i, xs = [V.int i] ∧ Q (.int i) H) ∨ ∃ k, xs = [V.bl k] ∧ Q (.int (if k then 1 else 0)) H) [.int i] H (.int i) := fun H1 _ _ q => .inl ⟨i, rfl, q H1 (Ex.refl H1)⟩
theorem rc_intB {b : Bool} {H : Hp} : RC (fun xs H Q => (∃ i, xs = [V.int i] ∧ Q (.int i) H) ∨ ∃ k, xs = [V.bl k] ∧ Q (.int (if k then 1 else 0)) H) [.bl b] H (.int (if b then 1 else 0)) := fun H1 _ _ q => .inr ⟨b, rfl, q H1 (Ex.refl H1)⟩
theorem rc_abs {i : Int} {H : Hp} : RC (fun xs H Q => ∃ i, xs = [V.int i] ∧ Q (.int (if i < 0 then -i else i)) H) [.int i] H (.int (if i < 0 then -i else i)) := fun H1 _ _ q => ⟨i, rfl, q H1 (Ex.refl H1)⟩
theorem rc_len {K : PySem.W.Frag} {p : Addr} {xs : List V} {H : Hp} (h : SqL K H p xs) : RC (fun xs H Q => ∃ p ys, xs = [V.ref p] ∧ (SqL K H p ys ∨ SqT K H p ys) ∧ Q (.int ys.length) H) [.ref p] H (.int (xs.length : Int)) := fun H1 e _ q => ⟨p, xs, rfl, .inl (ex_l e h), q H1 (Ex.refl H1)⟩
theorem dpAll_ints {K : PySem.W.Frag} {H : Hp} : ∀ (ns : List Int), DpAll K H (ns.map V.int) (ns.map PyData.int)
  | [] => .nil
  | n :: ns => .cons (.int n) (dpAll_ints ns)
section
variable {P : Program} {w : World} {K : PySem.W.Frag} {mg : Str → Option Value} {base : Heap}
theorem shaped_nil : SeqAt.shaped (.list []) = true := by decide +kernel
theorem canLay_ints : ∀ (ns : List Int), PyData.canLayAll0 (ns.map PyData.int) = true
  | [] => by simp [PyData.canLayAll0]
  | n :: ns => by simp [PyData.canLayAll0, PyData.canLay0, canLay_ints ns]
theorem depth_ints : ∀ (ns : List Int), PyData.depthAll (ns.map PyData.int) = 0
  | [] => rfl
  | n :: ns => by simp [PyData.depthAll, PyData.depth, depth_ints ns]
theorem shaped_ints (ns : List Int) : SeqAt.shaped (.list (ns.map PyData.int)) = true := by
  unfold SeqAt.shaped
  simp [PyData.canLay0, canLay_ints, PyData.depth, depth_ints]
/-- xs != [], xs a list of ints -/
theorem ev_neNil {σ : L2.St} {H : Hp} {ta : TE} {l : Addr} {cells : List Int} (ha : Ev ta σ H (.ref l)) (h : SqL K H l (cells.map V.int)) :
    ∃ b : Bool, Ev (tOp (rNeD K) ta (tLst tNil)) σ H (.bl b) ∧ (b = true → cells ≠ []) := by
  refine ⟨!(PyData.eqv (.list (cells.map PyData.int)) (.list [])), ev_opL (xs := []) ha (el_lst ea_nil (by decide)) (fun p H1 h1 e => ?_), ?_⟩
  · exact fun H2 e2 Q q => ⟨_, _, .lst (ex_l (e.trans e2) h) (dpAll_ints cells), .lst (sq_of (e2 _ _ h1)) .nil, shaped_ints cells, shaped_nil, q H2 (Ex.refl H2)⟩
  · intro hb hc
    subst hc
    exact absurd hb (by decide +kernel)
end
end K10
namespace K10
open PySem L2 Evl
section
variable {P : Program} {w : World} {K : PySem.W.Frag} {mg : Str → Option Value} {base : Heap}
theorem emod_bd (a b : Int) (h : 0 < b) : 0 ≤ a % b ∧ a % b < b := ⟨Int.emod_nonneg a (by omega), Int.emod_lt_of_pos a h⟩
theorem mul_bd {a b A B : Int} (a0 : 0 ≤ a) (aA : a ≤ A) (b0 : 0 ≤ b) (bB : b ≤ B) : 0 ≤ a * b ∧ a * b ≤ A * B := ⟨Int.mul_nonneg a0 b0, Int.mul_le_mul aA bB b0 (by omega)⟩
/-- the last part of a draw: the mixing -/
theorem ok_draw {f : Addr} {fd : FuncData} (F : Fun K "_law_draw" "_law_draw" sDraw f fd) (T : Glb mg) : FnOk P w K mg base CX0 1 f fd ["_law_pen_here", "_law_many"] spDraw := by
  refine F.ok scDraw (fun vs H Q E h => ?_) (fun cdv A outer s H vs Q E hr h => ?_)
  · obtain ⟨p, l, cells, m, many, rfl, _⟩ := h
    rfl
  · obtain ⟨p, l, cells, m, many, rfl, hp, hm, h63, hm0, hm1, k⟩ := h
    refine ⟨_, pss_cons (ps_if (pt_cmpR op_gt (pe_ix ix_list (pv 0) pe_int (fun _ _ => rfl)) pe_int (nomark _)) (pss_cons (ps_set (i := 2) scDraw.nd rfl (.inl rfl) (pe_op op_mod (pe_callTy call_int1 (by rfl) T.int (by decide +kernel) (pa_cons (pe_ix ix_list (pv 0) pe_int (fun _ _ => rfl)) pa_nil)) (pv 1)))
      (pss_cons (ps_asg (pe_op op_fdiv (pe_callTy call_int1 (by rfl) T.int (by decide +kernel) (pa_cons (pe_ix ix_list (pv 0) pe_int (fun _ _ => rfl)) pa_nil)) (pv 1)) (pg_sub (pv 0) pe_int set_list))
      (pss_one (ps_ret (pv 2))))) pss_nil)
      (pss_cons (ps_set (i := 3) scDraw.nd rfl (.inl rfl) (pe_ix ix_list (pv 0) pe_int (fun _ _ => rfl)))
      (pss_cons (ps_asg (pe_op op_add (pv 3) pe_int) (pg_sub (pv 0) pe_int set_list))
      (pss_cons (ps_set (i := 4) scDraw.nd rfl (.inl rfl) (pe_op op_add (pe_op op_mul pe_int (pv 3)) pe_int))
      (pss_cut (ps_if (pt_cmpR (op_neD hr.units) (pe_ix ix_list (pv 0) pe_int (fun _ _ => rfl)) (pe_lst pa_nil) (nomark _)) (pss_one (ps_set (i := 4) scDraw.nd rfl (.inl rfl) (pe_ix ix_list (pe_ix ix_list (pv 0) pe_int (fun _ _ => rfl)) (pe_op op_mod (pe_callTy call_int1 (by rfl) T.int (by decide +kernel) (pa_cons (pv 3) pa_nil)) (pe_callB call_len_seq (by rfl) T.len PySem.boot_len (pa_cons (pe_ix ix_list (pv 0) pe_int (fun _ _ => rfl)) pa_nil))) (fun _ _ => rfl)))) pss_nil)
      (pss_cons (ps_if (PW.pt (pw_and (pt_cmpR op_lt (pv 3) (pe_callB call_len_seq (by rfl) T.len PySem.boot_len (pa_cons (pe_ix ix_list (pv 0) pe_int (fun _ _ => rfl)) pa_nil)) (nomark _)) (pw_and1 (pt_cmpR op_ge (pe_callB call_abs (by rfl) T.abs (by decide +kernel) (pa_cons (pv 4) pa_nil)) (pe_op op_pow pe_int pe_int) (nomark _))))) (pss_cons (ps_set (i := 5) scDraw.nd rfl (.inl rfl) (pe_op op_add (pe_op op_mul pe_int (pe_op op_sub (pe_callB call_abs (by rfl) T.abs (by decide +kernel) (pa_cons (pv 4) pa_nil)) (pe_op op_pow pe_int pe_int))) (pe_callTy call_int1 (by rfl) T.int (by decide +kernel) (pa_cons (pe_cmpR op_lt (pv 4) pe_int (nomark _)) pa_nil))))
      (pss_cons (ps_asg (pe_op op_fdiv (pe_callTy call_int1 (by rfl) T.int (by decide +kernel) (pa_cons (pv 5) pa_nil)) (pv 1)) (pg_sub (pv 0) pe_int set_list))
      (pss_one (ps_ret (pe_op op_mod (pe_callTy call_int1 (by rfl) T.int (by decide +kernel) (pa_cons (pv 5) pa_nil)) (pv 1)))))) pss_nil)
      (pss_cons (ps_set (i := 6) scDraw.nd rfl (.inl rfl) (pe_op op_mod (pe_callTy call_int1 (by rfl) T.int (by decide +kernel) (pa_cons (pe_op op_pow (pe_op op_add (pe_op op_add (pe_op op_mod (pe_callTy call_int1 (by rfl) T.int (by decide +kernel) (pa_cons (pv 4) pa_nil)) pe_int) (pe_op op_mul pe_int (pv 3))) pe_int) pe_int) pa_nil)) pe_int))
      (pss_cons (ps_set (i := 6) scDraw.nd rfl (.inl rfl) (pe_op op_add (pe_op op_add (pe_op op_mul (pv 6) (pe_op op_add (pe_op op_mul pe_int (pv 3)) pe_int)) (pe_op op_mul (pe_op op_mul pe_int (pv 3)) (pv 3))) pe_int))
      (pss_one (ps_ret (pe_op op_mod (pe_callTy call_int1 (by rfl) T.int (by decide +kernel) (pa_cons (pe_op op_fdiv (pe_op op_mod (pe_callTy call_int1 (by rfl) T.int (by decide +kernel) (pa_cons (pe_op op_pow (pv 6) pe_int) pa_nil)) pe_int) pe_int) pa_nil)) (pv 1))))))))))), ?_⟩
    have hpl := hp.ne
    obtain ⟨n, r, h1, h2, hn⟩ := hp
    have many1 : many < 1073741824 := by omega
    refine q_when (et_test (ev_op (ev_op (ev_var rfl) ev_c (rv_ixL (sq_of h1) (atI_nat (j := 2) rfl))) ev_c rv_I0)) (fun hb H1 e1 => ?_) (fun hb H1 e1 => ?_)
    · -- the rest gives a digit
      have r0 : 0 < r := of_decide_eq_true hb
      have g1 := e1 _ _ h1
      refine q_asg (ev_op (ev_cb (ea_cons (ev_op (ev_var rfl) ev_c (rv_ixL (sq_of g1) (atI_nat (j := 2) rfl))) ea_nil) rc_int) (ev_var rfl) (rv_I hm0)) fun H2 e2 => ?_
      have g2 := e2 _ _ g1
      refine q_setL (j := 2) g2 (ev_op (ev_cb (ea_cons (ev_op (ev_var rfl) ev_c (rv_ixL (sq_of g2) (atI_nat (j := 2) rfl))) ea_nil) rc_int) (ev_var rfl) (rv_I ⟨hm0, many1⟩)) (ev_var rfl) ev_c (by show 2 < 3; decide) fun H3 e3 => ?_
      refine s_ret (ev_var rfl) fun H4 e4 => ?_
      have key : ∀ b o, H b = some o → b ≠ p → H4 b = some o := fun b o hb hbp => e4 b o (by rw [upd_ne hbp]; exact e3 _ _ (e2 _ _ (e1 _ _ hb)))
      exact k _ H4 (emod_bd _ _ hm0).1 (emod_bd _ _ hm0).2 ⟨n, _, e4 _ _ upd_same, key _ _ h2 hpl, by omega⟩ key
    · -- at = pen[1]; pen[1] = at + 1
      have g1 := e1 _ _ h1
      refine q_asg (ev_op (ev_var rfl) ev_c (rv_ixL (sq_of g1) (atI_nat (j := 1) rfl))) fun H2 e2 => ?_
      have g2 := e2 _ _ g1
      refine q_setL (j := 1) g2 (ev_op (ev_var rfl) ev_c rv_I0) (ev_var rfl) ev_c (by show 1 < 3; decide) fun H3 e3 => ?_
      have g3 := e3 _ _ g2
      have hl3 : H3 l = some (.lst (cells.map V.int)) := e3 _ _ (e2 _ _ (e1 _ _ h2))
      have kp3 : ∀ b o, H b = some o → b ≠ p → (upd H3 p (.lst ([V.ref l, V.int (n : Int), V.int r].set 1 (V.int ((n : Int) + 1))))) b = some o := fun b o hb hbp => by
        rw [upd_ne hbp]; exact e3 _ _ (e2 _ _ (e1 _ _ hb))
      generalize hH : upd H3 p (.lst ([V.ref l, V.int (n : Int), V.int r].set 1 (V.int ((n : Int) + 1)))) = J at kp3
      have j1 : J p = some (.lst [V.ref l, V.int ((n + 1 : Nat) : Int), V.int r]) := by
        rw [← hH, upd_same]
        rfl
      have j2 : J l = some (.lst (cells.map V.int)) := kp3 _ _ h2 hpl
      have hn0 : (0 : Int) ≤ (n : Int) ∧ (n : Int) ≤ 50000 := ⟨by omega, by omega⟩
      -- cell = 53791 * at + 4325
      refine q_asg (ev_op (ev_op ev_c (ev_var rfl) (rv_I (.inl ⟨by decide, by decide⟩))) ev_c rv_I0) fun H4 e4 => ?_
      have j41 := e4 _ _ j1
      have j42 := e4 _ _ j2
      -- if pen[0] != []: cell = ..
      obtain ⟨bn, evn, hne⟩ := ev_neNil (K := K) (σ := [some (V.ref p), some (V.int many), none, some (V.int (n : Int)), some (V.int (79687 * (n : Int) + 1267)), none, none]) (H := H4) (cells := cells) (l := l)
        (ta := tOp (rIxL K) (tVar 0) (tC (V.int 0))) (ev_op (ev_var rfl) ev_c (rv_ixL (sq_of j41) (atI_nat (j := 0) rfl))) (sq_of j42)
      refine q_cut (M := fun σ' H' => ∃ c : Int, σ' = [some (V.ref p), some (V.int many), none, some (V.int (n : Int)), some (V.int c), none, none] ∧ Ex H4 H') (s_when (et_test evn) (fun hb H5 e5 => ?_) (fun hb H5 e5 => ⟨_, rfl, e5⟩)) ?_
      · have hlen : 0 < cells.length := List.length_pos_iff.mpr (hne hb)
        have hi : 0 ≤ (n : Int) % (cells.length : Int) ∧ (n : Int) % (cells.length : Int) < (cells.length : Int) := emod_bd _ _ (by omega)
        obtain ⟨i, ei⟩ := Int.eq_ofNat_of_zero_le hi.1
        have il : i < cells.length := by have := hi.2; omega
        have lm : ((cells.map V.int).length : Int) = (cells.length : Int) := by rw [List.length_map]
        refine s_asg (v := V.int (cells[i])) (ev_op (y := V.int (i : Int)) (ev_op (ev_var rfl) ev_c (rv_ixL (sq_of (e5 _ _ j41)) (atI_nat (j := 0) rfl)))
          (ev_is (ev_op (ev_cb (ea_cons (ev_var rfl) ea_nil) rc_int) (ev_cb (ea_cons (ev_op (ev_var rfl) ev_c (rv_ixL (sq_of (e5 _ _ j41)) (atI_nat (j := 0) rfl))) ea_nil) (rc_len (sq_of (e5 _ _ j42)))) (rv_I (by rw [lm]; omega))) (by show V.int ((n : Int) % ((cells.map V.int).length : Int)) = _; rw [lm, ei]))
          (rv_ixL (sq_of (e5 _ _ j42)) (atI_nat (by rw [List.getElem?_map, List.getElem?_eq_getElem il]; rfl)))) fun H6 e6 => ⟨_, rfl, e5.trans e6⟩
      rintro σ' H5 ⟨c, rfl, e5⟩
      have k1 := e5 _ _ j41
      have k2 := e5 _ _ j42
      have kp5 : ∀ b o, H b = some o → b ≠ p → H5 b = some o := fun b o hb hbp => e5 _ _ (e4 _ _ (kp3 _ _ hb hbp))
      have lm : ((cells.map V.int).length : Int) = (cells.length : Int) := by rw [List.length_map]
      refine q_when (et_and (et_test (ev_op (ev_var rfl) (ev_cb (ea_cons (ev_op (ev_var rfl) ev_c (rv_ixL (sq_of k1) (atI_nat (j := 0) rfl))) ea_nil) (rc_len (sq_of k2))) rv_I0))
        (fun _ => et_test (ev_op (ev_cb (ea_cons (ev_var rfl) ea_nil) rc_abs) (ev_op ev_c ev_c (rv_I ⟨by decide, by decide, by decide⟩)) rv_I0))) (fun hb H6 e6 => ?_) (fun hb H6 e6 => ?_)
      · -- a great cell
        refine q_asg (ev_op (ev_op ev_c (ev_op (ev_cb (ea_cons (ev_var rfl) ea_nil) rc_abs) (ev_op ev_c ev_c (rv_I ⟨by decide, by decide, by decide⟩)) rv_I0) (rv_I (.inl ⟨by decide, by decide⟩))) (ev_cb (ea_cons (ev_op (ev_var rfl) ev_c rv_I0) ea_nil) rc_intB) rv_I0) fun H7 e7 => ?_
        have k7 := e7 _ _ (e6 _ _ k1)
        refine q_setL (j := 2) k7 (ev_op (ev_cb (ea_cons (ev_var rfl) ea_nil) rc_int) (ev_var rfl) (rv_I ⟨hm0, many1⟩)) (ev_var rfl) ev_c (by show 2 < 3; decide) fun H8 e8 => ?_
        refine s_ret (ev_op (ev_cb (ea_cons (ev_var rfl) ea_nil) rc_int) (ev_var rfl) (rv_I hm0)) fun H9 e9 => ?_
        have key : ∀ b o, H b = some o → b ≠ p → H9 b = some o := fun b o hb hbp => e9 _ _ (by rw [upd_ne hbp]; exact e8 _ _ (e7 _ _ (e6 _ _ (kp5 _ _ hb hbp))))
        exact k _ H9 (emod_bd _ _ hm0).1 (emod_bd _ _ hm0).2 ⟨n + 1, _, e9 _ _ upd_same, key _ _ h2 hpl, by omega⟩ key
      · -- mixed
        have b1 := emod_bd c 2147483587 (by decide)
        refine q_asg (ev_op (ev_cb (ea_cons (ev_op (ev_op (ev_op (ev_op (ev_cb (ea_cons (ev_var rfl) ea_nil) rc_int) ev_c (rv_I (by decide))) (ev_op ev_c (ev_var rfl) (rv_I (.inl ⟨by decide, by decide⟩))) rv_I0) ev_c rv_I0) ev_c
          (rv_I ⟨by decide, by decide, by omega⟩)) ea_nil) rc_int) ev_c (rv_I (by decide))) fun H7 e7 => ?_
        generalize hx : (c % 2147483587 + 83333 * (n : Int) + 1267) ^ (5 : Int).toNat % 2147483629 = x
        have b2 : 0 ≤ x ∧ x < 2147483629 := by rw [← hx]; exact emod_bd _ _ (by decide)
        have b3 := mul_bd b2.1 (by omega : x ≤ 2147483629) (by omega : 0 ≤ 2 * (n : Int) + 341) (by omega : 2 * (n : Int) + 341 ≤ 100341)
        have b4 := mul_bd (by omega : 0 ≤ 79687 * (n : Int)) (by omega : 79687 * (n : Int) ≤ 3984350000) hn0.1 hn0.2
        refine q_asg (ev_op (ev_op (ev_op (ev_var rfl) (ev_op (ev_op ev_c (ev_var rfl) (rv_I (.inl ⟨by decide, by decide⟩))) ev_c rv_I0) (rv_I (.inl ⟨by omega, by omega⟩)))
            (ev_op (ev_op ev_c (ev_var rfl) (rv_I (.inl ⟨by decide, by decide⟩))) (ev_var rfl) (rv_I (.inl ⟨by omega, by omega⟩))) rv_I0) ev_c rv_I0) fun H8 e8 => ?_
        refine s_ret (ev_op (ev_cb (ea_cons (ev_op (ev_op (ev_cb (ea_cons (ev_op (ev_var rfl) ev_c (rv_I ⟨by decide, by decide, by omega⟩)) ea_nil) rc_int) ev_c (rv_I (by decide))) ev_c (rv_I ⟨by decide, by decide⟩)) ea_nil) rc_int) (ev_var rfl) (rv_I hm0)) fun H9 e9 => ?_
        have k9 := e9 _ _ (e8 _ _ (e7 _ _ (e6 _ _ k1)))
        have key : ∀ b o, H b = some o → b ≠ p → H9 b = some o := fun b o hb hbp => e9 _ _ (e8 _ _ (e7 _ _ (e6 _ _ (kp5 _ _ hb hbp))))
        exact k _ H9 (emod_bd _ _ hm0).1 (emod_bd _ _ hm0).2 ⟨n + 1, _, k9, key _ _ h2 hpl, by omega⟩ key
end
end K10
namespace K10
open PySem L2 Evl
section
variable {P : Program} {w : World} {K : PySem.W.Frag} {mg : Str → Option Value} {base : Heap}
/-! ### _law_pen -/
def spPen (K : PySem.W.Frag) : Sp := fun vs H Q _ => ∃ (a : Addr) (ns : List Int), vs = [.ref a] ∧ SqL K H a (ns.map V.int) ∧ ns.length ≤ 63 ∧
  ∀ p l H', H p = none → H l = none → Ex H H' → PenAt H' p l ns 0 → Q (.ref p) H'
theorem scPen : FnScope ["_law_script"] ["_law_script"] (defScope sPen) := ⟨rfl, rfl, rfl, by decide +kernel, rfl, by decide +kernel, by decide +kernel⟩
theorem cut63 (xs : List V) (h : xs.length ≤ 63) : cutV xs none (some 63) = xs := by
  have e1 : HT.sIx xs.length 0 none = 0 := rfl
  have e2 : HT.sIx xs.length xs.length (some 63) = min 63 xs.length := rfl
  unfold cutV
  rw [e1, e2, List.drop_zero, Nat.sub_zero, Nat.min_eq_right h, List.take_length]
theorem ok_pen {f : Addr} {fd : FuncData} (F : Fun K "_law_pen" "_law_pen" sPen f fd) (T : Glb mg) : FnOk P w K mg base CX0 1 f fd ["_law_script"] (spPen K) := by
  refine F.ok scPen (fun vs H Q E h => ?_) (fun cdv A outer s H vs Q E hr h => ?_)
  · obtain ⟨a, ns, rfl, _⟩ := h
    rfl
  · obtain ⟨a, ns, rfl, hS, hl, k⟩ := h
    refine ⟨_, pss_one (ps_ret (pe_lst (pa_cons (pe_callTy call_list_of (by rfl) T.list (by decide +kernel) (pa_cons (pe_slice sl_list (pv 0) po_none (po_some pe_int)) pa_nil)) (pa_cons pe_int (pa_cons pe_int pa_nil))))), ?_⟩
    have ev := el_sl (K := K) (σ := [some (V.ref a)]) (H := H) (tl := tNoPart) (th := tPart (tC (.int 63))) (ev_var (i := 0) rfl) eo_none (eo_some ev_c) hS
    rw [cut63 _ (by rw [List.length_map]; exact hl)] at ev
    refine ev H (Ex.refl H) _ fun q H1 hq e1 h1 => ?_
    refine ⟨q, _, rfl, .inl (sq_of h1), fun l hl1 => ?_⟩
    refine ⟨by show 3 ≤ sizeLine; decide, fun p hp => ?_⟩
    have hp1 : p ≠ l := fun z => by
      rw [z, upd_same] at hp
      cases hp
    have hpn : H1 p = none := by rw [upd_ne hp1] at hp; exact hp
    exact k p l _ (fresh_back e1 hpn) (fresh_back e1 hl1) ((e1.trans (Ex.new hl1)).trans (Ex.new hp)) ⟨0, 0, upd_same, by rw [upd_ne hp1.symm, upd_same], Nat.le_refl _⟩
/-! ### _law_pick -/
def spPick : Sp := fun vs H Q _ => ∃ (p l a : Addr) (cells : List Int) (m : Nat) (xs : List V), vs = [.ref p, .ref a] ∧ PenAt H p l cells m ∧ m ≤ 50000 ∧ cells.length ≤ 63 ∧ H a = some (.lst xs) ∧ a ≠ p ∧ 0 < xs.length ∧ xs.length ≤ 1000000 ∧
  ∀ (i : Nat) x H', xs[i]? = some x → PenAt H' p l cells (m + 1) → Keep p H H' → Q x H'
theorem scPick : FnScope ["_law_pen_here", "_law_some"] ["_law_pen_here", "_law_some"] (defScope sPick) := ⟨rfl, rfl, rfl, by decide +kernel, rfl, by decide +kernel, by decide +kernel⟩
theorem ok_pick {f fD : Addr} {fd fdD : FuncData} (F : Fun K "_law_pick" "_law_pick" sPick f fd) (T : Glb mg) (FD : Fun K "_law_draw" "_law_draw" sDraw fD fdD) (bD : Binds K fdD ["_law_pen_here", "_law_many"] []) (gD : mg "_law_draw" = some (.ref fD)) :
    FnOk P w K mg base CX0 2 f fd ["_law_pen_here", "_law_some"] spPick := by
  have GD : FnOk P w K mg base CX0 1 fD fdD ["_law_pen_here", "_law_many"] spDraw := ok_draw FD T
  refine F.ok scPick (fun vs H Q E h => ?_) (fun cdv A outer s H vs Q E hr h => ?_)
  · obtain ⟨p, l, a, cells, m, xs, rfl, _⟩ := h
    rfl
  · obtain ⟨p, l, a, cells, m, xs, rfl, hp, hm, h63, ha, hap, hx0, hx1, k⟩ := h
    refine ⟨_, pss_one (ps_ret (pe_ix ix_list (pv 1) (pe_call GD hr (by rfl) gD FD.kp bD .nil pass0 (pa_cons (pv 0) (pa_cons (pe_callB call_len_seq (by rfl) T.len PySem.boot_len (pa_cons (pv 1) pa_nil)) pa_nil))) (fun _ _ => rfl))), ?_⟩
    refine ⟨_, rfl, _, rfl, _, rfl, a, xs, rfl, .inl (sq_of ha), p, l, cells, m, (xs.length : Int), rfl, hp, hm, h63, by omega, by omega, fun d H' d0 d1 hp' kp => ?_⟩
    obtain ⟨i, rfl⟩ := Int.eq_ofNat_of_zero_le d0
    have hi : i < xs.length := by omega
    have ei : xs[i]? = some xs[i] := List.getElem?_eq_getElem hi
    exact ⟨a, xs, (i : Int), xs[i], rfl, rfl, sq_of (kp _ _ ha hap), atI_nat ei, k i _ H' ei hp' kp⟩
end
end K10
namespace L2
open PySem PySem.Spec PyProof.Rows
section
variable {X : Cx} {k : Nat} {f : Addr} {fd : FuncData} {ps ks : List Str} {sp : Sp} {x : Str} {p pos : Pos} {kws : List Keyword} {tk : TA} {g : List Value → List Value → List Value} {gV : List V → List V → List V}
/-- f(k = v, ..), keywords alone -/
theorem pe_callK0 (F : FnOk X.prog X.w X.K X.mg X.base CX0 k f fd ps sp) (hr : Room k X.A) (hg : Gl X x) (hm : X.mg x = some (.ref f)) (hk : PySem.W.keepIn X.K (.ref f) = true) (hb : KBn X.K fd ps 0 ks g gV) (hkw : PK X kws tk)
    (hall : (backToKw pos (keywordEach kws X.env)).all (·.1.isSome) = true := by rfl) (hks : (backToKw pos (keywordEach kws X.env)).filterMap (·.1) = ks := by rfl) (hdb : (x == ("__debug__" : Str)) = false := by decide)
    (hpl : ((backTo pos (starEach [] X.env)).any (·.1) || (backToKw pos (keywordEach kws X.env)).any (·.1.isNone)) = false := by rfl) :
    PE X (.Call (.Name x p) [] kws pos) (tCallN 0 ks.length sp gV E0 tNil tk) := by
  refine ⟨fun pins s σ H Q I h => ?_⟩
  refine wpAny_Call_Name_kw (ld_glob I hg hm ?_ hdb)
  refine PySem.W.callWith_KW0 (h₀ := X.base) I.ok.mod.kin hk hall ?_ hpl
  refine thn (hkw.run pos pins s σ H _ I h) fun ws s2 ⟨zs, H2, I2, rz, l1, l2, q2⟩ => ⟨I2.kIn, ?_⟩
  rw [hks]
  exact run_fnN (us := []) (vs := []) F hr hb pass0 I2 .nil rz rfl l2 q2
/-- how a def without defaults binds keywords alone -/
theorem Fun.kb {K : PySem.W.Frag} {x qual : Str} {st : Stmt} {f : Addr} {fd : FuncData} {ps ks : List Str} (F : Fun K x qual st f fd) (n : Nat) (g : {α : Type} → List α → List α → List α)
    (hrel : ∀ {vs zs : List V} {us ws : List Value}, Vals vs us → Vals zs ws → Vals (g vs zs) (g us ws))
    (h : ∀ (kV doc pm : Value) (an : Option Addr) (cdv ct : Value) (us ws : List Value), us.length = n → ws.length = ks.length → bindArgs (PySem.W.fnOf x qual (defArgs st) (defBody st) (defScope st) .none kV doc pm an cdv ct) ⟨us, ks.zip ws⟩ = pure (ps.zip (g us ws))) :
    KBn K fd ps n ks (fun us ws => g us ws) (fun vs zs => g vs zs) := by
  obtain ⟨oc, od, kV, doc, pm, an, cdv, ct, osl, rfl, lk, hcd⟩ := F.ex
  exact ⟨fun s us ws _ l1 l2 => .of_eq (h kV doc pm an cdv ct us ws l1 l2), fun r1 r2 => hrel r1 r2⟩
end
end L2
namespace K10
open PySem L2 Evl
structure GlbT (mg : Str → Option Value) : Prop where
  inst : mg "isinstance" = none
  int : mg "int" = none
  bool : mg "bool" = none
  str : mg "str" = none
  len : mg "len" = none
theorem tyx_mono {K : PySem.W.Frag} {H H' : Hp} {x : V} {t : Value} (e : Ex H H') (h : TyX K H x t) : TyX K H' x t := by
  cases h with
  | base b =>
    refine .base ?_
    cases b with
    | non => exact .non
    | bl b => exact .bl b
    | int i => exact .int i
    | str x => exact .str x
    | flt x => exact .flt x
    | lst q => exact .lst (e _ _ q)
    | frz q => exact .frz (e _ _ q)
    | tup q => exact .tup (e _ _ q)
    | dK q => exact .dK (e _ _ q)
    | dT q => exact .dT (e _ _ q)
    | ins q a b c d f => exact .ins (e _ _ q) a b c d f
  | byt b => exact .byt b
  | set q => exact .set (e _ _ q)
  | kList q c => exact .kList q c
  | kTuple q c => exact .kTuple q c
  | kDict q c => exact .kDict q c
  | fTuple q => exact .fTuple (e _ _ q)
  | fDict q => exact .fDict (e _ _ q)
theorem rc_isi {K : PySem.W.Frag} {H : Hp} {x : V} {a b : String} {r : Bool} (h : TyX K H x (.type a)) (hk : kitB a b = some r) : RC (rIsi K) [x, .ty b] H (.bl r) := fun H1 e _ q => ⟨x, .ty b, .type a, .type b, r, rfl, .ty b, tyx_mono e h, kit_ty hk, q H1 (Ex.refl H1)⟩
section
variable {P : Program} {w : World} {K : PySem.W.Frag} {mg : Str → Option Value} {base : Heap}
theorem kit_int_int : kitB "int" "int" = some true := by decide +kernel
theorem kit_int_bool : kitB "int" "bool" = some false := by decide +kernel
theorem ev_chain {σ : L2.St} {H : Hp} {ta tb tc : TE} {i j l : Int} {f g : Int → Int → Bool} (ha : Ev ta σ H (.int i)) (hb : Ev tb σ H (.int j)) (hc : Ev tc σ H (.int l)) :
    Ev (tChain (rI0 fun i j => .bl (f i j)) (rI0 fun i j => .bl (g i j)) ta tb tc) σ H (.bl (f i j && g j l)) := fun H1 e Q q =>
  ha H1 e _ fun H2 e2 => hb H2 (e.trans e2) _ fun H3 e3 => ⟨i, j, rfl, rfl, f i j, rfl, by
    cases h : f i j with
    | true =>
      simp only [h, Bool.true_and] at q
      exact hc H3 ((e.trans e2).trans e3) _ fun H4 e4 => ⟨j, l, rfl, rfl, q H4 ((e2.trans e3).trans e4)⟩
    | false =>
      simp only [h, Bool.false_and] at q
      exact q H3 (e2.trans e3)⟩
end
end K10
namespace L2
open PySem PySem.Spec PyProof.Rows
section
variable {X : Cx}
def tNo : TS := fun _ _ _ => False
theorem ps_no {st : Stmt} : PS X st tNo := ⟨fun _ _ _ _ _ _ h => h.elim⟩
end
theorem PI.or {X : Cx} {tg e : Expr} {w1 w2 : TI} (h1 : PI X tg e w1) (h2 : PI X tg e w2) : PI X tg e (fun σ H R => w1 σ H R ∨ w2 σ H R) := ⟨fun pins s σ H R I h => h.elim (h1.run pins s σ H R I) (h2.run pins s σ H R I)⟩
end L2
namespace K10
open PySem L2 Evl Gr
def Sq (K : PySem.W.Frag) (H : Hp) (a : Addr) (xs : List V) : Prop := SqL K H a xs ∨ SqT K H a xs
theorem Sq.mono {K : PySem.W.Frag} {H H' : Hp} {a : Addr} {xs : List V} (e : Ex H H') (h : Sq K H a xs) : Sq K H' a xs := h.elim (fun h => .inl (ex_l e h)) fun h => .inr (ex_t e h)
def vI (g : List Int) : List V := g.map V.int
theorem vI_len {g : List Int} : (vI g).length = g.length := List.length_map _
theorem vI_get {g : List Int} {i : Nat} (h : i < g.length) : (vI g)[i]? = some (V.int (at' g i)) := by
  unfold vI at'
  rw [List.getElem?_map, List.getD_eq_getElem?_getD, List.getElem?_eq_getElem h]
  rfl
theorem rv_ix {K : PySem.W.Frag} {H : Hp} {p : Addr} {xs : List V} {i : Int} {v : V} (h : Sq K H p xs) (ha : atI xs i = some v) : RV (rIx K) (.ref p) (.int i) H v := fun H1 e Q q => by
  rcases h with h | h
  · exact .inl ⟨p, xs, i, v, rfl, rfl, ex_l e h, ha, q H1 (Ex.refl H1)⟩
  · exact .inr (.inl ⟨p, xs, i, v, rfl, rfl, ex_t e h, ha, q H1 (Ex.refl H1)⟩)
theorem rc_lenQ {K : PySem.W.Frag} {p : Addr} {xs : List V} {H : Hp} (h : Sq K H p xs) : RC (fun xs H Q => ∃ p ys, xs = [V.ref p] ∧ (SqL K H p ys ∨ SqT K H p ys) ∧ Q (.int ys.length) H) [.ref p] H (.int (xs.length : Int)) := fun H1 e _ q => ⟨p, xs, rfl, h.mono e, q H1 (Ex.refl H1)⟩
theorem st_asI {K : PySem.W.Frag} {H : Hp} {a : Addr} {g : List Int} (h : H a = some (.lst (vI g))) : Sq K H a (vI g) := .inl (sq_of h)
theorem atI_vI {g : List Int} {i : Nat} (h : i < g.length) : atI (vI g) (i : Int) = some (V.int (at' g i)) := atI_nat (vI_get h)
theorem atI_vlast {g : List Int} (h : 0 < g.length) : atI (vI g) (-1) = some (V.int (at' g (g.length - 1))) := by
  have e : ixN (vI g).length (-1) = some (g.length - 1) := by
    unfold ixN
    rw [vI_len, if_neg (by decide), if_pos (by omega)]
    congr 1
    omega
  unfold atI
  rw [e]
  exact vI_get (by omega)
theorem vI_app {g : List Int} {x : Int} : vI g ++ [V.int x] = vI (g ++ [x]) := by unfold vI; rw [List.map_append]; rfl
theorem vint_inj {x y : Int} : decide (V.int x = V.int y) = decide (x = y) := by
  by_cases h : x = y
  · rw [decide_eq_true h, decide_eq_true (congrArg V.int h)]
  · rw [decide_eq_false h, decide_eq_false fun z => h (V.int.inj z)]
structure GlbS (mg : Str → Option Value) : Prop where
  len : mg "len" = none
  range : mg "range" = none
  tuple : mg "tuple" = none
  list : mg "list" = none
def EvTu (K : PySem.W.Frag) (te : TE) (σ : L2.St) (H : Hp) (xs : List V) : Prop := ∀ H1, Ex H H1 → ∀ Q : VK, (∀ p H2, Ex H1 H2 → SqT K H2 p xs → Q (.ref p) H2) → te σ H1 Q
def rSlQ (K : PySem.W.Frag) : V → Option Int → Option Int → Hp → VK → Prop := fun x lo hi H Q => rSlL K x lo hi H Q ∨ rSlA K x lo hi H Q
theorem sl_seq {X : Cx} : SlR X (rSlQ X.K) := sl_list.or sl_tupA
section
variable {K : PySem.W.Frag} {σ : L2.St} {H : Hp} {te ta tb : TE} {tl th : TO} {a : Addr} {xs ys : List V} {lo hi : Option Int}
theorem cutV_all {n : Nat} (h1 : HT.sIx xs.length 0 lo = 0) (h2 : HT.sIx xs.length xs.length hi = xs.length) : cutV xs lo hi = xs := by
  unfold cutV
  rw [h1, h2, List.drop_zero, Nat.sub_zero, List.take_length]
theorem etu_cut (h : Ev te σ H (.ref a)) (h1 : EvO tl σ H lo) (h2 : EvO th σ H hi) (hs : SqT K H a xs) : EvTu K (tSl (rSlA K) te tl th) σ H (cutV xs lo hi) := fun H1 e Q q =>
  h H1 e _ fun H2 e2 => h1 H2 (e.trans e2) _ fun H3 e3 => h2 H3 ((e.trans e2).trans e3) _ fun H4 e4 =>
    ⟨a, xs, rfl, ex_t (((e.trans e2).trans e3).trans e4) hs, fun z => q a H4 ((e2.trans e3).trans e4) (by rw [cutV_all (n := 0) z.1 z.2]; exact ex_t (((e.trans e2).trans e3).trans e4) hs),
      fun _ p hp => q p _ (((e2.trans e3).trans e4).trans (Ex.new hp)) (st_of upd_same)⟩
theorem etu_cat (h1 : EvTu K ta σ H xs) (h2 : EvTu K tb σ H ys) (hz : xs.length + ys.length ≤ 100000) : EvTu K (tOp (rCatA K) ta tb) σ H (xs ++ ys) := fun H1 e Q q =>
  h1 H1 e _ fun p H2 e2 hp => h2 H2 (e.trans e2) _ fun r H3 e3 hr =>
    ⟨p, r, xs, ys, rfl, rfl, ex_t e3 hp, hr, sz_of hz, fun z => q r H3 (e2.trans e3) (by rw [z]; exact hr), fun _ z => q p H3 (e2.trans e3) (by rw [z, List.append_nil]; exact ex_t e3 hp),
      fun _ _ b hb => q b _ ((e2.trans e3).trans (Ex.new hb)) (st_of upd_same)⟩
theorem etu_of (h : Ev te σ H (.ref a)) (h1 : EvO tl σ H lo) (h2 : EvO th σ H hi) (hs : Sq K H a xs) : EvTu K (tThen (tSl (rSlQ K) te tl th) (kTup K)) σ H (cutV xs lo hi) := fun H1 e Q q =>
  h H1 e _ fun H2 e2 => h1 H2 (e.trans e2) _ fun H3 e3 => h2 H3 ((e.trans e2).trans e3) _ fun H4 e4 => by
    have E := ((e.trans e2).trans e3).trans e4
    have E1 := (e2.trans e3).trans e4
    rcases hs.mono E with z | z
    · exact .inl ⟨a, xs, rfl, z, fun p hp => .inl ⟨p, _, rfl, sq_of upd_same, fun r hr => q r _ ((E1.trans (Ex.new hp)).trans (Ex.new hr)) (st_of upd_same)⟩⟩
    · exact .inr ⟨a, xs, rfl, z, fun c => .inr ⟨a, _, rfl, z, q a H4 E1 (by rw [cutV_all (n := 0) c.1 c.2]; exact z)⟩, fun _ p hp => .inr ⟨p, _, rfl, st_of upd_same, q p _ (E1.trans (Ex.new hp)) (st_of upd_same)⟩⟩
theorem q_asgT {i : Nat} {tz : TS} {D : Ends} (h : EvTu K te σ H xs) (k : ∀ p H1, Ex H H1 → SqT K H1 p xs → tz D (σ.set i (some (.ref p))) H1) : tSeq (tAsg te (gName i)) tz D σ H := h H (Ex.refl H) _ fun p H1 e s => k p H1 e s
end
theorem cut_take {g : List Int} {n : Nat} (h : n ≤ g.length) : cutV (vI g) none (some (n : Int)) = vI (g.take n) := by
  unfold cutV vI
  rw [show HT.sIx (g.map V.int).length 0 none = 0 from rfl, HT.sIx_nat, List.drop_zero, Nat.sub_zero, List.length_map, Nat.min_eq_left h, List.map_take]
theorem cut_drop {g : List Int} {n : Nat} (h : n ≤ g.length) : cutV (vI g) (some (n : Int)) none = vI (g.drop n) := by
  unfold cutV vI
  rw [HT.sIx_none, HT.sIx_nat, List.length_map, Nat.min_eq_left h, List.take_of_length_le (by rw [List.length_drop, List.length_map]; exact Nat.le_refl _), List.map_drop]
theorem ev_fld {K : PySem.W.Frag} {σ : L2.St} {H : Hp} {ta : TE} {o C dx : Addr} {fs : List (Str × V)} {v : V} {f : Str} (ha : Ev ta σ H (.ref o)) (ho : H o = some (.ins C dx fs)) (c : Cls K C) (n : NoAttr K C f) (hf : fs.lookup f = some v) :
    Ev (tFld K ta f) σ H v := fun H1 e Q q => ha H1 e _ fun H2 e2 => ⟨o, C, dx, fs, v, rfl, e2 _ _ (e _ _ ho), c, n, hf, q H2 e2⟩
section
variable {K : PySem.W.Frag} {σ : L2.St} {H H' : Hp} {te ta tb tl : TE} {t : TT} {xs : List V} {p l : Addr} {cells : List Int} {m : Nat} {i : Nat} {D : Ends}
theorem el_ofT (h : EvTu K te σ H xs) : EvL (tCB (rListS K) (tCons te tNil)) σ H xs := fun H1 e Q q =>
  h H1 e _ fun p H2 e2 hp => ⟨p, xs, rfl, .inr hp, fun l hl => q l _ (fresh_back e2 hl) (e2.trans (Ex.new hl)) upd_same⟩
theorem el_lcR2 {ta : TA} {j : Nat} {vs : List Nat} {lo n : Int} (f : Nat → Bool) (v : Nat → V) (h : EvA ta σ H [.int lo, .int n]) (hn : 0 ≤ lo ∧ lo ≤ n ∧ n ≤ 40000) (hw : ∀ x, wipe ((wipe σ vs).set j (some x)) vs = wipe σ vs)
    (ht : ∀ (i : Nat) H1, Ex H H1 → lo + (i : Int) < n → EvT t ((wipe σ vs).set j (some (.int (lo + (i : Int))))) H1 (f i)) (he : ∀ (i : Nat) H1, Ex H H1 → lo + (i : Int) < n → f i = true → Ev te ((wipe σ vs).set j (some (.int (lo + (i : Int))))) H1 (v i)) :
    EvL (tLc (iRng2 ta) (gName j) t te vs) σ H (given (n - lo).toNat f v) := fun H0 e Q q => h H0 e _ fun H1 e1 => ⟨lo, n, rfl, ⟨by omega, by omega, by omega, by omega⟩, fun Dl hD =>
  lc_range (lo := lo) (n := (n - lo).toNat) (Cw H1 f v Dl) ⟨hD, Ex.new hD, upd_same⟩ (fun i H' hi p =>
    ⟨hw _, cw_turn p (by omega) (ht i H1 (e.trans e1) (by omega)) (fun hf => he i H1 (e.trans e1) (by omega) hf)⟩) (fun H' p => q Dl H' (fresh_back e1 p.1) (e1.trans p.2.1) p.2.2)⟩
theorem given_all {n : Nat} {v : Nat → V} : given n (fun _ => true) v = (List.range n).map v := by
  unfold given
  rw [List.filter_eq_self.mpr fun _ _ => rfl]
theorem et_none : EvT (fun σ H Q => Q true H) σ H true := fun H1 _ _ q => q H1 (Ex.refl H1)
def iQ (K : PySem.W.Frag) (tl : TE) : TI := fun σ H R => iList K tl σ H R ∨ iTup K tl σ H R
theorem pi_seq {X : Cx} {tg e : Expr} {tl : TE} (h : PE X e tl) : PI X tg e (iQ X.K tl) := (pi_list h).or (pi_tup h)
theorem el_lcQ {a : Addr} {xs : List V} {tl : TE} {j : Nat} {vs : List Nat} (v : Nat → V) (h : Ev tl σ H (.ref a)) (hx : Sq K H a xs) (hz : xs.length ≤ 40000) (hw : ∀ x, wipe ((wipe σ vs).set j (some x)) vs = wipe σ vs)
    (he : ∀ (i : Nat) (x : V) H1, Ex H H1 → xs[i]? = some x → Ev te ((wipe σ vs).set j (some x)) H1 (v i)) : EvL (tLc (iQ K tl) (gName j) tYes te vs) σ H ((List.range xs.length).map v) := fun H0 e Q q => by
  rcases hx with hx | hx
  · exact .inl (h H0 e _ fun H1 e1 => ⟨a, rfl, ⟨xs, ex_l (e.trans e1) hx⟩, fun Dl hD => lc_it (n := xs.length) (walk_list (xs := xs)) (Cw H1 (fun _ => true) v Dl) ⟨hD, Ex.new hD, upd_same⟩ (fun _ H' _ p => ex_l ((e.trans e1).trans p.2.1) hx)
      (fun k x H' H'' hk p y => by
        obtain ⟨rfl, hx'⟩ := y
        exact ⟨hw _, cw_turn p (by omega) et_none (fun _ => he k x H1 (e.trans e1) hx')⟩)
      (fun H' p => q Dl H' (fresh_back e1 p.1) (e1.trans p.2.1) (by rw [← given_all]; exact p.2.2))⟩)
  · exact .inr (h H0 e _ fun H1 e1 => ⟨a, rfl, ⟨xs, ex_t (e.trans e1) hx⟩, fun Dl hD => lc_it (n := xs.length) (walk_tup (xs := xs)) (Cw H1 (fun _ => true) v Dl) ⟨hD, Ex.new hD, upd_same⟩ (fun _ H' _ p => ex_t ((e.trans e1).trans p.2.1) hx)
      (fun k x H' H'' hk p y => by
        obtain ⟨rfl, hx'⟩ := y
        exact ⟨hw _, cw_turn p (by omega) et_none (fun _ => he k x H1 (e.trans e1) hx')⟩)
      (fun H' p => q Dl H' (fresh_back e1 p.1) (e1.trans p.2.1) (by rw [← given_all]; exact p.2.2))⟩)
theorem sq_ty {a : Addr} {xs : List V} (h : Sq K H a xs) : ∃ T : String, TyX K H (.ref a) (.type T) ∧ (T = "list" ∨ T = "tuple") := by
  rcases h with (h | h) | (h | h)
  · rcases h with h | ⟨o, h⟩
    · exact ⟨"list", .base (.lst h), .inl rfl⟩
    · exact ⟨"list", .base (.frz h), .inl rfl⟩
  · obtain ⟨o, its, n, lk, hc, _⟩ := h
    exact ⟨"list", .kList lk hc, .inl rfl⟩
  · rcases h with h | ⟨o, h⟩
    · exact ⟨"tuple", .base (.tup h), .inr rfl⟩
    · exact ⟨"tuple", .fTuple h, .inr rfl⟩
  · obtain ⟨o, its, n, lk, hc, _⟩ := h
    exact ⟨"tuple", .kTuple lk hc, .inr rfl⟩
theorem sqT_upd {K : PySem.W.Frag} {H : Hp} {o p C dx : Addr} {fs : List (Str × V)} {u : HO} {xs : List V} (h : SqT K H p xs) (ho : H o = some (.ins C dx fs)) : SqT K (upd H o u) p xs := by
  rcases h with (h | ⟨o', h⟩) | h
  · exact .inl (.inl (by rw [upd_ne (fun z => by rw [z, ho] at h; cases h)]; exact h))
  · exact .inl (.inr ⟨o', by rw [upd_ne (fun z => by rw [z, ho] at h; cases h)]; exact h⟩)
  · exact .inr h
theorem eqv_ints : ∀ xs ys : List Int, PyData.eqvAll (xs.map PyData.int) (ys.map PyData.int) = decide (xs = ys)
  | [], [] => by simp [PyData.eqvAll]
  | [], y :: ys => by simp [PyData.eqvAll]
  | x :: xs, [] => by simp [PyData.eqvAll]
  | x :: xs, y :: ys => by
    have ih := eqv_ints xs ys
    simp only [List.map_cons, PyData.eqvAll, PyData.eqv, ih]
    by_cases h : x = y <;> by_cases h2 : xs = ys <;> simp [h, h2]
theorem shaped_tup (ns : List Int) : SeqAt.shaped (.tuple (ns.map PyData.int)) = true := by
  unfold SeqAt.shaped
  simp [PyData.canLay0, canLay_ints, PyData.depth, depth_ints]
theorem ev_eqT {p q : Addr} {xs ys : List Int} (ha : Ev ta σ H (.ref p)) (hb : Ev tb σ H (.ref q)) (hp : SqT K H p (vI xs)) (hq : SqT K H q (vI ys)) : Ev (tOp (rEqD K) ta tb) σ H (.bl (decide (xs = ys))) :=
  ev_op ha hb fun H1 e Q q' => ⟨.tuple (xs.map PyData.int), .tuple (ys.map PyData.int), .tup (ex_t e hp) (dpAll_ints xs), .tup (ex_t e hq) (dpAll_ints ys), shaped_tup xs, shaped_tup ys, by
    have e2 : PyData.eqv (.tuple (xs.map PyData.int)) (.tuple (ys.map PyData.int)) = decide (xs = ys) := by
      rw [← eqv_ints]
      simp [PyData.eqv]
    rw [e2]
    exact q' H1 (Ex.refl H1)⟩
def EvW (p l : Addr) (cells : List Int) (n : Nat) (te : TE) (σ : L2.St) (H : Hp) (R : V → Prop) : Prop := ∀ m H1, Keep p H H1 → PenAt H1 p l cells m → m + n ≤ 50000 → ∀ Q : VK, (∀ v H2, R v → PenAt H2 p l cells (m + n) → Keep p H1 H2 → Q v H2) → te σ H1 Q
theorem w_draw {i : Nat} {tb : TE} {many : Int} (hi : σ[i]? = some (some (.ref p))) (hb : ∀ H1, Keep p H H1 → Ev tb σ H1 (.int many)) (h0 : 0 < many) (h1 : many ≤ 1000000000) (h63 : cells.length ≤ 63) :
    EvW p l cells 1 (tCall spDraw [] E0 (tCons (tVar i) (tCons tb tNil))) σ H (fun v => ∃ d : Nat, v = .int (d : Int) ∧ (d : Int) < many) := fun m H1 kp hP hm Q q =>
  ⟨_, hi, hb H1 kp H1 (Ex.refl H1) _ fun H2 e2 => ⟨p, l, cells, m, many, rfl, hP.mono e2 (Nat.le_refl m), by omega, h63, h0, h1, fun d H3 d0 d1 hP3 k3 => by
    obtain ⟨n, rfl⟩ := Int.eq_ofNat_of_zero_le d0
    exact q _ H3 ⟨n, rfl, d1⟩ hP3 ((Keep.of_ex e2).trans k3)⟩⟩
theorem PenAt.upd' {H : Hp} {p l a : Addr} {cells : List Int} {m : Nat} {o : HO} (h : PenAt H p l cells m) (h1 : a ≠ p) (h2 : a ≠ l) : PenAt (upd H a o) p l cells m := by
  obtain ⟨k, r, q1, q2, q3⟩ := h
  exact ⟨k, r, by rw [upd_ne h1.symm]; exact q1, by rw [upd_ne h2.symm]; exact q2, q3⟩
theorem PenAt.le {H : Hp} {p l : Addr} {cells : List Int} {m n : Nat} (h : PenAt H p l cells m) (hm : m ≤ n) : PenAt H p l cells n := h.mono (Ex.refl H) hm
theorem Keep.mut {p a : Addr} {H H' : Hp} {o : HO} (h : Keep p H H') (ha : H a = none) : Keep p H (L2.upd H' a o) := fun b u hb hn => by
  have : b ≠ a := fun z => by rw [z, ha] at hb; cases hb
  rw [upd_ne this]
  exact h b u hb hn
theorem q_asgR {σ : L2.St} {H : Hp} {te : TE} {i : Nat} {tz : TS} {D : Ends} (h : te σ H fun x H1 => tz D (σ.set i (some x)) H1) : tSeq (tAsg te (gName i)) tz D σ H := h
theorem q_call {σ : L2.St} {H : Hp} {sp : Sp} {dvs vs : List V} {E : XK} {ta : TA} {i : Nat} {tz : TS} {D : Ends} (h : EvA ta σ H vs) (k : ∀ H1, Ex H H1 → sp (vs ++ dvs) H1 (fun v H2 => tz D (σ.set i (some v)) H2) E) :
    tSeq (tAsg (tCall sp dvs E ta) (gName i)) tz D σ H := h H (Ex.refl H) _ k
theorem lst_i {t : TA} {Q : VK} {σ : L2.St} {H : Hp} (h : t σ H fun xs H1 => xs.length ≤ sizeLine ∧ ∀ l, H1 l = none → Q (.ref l) (upd H1 l (.lst xs))) : tLst t σ H Q := h
theorem cons_i {te : TE} {tr : TA} {σ : L2.St} {H : Hp} {Q : List V → Hp → Prop} (h : te σ H fun x H1 => tr σ H1 fun xs H2 => Q (x :: xs) H2) : tCons te tr σ H Q := h
theorem op_i {r : R2} {ta tb : TE} {σ : L2.St} {H : Hp} {Q : VK} (h : ta σ H fun x H1 => tb σ H1 fun y H2 => r x y H2 Q) : tOp r ta tb σ H Q := h
theorem fnR0 {P : Program} {w : World} {K : PySem.W.Frag} {mg : Str → Option Value} {base : Heap} {CX : CXT} {k : Nat} {f : Addr} {fd : FuncData} {ps : List Str} {sp : Sp} (F : FnOk P w K mg base CX k f fd ps sp) (b : Binds K fd ps []) : FnR P w K mg base CX k f sp :=
  (F.raw b .nil).imp fun vs H Q E h => by rw [List.append_nil]; exact h
theorem c_i {x : V} {Q : VK} (h : Q x H) : tC x σ H Q := h
theorem q_par {ta : TA} {i j : Nat} {tz : TS} {D : Ends} (h : ta σ H fun vs H1 => ∃ u v, vs = [u, v] ∧ tz D ((σ.set i (some u)).set j (some v)) H1) : tSeq (tPar i j ta) tz D σ H := h
theorem etu_tuple {K : PySem.W.Frag} {te : TE} {xs : List V} (h : EvL te σ H xs) : EvTu K (tThen te (kTup K)) σ H xs := fun H1 e Q q =>
  h H1 e _ fun p H2 _ e2 h2 => .inl ⟨p, xs, rfl, sq_of h2, fun r hr => q r _ (e2.trans (Ex.new hr)) (st_of upd_same)⟩
def Gfn (P : Program) (w : World) (K : PySem.W.Frag) (mg : Str → Option Value) (base : Heap) (k : Nat) (name : Str) (ps : List Str) (sp : Sp) : Prop :=
  ∃ f fd, FnOk P w K mg base CX0 k f fd ps sp ∧ PySem.W.keepIn K (.ref f) = true ∧ Binds K fd ps [] ∧ mg name = some (.ref f)
theorem sqt_keep {q : Addr} {xs : List V} (hP : PenAt H p l cells m) (kp : Keep p H H') (h : SqT K H q xs) : SqT K H' q xs := by
  obtain ⟨_, _, hp, _⟩ := hP
  rcases h with (h | ⟨o, h⟩) | h
  · exact .inl (.inl (kp _ _ h fun z => by rw [z, hp] at h; cases h))
  · exact .inl (.inr ⟨o, kp _ _ h fun z => by rw [z, hp] at h; cases h⟩)
  · exact .inr h
theorem sql_keep {q : Addr} {xs : List Int} (hP : PenAt H p l cells m) (kp : Keep p H H') (h : SqL K H q (vI xs)) : SqL K H' q (vI xs) := by
  obtain ⟨_, _, hp, _⟩ := hP
  have no : ∀ {k r : Int}, ¬ [V.ref l, V.int k, V.int r] = vI xs := fun e => by
    cases xs with
    | nil => cases e
    | cons x xs => cases e
  rcases h with (h | ⟨o, h⟩) | h
  · exact .inl (.inl (kp _ _ h fun z => by rw [z, hp] at h; exact no (HO.lst.inj (Option.some.inj h))))
  · exact .inl (.inr ⟨o, kp _ _ h fun z => by rw [z, hp] at h; cases h⟩)
  · exact .inr h
theorem yes_i {σ : L2.St} {H : Hp} {A B : Hp → Prop} (h : A H) : tYes σ H (fun b H3 => if b = true then A H3 else B H3) := iteT (A := A H) (B := B H) h
theorem given_none {n : Nat} {v : Nat → V} : given n (fun _ => false) v = vI [] := by
  unfold given
  have f : ∀ l : List Nat, l.filter (fun _ => false) = [] := fun l => by induction l with | nil => rfl | cons a l ih => exact ih
  rw [f]
  rfl
theorem el_noneN {t : TT} {j : Nat} {xs : List V} (hl : EvL tl σ H xs) (h4 : xs.length ≤ 40000) (hw : ∀ x, wipe ((wipe σ [j]).set j (some x)) [j] = wipe σ [j])
    (ht : ∀ (i : Nat) (x : V) H1, Ex H H1 → xs[i]? = some x → EvT t ((wipe σ [j]).set j (some x)) H1 false) : EvL (tLc (iList K tl) (gName j) t (tVar j) [j]) σ H (vI []) := by
  have c := el_lcNL (K := K) (σ := σ) (H := H) (t := t) (te := tVar j) (j := j) (vs := [j]) (fun _ => false) (fun _ => V.non) hl h4 hw ht (fun i x H1 e hi hf => by cases hf)
  rw [given_none] at c
  exact c
theorem el_nil : EvL (tLst tNil) σ H (vI []) := el_lst ea_nil (by decide)
theorem eqv_lists (xs ys : List Int) : PyData.eqv (.list (xs.map PyData.int)) (.list (ys.map PyData.int)) = decide (xs = ys) := by
  have := eqv_ints xs ys
  simpa [PyData.eqv] using this
theorem ev_eqL {xs ys : List Int} (ha : EvL ta σ H (vI xs)) (hb : EvL tb σ H (vI ys)) : Ev (tOp (rEqD K) ta tb) σ H (.bl (decide (xs = ys))) := fun H1 e Q q =>
  ha H1 e _ fun p H2 _ e2 hp => hb H2 (e.trans e2) _ fun r H3 _ e3 hr => ⟨.list (xs.map PyData.int), .list (ys.map PyData.int), .lst (sq_of (e3 _ _ hp)) (dpAll_ints xs), .lst (sq_of hr) (dpAll_ints ys), shaped_ints xs, shaped_ints ys, by rw [eqv_lists]; exact q H3 (e2.trans e3)⟩
theorem eqv_tups (xs ys : List Int) : PyData.eqv (.tuple (xs.map PyData.int)) (.tuple (ys.map PyData.int)) = decide (xs = ys) := by
  have := eqv_ints xs ys
  simpa [PyData.eqv] using this
theorem ev_neTu {xs ys : List Int} (ha : EvTu K ta σ H (vI xs)) (hb : EvTu K tb σ H (vI ys)) : Ev (tOp (rNeD K) ta tb) σ H (.bl (!decide (xs = ys))) := fun H1 e Q q =>
  ha H1 e _ fun p H2 e2 hp => hb H2 (e.trans e2) _ fun r H3 e3 hr => ⟨.tuple (xs.map PyData.int), .tuple (ys.map PyData.int), .tup (ex_t e3 hp) (dpAll_ints xs), .tup hr (dpAll_ints ys), shaped_tup xs, shaped_tup ys, by rw [eqv_tups]; exact q H3 (e2.trans e3)⟩
theorem ev_eqTuG {xs ys : List Int} (ha : EvTu K ta σ H (vI xs)) (hb : EvTu K tb σ H (vI ys)) : Ev (tOp (rEqD K) ta tb) σ H (.bl (decide (xs = ys))) := fun H1 e Q q =>
  ha H1 e _ fun p H2 e2 hp => hb H2 (e.trans e2) _ fun r H3 e3 hr => ⟨.tuple (xs.map PyData.int), .tuple (ys.map PyData.int), .tup (ex_t e3 hp) (dpAll_ints xs), .tup hr (dpAll_ints ys), shaped_tup xs, shaped_tup ys, by rw [eqv_tups]; exact q H3 (e2.trans e3)⟩
theorem ev_lenL {p : Addr} {g : List Int} (h : Ev ta σ H (.ref p)) (hs : SqL K H p (vI g)) : Ev (tCB (fun xs H Q => ∃ p ys, xs = [V.ref p] ∧ (SqL K H p ys ∨ SqT K H p ys) ∧ Q (.int ys.length) H) (tCons ta tNil)) σ H (.int (g.length : Int)) := ev_is (ev_cb (ea_cons h ea_nil) (rc_lenQ (.inl hs))) (by rw [vI_len])
theorem el_listL {p : Addr} {xs : List V} (h : Ev te σ H (.ref p)) (hs : SqL K H p xs) : EvL (tCB (rListS K) (tCons te tNil)) σ H xs := fun H1 e Q q =>
  h H1 e _ fun H2 e2 => ⟨p, xs, rfl, .inl (ex_l (e.trans e2) hs), fun l hl => q l _ (fresh_back e2 hl) (e2.trans (Ex.new hl)) upd_same⟩
theorem etu_tupleP {p : Addr} {xs : List V} (h : Ev te σ H (.ref p)) (hs : SqL K H p xs) : EvTu K (tThen te (kTup K)) σ H xs := fun H1 e Q q =>
  h H1 e _ fun H2 e2 => .inl ⟨p, xs, rfl, ex_l (e.trans e2) hs, fun r hr => q r _ (e2.trans (Ex.new hr)) (st_of upd_same)⟩
theorem el_catN {xs ys : List Int} (ha : EvL ta σ H (vI xs)) (hb : EvL tb σ H (vI ys)) (hz : xs.length + ys.length ≤ 100000) : EvL (tOp rCat ta tb) σ H (vI (xs ++ ys)) := fun H1 e Q k =>
  ha H1 e _ fun p H2 _ e2 hp => hb H2 (e.trans e2) _ fun r H3 _ e3 hr => ⟨p, r, vI xs, vI ys, rfl, rfl, e3 _ _ hp, hr, by rw [vI_len, vI_len]; exact sz_of hz, fun a ha => k a _ (fresh_back (e2.trans e3) ha) ((e2.trans e3).trans (Ex.new ha)) (by rw [upd_same]; unfold vI; rw [List.map_append])⟩
theorem ev_eqLP {p : Addr} {xs ys : List Int} (ha : EvL ta σ H (vI xs)) (hb : Ev tb σ H (.ref p)) (hp : SqL K H p (vI ys)) : Ev (tOp (rEqD K) ta tb) σ H (.bl (decide (xs = ys))) := fun H1 e Q q =>
  ha H1 e _ fun r H2 _ e2 hr => hb H2 (e.trans e2) _ fun H3 e3 => ⟨.list (xs.map PyData.int), .list (ys.map PyData.int), .lst (sq_of (e3 _ _ hr)) (dpAll_ints xs), .lst (ex_l (e.trans (e2.trans e3)) hp) (dpAll_ints ys), shaped_ints xs, shaped_ints ys, by rw [eqv_lists]; exact q H3 (e2.trans e3)⟩
theorem lst_keep {p l q : Addr} {cells : List Int} {m : Nat} {H' : Hp} {xs : List Int} (hP : PenAt H p l cells m) (kp : Keep p H H') (h : H q = some (.lst (vI xs))) : H' q = some (.lst (vI xs)) := by
  obtain ⟨_, _, hp, _⟩ := hP
  have no : ∀ {k r : Int}, ¬ [V.ref l, V.int k, V.int r] = vI xs := fun {k r} e => by
    cases xs with
    | nil => cases e
    | cons x xs => cases e
  exact kp _ _ h fun z => by rw [z, hp] at h; exact no (HO.lst.inj (Option.some.inj h))
theorem tup_keep {p l q : Addr} {cells : List Int} {m : Nat} {H' : Hp} {xs : List V} (hP : PenAt H p l cells m) (kp : Keep p H H') (h : H q = some (.tup xs)) : H' q = some (.tup xs) := by
  obtain ⟨_, _, hp, _⟩ := hP
  exact kp _ _ h fun z => by rw [z, hp] at h; cases h
theorem tup_i {t : TA} {Q : VK} (h : t σ H fun xs H1 => xs.length ≤ sizeLine ∧ ∀ l, H1 l = none → Q (.ref l) (upd H1 l (.tup xs))) : tTup t σ H Q := h
theorem el_catPL {q : Addr} {xs ys : List Int} (ha : Ev ta σ H (.ref q)) (hq : H q = some (.lst (vI xs))) (hb : EvL tb σ H (vI ys)) (hz : xs.length + ys.length ≤ 100000) : EvL (tOp rCat ta tb) σ H (vI (xs ++ ys)) := fun H1 e Q k =>
  ha H1 e _ fun H2 e2 => hb H2 (e.trans e2) _ fun r H3 _ e3 hr => ⟨q, r, vI xs, vI ys, rfl, rfl, (e.trans (e2.trans e3)) _ _ hq, hr, by rw [vI_len, vI_len]; exact sz_of hz, fun a ha => k a _ (fresh_back (e2.trans e3) ha) ((e2.trans e3).trans (Ex.new ha)) (by rw [upd_same]; unfold vI; rw [List.map_append])⟩
theorem etu_fld {o p C dx : Addr} {fs : List (Str × V)} {f : Str} {xs : List V} (ha : Ev ta σ H (.ref o)) (ho : H o = some (.ins C dx fs)) (c : Cls K C) (n : NoAttr K C f) (hf : fs.lookup f = some (.ref p)) (hp : SqT K H p xs) : EvTu K (tFld K ta f) σ H xs := fun H1 e Q q =>
  ev_fld ha ho c n hf H1 e _ fun H2 e2 => q p H2 e2 (ex_t (e.trans e2) hp)
theorem ev_nePP {p q : Addr} {xs ys : List Int} (ha : Ev ta σ H (.ref p)) (hp : SqL K H p (vI xs)) (hb : Ev tb σ H (.ref q)) (hq : SqL K H q (vI ys)) : Ev (tOp (rNeD K) ta tb) σ H (.bl (!decide (xs = ys))) := fun H1 e Q k =>
  ha H1 e _ fun H2 e2 => hb H2 (e.trans e2) _ fun H3 e3 => ⟨.list (xs.map PyData.int), .list (ys.map PyData.int), .lst (ex_l (e.trans (e2.trans e3)) hp) (dpAll_ints xs), .lst (ex_l (e.trans (e2.trans e3)) hq) (dpAll_ints ys), shaped_ints xs, shaped_ints ys, by rw [eqv_lists]; exact k H3 (e2.trans e3)⟩
theorem etu_var {i : Nat} {p : Addr} {xs : List V} (h0 : σ[i]? = some (some (.ref p))) (hs : SqT K H p xs) : EvTu K (tVar i) σ H xs := fun H1 e Q q => ⟨_, h0, q p H1 (Ex.refl H1) (ex_t e hs)⟩
theorem sqt_updL {q Dl : Addr} {xs ys : List V} {u : HO} (s : SqT K H q ys) (hD : H Dl = some (.lst xs)) : SqT K (upd H Dl u) q ys := by
  rcases s with (s | ⟨w, s⟩) | s
  · exact .inl (.inl (by rw [upd_ne (fun e => by rw [e, hD] at s; cases s)]; exact s))
  · exact .inl (.inr ⟨w, by rw [upd_ne (fun e => by rw [e, hD] at s; cases s)]; exact s⟩)
  · exact .inr s
theorem etu_nil : EvTu K (tTup tNil) σ H (vI []) := fun H1 e Q q => ⟨by show 0 ≤ sizeLine; decide, fun p hp => q p _ (Ex.new hp) (st_of upd_same)⟩
theorem for_i {tl : TE} {g : TG} {tu tz : TS} {D : Ends} (h : tl σ H fun x H1 => ∃ a, x = .ref a ∧ (∃ xs, SqL K H1 a xs) ∧ tFor (fun _ _ R => R (Itl K a) H1) g tu { D with nx := tz D } σ H1) : tSeq (tFor (iList K tl) g tu) tz D σ H := h
theorem s_retR {D : Ends} (h : te σ H D.rt) : tRet te D σ H := h
theorem ev_lenT {p : Addr} {g : List Int} (h : Ev ta σ H (.ref p)) (hs : SqT K H p (vI g)) : Ev (tCB (fun xs H Q => ∃ p ys, xs = [V.ref p] ∧ (SqL K H p ys ∨ SqT K H p ys) ∧ Q (.int ys.length) H) (tCons ta tNil)) σ H (.int (g.length : Int)) := ev_is (ev_cb (ea_cons h ea_nil) (rc_lenQ (.inr hs))) (by rw [vI_len])
theorem etu_disp {t : TA} {xs : List V} (h : EvA t σ H xs) (hl : xs.length ≤ 100000) : EvTu K (tTup t) σ H xs := fun H1 e Q q => eu_tup h hl H1 e _ fun p H2 _ e2 h2 => q p H2 e2 (st_of h2)
end
end K10
namespace K10
open PySem L2 Evl
abbrev sCls (i : Nat) : Stmt := inClass (top i) 0
/-- what the written part says of an error class x, PostError at B -/
structure CB (K : PySem.W.Frag) (x : Str) (C B : Addr) : Prop where
  aC : PySem.W.nsIn K mainGlobals x = some (some (.ref C))
  xL : ∃ nm q N bs sn sub ab col dd k0 k1 k2 k3 k5, K.lookup C = some (excClassObj nm q C N bs [.ref B, .type "ValueError", .type "Exception", .type "BaseException", .type "object"] true sn sub ab col dd k0 k1 k2 k3 k5 "ValueError.__new__")
  sa : PySem.W.findIn K (.ref C) "__setattr__" = some (some (.builtin "object.__setattr__"))
  ga : PySem.W.findIn K (.ref C) "__getattribute__" = some (some (.builtin "BaseException.__getattribute__"))
  gg : PySem.W.findIn K (.ref C) "__getattr__" = some none
  cc : PySem.W.findIn K (.ref C) "__class__" = some (some (.builtin "object.__class__"))
  tC : PySem.W.typeIn K (.ref C) = some (.type "type")
  kC : PySem.W.keepIn K (.ref C) = true
/-- .. and of its __init__, the def st -/
structure CF (K : PySem.W.Frag) (x qual : Str) (st : Stmt) (C f B : Addr) : Prop where
  b : CB K x C B
  a1 : PySem.W.findIn K (.ref C) "__init__" = some (some (.ref f))
  l1 : ∃ (oc : Value) (od : Option Addr) (kV doc pm : Value) (an : Option Addr) (cdv ct : Value) (osl : Array (Option Value)),
    K.lookup f = some ⟨oc, od, .func (PySem.W.fnOf "__init__" qual (defArgs st) (defBody st) (defScope st) .none kV doc pm an cdv ct), osl⟩ ∧ PySem.W.codeIn K cdv qual = true
  k1 : PySem.W.keepIn K (.ref f) = true
  t1 : PySem.W.typeIn K (.ref f) = some (.type "function")
structure CG (K : PySem.W.Frag) : Prop where
  sp : PySem.W.specialIn K (.builtin "object.__class__") "__get__" = some (some (.builtin "getset_descriptor.__get__"))
  tk : PySem.W.takesIn K (.builtin "object.__class__") = some true
section
variable {K : PySem.W.Frag} {x qual : Str} {st : Stmt} {C f B : Addr}
theorem CB.cls (T : CB K x C B) : ∃ cd, PySem.W.clsIn K C = some cd ∧ cd.mro = [.ref C, .ref B, .type "ValueError", .type "Exception", .type "BaseException", .type "object"] ∧ cd.hasDict = true := by
  obtain ⟨nm, q, N, bs, sn, sub, ab, col, dd, k0, k1, k2, k3, k5, h⟩ := T.xL
  refine ⟨{ name := nm, bases := bs, mro := .ref C :: [.ref B, .type "ValueError", .type "Exception", .type "BaseException", .type "object"], ns := N, qualname := q, hasDict := true, slotNames := sn, subclasses := sub, abstract := ab, collection := col, hasDel := false }, ?_, rfl, rfl⟩
  unfold PySem.W.clsIn
  rw [h] <;> rfl
theorem CB.mro (T : CB K x C B) (v : Value) : PySem.W.mroIn K C v = some ([Value.ref C, .ref B, .type "ValueError", .type "Exception", .type "BaseException", .type "object"].contains v) := by
  obtain ⟨cd, h1, h2, _⟩ := T.cls
  unfold PySem.W.mroIn
  rw [h1, Option.bind_some, h2]
  rfl
theorem CB.ox (T : CB K x C B) : OexC K C := by
  obtain ⟨nm, q, N, bs, sn, sub, ab, col, dd, k0, k1, k2, k3, k5, h⟩ := T.xL
  exact ⟨⟨nm, q, N, bs, _, sn, sub, ab, col, dd, k0, k1, k2, k3, k5, h, rfl⟩, T.sa, (T.mro _).trans (by rfl), T.tC, T.kC⟩
theorem CB.hd (T : CB K x C B) : PySem.W.hasDictIn K C = true := by
  obtain ⟨cd, h1, h2, h3⟩ := T.cls
  unfold PySem.W.hasDictIn
  rw [h1]
  first | exact h3 | (simp [h3])
theorem CB.xf (T : CB K x C B) : XfC K C := ⟨T.ga, T.gg, (T.mro _).trans (by rfl), T.hd⟩
theorem CB.xc (T : CB K x C B) (G : CG K) : EXC.XcC K C := by
  obtain ⟨cd, h1, _⟩ := T.cls
  exact ⟨by rw [h1]; rfl, T.ga, T.gg, (T.mro _).trans (by rfl), T.hd, T.cc, G.sp, G.tk, (T.mro _).trans (by rfl)⟩
theorem CB.caught (T : CB K x C B) (h1 : PySem.W.subIn K (.ref B) (.type "BaseException") = some true) (h2 : PySem.W.hasDictIn K B = true) (h3 : PySem.W.typeIn K (.ref B) = some (.type "type")) : PySem.W.exmOne K (.ref C) (.ref B) = some true :=
  PySem.W.exm_ref h1 h2 h3 ((T.mro _).trans (by simp))
theorem CF.fn (T : CF K x qual st C f B) : ∃ fd, Fun K "__init__" qual st f fd := by
  obtain ⟨oc, od, kV, doc, pm, an, cdv, ct, osl, h1, h2⟩ := T.l1
  exact ⟨_, fun_mk h1 h2 T.k1⟩
theorem eq_ref (a b : Addr) : (Value.ref a == Value.ref b) = decide (a = b) := by
  by_cases h : a = b
  · subst h
    simp
  · rw [decide_eq_false h]
    exact beq_eq_false_iff_ne.mpr fun z => h (Value.ref.inj z)
/-- isinstance of an instance of C, for another error class D -/
theorem CB.kit {x' : Str} {D : Addr} (T : CB K x C B) (U : CB K x' D B) (h : D ≠ B) : PySem.W.kitOne K (.ref C) (.ref D) = some (decide (D = C)) := by
  unfold PySem.W.kitOne PySem.W.kitCls
  by_cases e : C = D
  · subst e
    rw [if_pos (by simp), decide_eq_true rfl]
  · have e1 : (Value.ref C == Value.ref D) = false := by rw [eq_ref, decide_eq_false e]
    obtain ⟨cd, h1, _⟩ := U.cls
    rw [e1, if_neg Bool.false_ne_true]
    simp only [h1, U.tC, Option.isSome_some, beq_self_eq_true, Bool.and_self, if_true]
    refine (T.mro _).trans ?_
    rw [decide_eq_false (fun z => e z.symm)]
    simp [Ne.symm e, h, Ne.symm h]
theorem CB.kitB' (T : CB K x C B) (hB : ∃ cd, PySem.W.clsIn K B = some cd) (tB : PySem.W.typeIn K (.ref B) = some (.type "type")) : PySem.W.kitOne K (.ref C) (.ref B) = some true := by
  unfold PySem.W.kitOne PySem.W.kitCls
  by_cases e : C = B
  · subst e
    rw [if_pos (by simp)]
  · have e1 : (Value.ref C == Value.ref B) = false := by rw [eq_ref, decide_eq_false e]
    obtain ⟨cd, h1⟩ := hB
    rw [e1, if_neg Bool.false_ne_true]
    simp only [h1, tB, Option.isSome_some, beq_self_eq_true, Bool.and_self, if_true]
    refine (T.mro _).trans ?_
    simp
theorem CB.kitV (T : CB K x C B) : PySem.W.kitOne K (.ref C) (.type "ValueError") = some true := by
  unfold PySem.W.kitOne PySem.W.kitCls
  rw [if_neg (by simp)]
  show (if PySem.W.kitMeta "ValueError" = true then PySem.W.subIn K (.ref C) (.type "ValueError") else none) = some true
  rw [if_pos (by decide +kernel)]
  exact (T.mro _).trans (by rfl)
end
/-! ### __init__ of one field, of two -/
def spI1 (C : Addr) (n : Str) : Sp := fun vs H Q _ => ∃ (a : Addr) (v : V), vs = [.ref a, v] ∧ H a = some (exo a C none) ∧ ∀ d, H d = none → d ≠ a → Q .non (upd (upd H d (exd d [(n, v)])) a (exo a C (some d)))
def spI2 (C : Addr) (n m : Str) : Sp := fun vs H Q _ => ∃ (a : Addr) (v u : V), vs = [.ref a, v, u] ∧ H a = some (exo a C none) ∧ ∀ d, H d = none → d ≠ a → Q .non (upd (upd (upd H d (exd d [(n, v)])) a (exo a C (some d))) d (exd d [(m, u), (n, v)]))
section
variable {P : Program} {w : World} {K : PySem.W.Frag} {mg : Str → Option Value} {base : Heap}
theorem ok_I1 {x qual : Str} {st : Stmt} {C f B : Addr} {fd : FuncData} {n : Str} {p1 p2 p3 p4 : PySem.Pos} (T : CF K x qual st C f B) (F : Fun K "__init__" qual st f fd) (S : FnScope ["self", n] ["self", n] (defScope st)) (hb : defBody st = [Stmt.Assign [.Attribute (.Name "self" p1) n p2] (.Name n p3) p4])
    (l1 : (defScope st).names.lookup ("self" : Str) = some .local) (l2 : (defScope st).names.lookup n = some .local) (hd : (n == ("__debug__" : Str)) = false) (hcd : (n == ("__classdict__" : Str)) = false)
    (hno : PySem.W.findIn K (.ref C) n = some none) : FnOk P w K mg base CX0 1 f fd ["self", n] (spI1 C n) := by
  refine F.ok S (fun vs H Q E h => ?_) (fun cdv A outer s H vs Q E hr h => ?_)
  · obtain ⟨a, v, rfl, _⟩ := h
    rfl
  · obtain ⟨a, v, rfl, ha, k⟩ := h
    rw [hb]
    refine ⟨_, pss_one (ps_ost (pv 0 rfl (.inl l1)) (pv 1 rfl (.inl l2) hd hcd)), ?_⟩
    exact ⟨v, rfl, .ref a, rfl, a, C, rfl, T.b.ox, hno, .inl ⟨ha, fun d hd hda => k d hd hda⟩⟩
theorem ok_I2 {x qual : Str} {st : Stmt} {C f B : Addr} {fd : FuncData} {n m : Str} {p1 p2 p3 p4 q1 q2 q3 q4 : PySem.Pos} (T : CF K x qual st C f B) (F : Fun K "__init__" qual st f fd) (S : FnScope ["self", n, m] ["self", n, m] (defScope st))
    (hb : defBody st = [Stmt.Assign [.Attribute (.Name "self" p1) n p2] (.Name n p3) p4, Stmt.Assign [.Attribute (.Name "self" q1) m q2] (.Name m q3) q4])
    (l1 : (defScope st).names.lookup ("self" : Str) = some .local) (l2 : (defScope st).names.lookup n = some .local) (l3 : (defScope st).names.lookup m = some .local) (hd : (n == ("__debug__" : Str)) = false) (hcd : (n == ("__classdict__" : Str)) = false) (hd2 : (m == ("__debug__" : Str)) = false) (hcd2 : (m == ("__classdict__" : Str)) = false)
    (hno : PySem.W.findIn K (.ref C) n = some none) (hno2 : PySem.W.findIn K (.ref C) m = some none) : FnOk P w K mg base CX0 1 f fd ["self", n, m] (spI2 C n m) := by
  refine F.ok S (fun vs H Q E h => ?_) (fun cdv A outer s H vs Q E hr h => ?_)
  · obtain ⟨a, v, u, rfl, _⟩ := h
    rfl
  · obtain ⟨a, v, u, rfl, ha, k⟩ := h
    rw [hb]
    refine ⟨_, pss_cons (ps_ost (pv 0 rfl (.inl l1)) (pv 1 rfl (.inl l2) hd hcd)) (pss_one (ps_ost (pv 0 rfl (.inl l1)) (pv 2 rfl (.inl l3) hd2 hcd2))), ?_⟩
    refine ⟨v, rfl, .ref a, rfl, a, C, rfl, T.b.ox, hno, .inl ⟨ha, fun d hd hda => ?_⟩⟩
    exact ⟨u, rfl, .ref a, rfl, a, C, rfl, T.b.ox, hno2, .inr ⟨d, _, upd_same, by rw [upd_ne hda]; exact upd_same, by show 1 ≤ 900; decide, k d hd hda⟩⟩
end
end K10
/-! data told by what they are; comprehensions told by filter and map; slots -/
namespace K10
open PySem L2 Evl Gr
mutual
theorem dp_up {K : PySem.W.Frag} {H H' : Hp} (e : Ex H H') : ∀ (d : PyData) {v : V}, Dp K H v d → Dp K H' v d
  | .none, _, .non => .non
  | .bool _, _, .bl b => .bl b
  | .int _, _, .int i => .int i
  | .str _, _, .str x => .str x
  | .list ds, _, .lst h a => .lst (ex_l e h) (dps_up e ds a)
  | .tuple ds, _, .tup h a => .tup (ex_t e h) (dps_up e ds a)
theorem dps_up {K : PySem.W.Frag} {H H' : Hp} (e : Ex H H') : ∀ (ds : List PyData) {vs : List V}, DpAll K H vs ds → DpAll K H' vs ds
  | [], _, .nil => .nil
  | d :: ds, _, .cons h a => .cons (dp_up e d h) (dps_up e ds a)
end
/-- gives a thing that is d -/
def EvD (K : PySem.W.Frag) (te : TE) (σ : L2.St) (H : Hp) (d : PyData) : Prop := ∀ H1, Ex H H1 → ∀ Q : VK, (∀ v H2, Ex H1 H2 → Dp K H2 v d → Q v H2) → te σ H1 Q
section
variable {K : PySem.W.Frag} {σ : L2.St} {H H' : Hp} {te ta tb tl : TE} {t : TT} {d e : PyData} {ds : List PyData} {xs : List V} {v : V} {a : Addr}
theorem EvD.mono (h : EvD K te σ H d) (e : Ex H H') : EvD K te σ H' d := fun H1 e1 => h H1 (e.trans e1)
theorem ed_of (h : Ev te σ H v) (hd : ∀ H1, Ex H H1 → Dp K H1 v d) : EvD K te σ H d := fun H1 e Q q => h H1 e _ fun H2 e2 => q v H2 e2 (hd H2 (e.trans e2))
theorem ed_L (h : EvL te σ H xs) (hd : ∀ H1, Ex H H1 → DpAll K H1 xs ds) : EvD K te σ H (.list ds) := fun H1 e Q q => h H1 e _ fun p H2 _ e2 hp => q _ H2 e2 (.lst (sq_of hp) (hd H2 (e.trans e2)))
theorem ed_T (h : EvTu K te σ H xs) (hd : ∀ H1, Ex H H1 → DpAll K H1 xs ds) : EvD K te σ H (.tuple ds) := fun H1 e Q q => h H1 e _ fun p H2 e2 hp => q _ H2 e2 (.tup hp (hd H2 (e.trans e2)))
theorem ev_eqD (ha : EvD K ta σ H d) (hb : EvD K tb σ H e) (sd : SeqAt.shaped d = true) (se : SeqAt.shaped e = true) : Ev (tOp (rEqD K) ta tb) σ H (.bl (PyData.eqv d e)) := fun H1 e1 Q q =>
  ha H1 e1 _ fun v H2 e2 hv => hb H2 (e1.trans e2) _ fun u H3 e3 hu => ⟨d, e, dp_up e3 d hv, hu, sd, se, q H3 (e2.trans e3)⟩
theorem ev_neD (ha : EvD K ta σ H d) (hb : EvD K tb σ H e) (sd : SeqAt.shaped d = true) (se : SeqAt.shaped e = true) : Ev (tOp (rNeD K) ta tb) σ H (.bl (!PyData.eqv d e)) := fun H1 e1 Q q =>
  ha H1 e1 _ fun v H2 e2 hv => hb H2 (e1.trans e2) _ fun u H3 e3 hu => ⟨d, e, dp_up e3 d hv, hu, sd, se, q H3 (e2.trans e3)⟩
theorem ev_inD (ha : EvD K ta σ H d) (hb : EvD K tb σ H (.list ds)) (sd : SeqAt.shaped d = true) (se : SeqAt.shaped (.list ds) = true) : Ev (tOp (rInD K) ta tb) σ H (.bl (ds.any fun z => PyData.eqv z d)) := fun H1 e1 Q q =>
  ha H1 e1 _ fun v H2 e2 hv => hb H2 (e1.trans e2) _ fun u H3 e3 hu => ⟨d, ds, dp_up e3 d hv, hu, sd, se, q H3 (e2.trans e3)⟩
end
/-! ### what is not deep -/
def Low (n : Nat) (d : PyData) : Prop := d.canLay0 = true ∧ d.depth ≤ n
theorem lay_all : ∀ {ds : List PyData}, (∀ d ∈ ds, d.canLay0 = true) → PyData.canLayAll0 ds = true
  | [], _ => by simp [PyData.canLayAll0]
  | d :: ds, h => by simp [PyData.canLayAll0, h d List.mem_cons_self, lay_all fun x hx => h x (List.mem_cons_of_mem _ hx)]
theorem depth_all {n : Nat} : ∀ {ds : List PyData}, (∀ d ∈ ds, d.depth ≤ n) → PyData.depthAll ds ≤ n
  | [], _ => by simp [PyData.depthAll]
  | d :: ds, h => by
    simp only [PyData.depthAll]
    exact Nat.max_le.mpr ⟨h d List.mem_cons_self, depth_all fun x hx => h x (List.mem_cons_of_mem _ hx)⟩
theorem low_list {n : Nat} {ds : List PyData} (h : ∀ d ∈ ds, Low n d) : Low (n + 1) (.list ds) := by
  refine ⟨?_, ?_⟩
  · simp only [PyData.canLay0]
    exact lay_all fun d hd => (h d hd).1
  · have := depth_all fun d hd => (h d hd).2
    simp only [PyData.depth]
    omega
theorem low_tup {n : Nat} {ds : List PyData} (h : ∀ d ∈ ds, Low n d) : Low (n + 1) (.tuple ds) := by
  refine ⟨?_, ?_⟩
  · simp only [PyData.canLay0]
    exact lay_all fun d hd => (h d hd).1
  · have := depth_all fun d hd => (h d hd).2
    simp only [PyData.depth]
    omega
theorem low_shaped {n : Nat} {d : PyData} (h : Low n d) (hn : n ≤ 64) : SeqAt.shaped d = true := by
  unfold SeqAt.shaped
  rw [h.1, decide_eq_true (Nat.le_trans h.2 hn)]
  rfl
theorem low_int (i : Int) : Low 0 (.int i) := ⟨by simp [PyData.canLay0], by simp [PyData.depth]⟩
theorem low_str {z : Str} (h : PyData.strOk z = true) : Low 0 (.str z) := ⟨by simp [PyData.canLay0, h], by simp [PyData.depth]⟩
theorem low_non : Low 0 .none := ⟨by simp [PyData.canLay0], by simp [PyData.depth]⟩
theorem eqvAll_map {α : Type} [DecidableEq α] (f : α → PyData) (h : ∀ x y, PyData.eqv (f x) (f y) = decide (x = y)) : ∀ xs ys : List α, PyData.eqvAll (xs.map f) (ys.map f) = decide (xs = ys)
  | [], [] => by simp [PyData.eqvAll]
  | [], y :: ys => by simp [PyData.eqvAll]
  | x :: xs, [] => by simp [PyData.eqvAll]
  | x :: xs, y :: ys => by
    simp only [List.map_cons, PyData.eqvAll, eqvAll_map f h xs ys, h]
    by_cases h1 : x = y <;> by_cases h2 : xs = ys <;> simp [h1, h2]
/-! ### comprehensions -/
def at_ {α : Type} (l : List α) (p : α → Bool) (i : Nat) : Bool := (l[i]?).elim false p
def got {α : Type} (l : List α) (g : α → V) (i : Nat) : V := (l[i]?).elim .non g
theorem at_of {α : Type} {l : List α} {i : Nat} {x : α} {p : α → Bool} (h : l[i]? = some x) : at_ l p i = p x := by unfold at_; rw [h]; rfl
theorem got_of {α : Type} {l : List α} {i : Nat} {x : α} {g : α → V} (h : l[i]? = some x) : got l g i = g x := by unfold got; rw [h]; rfl
theorem all_got {α : Type} (l : List α) : (List.range l.length).map (fun i => l[i]?) = l.map some := by
  refine List.ext_getElem? fun i => ?_
  rw [List.getElem?_map, List.getElem?_map]
  by_cases h : i < l.length
  · rw [List.getElem?_range h, List.getElem?_eq_getElem h]
    show some l[i]? = some (some l[i])
    rw [List.getElem?_eq_getElem h]
  · rw [List.getElem?_eq_none (by rw [List.length_range]; omega), List.getElem?_eq_none (by omega)]
    rfl
theorem given_of {α : Type} (l : List α) (p : α → Bool) (g : α → V) : given l.length (at_ l p) (got l g) = (l.filter p).map g := by
  have e1 : given l.length (at_ l p) (got l g) = (((List.range l.length).map fun i => l[i]?).filter fun o => o.elim false p).map fun o => o.elim V.non g := by
    unfold given
    rw [List.filter_map, List.map_map]
    rfl
  rw [e1, all_got, List.filter_map, List.map_map]
  rfl
theorem nth_map {α : Type} {f : α → V} {l : List α} {i : Nat} {x : V} (h : (l.map f)[i]? = some x) : ∃ y, l[i]? = some y ∧ x = f y := by
  rw [List.getElem?_map] at h
  obtain ⟨y, hy, rfl⟩ := Option.map_eq_some_iff.mp h
  exact ⟨y, hy, rfl⟩
section
variable {K : PySem.W.Frag} {σ : L2.St} {H : Hp} {te ta tl : TE} {t : TT} {α : Type}
/-- [e for x in a list if t] -/
theorem el_mapL (f : α → V) {l : List α} {j : Nat} {vs : List Nat} {a : Addr} (p : α → Bool) (g : α → V) (h : Ev tl σ H (.ref a)) (hx : SqL K H a (l.map f)) (hz : l.length ≤ 40000) (hw : ∀ x, wipe ((wipe σ vs).set j (some x)) vs = wipe σ vs)
    (ht : ∀ x ∈ l, ∀ H1, Ex H H1 → EvT t ((wipe σ vs).set j (some (f x))) H1 (p x)) (he : ∀ x ∈ l, ∀ H1, Ex H H1 → p x = true → Ev te ((wipe σ vs).set j (some (f x))) H1 (g x)) : EvL (tLc (iList K tl) (gName j) t te vs) σ H ((l.filter p).map g) := by
  have c := el_lcL (K := K) (σ := σ) (H := H) (t := t) (te := te) (a := a) (xs := l.map f) (tl := tl) (j := j) (vs := vs) (at_ l p) (got l g) h hx (by rw [List.length_map]; exact hz) hw
    (fun i x H1 e hi => by
      obtain ⟨y, hy, rfl⟩ := nth_map hi
      rw [at_of hy]
      exact ht y (List.mem_of_getElem? hy) H1 e)
    (fun i x H1 e hi hf => by
      obtain ⟨y, hy, rfl⟩ := nth_map hi
      rw [at_of hy] at hf
      rw [got_of hy]
      exact he y (List.mem_of_getElem? hy) H1 e hf)
  rw [List.length_map, given_of] at c
  exact c
theorem el_mapNL (f : α → V) {l : List α} {j : Nat} {vs : List Nat} (p : α → Bool) (g : α → V) (h : EvL tl σ H (l.map f)) (hz : l.length ≤ 40000) (hw : ∀ x, wipe ((wipe σ vs).set j (some x)) vs = wipe σ vs)
    (ht : ∀ x ∈ l, ∀ H1, Ex H H1 → EvT t ((wipe σ vs).set j (some (f x))) H1 (p x)) (he : ∀ x ∈ l, ∀ H1, Ex H H1 → p x = true → Ev te ((wipe σ vs).set j (some (f x))) H1 (g x)) : EvL (tLc (iList K tl) (gName j) t te vs) σ H ((l.filter p).map g) := by
  have c := el_lcNL (K := K) (σ := σ) (H := H) (t := t) (te := te) (xs := l.map f) (tl := tl) (j := j) (vs := vs) (at_ l p) (got l g) h (by rw [List.length_map]; exact hz) hw
    (fun i x H1 e hi => by
      obtain ⟨y, hy, rfl⟩ := nth_map hi
      rw [at_of hy]
      exact ht y (List.mem_of_getElem? hy) H1 e)
    (fun i x H1 e hi hf => by
      obtain ⟨y, hy, rfl⟩ := nth_map hi
      rw [at_of hy] at hf
      rw [got_of hy]
      exact he y (List.mem_of_getElem? hy) H1 e hf)
  rw [List.length_map, given_of] at c
  exact c
/-- [e for x in a tuple if t] -/
theorem el_tup {xs : List V} {j : Nat} {vs : List Nat} (f : Nat → Bool) (v : Nat → V) (h : EvTu K tl σ H xs) (hz : xs.length ≤ 40000) (hw : ∀ x, wipe ((wipe σ vs).set j (some x)) vs = wipe σ vs)
    (ht : ∀ (i : Nat) (x : V) H1, Ex H H1 → xs[i]? = some x → EvT t ((wipe σ vs).set j (some x)) H1 (f i)) (he : ∀ (i : Nat) (x : V) H1, Ex H H1 → xs[i]? = some x → f i = true → Ev te ((wipe σ vs).set j (some x)) H1 (v i)) :
    EvL (tLc (iTup K tl) (gName j) t te vs) σ H (given xs.length f v) := fun H0 e Q q => h H0 e _ fun a H1 e1 hx =>
  ⟨a, rfl, ⟨xs, hx⟩, fun Dl hD => lc_it (n := xs.length) (walk_tup (xs := xs)) (Cw H1 f v Dl) ⟨hD, Ex.new hD, upd_same⟩ (fun _ H' _ p => ex_t p.2.1 hx)
    (fun k x H' H'' hk p y => by
      obtain ⟨rfl, hx'⟩ := y
      exact ⟨hw _, cw_turn p (by omega) (ht k x H1 (e.trans e1) hx') fun hf => he k x H1 (e.trans e1) hx' hf⟩)
    (fun H' p => q Dl H' (fresh_back e1 p.1) (e1.trans p.2.1) p.2.2)⟩
theorem el_mapT (f : α → V) {l : List α} {j : Nat} {vs : List Nat} (p : α → Bool) (g : α → V) (h : EvTu K tl σ H (l.map f)) (hz : l.length ≤ 40000) (hw : ∀ x, wipe ((wipe σ vs).set j (some x)) vs = wipe σ vs)
    (ht : ∀ x ∈ l, ∀ H1, Ex H H1 → EvT t ((wipe σ vs).set j (some (f x))) H1 (p x)) (he : ∀ x ∈ l, ∀ H1, Ex H H1 → p x = true → Ev te ((wipe σ vs).set j (some (f x))) H1 (g x)) : EvL (tLc (iTup K tl) (gName j) t te vs) σ H ((l.filter p).map g) := by
  have c := el_tup (K := K) (σ := σ) (H := H) (t := t) (te := te) (xs := l.map f) (tl := tl) (j := j) (vs := vs) (at_ l p) (got l g) h (by rw [List.length_map]; exact hz) hw
    (fun i x H1 e hi => by
      obtain ⟨y, hy, rfl⟩ := nth_map hi
      rw [at_of hy]
      exact ht y (List.mem_of_getElem? hy) H1 e)
    (fun i x H1 e hi hf => by
      obtain ⟨y, hy, rfl⟩ := nth_map hi
      rw [at_of hy] at hf
      rw [got_of hy]
      exact he y (List.mem_of_getElem? hy) H1 e hf)
  rw [List.length_map, given_of] at c
  exact c
/-- [e for i, x in enumerate(a tuple) if t] -/
theorem el_enT {ta : TA} {a : Addr} {xs : List V} {i j : Nat} {vs : List Nat} (f : Nat → Bool) (v : Nat → V) (h : EvA ta σ H [.ref a]) (hx : SqT K H a xs) (hz : xs.length ≤ 40000) (hw : ∀ x y, wipe (((wipe σ vs).set i (some x)).set j (some y)) vs = wipe σ vs)
    (ht : ∀ (k : Nat) (x : V) H1, Ex H H1 → xs[k]? = some x → EvT t (((wipe σ vs).set i (some (.int (k : Int)))).set j (some x)) H1 (f k)) (he : ∀ (k : Nat) (x : V) H1, Ex H H1 → xs[k]? = some x → f k = true → Ev te (((wipe σ vs).set i (some (.int (k : Int)))).set j (some x)) H1 (v k)) :
    EvL (tLc (EnT.iEnumT K ta) (gTup K 2 (gCons (gName i) (gCons (gName j) gNil))) t te vs) σ H (given xs.length f v) := fun H0 e Q q => h H0 e _ fun H1 e1 =>
  ⟨a, xs, rfl, ex_t (e.trans e1) hx, fun Dl hD => lc_it (n := xs.length) (EnT.walk_enumT (ys := xs)) (Cw H1 f v Dl) ⟨hD, Ex.new hD, upd_same⟩ (fun _ H' _ p => ex_t ((e.trans e1).trans p.2.1) hx)
    (fun k x H' H'' hk p y => by
      obtain ⟨T, x1, y1, rfl, hT, rfl, ex, ey⟩ := y
      obtain rfl := Option.some.inj ex
      have e2 := Ex.new (H := H') (o := .tup [.int (k : Nat), y1]) hT
      have p' : Cw H1 f v Dl k (upd H' T (.tup [.int (k : Nat), y1])) := ⟨p.1, p.2.1.trans e2, e2 _ _ p.2.2⟩
      exact ⟨T, _, rfl, st_of upd_same, rfl, _, _, rfl, _, _, rfl, rfl, hw _ _, cw_turn p' (by omega) (ht k y1 H1 (e.trans e1) ey) fun hf => he k y1 H1 (e.trans e1) ey hf⟩)
    (fun H' p => q Dl H' (fresh_back e1 p.1) (e1.trans p.2.1) p.2.2)⟩
end
end K10
namespace K10
open PySem L2 Evl Gr
abbrev sSigns : Stmt := top 3
abbrev sSignsW : Stmt := top 4
abbrev sWo : Stmt := top 26
/-! ### what is let out -/
/-- an error of the class at C with one field goes out -/
def Out1 (C : Addr) (n : Str) (v : V) (H : Hp) (E : XK) : Prop := ∀ d H', H d = none → Ex H H' → H' d = some (.xd [(n, v)]) → E (.ref C) (some d) H'
theorem Out1.mono {C : Addr} {n : Str} {v : V} {H H' : Hp} {E : XK} (e : Ex H H') (h : Out1 C n v H E) : Out1 C n v H' E := fun d H2 hd e2 h2 => h d H2 (fresh_back e hd) (e.trans e2) h2
theorem raise_one {C : Addr} {n : Str} {σ : L2.St} {H : Hp} {E : XK} {v : V} {ta : TA} (h : EvA ta σ H [v]) (b : Out1 C n v H E) : tMkO C (spI1 C n) [] ta σ H (fun cls d H' => E cls d H') :=
  h H (Ex.refl H) _ fun H1 e1 => ⟨by show 1 ≤ 1000; decide, fun a ha => ⟨a, v, rfl, upd_same, fun d hd hda => ⟨rfl, d, [(n, v)], by rw [upd_same], by rw [upd_ne hda]; exact upd_same, by rw [upd_ne hda] at hd; exact hd, by
    rw [upd_ne hda] at hd
    refine b d _ (fresh_back e1 hd) (fun c w hc => ?_) ?_
    · have hc1 := e1 _ _ hc
      have na : c ≠ a := ne_of_none hc1 ha
      have nd : c ≠ d := ne_of_none hc1 hd
      rw [upd_ne nd, del_ne na, upd_ne na, upd_ne nd, upd_ne na]
      exact hc1
    · exact upd_same⟩⟩⟩
/-- an error class of one field -/
structure GOne (P : Program) (w : World) (K : PySem.W.Frag) (mg : Str → Option Value) (base : Heap) (x n : Str) (CN fN : Addr) (fdN : FuncData) : Prop where
  ox : OexC K CN
  init : PySem.W.findIn K (.ref CN) "__init__" = some (some (.ref fN))
  ty : PySem.W.typeIn K (.ref fN) = some (.type "function")
  ok : FnOk P w K mg base CX0 1 fN fdN ["self", n] (spI1 CN n)
  b : Binds K fdN ["self", n] []
  g : mg x = some (.ref CN)
/-- an error of the class at C with two fields goes out -/
def Out2 (C : Addr) (n m : Str) (v u : V) (H : Hp) (E : XK) : Prop := ∀ d H', H d = none → Ex H H' → H' d = some (.xd [(m, u), (n, v)]) → E (.ref C) (some d) H'
theorem Out2.mono {C : Addr} {n m : Str} {v u : V} {H H' : Hp} {E : XK} (e : Ex H H') (h : Out2 C n m v u H E) : Out2 C n m v u H' E := fun d H2 hd e2 h2 => h d H2 (fresh_back e hd) (e.trans e2) h2
theorem raise_two {C : Addr} {n m : Str} {σ : L2.St} {H : Hp} {E : XK} {v u : V} {ta : TA} (h : EvA ta σ H [v, u]) (b : Out2 C n m v u H E) : tMkO C (spI2 C n m) [] ta σ H (fun cls d H' => E cls d H') :=
  h H (Ex.refl H) _ fun H1 e1 => ⟨by show 2 ≤ 1000; decide, fun a ha => ⟨a, v, u, rfl, upd_same, fun d hd hda => ⟨rfl, d, [(m, u), (n, v)], by rw [upd_ne hda.symm]; exact upd_same, upd_same, by rw [upd_ne hda] at hd; exact hd, by
    rw [upd_ne hda] at hd
    refine b d _ (fresh_back e1 hd) (fun c w hc => ?_) upd_same
    have hc1 := e1 _ _ hc
    have na : c ≠ a := ne_of_none hc1 ha
    have nd : c ≠ d := ne_of_none hc1 hd
    rw [upd_ne nd, del_ne na, upd_ne nd, upd_ne na, upd_ne nd, upd_ne na]
    exact hc1⟩⟩⟩
/-- an error class of two fields -/
structure GTwo (P : Program) (w : World) (K : PySem.W.Frag) (mg : Str → Option Value) (base : Heap) (x n m : Str) (CN fN : Addr) (fdN : FuncData) : Prop where
  ox : OexC K CN
  init : PySem.W.findIn K (.ref CN) "__init__" = some (some (.ref fN))
  ty : PySem.W.typeIn K (.ref fN) = some (.type "function")
  ok : FnOk P w K mg base CX0 1 fN fdN ["self", n, m] (spI2 CN n m)
  b : Binds K fdN ["self", n, m] []
  g : mg x = some (.ref CN)
section
variable {K : PySem.W.Frag} {σ : L2.St} {H : Hp} {te ta tb : TE}
theorem rc_lenS {z : Str} (h : z.length ≤ 100000) : RC (fun xs H Q => ∃ x n, xs = [x] ∧ LenV K x H n ∧ Q (.int n) H) [.str z] H (.int (z.length : Int)) := fun H1 _ _ q => ⟨.str z, z.length, rfl, ⟨sz_of h, rfl⟩, q H1 (Ex.refl H1)⟩
theorem ev_strip {a b : Str} (ha : Ev ta σ H (.str a)) (hb : Ev tb σ H (.str b)) (h : a.length ≤ 100000) :
    Ev (tBM K "str" (fun x xs H Q => ∃ a b, x = .str a ∧ xs = [.str b] ∧ a.length ≤ sizeLine ∧ Q (.str (Txt.stripChars a b)) H) ta (tCons tb tNil)) σ H (.str (Txt.stripChars a b)) := fun H1 e Q q =>
  ha H1 e _ fun H2 e2 => ⟨rfl, hb H2 (e.trans e2) _ fun H3 e3 => ⟨a, b, rfl, rfl, sz_of h, q H3 (e2.trans e3)⟩⟩
end
section
variable {P : Program} {w : World} {K : PySem.W.Frag} {mg : Str → Option Value} {base : Heap}
theorem kit_str_str : kitB "str" "str" = some true := by decide +kernel
/-! ### is_signs -/
def spSigns (K : PySem.W.Frag) : Sp := fun vs H Q _ => (∃ z : Str, vs = [.str z] ∧ z.length ≤ 90000 ∧ RetV (.bl (signsB z)) H Q) ∨
  ∃ (x : V) (T : String), vs = [x] ∧ TyX K H x (.type T) ∧ kitB T "str" = some false ∧ RetV (.bl false) H Q
theorem scSigns : FnScope ["value"] ["value"] (defScope sSigns) := ⟨rfl, rfl, rfl, by decide +kernel, rfl, by decide +kernel, by decide +kernel⟩
theorem ok_signs {f : Addr} {fd : FuncData} (F : Fun K "is_signs" "is_signs" sSigns f fd) (T : GlbT mg) : FnOk P w K mg base CX0 1 f fd ["value"] (spSigns K) := by
  refine F.ok scSigns (fun vs H Q E h => ?_) (fun cdv A outer s H vs Q E hr h => ?_)
  · rcases h with ⟨z, rfl, _⟩ | ⟨x, t, rfl, _⟩ <;> rfl
  · rcases h with ⟨z, rfl, hz, k⟩ | ⟨x, t, rfl, ht, hk, k⟩
    all_goals refine ⟨_, pss_one (ps_ret (pe_and (pe_callB call_isi (by rfl) T.inst (by decide +kernel) (pa_cons (pv 0) (pa_cons (pe_bltn (v := .ty "str") (by rfl) T.str (by decide +kernel) rfl) pa_nil)))
        (pe_one (pe_cmpR op_eq (pe_bm PySem.F.plainAttrs_str PySem.F.slot_str_strip PySem.F.type_str_strip mt_stripChars (pv 0) (pa_cons pe_str pa_nil)) pe_str (nomark _))))), ?_⟩
    · refine s_ret (ev_is (ev_andV (ev_cb (ea_cons (ev_var rfl) (ea_cons ev_c ea_nil)) (rc_isi (.base (.str z)) kit_str_str)) fun _ => ev_op (ev_strip (ev_var rfl) ev_c (by omega)) ev_c (rv_eq rfl)) (by rw [Bool.true_and]; rfl)) k
    · refine s_ret (ev_is (ev_andV (b := true) (ev_cb (ea_cons (ev_var rfl) (ea_cons ev_c ea_nil)) (rc_isi ht hk)) fun hb => absurd hb (by decide)) rfl) k
theorem spv_signs {H : Hp} {z : Str} (hz : z.length ≤ 90000) : SpV (spSigns K) [.str z] H (.bl (signsB z)) := fun H1 e Q q E => .inl ⟨z, rfl, hz, q⟩
theorem spv_signs0 {H : Hp} {x : V} {t : String} (ht : TyX K H x (.type t)) (hk : kitB t "str" = some false) : SpV (spSigns K) [x] H (.bl false) := fun H1 e Q q E => .inr ⟨x, t, rfl, tyx_mono e ht, hk, q⟩
/-! ### is_signs_within -/
/-- what is_signs_within tells of x -/
def SgV (K : PySem.W.Frag) (H : Hp) (x : V) (lo hi : Int) (b : Bool) : Prop := (∃ z : Str, x = .str z ∧ z.length ≤ 90000 ∧ b = sgB z lo hi) ∨ ∃ T : String, TyX K H x (.type T) ∧ kitB T "str" = some false ∧ b = false
theorem SgV.mono {H H' : Hp} {x : V} {lo hi : Int} {b : Bool} (e : Ex H H') (h : SgV K H x lo hi b) : SgV K H' x lo hi b := h.imp id fun ⟨T, h1, h2⟩ => ⟨T, tyx_mono e h1, h2⟩
theorem sgv_str {H : Hp} {z : Str} {lo hi : Int} (hz : z.length ≤ 90000) : SgV K H (.str z) lo hi (sgB z lo hi) := .inl ⟨z, rfl, hz, rfl⟩
theorem sgv_not {H : Hp} {x : V} {T : String} {lo hi : Int} (h : TyX K H x (.type T)) (hk : kitB T "str" = some false) : SgV K H x lo hi false := .inr ⟨T, h, hk, rfl⟩
def spSignsW (K : PySem.W.Frag) : Sp := fun vs H Q _ => ∃ (x : V) (lo hi : Int) (b : Bool), vs = [x, .int lo, .int hi] ∧ SgV K H x lo hi b ∧ RetV (.bl b) H Q
theorem scSignsW : FnScope ["value", "least", "most"] ["value", "least", "most"] (defScope sSignsW) := ⟨rfl, rfl, rfl, by decide +kernel, rfl, by decide +kernel, by decide +kernel⟩
theorem ok_signsW {f fS : Addr} {fd fdS : FuncData} (F : Fun K "is_signs_within" "is_signs_within" sSignsW f fd) (T : GlbT mg) (FS : Fun K "is_signs" "is_signs" sSigns fS fdS) (bS : Binds K fdS ["value"] []) (gS : mg "is_signs" = some (.ref fS)) :
    FnOk P w K mg base CX0 2 f fd ["value", "least", "most"] (spSignsW K) := by
  have GS : FnOk P w K mg base CX0 1 fS fdS ["value"] (spSigns K) := ok_signs FS T
  refine F.ok scSignsW (fun vs H Q E h => ?_) (fun cdv A outer s H vs Q E hr h => ?_)
  · obtain ⟨x, lo, hi, b, rfl, _⟩ := h
    rfl
  · obtain ⟨x, lo, hi, b, rfl, ⟨z, rfl, hz, rfl⟩ | ⟨t, ht, hk, rfl⟩, k⟩ := h
    all_goals refine ⟨_, pss_one (ps_ret (pe_and (pe_call GS hr (by rfl) gS FS.kp bS .nil pass0 (pa_cons (pv 0) pa_nil)) (pe_one (pe_chain op_le op_le (pv 1) (pe_callB call_len (by rfl) T.len PySem.boot_len (pa_cons (pv 0) pa_nil)) (pv 2))))), ?_⟩
    · exact s_ret (ev_andV (ev_call (ea_cons (ev_var rfl) ea_nil) (spv_signs hz)) fun _ => ev_chain (ev_var rfl) (ev_cb (ea_cons (ev_var rfl) ea_nil) (rc_lenS (by omega))) (ev_var rfl)) k
    · exact s_ret (ev_is (ev_andV (b := true) (ev_call (ea_cons (ev_var rfl) ea_nil) (spv_signs0 ht hk)) fun hb => absurd hb (by decide)) rfl) k
theorem ev_sgw {σ : L2.St} {H : Hp} {ta tb tc : TE} {x : V} {lo hi : Int} {b : Bool} (ha : Ev ta σ H x) (hb : Ev tb σ H (.int lo)) (hc : Ev tc σ H (.int hi)) (h : SgV K H x lo hi b) : Ev (tCall (spSignsW K) [] E0 (tCons ta (tCons tb (tCons tc tNil)))) σ H (.bl b) :=
  ev_call (z := .bl b) (ea_cons ha (ea_cons hb (ea_cons hc ea_nil))) fun H1 e Q q E => ⟨x, lo, hi, b, rfl, h.mono e, q⟩
/-! ### words_of -/
abbrev BadT (CB : Addr) (n : Int) (H : Hp) (E : XK) : Prop := Out2 CB "line" "word" (.int 0) (.int n) H E
def spWo (K : PySem.W.Frag) (CB : Addr) : Sp := fun vs H Q E => (∃ ws, vs = [.str (tx ws)] ∧ ws ≠ [] ∧ Free ws ∧ (tx ws).length ≤ 1000 ∧ ∀ p H', H p = none → Ex H H' → H' p = some (.lst (ws.map V.str)) → Q (.ref p) H') ∨
  ∃ (x : V) (T : String), vs = [x] ∧ TyX K H x (.type T) ∧ kitB T "str" = some false ∧ BadT CB 0 H E
theorem scWo : FnScope ["text"] ["text"] (defScope sWo) := ⟨rfl, rfl, rfl, by decide +kernel, rfl, by decide +kernel, by decide +kernel⟩
theorem ok_Wo {f CB fB : Addr} {fd fdB : FuncData} (F : Fun K "words_of" "words_of" sWo f fd) (TT : GlbT mg) (B : GTwo P w K mg base "BadText" "line" "word" CB fB fdB) : FnOk P w K mg base (L2.CX P w) 3 f fd ["text"] (spWo K CB) := by
  refine F.okX scWo (fun vs H Q E h => ?_) (fun cdv A outer s H vs Q E hr h => ?_)
  · rcases h with ⟨ws, rfl, _⟩ | ⟨x, t, rfl, _⟩ <;> rfl
  · have hr := hr
    rcases h with ⟨ws, rfl, hn, ok, hl, k⟩ | ⟨x, t, rfl, ht, hk, k⟩
    all_goals refine ⟨_, pss_cons (ps_if (pt_not (pt_val (pe_callB call_isi (by rfl) TT.inst (by decide +kernel) (pa_cons (pv 0) (pa_cons (pe_bltn (v := .ty "str") (by rfl) TT.str (by decide +kernel) rfl) pa_nil)))))
        (pss_one (ps_raise rfl (takes_of rfl rfl rfl rfl) (pmk_oex B.ox B.init B.ty B.ok hr B.b .nil pass0 (by rfl) B.g (pa_cons pe_int (pa_cons pe_int pa_nil))))) pss_nil)
      (pss_one (ps_ret (pe_split (pv 0) pe_str))), ?_⟩
    · refine q_when (b := false) (et_is (et_not (et_B (ev_cb (ea_cons (ev_var rfl) (ea_cons ev_c ea_nil)) (rc_isi (.base (.str _)) kit_str_str)))) rfl) (fun hb => absurd hb (by decide)) (fun _ H1 e1 => ?_)
      refine ⟨_, rfl, ⟨_, rfl⟩, _, " ", rfl, rfl, by decide +kernel, sz_of (n := (tx ws).length + 2) (by omega), ?_⟩
      rw [split_tx hn ok]
      exact fun p hp => k p _ (fresh_back e1 hp) (e1.trans (Ex.new hp)) (by rw [upd_same])
    · refine q_when (b := true) (et_is (et_not (et_B (ev_cb (ea_cons (ev_var rfl) (ea_cons ev_c ea_nil)) (rc_isi ht hk)))) rfl) (fun _ H1 e1 => ?_) (fun hb => absurd hb (by decide))
      exact raise_two (ea_cons ev_c (ea_cons ev_c ea_nil)) (k.mono e1)
end
end K10
namespace K10
open PySem L2 Evl Gr SrtT
abbrev sIsP : Stmt := top 29
abbrev sCan : Stmt := top 30
structure GlbD (mg : Str → Option Value) : Prop where
  most : ∃ t, mg "MOST_PAIRS" = some (.int 4 t)
  divmod : mg "divmod" = none
def rLenQ (K : PySem.W.Frag) : List V → Hp → VK → Prop := fun xs H Q => ∃ p ys, xs = [V.ref p] ∧ (SqL K H p ys ∨ SqT K H p ys) ∧ Q (.int ys.length) H
theorem ty_tup {K : PySem.W.Frag} {H : Hp} {a : Addr} {xs : List V} (h : SqT K H a xs) : TyX K H (.ref a) (.type "tuple") := by
  rcases h with (h | ⟨o, h⟩) | h
  · exact .base (.tup h)
  · exact .fTuple h
  · obtain ⟨o, its, n, lk, hc, _⟩ := h
    exact .kTuple lk hc
theorem rv_ixT_ {K : PySem.W.Frag} {H : Hp} {p : Addr} {xs : List V} {i : Int} {v : V} (h : SqT K H p xs) (ha : atI xs i = some v) : RV (rIxT K) (.ref p) (.int i) H v := fun H1 e Q q => ⟨p, xs, i, v, rfl, rfl, ex_t e h, ha, q H1 (Ex.refl H1)⟩
theorem q_divmod {K : PySem.W.Frag} {σ : L2.St} {H : Hp} {ta : TA} {a b : Int} {i j : Nat} {tz : TS} {D : Ends} (h : EvA ta σ H [.int a, .int b]) (hc : CDiv a b) (k : ∀ H1, Ex H H1 → tz D ((σ.set i (some (.int (a / b)))).set j (some (.int (a % b)))) H1) :
    tSeq (tAsg (tCB (fun xs H Q => ∃ i j, xs = [V.int i, V.int j] ∧ CDiv i j ∧ ∀ p, H p = none → Q (.ref p) (upd H p (.tup [.int (i / j), .int (i % j)]))) ta) (gTup K 2 (gCons (gName i) (gCons (gName j) gNil)))) tz D σ H :=
  h H (Ex.refl H) _ fun H2 e2 => ⟨a, b, rfl, hc, fun p hp => ⟨p, _, rfl, st_of upd_same, rfl, _, _, rfl, _, _, rfl, rfl, k _ (e2.trans (Ex.new hp))⟩⟩
section
variable {P : Program} {w : World} {K : PySem.W.Frag} {mg : Str → Option Value} {base : Heap}
theorem kit_tt : kitB "tuple" "tuple" = some true := by decide +kernel
/-! ### is_pair -/
/-- what is_pair tells of x -/
def PairV (K : PySem.W.Frag) (H : Hp) (x : V) (b : Bool) : Prop := (∃ T : String, TyX K H x (.type T) ∧ kitB T "tuple" = some false ∧ b = false) ∨ (∃ a xs, x = .ref a ∧ SqT K H a xs ∧ xs.length ≠ 2 ∧ b = false) ∨
  ∃ a u v b1 b2, x = .ref a ∧ SqT K H a [u, v] ∧ SgV K H u 1 8 b1 ∧ SgV K H v 1 1 b2 ∧ b = (b1 && b2)
theorem PairV.mono {H H' : Hp} {x : V} {b : Bool} (e : Ex H H') (h : PairV K H x b) : PairV K H' x b := by
  rcases h with ⟨T, h1, h2⟩ | ⟨a, xs, h0, h1, h2⟩ | ⟨a, u, v, b1, b2, h0, h1, h2, h3, h4⟩
  · exact .inl ⟨T, tyx_mono e h1, h2⟩
  · exact .inr (.inl ⟨a, xs, h0, ex_t e h1, h2⟩)
  · exact .inr (.inr ⟨a, u, v, b1, b2, h0, ex_t e h1, h2.mono e, h3.mono e, h4⟩)
def spIsP (K : PySem.W.Frag) : Sp := fun vs H Q _ => ∃ (x : V) (b : Bool), vs = [x] ∧ PairV K H x b ∧ RetV (.bl b) H Q
theorem scIsP : FnScope ["value"] ["value"] (defScope sIsP) := ⟨rfl, rfl, rfl, by decide +kernel, rfl, by decide +kernel, by decide +kernel⟩
theorem ev_lenTu {σ : L2.St} {H : Hp} {ta : TE} {xs : List V} (h : EvTu K ta σ H xs) : Ev (tCB (rLenQ K) (tCons ta tNil)) σ H (.int (xs.length : Int)) := fun H1 e Q q => h H1 e _ fun p H2 e2 hp => ⟨p, xs, rfl, .inr hp, q H2 e2⟩
theorem ok_IsP {f : Addr} {fd : FuncData} (F : Fun K "is_pair" "is_pair" sIsP f fd) (T : GlbT mg) (S : GlbS mg) (GW : Gfn P w K mg base 2 "is_signs_within" ["value", "least", "most"] (spSignsW K)) : FnOk P w K mg base CX0 3 f fd ["value"] (spIsP K) := by
  obtain ⟨fW, fdW, GW, kW, bW, gW⟩ := GW
  refine F.ok scIsP (fun vs H Q E h => ?_) (fun cdv A outer s H vs Q E hr h => ?_)
  · obtain ⟨x, b, rfl, _⟩ := h
    rfl
  · obtain ⟨x, b, rfl, hx, k⟩ := h
    refine ⟨_, pss_cons (ps_if (PW.pt (pw_or (pt_not (pt_val (pe_callB call_isi (by rfl) T.inst (by decide +kernel) (pa_cons (pv 0) (pa_cons (pe_bltn (v := .ty "tuple") (by rfl) S.tuple (by decide +kernel) rfl) pa_nil)))))
        (pw_or1 (pt_cmpR op_ne (pe_callB call_len_seq (by rfl) T.len PySem.boot_len (pa_cons (pv 0) pa_nil)) pe_int (nomark _))))) (pss_one (ps_ret pe_bl)) pss_nil)
      (pss_one (ps_ret (pe_and (pe_call GW hr (by rfl) gW kW bW .nil pass0 (pa_cons (pe_ix ix_tup (pv 0) pe_int (fun _ _ => rfl)) (pa_cons pe_int (pa_cons pe_int pa_nil))))
        (pe_one (pe_call GW hr (by rfl) gW kW bW .nil pass0 (pa_cons (pe_ix ix_tup (pv 0) pe_int (fun _ _ => rfl)) (pa_cons pe_int (pa_cons pe_int pa_nil)))))))), ?_⟩
    rcases hx with ⟨t, ht, hk, rfl⟩ | ⟨a, xs, rfl, hs, hl, rfl⟩ | ⟨a, u, v, b1, b2, rfl, hs, h1, h2, rfl⟩
    · refine q_when (b := true) (et_is (et_or (b := true) (et_not (et_B (ev_cb (ea_cons (ev_var rfl) (ea_cons ev_c ea_nil)) (rc_isi ht hk)))) fun z => absurd z (by decide)) rfl) (fun _ H1 e1 => ?_) (fun hb => absurd hb (by decide))
      exact k H1 e1
    · refine q_when (b := true) (et_is (et_or (et_not (et_B (ev_cb (ea_cons (ev_var rfl) (ea_cons ev_c ea_nil)) (rc_isi (ty_tup hs) kit_tt)))) fun _ => et_test (ev_op (ev_lenTu (etu_var rfl hs)) ev_c (rv_ne rfl))) ?_) (fun _ H1 e1 => ?_) (fun hb => absurd hb (by decide))
      · rw [vint_inj, decide_eq_false (show ¬ ((xs.length : Int) = 2) by omega)]
        rfl
      · exact k H1 e1
    · refine q_when (b := false) (et_is (et_or (et_not (et_B (ev_cb (ea_cons (ev_var rfl) (ea_cons ev_c ea_nil)) (rc_isi (ty_tup hs) kit_tt)))) fun _ => et_test (ev_op (ev_lenTu (etu_var rfl hs)) ev_c (rv_ne rfl))) ?_) (fun hb => absurd hb (by decide)) (fun _ H1 e1 => ?_)
      · rfl
      · have hs1 := ex_t e1 hs
        exact s_ret (ev_andV (ev_sgw (ev_op (ev_var rfl) ev_c (rv_ixT_ hs1 (i := 0) rfl)) ev_c ev_c (h1.mono e1)) fun _ => ev_sgw (ev_op (ev_var rfl) ev_c (rv_ixT_ hs1 (i := 1) rfl)) ev_c ev_c (h2.mono e1)) fun H2 e2 => k H2 (e1.trans e2)
/-! ### can_stand -/
def spCan (K : PySem.W.Frag) : Sp := fun vs H Q _ => ∃ (p : Addr) (ws : List Str) (i : Nat), vs = [.ref p, .int (i : Int)] ∧ SqL K H p (ws.map V.str) ∧ i < ws.length ∧ ws.length ≤ 1000 ∧ (∀ z ∈ ws, z.length ≤ 1000) ∧ RetV (.bl (standB ws i)) H Q
abbrev nCan : List Str := ["words", "at", "word", "pair", "place"]
theorem scCan : FnScope nCan ["words", "at"] (defScope sCan) := ⟨rfl, rfl, rfl, by decide +kernel, rfl, by decide +kernel, by decide +kernel⟩
theorem atI_ws {ws : List Str} {i : Nat} (h : i < ws.length) : atI (ws.map V.str) (i : Int) = some (V.str (gw ws i)) := atI_nat (by rw [List.getElem?_map, gw_get h]; rfl)
theorem gw_mem {ws : List Str} {i : Nat} (h : i < ws.length) : gw ws i ∈ ws := List.mem_of_getElem? (gw_get h)
theorem dec_str {a b : Str} : decide (V.str a = V.str b) = decide (a = b) := by
  rw [decide_eq_decide]
  exact ⟨fun h => V.str.inj h, fun h => congrArg V.str h⟩
theorem ok_Can {f : Addr} {fd : FuncData} (F : Fun K "can_stand" "can_stand" sCan f fd) (D : GlbD mg) (GW : Gfn P w K mg base 2 "is_signs_within" ["value", "least", "most"] (spSignsW K)) : FnOk P w K mg base CX0 3 f fd ["words", "at"] (spCan K) := by
  obtain ⟨fW, fdW, GW, kW, bW, gW⟩ := GW
  obtain ⟨t4, g4⟩ := D.most
  refine F.ok scCan (fun vs H Q E h => ?_) (fun cdv A outer s H vs Q E hr h => ?_)
  · obtain ⟨p, ws, i, rfl, _⟩ := h
    rfl
  · obtain ⟨p, ws, i, rfl, hp, hi, hz, hw, k⟩ := h
    refine ⟨_, pss_cons (ps_asg (pe_ix ix_list (pv 0) (pv 1) (fun _ _ => rfl)) (pg_name (i := 2) scCan.nd rfl (.inl rfl)))
      (pss_cons (ps_if (pt_cmpR op_eq (pv 1) pe_int (nomark _)) (pss_one (ps_ret (pe_call GW hr (by rfl) gW kW bW .nil pass0 (pa_cons (pv 2) (pa_cons pe_int (pa_cons pe_int pa_nil)))))) pss_nil)
      (pss_cons (ps_if (pt_cmpR op_eq (pv 1) pe_int (nomark _)) (pss_one (ps_ret (pe_cmpR op_eq (pv 2) pe_str (nomark _)))) pss_nil)
      (pss_cons (ps_asg (pe_callB call_divmod (by rfl) D.divmod (by decide +kernel) (pa_cons (pe_op op_sub (pv 1) pe_int) (pa_cons pe_int pa_nil))) (pg_tup rfl (pgs_cons (pg_name (i := 3) scCan.nd rfl (.inl rfl)) (pgs_cons (pg_name (i := 4) scCan.nd rfl (.inl rfl)) pgs_nil))))
      (pss_cons (ps_if (pt_cmpR op_eq (pv 4) pe_int (nomark _)) (pss_one (ps_ret (pe_and (pe_call GW hr (by rfl) gW kW bW .nil pass0 (pa_cons (pv 2) (pa_cons pe_int (pa_cons pe_int pa_nil))))
        (pe_and (pe_cmpR op_lt (pv 3) (pe_glob (v := .int 4) rfl g4 ⟨_, rfl⟩) (nomark _)) (pe_one (pe_or (pe_cmpR op_eq (pv 3) pe_int (nomark _)) (pe_one (pe_cmpR op_lt_str (pe_ix ix_list (pv 0) (pe_op op_sub (pv 1) pe_int) (fun _ _ => rfl)) (pv 2) (nomark _))))))))) pss_nil)
      (pss_cons (ps_if (pt_cmpR op_eq (pv 4) pe_int (nomark _)) (pss_one (ps_ret (pe_call GW hr (by rfl) gW kW bW .nil pass0 (pa_cons (pv 2) (pa_cons pe_int (pa_cons pe_int pa_nil)))))) pss_nil)
      (pss_one (ps_ret (pe_cmpR op_eq (pv 2) pe_str (nomark _))))))))), ?_⟩
    have hgw := hw _ (gw_mem hi)
    have wd : ∀ {H1 : Hp} {lo hi : Int}, SgV K H1 (.str (gw ws i)) lo hi (sgB (gw ws i) lo hi) := sgv_str (by omega)
    refine q_asg (ev_op (ev_var rfl) (ev_var rfl) (rv_ixL hp (atI_ws hi))) fun H1 e1 => ?_
    refine q_when (et_test (ev_op (ev_var rfl) ev_c (rv_eq rfl))) (fun hb H2 e2 => ?_) (fun hb H2 e2 => ?_)
    · rw [vint_inj, decide_eq_true_iff] at hb
      obtain rfl : i = 0 := by omega
      exact s_ret (ev_sgw (ev_var rfl) ev_c ev_c wd) fun H3 e3 => k H3 ((e1.trans e2).trans e3)
    rw [vint_inj, decide_eq_false_iff_not] at hb
    have n0 : i ≠ 0 := by omega
    refine q_when (et_test (ev_op (ev_var rfl) ev_c (rv_eq rfl))) (fun hb H3 e3 => ?_) (fun hb H3 e3 => ?_)
    · rw [vint_inj, decide_eq_true_iff] at hb
      obtain rfl : i = 1 := by omega
      exact s_ret (ev_is (ev_op (ev_var rfl) ev_c (rv_eq rfl)) (by rw [dec_str]; rfl)) fun H4 e4 => k H4 (((e1.trans e2).trans e3).trans e4)
    rw [vint_inj, decide_eq_false_iff_not] at hb
    have n1 : i ≠ 1 := by omega
    have E3 := (e1.trans e2).trans e3
    refine q_divmod (ea_cons (ev_op (ev_var rfl) ev_c rv_I0) (ea_cons ev_c ea_nil)) (by unfold CDiv; omega) fun H4 e4 => ?_
    have c1 : ((i : Int) - 2) / 3 = (((i - 2) / 3 : Nat) : Int) := by omega
    have c2 : ((i : Int) - 2) % 3 = (((i - 2) % 3 : Nat) : Int) := by omega
    rw [c1, c2]
    have E4 := E3.trans e4
    refine q_when (et_test (ev_op (ev_var rfl) ev_c (rv_eq rfl))) (fun hb H5 e5 => ?_) (fun hb H5 e5 => ?_)
    · rw [vint_inj, decide_eq_true_iff] at hb
      have m0 : (i - 2) % 3 = 0 := by omega
      have E5 := E4.trans e5
      refine s_ret (v := .bl (standB ws i)) (ev_is (ev_andV (ev_sgw (ev_var rfl) ev_c ev_c wd) fun _ => ev_andV (ev_op (ev_var rfl) ev_c rv_I0) fun _ =>
        ev_orV (ev_op (ev_var rfl) ev_c (rv_eq rfl)) fun hp0 => ev_op (ev_op (ev_var rfl) (ev_op (ev_var rfl) ev_c rv_I0) (rv_ixL (i := (i : Int) - 3) (v := .str (gw ws (i - 3))) (ex_l E5 hp) ?_)) (ev_var rfl) fun H6 e6 Q q => ⟨_, _, rfl, rfl, q H6 (Ex.refl H6)⟩) ?_) fun H6 e6 => k H6 (E5.trans e6)
      · rw [vint_inj, decide_eq_false_iff_not] at hp0
        rw [show (i : Int) - 3 = ((i - 3 : Nat) : Int) by omega]
        exact atI_ws (by omega)
      · unfold standB
        rw [if_neg n0, if_neg n1, if_pos m0, vint_inj]
        have d1 : decide ((((i - 2) / 3 : Nat) : Int) < 4) = decide ((i - 2) / 3 < 4) := by rw [decide_eq_decide]; omega
        have d2 : decide ((((i - 2) / 3 : Nat) : Int) = 0) = decide ((i - 2) / 3 = 0) := by rw [decide_eq_decide]; omega
        rw [d1, d2]
        rfl
    rw [vint_inj, decide_eq_false_iff_not] at hb
    have m0 : ¬ (i - 2) % 3 = 0 := by omega
    refine q_when (et_test (ev_op (ev_var rfl) ev_c (rv_eq rfl))) (fun hb H6 e6 => ?_) (fun hb H6 e6 => ?_)
    · rw [vint_inj, decide_eq_true_iff] at hb
      have m1 : (i - 2) % 3 = 1 := by omega
      refine s_ret (ev_is (ev_sgw (ev_var rfl) ev_c ev_c wd) ?_) fun H7 e7 => k H7 (((E4.trans e5).trans e6).trans e7)
      unfold standB
      rw [if_neg n0, if_neg n1, if_neg m0, if_pos m1]
    · rw [vint_inj, decide_eq_false_iff_not] at hb
      have m1 : ¬ (i - 2) % 3 = 1 := by omega
      refine s_ret (ev_is (ev_op (ev_var rfl) ev_c (rv_eq rfl)) ?_) fun H7 e7 => k H7 (((E4.trans e5).trans e6).trans e7)
      unfold standB
      rw [if_neg n0, if_neg n1, if_neg m0, if_neg m1, dec_str]
end
end K10
namespace L2
open PySem PySem.Spec PyProof.Rows
section
variable {X : Cx} {st : Stmt} {t : TS}
/-- a statement that lets nothing out, among such as do -/
theorem PS.calm_ (h : PS X.nox st t) : PS X st t := ⟨fun pins s σ H D I hw => wpAny_mono (h.run pins s σ H D (I.wish _) hw) (fun f s' q => SP.unwish q) fun _ _ z => absurd z id⟩
end
end L2
namespace K10
open PySem L2 Evl Gr StX EnT ClX SrtT StS
abbrev sFr (i : Nat) : Stmt := inClass (top 32) i
/-! ### rows of pairs -/
/-- the pair of texts that stands at v -/
def ctn (H : Hp) (v : V) : Option Pr := match v with
  | .ref t => match H t with
    | some (.tup [.str a, .str b]) => some (a, b)
    | _ => none
  | _ => none
theorem ctn_iff {H : Hp} {v : V} {p : Pr} : ctn H v = some p ↔ ∃ t, v = .ref t ∧ H t = some (.tup [.str p.1, .str p.2]) := by
  constructor
  · intro h
    unfold ctn at h
    split at h
    · rename_i t
      split at h
      · rename_i a b e
        cases h
        exact ⟨t, rfl, e⟩
      · cases h
    · cases h
  · rintro ⟨t, rfl, h⟩
    unfold ctn
    simp only [h]
theorem ctn_mono {H H' : Hp} {v : V} {p : Pr} (e : Ex H H') (h : ctn H v = some p) : ctn H' v = some p := by
  rw [ctn_iff] at h ⊢
  obtain ⟨t, h1, h2⟩ := h
  exact ⟨t, h1, e _ _ h2⟩
def Prs (H : Hp) (vs : List V) (ps : List Pr) : Prop := vs.map (ctn H) = ps.map some
theorem Prs.len {H : Hp} {vs : List V} {ps : List Pr} (h : Prs H vs ps) : vs.length = ps.length := by
  have := congrArg List.length h
  rwa [List.length_map, List.length_map] at this
theorem Prs.at {H : Hp} {vs : List V} {ps : List Pr} (h : Prs H vs ps) {k : Nat} {x : V} (hx : vs[k]? = some x) : ∃ t p, x = .ref t ∧ ps[k]? = some p ∧ H t = some (.tup [.str p.1, .str p.2]) := by
  have := congrArg (fun l => l[k]?) h
  simp only [List.getElem?_map, hx, Option.map_some] at this
  obtain ⟨p, hp, e⟩ := Option.map_eq_some_iff.mp this.symm
  obtain ⟨t, h1, h2⟩ := ctn_iff.mp e.symm
  exact ⟨t, p, h1, hp, h2⟩
theorem Prs.to {H H' : Hp} {vs : List V} {ps : List Pr} (h : Prs H vs ps) (k : ∀ (t : Addr) (p : Pr), H t = some (.tup [.str p.1, .str p.2]) → H' t = some (.tup [.str p.1, .str p.2])) : Prs H' vs ps := by
  unfold Prs at *
  rw [← h]
  refine List.map_congr_left fun v hv => ?_
  obtain ⟨p, hp, e⟩ := List.mem_map.mp (h ▸ List.mem_map.mpr ⟨v, hv, rfl⟩ : ctn H v ∈ ps.map some)
  obtain ⟨t, h1, h2⟩ := ctn_iff.mp e.symm
  rw [← e, ctn_iff]
  exact ⟨t, h1, k t p h2⟩
theorem Prs.mono {H H' : Hp} {vs : List V} {ps : List Pr} (e : Ex H H') (h : Prs H vs ps) : Prs H' vs ps := h.to fun t p q => e _ _ q
theorem Prs.upd {H : Hp} {vs : List V} {ps : List Pr} {o C dx : Addr} {fs : List (Str × V)} {u : HO} (h : Prs H vs ps) (ho : H o = some (.ins C dx fs)) : Prs (L2.upd H o u) vs ps := h.to fun t p q => by
  rw [upd_ne (fun z => by rw [z, ho] at q; cases q)]
  exact q
theorem prs_key {H : Hp} {vs : List V} {ps : List Pr} (h : Prs H vs ps) : vs.map (fun x => (ctn H x).getD (mt, mt)) = ps := by
  have := congrArg (List.map fun o : Option Pr => o.getD (mt, mt)) h
  rw [List.map_map, List.map_map] at this
  rw [show (fun x => (ctn H x).getD (mt, mt)) = (fun o : Option Pr => o.getD (mt, mt)) ∘ ctn H from rfl, this]
  exact List.map_id _
theorem prs_key_at {H : Hp} {vs : List V} {ps : List Pr} (h : Prs H vs ps) {x : V} (hx : x ∈ vs) : ctn H x = some ((ctn H x).getD (mt, mt)) := by
  obtain ⟨p, _, e⟩ := List.mem_map.mp (h ▸ List.mem_map.mpr ⟨x, hx, rfl⟩ : ctn H x ∈ ps.map some)
  rw [← e]
  rfl
theorem prs_nil {H : Hp} : Prs H [] [] := rfl
theorem prs_cons {H : Hp} {t : Addr} {p : Pr} {vs : List V} {ps : List Pr} (h : H t = some (.tup [.str p.1, .str p.2])) (r : Prs H vs ps) : Prs H (.ref t :: vs) (p :: ps) := by
  unfold Prs at *
  rw [List.map_cons, List.map_cons, r, ctn_iff.mpr ⟨t, rfl, h⟩]
theorem pair_v {K : PySem.W.Frag} {H : Hp} {t : Addr} {p : Pr} (h : H t = some (.tup [.str p.1, .str p.2])) (ok : PairOk p) : PairV K H (.ref t) true := by
  obtain ⟨h1, h2⟩ := ok
  have l1 := sgB_iff.mp h1
  have l2 := sgB_iff.mp h2
  refine .inr (.inr ⟨t, _, _, true, true, rfl, st_of h, ?_, ?_, rfl⟩)
  · have := sgv_str (K := K) (H := H) (z := p.1) (lo := 1) (hi := 8) (by omega)
    rwa [h1] at this
  · have := sgv_str (K := K) (H := H) (z := p.2) (lo := 1) (hi := 1) (by omega)
    rwa [h2] at this
/-! ### comprehensions over pairs -/
section
variable {K : PySem.W.Frag} {σ : L2.St} {H : Hp} {te ta tl : TE} {t : TT}
theorem el_pairT {ps : List Pr} {xs : List V} {i j : Nat} {vs : List Nat} (f : Pr → Bool) (g : Pr → V) (h : EvTu K tl σ H xs) (hx : Prs H xs ps) (hz : ps.length ≤ 40000) (hw : ∀ x y, wipe (((wipe σ vs).set i (some x)).set j (some y)) vs = wipe σ vs)
    (ht : ∀ p ∈ ps, ∀ H1, Ex H H1 → EvT t (((wipe σ vs).set i (some (.str p.1))).set j (some (.str p.2))) H1 (f p)) (he : ∀ p ∈ ps, ∀ H1, Ex H H1 → f p = true → Ev te (((wipe σ vs).set i (some (.str p.1))).set j (some (.str p.2))) H1 (g p)) :
    EvL (tLc (iTup K tl) (gTup K 2 (gCons (gName i) (gCons (gName j) gNil))) t te vs) σ H ((ps.filter f).map g) := by
  have len := hx.len
  have main : EvL (tLc (iTup K tl) (gTup K 2 (gCons (gName i) (gCons (gName j) gNil))) t te vs) σ H (given xs.length (at_ ps f) (got ps g)) := fun H0 e Q q => h H0 e _ fun a H1 e1 ha =>
    ⟨a, rfl, ⟨xs, ha⟩, fun Dl hD => lc_it (n := xs.length) (walk_tup (xs := xs)) (Cw H1 (at_ ps f) (got ps g) Dl) ⟨hD, Ex.new hD, upd_same⟩ (fun _ H' _ p => ex_t p.2.1 ha)
      (fun k x H' H'' hk p y => by
        obtain ⟨rfl, hx'⟩ := y
        obtain ⟨T, q, rfl, hq, hT⟩ := hx.at hx'
        have eT := (e.trans e1).trans p.2.1
        have hm := List.mem_of_getElem? hq
        refine ⟨T, _, rfl, st_of (eT _ _ hT), rfl, _, _, rfl, _, _, rfl, rfl, hw _ _, cw_turn p (by omega) ?_ fun hf => ?_⟩
        · rw [at_of hq]
          exact ht q hm H1 (e.trans e1)
        · rw [at_of hq] at hf
          rw [got_of hq]
          exact he q hm H1 (e.trans e1) hf)
      (fun H' p => q Dl H' (fresh_back e1 p.1) (e1.trans p.2.1) p.2.2)⟩
  rw [len, given_of] at main
  exact main
end
/-! ### FrameRule -/
structure FName (K : PySem.W.Frag) (mg : Str → Option Value) (C : Addr) (mc : Value) : Prop where
  g : mg "FrameRule" = some (.ref C)
  rd : CRead K C mc
structure FCls (K : PySem.W.Frag) (C : Addr) : Prop where
  cls : Cls K C
  flag : NoAttr K C "flag"
  pairs : NoAttr K C "pairs"
/-- a rule of this flag and these pairs stands at o -/
def RuleAt (K : PySem.W.Frag) (C : Addr) (H : Hp) (o : Addr) (f : Str) (ps : List Pr) : Prop := ∃ dx q vs, H o = some (.ins C dx [("flag", .str f), ("pairs", .ref q)]) ∧ SqT K H q vs ∧ Prs H vs ps ∧ Good f ps
theorem RuleAt.mono {K : PySem.W.Frag} {C : Addr} {H H' : Hp} {o : Addr} {f : Str} {ps : List Pr} (e : Ex H H') (h : RuleAt K C H o f ps) : RuleAt K C H' o f ps := by
  obtain ⟨dx, q, vs, h1, h2, h3, h4⟩ := h
  exact ⟨dx, q, vs, e _ _ h1, ex_t e h2, h3.mono e, h4⟩
theorem RuleAt.good {K : PySem.W.Frag} {C : Addr} {H : Hp} {o : Addr} {f : Str} {ps : List Pr} (h : RuleAt K C H o f ps) : Good f ps := by
  obtain ⟨dx, q, vs, h1, h2, h3, h4⟩ := h
  exact h4
theorem RuleAt.ins {K : PySem.W.Frag} {C : Addr} {H : Hp} {o : Addr} {f : Str} {ps : List Pr} (h : RuleAt K C H o f ps) : ∃ dx fs, H o = some (.ins C dx fs) := by
  obtain ⟨dx, q, vs, h1, _⟩ := h
  exact ⟨dx, _, h1⟩
theorem q_forE {K : PySem.W.Frag} {σ : L2.St} {H : Hp} {a : Addr} {xs : List V} {ta : TA} {g : TG} {tu tz : TS} {D : Ends} (h : EvA ta σ H [.ref a]) (hx : SqT K H a xs) (Pv : Nat → L2.St → Hp → Prop) (h0 : ∀ H1, Ex H H1 → Pv 0 σ H1) (hl : ∀ i σ' H', i ≤ xs.length → Pv i σ' H' → SqT K H' a xs)
    (hs : ∀ i x σ' H' T, xs[i]? = some x → Pv i σ' H' → H' T = none → g (.ref T) σ' (L2.upd H' T (.tup [.int (i : Nat), x])) fun σ2 H2 => tu { D with nx := Pv (i + 1), ct := Pv (i + 1), bk := tz D } σ2 H2)
    (hd : ∀ σ' H', Pv xs.length σ' H' → tz D σ' H') : tSeq (tFor (iEnumT K ta) g tu) tz D σ H :=
  h H (Ex.refl H) _ fun H1 e1 => ⟨a, xs, rfl, ex_t e1 hx, for_it (D := { D with nx := tz D }) walk_enumT Pv (h0 H1 e1) hl (fun i v σ' H' H2 hi p y => by
    obtain ⟨T, x, z, rfl, hn, rfl, ex, ez⟩ := y
    obtain rfl := Option.some.inj ex
    exact hs i z σ' H' T ez p hn) hd⟩
structure GlbI (mg : Str → Option Value) : Prop where
  enum : mg "enumerate" = none
  set : mg "set" = none
  sorted : mg "sorted" = none
/-! what is wrong with what a rule is made of -/
abbrev BadR (CR : Addr) (v : V) (H : Hp) (E : XK) : Prop := Out1 CR "part" v H E
abbrev ManyW (CM : Addr) (H : Hp) (E : XK) : Prop := Out2 CM "what" "most" (.str "watches") (.int 4) H E
/-- what __init__ is told: the flag x, the pairs vs -/
def Made (K : PySem.W.Frag) (CR CM : Addr) (x : V) (vs : List V) (H : Hp) (E : XK) (ok : Str → List Pr → Prop) : Prop :=
  (SgV K H x 2 8 false ∧ BadR CR (.str "flag") H E) ∨ ∃ f, x = .str f ∧ sgB f 2 8 = true ∧
    ((∃ (i : Nat) (y : V), vs[i]? = some y ∧ PairV K H y false ∧ (∀ (j : Nat) (z : V), j < i → vs[j]? = some z → PairV K H z true) ∧ BadR CR (.int (i : Int)) H E) ∨
      ∃ ps, Prs H vs ps ∧ (∀ p ∈ ps, PairOk p) ∧ ps.length ≤ 900 ∧ ((¬ (ps.map (·.1)).Nodup ∧ BadR CR (.str "watch") H E) ∨ ((ps.map (·.1)).Nodup ∧ 4 < ps.length ∧ ManyW CM H E) ∨ ((ps.map (·.1)).Nodup ∧ ps.length ≤ 4 ∧ ok f ps)))
theorem Made.mono {K : PySem.W.Frag} {CR CM : Addr} {x : V} {vs : List V} {H H' : Hp} {E : XK} {ok ok' : Str → List Pr → Prop} (e : Ex H H') (k : ∀ f ps, ok f ps → ok' f ps) (h : Made K CR CM x vs H E ok) : Made K CR CM x vs H' E ok' := by
  rcases h with ⟨h1, h2⟩ | ⟨f, hf, h0, ⟨i, y, h1, h2, h3, h4⟩ | ⟨ps, h1, h2, h3, ⟨h4, h5⟩ | ⟨h4, h5, h6⟩ | ⟨h4, h5, h6⟩⟩⟩
  · exact .inl ⟨h1.mono e, h2.mono e⟩
  · exact .inr ⟨f, hf, h0, .inl ⟨i, y, h1, h2.mono e, fun j z a b => (h3 j z a b).mono e, h4.mono e⟩⟩
  · exact .inr ⟨f, hf, h0, .inr ⟨ps, h1.mono e, h2, h3, .inl ⟨h4, h5.mono e⟩⟩⟩
  · exact .inr ⟨f, hf, h0, .inr ⟨ps, h1.mono e, h2, h3, .inr (.inl ⟨h4, h5, h6.mono e⟩)⟩⟩
  · exact .inr ⟨f, hf, h0, .inr ⟨ps, h1.mono e, h2, h3, .inr (.inr ⟨h4, h5, k _ _ h6⟩)⟩⟩
abbrev nInit : List Str := ["self", "flag", "pairs", "at", "pair", "watch", "_"]
def spInit (K : PySem.W.Frag) (C CR CM : Addr) : Sp := fun vs H Q E => ∃ (o p dx : Addr) (x : V) (xs : List V), vs = [.ref o, x, .ref p] ∧ H o = some (.ins C dx []) ∧ SqT K H p xs ∧ xs.length ≤ 900 ∧
  Made K CR CM x xs H E fun f ps => ∀ qs H', Good f qs → qs.Perm ps → Keep o H H' → RuleAt K C H' o f qs → Q .non H'
def spInitA (K : PySem.W.Frag) (C CR CM : Addr) : Sp := fun vs H Q E => ∃ ws rest, vs = ws ++ rest ∧ ws.length = (["self", "flag"] : List Str).length ∧ rest.length ≤ sizeLine ∧ ∀ p, H p = none → spInit K C CR CM (ws ++ [V.ref p]) (L2.upd H p (.tup rest)) Q E
theorem scInit : FnScope nInit ((["self", "flag"] : List Str) ++ (["pairs"] : List Str)) (defScope (sFr 0)) := ⟨rfl, rfl, rfl, by decide +kernel, rfl, by decide +kernel, by decide +kernel⟩
/-- len(set(a new list of texts)) < n, n its length -/
theorem et_dup {X : Cx} {σ : L2.St} {H : Hp} {te tb : TE} {xs : List Str} (h : EvL te σ H (xs.map V.str)) (hz : xs.length ≤ 900) (hb : Ev tb σ H (.int (xs.length : Int))) :
    EvT (tTest (tOp (rI0 fun i j => .bl (decide (i < j))) (tCB (rLenS X) (tCons (tCB (rSetT X) (tCons te tNil)) tNil)) tb)) σ H (!decide xs.Nodup) := fun H1 e Q q =>
  h H1 e _ fun l H2 hl e2 h2 => ⟨l, xs, rfl, sq_of h2, by omega, fun a ks ha same => by
    obtain ⟨k1, k2, k3⟩ := same
    refine ⟨a, ks, rfl, upd_same, by omega, hb _ (e.trans (e2.trans (Ex.new ha))) _ fun H3 e3 => ⟨_, _, rfl, rfl, _, rfl, ?_⟩⟩
    have c : decide ((ks.length : Int) < (xs.length : Int)) = !decide xs.Nodup := by
      by_cases n : xs.Nodup
      · have := all_there xs ks n fun k hk => (k2 k).mpr hk
        rw [decide_eq_true n, Bool.not_true, decide_eq_false_iff_not]
        omega
      · have := (few xs ks k1 fun k hk => (k2 k).mp hk).2 n
        rw [decide_eq_false n, Bool.not_false, decide_eq_true_iff]
        omega
    rw [c]
    exact q H3 ((e2.trans (Ex.new ha)).trans e3)⟩
/-- sorted pairs with distinct watches rise -/
theorem rise_of {qs : List Pr} (h : qs.Pairwise fun p q => lexT q p = false) (n : (qs.map (·.1)).Nodup) : Rise qs := by
  unfold List.Nodup at n
  rw [List.pairwise_map] at n
  exact (h.and n).imp fun {p q} z => by
    obtain ⟨z1, z2⟩ := z
    unfold lexT at z1
    rw [if_neg (fun e => z2 e.symm)] at z1
    exact ltB_tot z1 fun e => z2 e.symm
section
variable {P : Program} {w : World} {K : PySem.W.Frag} {mg : Str → Option Value} {base : Heap}
/-- the suite of __init__ -/
theorem runs_Init {C f CR fR CM fM : Addr} {cdv : Value} {fdR fdM : FuncData} (G : FCls K C) (T : GlbT mg) (S : GlbS mg) (D : GlbD mg) (I : GlbI mg)
    (B : GOne P w K mg base "BadRule" "part" CR fR fdR) (M : GTwo P w K mg base "TooMany" "what" "most" CM fM fdM) (GW : Gfn P w K mg base 2 "is_signs_within" ["value", "least", "most"] (spSignsW K)) (GP : Gfn P w K mg base 3 "is_pair" ["value"] (spIsP K))
    (A : Around) (outer : List Env) (s : Shared) (H : Hp) (vs : List V) (Q : VK) (E : XK) (hr : Room 3 (A.deeper (PyProof.Rows.envOfC "FrameRule.__init__" (defScope (sFr 0)) s.heap.objs.size f cdv))) (h : spInit K C CR CM vs H Q E) :
    ∃ t, PSs (cxOf (L2.CX P w) P w K mg base nInit "FrameRule.__init__" (defScope (sFr 0)) f cdv A outer s H E) (defBody (sFr 0)) t ∧ t { nx := fun _ H' => Q .non H', rt := Q } (L2.start nInit vs) H := by
  obtain ⟨fW, fdW, GW, kW, bW, gW⟩ := GW
  obtain ⟨fP, fdP, GP, kP, bP, gP⟩ := GP
  obtain ⟨t4, g4⟩ := D.most
  obtain ⟨o, p, dx, x, xs, rfl, hO, hP, hl, hm⟩ := h
  have hr2 := hr.mono (show 2 ≤ 3 by decide)
  refine ⟨_, pss_cons (ps_if (pt_not (pt_val (pe_call GW hr2 (by rfl) gW kW bW .nil pass0 (pa_cons (pv 1) (pa_cons pe_int (pa_cons pe_int pa_nil)))))) (pss_one (ps_raise rfl (takes_of rfl rfl rfl rfl) (pmk_oex B.ox B.init B.ty B.ok hr2 B.b .nil pass0 (by rfl) B.g (pa_cons pe_str pa_nil)))) pss_nil)
    (pss_cons (ps_for (passes_of rfl) rfl (pi_enumT (by rfl) I.enum (pa_cons (pv 2) pa_nil)) (pg_tup rfl (pgs_cons (pg_name (i := 3) scInit.nd rfl (.inl rfl)) (pgs_cons (pg_name (i := 4) scInit.nd rfl (.inl rfl)) pgs_nil)))
      (pss_one (ps_if (pt_not (pt_val (pe_call GP hr (by rfl) gP kP bP .nil pass0 (pa_cons (pv 4) pa_nil)))) (pss_one (ps_raise rfl (takes_of rfl rfl rfl rfl) (pmk_oex B.ox B.init B.ty B.ok hr2 B.b .nil pass0 (by rfl) B.g (pa_cons (pv 3) pa_nil)))) pss_nil)))
    (pss_cons (ps_if (pt_cmpR op_lt (pe_callB cr_lenS (by rfl) T.len PySem.boot_len (pa_cons (pe_callTy (cr_setT rfl) (by rfl) I.set (by decide +kernel) (pa_cons (pe_lc (own := [("watch", 5), ("_", 6)]) (g := gTup K 2 (gCons (gName 5) (gCons (gName 6) gNil))) rfl scInit.nd (pi_tup (pv 2)) (blkOk_by (own := [("watch", 5), ("_", 6)]) (N := nInit) (sc := defScope (sFr 0)) (by decide +kernel))
        (fun _ _ _ _ _ => pg_tup rfl (pgs_cons (pg_name (i := 5) scInit.nd rfl (Or.inl rfl)) (pgs_cons (pg_name (i := 6) scInit.nd rfl (Or.inl rfl)) pgs_nil))) (fun _ _ _ _ _ => pts_nil) (fun _ _ _ _ _ => pv 5)) pa_nil)) pa_nil)) (pe_callB call_len_seq (by rfl) T.len PySem.boot_len (pa_cons (pv 2) pa_nil)) (nomark _))
      (pss_one (ps_raise rfl (takes_of rfl rfl rfl rfl) (pmk_oex B.ox B.init B.ty B.ok hr2 B.b .nil pass0 (by rfl) B.g (pa_cons pe_str pa_nil)))) pss_nil)
    (pss_cons (ps_if (pt_cmpR op_gt (pe_callB call_len_seq (by rfl) T.len PySem.boot_len (pa_cons (pv 2) pa_nil)) (pe_glob (v := .int 4) rfl g4 ⟨_, rfl⟩) (nomark _))
      (pss_one (ps_raise rfl (takes_of rfl rfl rfl rfl) (pmk_oex M.ox M.init M.ty M.ok hr2 M.b .nil pass0 (by rfl) M.g (pa_cons pe_str (pa_cons (pe_glob (v := .int 4) rfl g4 ⟨_, rfl⟩) pa_nil))))) pss_nil)
    (pss_cons (PS.calm_ (ps_fld (pv 0) (pv 1) (by rfl)))
    (pss_one (PS.calm_ (ps_fld (pv 0) (pe_tupleOf (by rfl) S.tuple (pe_callB cr_sortedTT (by rfl) I.sorted (by decide +kernel) (pa_cons (pv 2) pa_nil))) (by rfl)))))))), ?_⟩
  have flagE : ∀ {H1 : Hp} {σ : L2.St} {b : Bool}, σ[1]? = some (some x) → SgV K H1 x 2 8 b → EvT (tNot (tB (tCall (spSignsW K) [] E0 (tCons (tVar 1) (tCons (tC (.int 2)) (tCons (tC (.int 8)) tNil)))))) σ H1 (!b) := fun h0 h1 => et_not (et_B (ev_sgw (ev_var h0) ev_c ev_c h1))
  rcases hm with ⟨h1, h2⟩ | ⟨f', rfl, h0, hm⟩
  · exact q_when (b := true) (flagE rfl h1) (fun _ H1 e1 => raise_one (ea_cons ev_c ea_nil) (h2.mono e1)) (fun z => absurd z (by decide))
  have fl := sgB_iff.mp h0
  have sg : ∀ {H1 : Hp}, SgV K H1 (.str f') 2 8 true := fun {H1} => by
    have := sgv_str (K := K) (H := H1) (z := f') (lo := 2) (hi := 8) (by omega)
    rwa [h0] at this
  refine q_when (b := false) (flagE rfl sg) (fun z => absurd z (by decide)) (fun _ H1 e1 => ?_)
  have turn : ∀ {H2 : Hp} {i : Nat} {y : V} {b : Bool} {x5 x6 : Option V}, PairV K H2 y b → EvT (tNot (tB (tCall (spIsP K) [] E0 (tCons (tVar 4) tNil)))) [some (.ref o), some (.str f'), some (.ref p), some (.int (i : Int)), some y, x5, x6] H2 (!b) := fun h => et_not (et_B (ev_call (z := .bl _) (ea_cons (ev_var rfl) ea_nil) fun H3 e3 Q q E => ⟨_, _, rfl, h.mono e3, q⟩))
  rcases hm with ⟨i, y, hi, hy, all, hE⟩ | ⟨ps, hps, ok, h900, hm⟩
  · have lt := (List.getElem?_eq_some_iff.mp hi).1
    refine q_forE (K := K) (a := p) (xs := xs) (ea_cons (ev_var rfl) ea_nil) (ex_t e1 hP) (fun j σ' H' => j ≤ i ∧ (∃ x1 x2 : Option V, σ' = [some (.ref o), some (.str f'), some (.ref p), x1, x2, none, none]) ∧ Ex H H') (fun H2 e2 => ⟨Nat.zero_le _, ⟨none, none, rfl⟩, e1.trans e2⟩) (fun _ _ H' _ q => ex_t q.2.2 hP) ?_ ?_
    · rintro j z σ' H2 T2 hz ⟨hj, ⟨x1, x2, rfl⟩, e2⟩ hT2
      have e3 := e2.trans (Ex.new (o := .tup [.int (j : Nat), z]) hT2)
      refine ⟨T2, [.int (j : Nat), z], rfl, st_of upd_same, rfl, _, _, rfl, _, _, rfl, rfl, ?_⟩
      by_cases c : j = i
      · subst c
        rw [hi] at hz
        obtain rfl := Option.some.inj hz
        exact s_if (b := true) (turn (hy.mono e3)) (fun _ H3 e4 => raise_one (ea_cons (ev_var rfl) ea_nil) (hE.mono (e3.trans e4))) (fun z => absurd z (by decide))
      · exact s_if (b := false) (turn ((all j z (by omega) hz).mono e3)) (fun hb => absurd hb (by decide)) fun _ H3 e4 => ⟨by omega, ⟨_, _, rfl⟩, e3.trans e4⟩
    · rintro σ' H2 ⟨hj, _⟩
      exact absurd hj (by omega)
  have len := hps.len
  refine q_forE (K := K) (a := p) (xs := xs) (ea_cons (ev_var rfl) ea_nil) (ex_t e1 hP) (fun j σ' H' => (∃ x1 x2 : Option V, σ' = [some (.ref o), some (.str f'), some (.ref p), x1, x2, none, none]) ∧ Ex H H') (fun H2 e2 => ⟨⟨none, none, rfl⟩, e1.trans e2⟩) (fun _ _ H' _ q => ex_t q.2 hP) ?_ ?_
  · rintro j z σ' H2 T2 hz ⟨⟨x1, x2, rfl⟩, e2⟩ hT2
    have e3 := e2.trans (Ex.new (o := .tup [.int (j : Nat), z]) hT2)
    refine ⟨T2, [.int (j : Nat), z], rfl, st_of upd_same, rfl, _, _, rfl, _, _, rfl, rfl, ?_⟩
    obtain ⟨t, q, rfl, hq, ht⟩ := hps.at hz
    exact s_if (b := false) (turn (pair_v (e3 _ _ ht) (ok q (List.mem_of_getElem? hq)))) (fun hb => absurd hb (by decide)) fun _ H3 e4 => ⟨⟨_, _, rfl⟩, e3.trans e4⟩
  · rintro σ' H2 ⟨⟨x1, x2, rfl⟩, e2⟩
    have ln : ∀ {H3 : Hp}, Ex H H3 → Ev (tCB (rLenQ K) (tCons (tVar 2) tNil)) [some (.ref o), some (.str f'), some (.ref p), x1, x2, none, none] H3 (.int (ps.length : Int)) := fun e => ev_is (ev_lenTu (etu_var rfl (ex_t e hP))) (by rw [len])
    have watches : EvL (tLc (iTup K (tVar 2)) (gTup K 2 (gCons (gName 5) (gCons (gName 6) gNil))) (fun σ H Q => Q true H) (tVar 5) [5, 6]) [some (.ref o), some (.str f'), some (.ref p), x1, x2, none, none] H2 ((ps.map (·.1)).map V.str) := by
      have c := el_pairT (K := K) (σ := [some (.ref o), some (.str f'), some (.ref p), x1, x2, none, none]) (H := H2) (t := fun σ H Q => Q true H) (te := tVar 5) (tl := tVar 2) (i := 5) (j := 6) (vs := [5, 6]) (fun _ => true) (fun q => V.str q.1) (etu_var rfl (ex_t e2 hP)) (hps.mono e2) (by omega) (fun _ _ => rfl)
        (fun q hq H1 e => et_none) (fun q hq H1 e _ => ev_var rfl)
      rw [List.filter_eq_self.mpr (fun _ _ => rfl)] at c
      rw [List.map_map]
      exact c
    have lw : (ps.map (·.1)).length = ps.length := List.length_map _
    refine q_when (et_dup watches (by rw [lw]; exact h900) (ev_is (ln e2) (by rw [lw]))) (fun hb H3 e3 => ?_) (fun hb H3 e3 => ?_)
    · rw [Bool.not_eq_true', decide_eq_false_iff_not] at hb
      rcases hm with ⟨_, hE⟩ | ⟨h4, _⟩ | ⟨h4, _⟩
      · exact raise_one (ea_cons ev_c ea_nil) (hE.mono (e2.trans e3))
      · exact absurd h4 hb
      · exact absurd h4 hb
    rw [Bool.not_eq_false', decide_eq_true_iff] at hb
    refine q_when (et_test (ev_op (ln (e2.trans e3)) ev_c rv_I0)) (fun hc H4 e4 => ?_) (fun hc H4 e4 => ?_)
    · have far : (ps.length : Int) > 4 := of_decide_eq_true hc
      rcases hm with ⟨h4, _⟩ | ⟨_, _, hE⟩ | ⟨_, h5, _⟩
      · exact absurd hb h4
      · exact raise_two (ea_cons ev_c (ea_cons ev_c ea_nil)) (hE.mono ((e2.trans e3).trans e4))
      · omega
    have near : ¬ (ps.length : Int) > 4 := of_decide_eq_false hc
    rcases hm with ⟨h4, _⟩ | ⟨_, h5, _⟩ | ⟨_, _, k⟩
    · exact absurd hb h4
    · omega
    have E4 := (e2.trans e3).trans e4
    have hO4 := E4 _ _ hO
    refine ⟨_, rfl, _, rfl, o, C, dx, [], rfl, hO4, G.cls, G.flag, Nat.le_of_ble_eq_true rfl, ?_⟩
    have hP5 := sqT_upd (u := .ins C dx (putF "flag" (.str f') [])) (ex_t E4 hP) hO4
    have hps5 := (hps.mono E4).upd (u := .ins C dx (putF "flag" (.str f') [])) hO4
    have hO5 : (upd H4 o (.ins C dx (putF "flag" (.str f') []))) o = some (.ins C dx [("flag", .str f')]) := upd_same
    have kp5 : Keep o H (upd H4 o (.ins C dx (putF "flag" (.str f') []))) := fun c u hc hn => by rw [upd_ne hn]; exact E4 _ _ hc
    generalize upd H4 o (.ins C dx (putF "flag" (.str f') [])) = H5 at hP5 hps5 hO5 kp5
    refine ⟨_, rfl, p, xs, fun x => (ctn H5 x).getD (mt, mt), rfl, hP5, fun x hx => ctn_iff.mp (prs_key_at hps5 hx), fun ys l srt pm hl => .inl ⟨l, ys, rfl, sq_of upd_same, fun r hr => ?_⟩⟩
    have e6 : Ex H5 (upd (upd H5 l (.lst ys)) r (.tup ys)) := (Ex.new hl).trans (Ex.new hr)
    have hO6 := e6 _ _ hO5
    refine ⟨_, rfl, o, C, dx, _, rfl, hO6, G.cls, G.pairs, Nat.le_of_ble_eq_true rfl, ?_⟩
    have pq : (ys.map fun x => (ctn H5 x).getD (mt, mt)).Perm ps := by
      have := pm.map fun x => (ctn H5 x).getD (mt, mt)
      rwa [prs_key hps5] at this
    have prs5 : Prs H5 ys (ys.map fun x => (ctn H5 x).getD (mt, mt)) := by
      unfold Prs
      rw [List.map_map]
      exact List.map_congr_left fun x hx => prs_key_at hps5 (pm.mem_iff.mp hx)
    have good : Good f' (ys.map fun x => (ctn H5 x).getD (mt, mt)) := by
      refine ⟨h0, fun q hq => ok q (pq.mem_iff.mp hq), by rw [pq.length_eq]; omega, rise_of ?_ ((pq.map (·.1)).nodup_iff.mpr hb)⟩
      rw [List.pairwise_map]
      exact srt
    refine k _ _ good pq (fun c u hc hn => ?_) ⟨dx, r, ys, upd_same, ?_, ?_, good⟩
    · rw [upd_ne hn]
      exact e6 _ _ (kp5 c u hc hn)
    · exact sqT_upd (st_of upd_same) hO6
    · exact (prs5.mono e6).upd hO6
theorem ok_Init {C f CR fR CM fM : Addr} {mc : Value} {fd fdR fdM : FuncData} (F : Fun K "__init__" "FrameRule.__init__" (sFr 0) f fd) (G : FCls K C) (T : GlbT mg) (S : GlbS mg) (D : GlbD mg) (I : GlbI mg)
    (B : GOne P w K mg base "BadRule" "part" CR fR fdR) (M : GTwo P w K mg base "TooMany" "what" "most" CM fM fdM) (GW : Gfn P w K mg base 2 "is_signs_within" ["value", "least", "most"] (spSignsW K)) (GP : Gfn P w K mg base 3 "is_pair" ["value"] (spIsP K)) :
    FnR P w K mg base (L2.CX P w) 4 f (spInitA K C CR CM) := by
  obtain ⟨oc, od, kV, doc, pm, an, cdv, ct, osl, rfl, lk, hcd⟩ := F.ex
  exact fn_star (ps := ["self", "flag"]) (sp := spInit K C CR CM) lk hcd scInit cxUp (bind_star2 (B := fun us => bindArgs (PySem.W.fnOf "__init__" "FrameRule.__init__" (defArgs (sFr 0)) (defBody (sFr 0)) (defScope (sFr 0)) .none kV doc pm an cdv ct) ⟨us, []⟩) (fun a b => rfl) fun a b r rs => rfl) fun A outer s H vs Q E hr h => runs_Init G T S D I B M GW GP A outer s H vs Q E hr h
/-- FrameRule(flag = e) -/
theorem ok_InitK {C f CR fR CM fM : Addr} {mc : Value} {fd fdR fdM : FuncData} (F : Fun K "__init__" "FrameRule.__init__" (sFr 0) f fd) (G : FCls K C) (T : GlbT mg) (S : GlbS mg) (D : GlbD mg) (I : GlbI mg)
    (B : GOne P w K mg base "BadRule" "part" CR fR fdR) (M : GTwo P w K mg base "TooMany" "what" "most" CM fM fdM) (GW : Gfn P w K mg base 2 "is_signs_within" ["value", "least", "most"] (spSignsW K)) (GP : Gfn P w K mg base 3 "is_pair" ["value"] (spIsP K)) :
    Kw1 P w K mg base (L2.CX P w) 4 f "flag" (spInit K C CR CM) := by
  obtain ⟨oc, od, kV, doc, pm, an, cdv, ct, osl, rfl, lk, hcd⟩ := F.ex
  exact kw1 (a0 := "self") (pv := "pairs") lk hcd scInit cxUp (fun _ _ => rfl) fun A outer s H vs Q E hr h => runs_Init G T S D I B M GW GP A outer s H vs Q E hr h
end
end K10
namespace K10
open PySem L2 Evl Gr StX EnT ClX ClK RdX SrtT StS
abbrev sRw : Stmt := top 31
theorem pw_snoc : ∀ (l : List Pr) (p : Pr), pw (l ++ [p]) = if l = [] then [p.1, p.2] else pw l ++ [comma, p.1, p.2]
  | [], p => rfl
  | [a], p => rfl
  | a :: b :: r, p => by
    have ih := pw_snoc (b :: r) p
    rw [if_neg (by simp)] at ih ⊢
    show a.1 :: a.2 :: comma :: pw ((b :: r) ++ [p]) = (a.1 :: a.2 :: comma :: pw (b :: r)) ++ _
    rw [ih]
    rfl
/-! ### a rule is made -/
def RetRu (K : PySem.W.Frag) (C : Addr) (f : Str) (ps : List Pr) (H : Hp) (Q : VK) : Prop := ∀ o H', Ex H H' → RuleAt K C H' o f ps → Q (.ref o) H'
theorem RetRu.mono {K : PySem.W.Frag} {C : Addr} {f : Str} {ps : List Pr} {H H' : Hp} {Q : VK} (e : Ex H H') (h : RetRu K C f ps H Q) : RetRu K C f ps H' Q := fun o H2 e2 r => h o H2 (e.trans e2) r
/-- gives a rule of this flag and these pairs -/
def EvRu (K : PySem.W.Frag) (C : Addr) (te : TE) (σ : L2.St) (H : Hp) (f : Str) (ps : List Pr) : Prop := ∀ H1, Ex H H1 → ∀ Q : VK, (∀ o H2, Ex H1 H2 → RuleAt K C H2 o f ps → Q (.ref o) H2) → te σ H1 Q
theorem eru_var {K : PySem.W.Frag} {C : Addr} {σ : L2.St} {H : Hp} {f : Str} {ps : List Pr} {i : Nat} {o : Addr} (h0 : σ[i]? = some (some (.ref o))) (h : RuleAt K C H o f ps) : EvRu K C (tVar i) σ H f ps := fun H1 e Q q => ⟨_, h0, q o H1 (Ex.refl H1) (h.mono e)⟩
section
variable {K : PySem.W.Frag} {C CR CM : Addr} {σ : L2.St} {H : Hp} {t : TA} {E : XK} {Q : VK}
/-- what __init__ is told -/
theorem init_told {x dx : Addr} {v : V} {xs : List V} (hx : H x = none) (hd : H dx = none) (hn : dx ≠ x) (hl : xs.length ≤ 900) (m : Made K CR CM v xs H E fun f ps => ∀ qs, Good f qs → qs.Perm ps → RetRu K C f qs H Q) :
    spInitA K C CR CM (V.ref x :: v :: xs) (upd (upd H dx (.own x)) x (.ins C dx [])) (fun v H2 => v = .non ∧ Q (.ref x) H2) E := by
  have e3 : Ex H (upd (upd H dx (.own x)) x (.ins C dx [])) := (Ex.new hd).trans (Ex.new (by rw [upd_ne hn.symm]; exact hx))
  refine ⟨[.ref x, v], xs, rfl, rfl, sz_of (by omega), fun p hp => ?_⟩
  have e4 := Ex.new (o := .tup xs) hp
  refine ⟨x, p, dx, v, xs, rfl, e4 _ _ upd_same, st_of upd_same, hl, m.mono (e3.trans e4) fun f ps k qs H' g pm kp at_ => ⟨rfl, k qs g pm x H' (fun c u hc => kp c u (e4 _ _ (e3 _ _ hc)) (ne_of_none hc hx)) at_⟩⟩
theorem s_makeU {v : V} {xs : List V} (h : EvA t σ H (v :: xs)) (hl : xs.length ≤ 900) (m : Made K CR CM v xs H E fun f ps => ∀ qs, Good f qs → qs.Perm ps → RetRu K C f qs H Q) : tMakeR C (spInitA K C CR CM) E t σ H Q :=
  h H (Ex.refl H) _ fun H1 e1 x dx hx hd hn => init_told hx hd hn hl (m.mono e1 fun f ps k qs g pm => (k qs g pm).mono e1)
end
theorem s_ext {K : PySem.W.Frag} {σ : L2.St} {H : Hp} {ta te : TE} {D : Ends} {l : Addr} {xs ys : List V} (hl : H l = some (.lst xs)) (ha : Ev ta σ H (.ref l)) (h : EvL te σ H ys) (hz : xs.length + ys.length ≤ 100000) (k : ∀ p H1, H p = none → Ex H H1 → H1 p = some (.lst ys) → D.nx σ (upd H1 l (.lst (xs ++ ys)))) :
    tDrop (tBM K "list" rExtend ta (tCons te tNil)) D σ H := ha H (Ex.refl H) _ fun H1 e1 =>
  ⟨Or.inl ⟨rfl, xs, sq_of (e1 l _ hl)⟩, h H1 e1 _ fun p H2 hp e2 h2 => ⟨l, p, xs, ys, rfl, rfl, e2 l _ (e1 l _ hl), h2, sz_of hz, k p H2 (fresh_back e1 hp) (e1.trans e2) h2⟩⟩
/-- a rule whose pairs rise is made of them -/
theorem made_ok {K : PySem.W.Frag} {CR CM : Addr} {H : Hp} {E : XK} {f : Str} {ps qs : List Pr} {xs : List V} {ok : Str → List Pr → Prop} (g : Good f qs) (hp : Prs H xs ps) (pm : ps.Perm qs) (k : ok f ps) : Made K CR CM (.str f) xs H E ok := by
  refine .inr ⟨f, rfl, g.flag, .inr ⟨ps, hp, fun p h => g.ok p (pm.mem_iff.mp h), ?_, .inr (.inr ⟨(pm.map (·.1)).nodup_iff.mpr (rise_nodup g.rise), ?_, k⟩)⟩⟩
  · have := g.many
    have := pm.length_eq
    omega
  · have := g.many
    have := pm.length_eq
    omega
theorem good_one {f : Str} {ps qs : List Pr} (g : Good f ps) (h : Good f qs) (pm : ps.Perm qs) : ps = qs :=
  sort_one (List.Pairwise.imp (fun {p q} z => by
    have z := z
    cases c : lexT q p with
    | false => rfl
    | true =>
      have := lexT_tr z c
      rw [lexT_irr] at this
      cases this) (rise_lex g.rise)) pm h.rise
section
variable {P : Program} {w : World} {K : PySem.W.Frag} {mg : Str → Option Value} {base : Heap}
/-! ### rule_words -/
abbrev nRw : List Str := ["flag", "pairs", "words", "at", "watch", "put"]
def spRw (K : PySem.W.Frag) : Sp := fun vs H Q _ => ∃ (f : Str) (q : Addr) (xs : List V) (ps : List Pr), vs = [.str f, .ref q] ∧ SqT K H q xs ∧ Prs H xs ps ∧ ps.length ≤ 900 ∧ ∀ p H', H p = none → Ex H H' → H' p = some (.lst ((rw_ f ps).map V.str)) → Q (.ref p) H'
theorem scRw : FnScope nRw ["flag", "pairs"] (defScope sRw) := ⟨rfl, rfl, rfl, by decide +kernel, rfl, by decide +kernel, by decide +kernel⟩
theorem ok_Rw {f : Addr} {fd : FuncData} (F : Fun K "rule_words" "rule_words" sRw f fd) (I : GlbI mg) : FnOk P w K mg base CX0 1 f fd ["flag", "pairs"] (spRw K) := by
  refine F.ok scRw (fun vs H Q E h => ?_) (fun cdv A outer s H vs Q E hr h => ?_)
  · obtain ⟨f, q, xs, ps, rfl, _⟩ := h
    rfl
  · obtain ⟨z, q, xs, ps, rfl, hq, hp, hl, k⟩ := h
    refine ⟨_, pss_cons (ps_set (i := 2) scRw.nd rfl (.inl rfl) (pe_lst (pa_cons (pv 0) (pa_cons pe_str pa_nil))))
      (pss_cons (ps_for PassesOwn.never rfl (pi_enumT (by rfl) I.enum (pa_cons (pv 1) pa_nil)) (pg_tup rfl (pgs_cons (pg_name (i := 3) scRw.nd rfl (.inl rfl)) (pgs_cons (pg_tup rfl (pgs_cons (pg_name (i := 4) scRw.nd rfl (.inl rfl)) (pgs_cons (pg_name (i := 5) scRw.nd rfl (.inl rfl)) pgs_nil))) pgs_nil)))
        (pss_cons (ps_if (pt_cmpR op_gt (pv 3) pe_int (nomark _)) (pss_one (ps_expr (pe_bm PySem.F.plainAttrs_list PySem.F.slot_list_append PySem.F.type_list_append mt_append (pv 2) (pa_cons pe_str pa_nil)))) pss_nil)
        (pss_one (ps_expr (pe_bm PySem.F.plainAttrs_list PySem.F.slot_list_extend PySem.F.type_list_extend mt_extend (pv 2) (pa_cons (pe_lst (pa_cons (pv 4) (pa_cons (pv 5) pa_nil))) pa_nil))))))
      (pss_one (ps_ret (pv 2)))), ?_⟩
    have len := hp.len
    refine q_asgL (el_lst (ea_cons (ev_var rfl) (ea_cons ev_c ea_nil)) (by show 2 ≤ 100000; decide)) fun l H1 hl0 e1 h1 => ?_
    refine q_forE (K := K) (a := q) (xs := xs) (ea_cons (ev_var rfl) ea_nil) (ex_t e1 hq) (fun i σ' H' => (∃ x1 x2 x3 : Option V, σ' = [some (.str z), some (.ref q), some (.ref l), x1, x2, x3]) ∧ Ex H H' ∧ H' l = some (.lst ((rw_ z (ps.take i)).map V.str))) (fun H2 e2 => ⟨⟨none, none, none, rfl⟩, e1.trans e2, e2 _ _ h1⟩) (fun _ _ H' _ q' => ex_t q'.2.1 hq) ?_ ?_
    · rintro i x σ' H2 T2 hx ⟨⟨x1, x2, x3, rfl⟩, e2, h2⟩ hT
      obtain ⟨t, p, rfl, hpi, ht⟩ := hp.at hx
      have e3 := e2.trans (Ex.new (o := .tup [.int (i : Nat), .ref t]) hT)
      have h3 : (upd H2 T2 (.tup [.int (i : Nat), .ref t])) l = some (.lst ((rw_ z (ps.take i)).map V.str)) := (Ex.new hT) _ _ h2
      refine ⟨T2, [.int (i : Nat), .ref t], rfl, st_of upd_same, rfl, _, _, rfl, _, _, rfl, t, _, rfl, st_of (e3 _ _ ht), rfl, _, _, rfl, _, _, rfl, rfl, rfl, ?_⟩
      have lt := (List.getElem?_eq_some_iff.mp hpi).1
      have snoc : ps.take (i + 1) = ps.take i ++ [p] := by rw [List.take_add_one, hpi]; rfl
      have short : ((rw_ z (ps.take i)).map V.str).length ≤ 5000 := by
        rw [List.length_map, rw_len, pw_size, List.length_take]
        omega
      have he : ∀ {H4 : Hp}, EvL (tLst (tCons (tVar 4) (tCons (tVar 5) tNil))) [some (.str z), some (.ref q), some (.ref l), some (.int (i : Nat)), some (.str p.1), some (.str p.2)] H4 [.str p.1, .str p.2] := el_lst (ea_cons (ev_var rfl) (ea_cons (ev_var rfl) ea_nil)) (by show 2 ≤ 100000; decide)
      have fin : ∀ {H5 : Hp} {xs4 : List V}, Ex H H5 → xs4 ++ [V.str p.1, V.str p.2] = (rw_ z (ps.take (i + 1))).map V.str → (∃ y1 y2 y3 : Option V, [some (.str z), some (.ref q), some (.ref l), some (.int (i : Nat)), some (.str p.1), some (.str p.2)] = [some (.str z), some (.ref q), some (.ref l), y1, y2, y3]) ∧ Ex H (upd H5 l (.lst (xs4 ++ [V.str p.1, V.str p.2]))) ∧ (upd H5 l (.lst (xs4 ++ [V.str p.1, V.str p.2]))) l = some (.lst ((rw_ z (ps.take (i + 1))).map V.str)) := fun e q => ⟨⟨_, _, _, rfl⟩, Ex.mut e hl0, by rw [upd_same, q]⟩
      refine q_when (et_test (ev_op (ev_var rfl) ev_c rv_I0)) (fun hb H4 e4 => ?_) (fun hb H4 e4 => ?_)
      · have i0 : (i : Int) > 0 := of_decide_eq_true hb
        refine s_app (e4 _ _ h3) (ev_var rfl) ev_c (by omega) fun H5 e5 => ?_
        have e6 : Ex H (upd H5 l (.lst ((rw_ z (ps.take i)).map V.str ++ [V.str ","]))) := Ex.mut ((e3.trans e4).trans e5) hl0
        refine s_ext upd_same (ev_var rfl) he (by rw [List.length_append]; show _ + 1 + 2 ≤ _; omega) fun r H6 hr e7 _ => fin (e6.trans e7) ?_
        rw [snoc]
        unfold rw_
        rw [pw_snoc, if_neg (fun e => by
          have := congrArg List.length e
          rw [List.length_take] at this
          simp only [List.length_nil] at this
          omega)]
        simp
      · have i0 : ¬ (i : Int) > 0 := of_decide_eq_false hb
        obtain rfl : i = 0 := by omega
        refine s_ext (e4 _ _ h3) (ev_var rfl) he (by show _ + 2 ≤ _; omega) fun r H6 hr e7 _ => fin ((e3.trans e4).trans e7) ?_
        rw [snoc]
        unfold rw_
        rw [pw_snoc, if_pos List.take_zero, List.take_zero]
        rfl
    · rintro σ' H2 ⟨⟨x1, x2, x3, rfl⟩, e2, h2⟩
      rw [List.take_of_length_le (by omega)] at h2
      exact s_ret (v := .ref l) (ev_var rfl) fun H3 e3 => k l H3 hl0 (e2.trans e3) (e3 _ _ h2)
/-! ### FrameRule.__eq__ -/
structure FIsi (K : PySem.W.Frag) (C : Addr) : Prop where
  ca : PySem.W.findIn K (.ref C) "__class__" = some (some (.builtin "object.__class__"))
  cn : PySem.W.specialIn K (.builtin "object.__class__") "__get__" = some (some (.builtin "getset_descriptor.__get__"))
  ct : PySem.W.takesIn K (.builtin "object.__class__") = some true
  cm : PySem.W.mroIn K C (.type "object") = some true
  own : PySem.W.kitOne K (.ref C) (.ref C) = some true
theorem ru_ty {K : PySem.W.Frag} {C : Addr} {H : Hp} {o : Addr} {f : Str} {ps : List Pr} (G : FCls K C) (I : FIsi K C) (h : RuleAt K C H o f ps) : TyX K H (.ref o) (.ref C) := by
  obtain ⟨dx, q, vs, h1, _⟩ := h
  exact .base (.ins h1 G.cls I.ca I.cn I.ct I.cm)
def spEq (K : PySem.W.Frag) (C : Addr) : Sp := fun vs H Q _ => ∃ (o : Addr) (f : Str) (ps : List Pr), RuleAt K C H o f ps ∧
  ((∃ (u : Addr) (g : Str) (qs : List Pr), vs = [.ref o, .ref u] ∧ RuleAt K C H u g qs ∧ RetV (.bl (decide (f = g) && decide (ps = qs))) H Q) ∨ ∃ (x : V) (T : String), vs = [.ref o, x] ∧ TyX K H x (.type T) ∧ PySem.W.kitOne K (.type T) (.ref C) = some false ∧ RetV (.bl false) H Q)
theorem scEq : FnScope ["self", "other"] ["self", "other"] (defScope (sFr 8)) := ⟨rfl, rfl, rfl, by decide +kernel, rfl, by decide +kernel, by decide +kernel⟩
/-! pairs as data -/
def pd (p : Pr) : PyData := .tuple [.str p.1, .str p.2]
theorem dp_prs {K : PySem.W.Frag} {H : Hp} : ∀ {vs : List V} {ps : List Pr}, Prs H vs ps → DpAll K H vs (ps.map pd)
  | [], [], _ => .nil
  | [], _ :: _, h => by cases h
  | _ :: _, [], h => by cases h
  | v :: vs, p :: ps, h => by
    have h' : ctn H v :: vs.map (ctn H) = some p :: ps.map some := h
    obtain ⟨h1, h2⟩ := List.cons.inj h'
    obtain ⟨t, rfl, ht⟩ := ctn_iff.mp h1
    exact .cons (.tup (st_of ht) (.cons (.str _) (.cons (.str _) .nil))) (dp_prs h2)
theorem pd_eqv (p q : Pr) : PyData.eqv (pd p) (pd q) = decide (p = q) := by
  obtain ⟨a, b⟩ := p
  obtain ⟨c, d⟩ := q
  simp only [pd, PyData.eqv, PyData.eqvAll, Bool.and_true]
  rw [Bool.eq_iff_iff, Bool.and_eq_true, beq_iff_eq, beq_iff_eq, decide_eq_true_iff, Prod.mk.injEq]
theorem sgB_low {z : Str} {lo hi : Int} (h : sgB z lo hi = true) : Low 0 (.str z) := low_str (sg_ok (sgB_iff.mp h).1)
theorem pd_low {p : Pr} (h : PairOk p) : Low 1 (pd p) := low_tup fun d hd => by
  rcases List.mem_cons.mp hd with rfl | hd
  · exact sgB_low h.1
  · rcases List.mem_cons.mp hd with rfl | hd
    · exact sgB_low h.2
    · cases hd
theorem prs_shaped {ps : List Pr} (h : ∀ p ∈ ps, PairOk p) : SeqAt.shaped (.tuple (ps.map pd)) = true := low_shaped (low_tup (n := 1) fun d hd => by
  obtain ⟨p, hp, rfl⟩ := List.mem_map.mp hd
  exact pd_low (h p hp)) (by decide)
theorem prs_eqv (ps qs : List Pr) : PyData.eqv (.tuple (ps.map pd)) (.tuple (qs.map pd)) = decide (ps = qs) := by
  simp only [PyData.eqv]
  exact eqvAll_map pd pd_eqv ps qs
theorem ed_pairs {K : PySem.W.Frag} {C : Addr} {σ : L2.St} {H : Hp} {ta : TE} {o : Addr} {f : Str} {ps : List Pr} (G : FCls K C) (ha : Ev ta σ H (.ref o)) (h : RuleAt K C H o f ps) : EvD K (tFld K ta "pairs") σ H (.tuple (ps.map pd)) := by
  obtain ⟨dx, q, vs, h1, h2, h3, _⟩ := h
  exact ed_of (ev_fld ha h1 G.cls G.pairs rfl) fun H1 e => .tup (ex_t e h2) (dp_prs (h3.mono e))
theorem ev_flag {K : PySem.W.Frag} {C : Addr} {σ : L2.St} {H : Hp} {ta : TE} {o : Addr} {f : Str} {ps : List Pr} (G : FCls K C) (ha : Ev ta σ H (.ref o)) (h : RuleAt K C H o f ps) : Ev (tFld K ta "flag") σ H (.str f) := by
  obtain ⟨dx, q, vs, h1, h2, h3, _⟩ := h
  exact ev_fld ha h1 G.cls G.flag rfl
theorem ev_isF {K : PySem.W.Frag} {C : Addr} {σ : L2.St} {H : Hp} {ta : TE} {o : Addr} {f : Str} {ps : List Pr} (G : FCls K C) (R : FIsi K C) (ha : Ev ta σ H (.ref o)) (h : RuleAt K C H o f ps) : Ev (tCB (rIsi K) (tCons ta (tCons (tC (.ref C)) tNil))) σ H (.bl true) :=
  ev_cb (ea_cons ha (ea_cons ev_c ea_nil)) fun H1 e _ q => ⟨.ref o, .ref C, .ref C, .ref C, true, rfl, .own C, tyx_mono e (ru_ty G R h), R.own, q H1 (Ex.refl H1)⟩
theorem ok_Eq {C f : Addr} {mc : Value} {fd : FuncData} (F : Fun K "__eq__" "FrameRule.__eq__" (sFr 8) f fd) (N : FName K mg C mc) (G : FCls K C) (R : FIsi K C) (inst : mg "isinstance" = none) : FnOk P w K mg base CX0 1 f fd ["self", "other"] (spEq K C) := by
  refine F.ok scEq (fun vs H Q E h => ?_) (fun cdv A outer s H vs Q E hr h => ?_)
  · rcases h with ⟨o, f, ps, _, ⟨u, g, qs, rfl, _⟩ | ⟨x, T, rfl, _⟩⟩ <;> rfl
  · obtain ⟨o, f', ps, hO, h⟩ := h
    rcases h with ⟨u, g, qs, rfl, hU, k⟩ | ⟨x, T, rfl, ht, hk, k⟩
    all_goals refine ⟨_, pss_one (ps_ret (pe_and (pe_callB call_isi (by rfl) inst (by decide +kernel) (pa_cons (pv 1) (pa_cons (pe_glob (v := .ref C) rfl N.g rfl) pa_nil)))
      (pe_and (pe_cmpR op_eq (pe_fld (pv 0) rfl) (pe_fld (pv 1) rfl) (nomark _)) (pe_one (pe_cmpR (op_eqD hr.units) (pe_fld (pv 0) rfl) (pe_fld (pv 1) rfl) (nomark _)))))), ?_⟩
    · refine s_ret (ev_is (ev_andV (ev_isF G R (ev_var rfl) hU) fun _ => ev_andV (ev_op (ev_flag G (ev_var rfl) hO) (ev_flag G (ev_var rfl) hU) (rv_eq rfl)) fun _ => ev_eqD (ed_pairs G (ev_var rfl) hO) (ed_pairs G (ev_var rfl) hU) (prs_shaped hO.good.ok) (prs_shaped hU.good.ok)) ?_) k
      rw [prs_eqv, dec_str, Bool.true_and]
    · exact s_ret (ev_is (ev_andV (b := true) (a := false) (ev_cb (ea_cons (ev_var rfl) (ea_cons ev_c ea_nil)) fun H1 e _ q => ⟨x, .ref C, .type T, .ref C, false, rfl, .own C, tyx_mono e ht, hk, q H1 (Ex.refl H1)⟩) fun hb => absurd hb (by decide)) rfl) k
end
end K10
namespace K10
open PySem L2 Evl Gr StX EnT ClX ClK RdX SrtT StS
theorem sum_most {b : Nat} : ∀ {l : List Nat}, (∀ n ∈ l, n ≤ b) → l.sum ≤ b * l.length
  | [], _ => by simp
  | a :: l, h => by
    have h1 := h a List.mem_cons_self
    have h2 := sum_most fun n hn => h n (List.mem_cons_of_mem _ hn)
    rw [List.sum_cons, List.length_cons, Nat.mul_add]
    omega
theorem wsum_most {b : Nat} {ws : List Str} (h : ∀ z ∈ ws, z.length ≤ b) : wsum ws ≤ b * ws.length := by
  unfold wsum
  have := sum_most (l := ws.map (·.length)) (b := b) fun n hn => by
    obtain ⟨z, hz, rfl⟩ := List.mem_map.mp hn
    exact h z hz
  rwa [List.length_map] at this
theorem good_size {f : Str} {ps : List Pr} (g : Good f ps) : wsum (rw_ f ps) ≤ 104 ∧ (rw_ f ps).length ≤ 13 := by
  have h1 := wsum_most (good_short g)
  have h2 : (rw_ f ps).length ≤ 13 := by
    rw [rw_len, pw_size]
    have := g.many
    omega
  omega
theorem good_tx {f : Str} {ps : List Pr} (g : Good f ps) : (tx (rw_ f ps)).length ≤ 117 := by
  have := good_size g
  have := tx_len (rw_ f ps)
  omega
abbrev rJoin (K : PySem.W.Frag) : V → List V → Hp → VK → Prop := fun x xs H Q => ∃ a p, ∃ ys : List Str, x = .str a ∧ xs = [.ref p] ∧ (SqL K H p (ys.map V.str) ∨ SqT K H p (ys.map V.str)) ∧ (ys.map (·.length)).sum + ys.length * a.length ≤ 16777216 ∧ Q (.str (Txt.join a ys)) H
section
variable {K : PySem.W.Frag} {C CR CM CB : Addr} {σ : L2.St} {H : Hp} {ta tb te : TE}
theorem ev_joinL {a : Str} {ys : List Str} (h : Ev ta σ H (.str a)) (he : EvL te σ H (ys.map V.str)) (hz : (ys.map (·.length)).sum + ys.length * a.length ≤ 16777216) : Ev (tM1 (rJoin K) ta te) σ H (.str (Txt.join a ys)) := fun H1 e Q q =>
  h H1 e _ fun H2 e2 => ⟨⟨a, rfl⟩, he H2 (e.trans e2) _ fun p H3 hp e3 h3 => ⟨a, p, ys, rfl, rfl, .inl (sq_of h3), hz, q H3 (e2.trans e3)⟩⟩
theorem ev_addS {a b : Str} (ha : Ev ta σ H (.str a)) (hb : Ev tb σ H (.str b)) (hz : a.length + b.length ≤ 100000) : Ev (tOp (fun x y H Q => ∃ i j, x = .str i ∧ y = .str j ∧ i.length + j.length ≤ sizeLine ∧ Q (.str (i ++ j)) H) ta tb) σ H (.str (a ++ b)) := ev_op ha hb fun H1 e Q q => ⟨a, b, rfl, rfl, sz_of hz, q H1 (Ex.refl H1)⟩
theorem ev_lenSq {p : Addr} {xs : List V} (h : Ev ta σ H (.ref p)) (hs : SqL K H p xs) : Ev (tCB (rLenQ K) (tCons ta tNil)) σ H (.int (xs.length : Int)) := fun H1 e Q q => h H1 e _ fun H2 e2 => ⟨p, xs, rfl, .inl (ex_l (e.trans e2) hs), q H2 e2⟩
end
def flip1 (p : Str) : Str := if p = "0" then "1" else "0"
section
variable {P : Program} {w : World} {K : PySem.W.Frag} {mg : Str → Option Value} {base : Heap}
/-! ### FrameRule.__str__ -/
def spStr (K : PySem.W.Frag) (C : Addr) : Sp := fun vs H Q _ => ∃ (o : Addr) (f : Str) (ps : List Pr), vs = [.ref o] ∧ RuleAt K C H o f ps ∧ RetV (.str (tx (rw_ f ps))) H Q
theorem scStr : FnScope ["self"] ["self"] (defScope (sFr 9)) := ⟨rfl, rfl, rfl, by decide +kernel, rfl, by decide +kernel, by decide +kernel⟩
theorem ok_Str {C f : Addr} {fd : FuncData} (F : Fun K "__str__" "FrameRule.__str__" (sFr 9) f fd) (G : FCls K C) (GR : Gfn P w K mg base 1 "rule_words" ["flag", "pairs"] (spRw K)) : FnOk P w K mg base CX0 2 f fd ["self"] (spStr K C) := by
  obtain ⟨fR, fdR, GR, kR, bR, gR⟩ := GR
  refine F.ok scStr (fun vs H Q E h => ?_) (fun cdv A outer s H vs Q E hr h => ?_)
  · obtain ⟨o, f, ps, rfl, _⟩ := h
    rfl
  · obtain ⟨o, f', ps, rfl, hO, k⟩ := h
    refine ⟨_, pss_one (ps_ret (pe_join pe_str (pe_call GR hr (by rfl) gR kR bR .nil pass0 (pa_cons (pe_fld (pv 0) rfl) (pa_cons (pe_fld (pv 0) rfl) pa_nil))))), ?_⟩
    have g := hO.good
    have sz := good_size g
    refine s_ret (ev_joinL ev_c ?_ ?_) k
    · have fl := ev_flag (σ := [some (.ref o)]) (ta := tVar 0) G (ev_var rfl) hO
      obtain ⟨dx, q, vs, h1, h2, h3, _⟩ := id hO
      have hl := g.many
      exact el_call (ea_cons fl (ea_cons (ev_fld (ev_var rfl) h1 G.cls G.pairs rfl) ea_nil)) fun H1 e Q1 q1 E1 => ⟨f', q, vs, ps, rfl, ex_t e h2, h3.mono e, by omega, q1⟩
    · have : ((rw_ f' ps).map (·.length)).sum ≤ 104 := sz.1
      have l1 : (" " : Str).length = 1 := by decide +kernel
      rw [l1]
      omega
end
end K10
namespace K10
open PySem L2 Evl Gr StX EnT ClX ClK RdX SrtT StS
theorem Prs.updL {H : Hp} {vs xs : List V} {ps : List Pr} {l : Addr} {u : HO} (h : Prs H vs ps) (hl : H l = some (.lst xs)) : Prs (L2.upd H l u) vs ps := h.to fun t p q => by
  rw [upd_ne (fun z => by rw [z, hl] at q; cases q)]
  exact q
theorem prs_snoc {H : Hp} {vs : List V} {ps : List Pr} {t : Addr} {p : Pr} (h : Prs H vs ps) (ht : H t = some (.tup [.str p.1, .str p.2])) : Prs H (vs ++ [.ref t]) (ps ++ [p]) := by
  unfold Prs at *
  rw [List.map_append, List.map_append, h, List.map_cons, List.map_nil, ctn_iff.mpr ⟨t, rfl, ht⟩]
  rfl
/-- gives a pair of texts -/
def EvPr (te : TE) (σ : L2.St) (H : Hp) (p : Pr) : Prop := ∀ H1, Ex H H1 → ∀ Q : VK, (∀ t H2, Ex H1 H2 → H2 t = some (.tup [.str p.1, .str p.2]) → Q (.ref t) H2) → te σ H1 Q
section
variable {K : PySem.W.Frag} {σ : L2.St} {H : Hp} {ta : TA} {te tb : TE}
theorem ep_tup {p : Pr} (h1 : Ev te σ H (.str p.1)) (h2 : Ev tb σ H (.str p.2)) : EvPr (tTup (tCons te (tCons tb tNil))) σ H p := fun H1 e Q q =>
  h1 H1 e _ fun H2 e2 => h2 H2 (e.trans e2) _ fun H3 e3 => ⟨by show 2 ≤ sizeLine; decide, fun t ht => q t _ ((e2.trans e3).trans (Ex.new ht)) upd_same⟩
theorem lp_turn {H1 H' : Hp} {Dl : Addr} {σ2 : L2.St} {g : Nat → Pr} {i : Nat} (hD : H1 Dl = none) (p : ∃ xs, H' Dl = some (.lst xs) ∧ Prs H' xs ((List.range i).map g) ∧ Ex H1 H') (hi : i < 900) (he : EvPr te σ2 H1 (g i)) :
    te σ2 H' fun y H4 => ∃ acc, H4 Dl = some (.lst acc) ∧ acc.length < sizeLine ∧ ∃ xs, (upd H4 Dl (.lst (acc ++ [y]))) Dl = some (.lst xs) ∧ Prs (upd H4 Dl (.lst (acc ++ [y]))) xs ((List.range (i + 1)).map g) ∧ Ex H1 (upd H4 Dl (.lst (acc ++ [y]))) := by
  obtain ⟨xs, h1, h2, h3⟩ := p
  refine he H' h3 _ fun t H2 e2 ht => ⟨xs, e2 _ _ h1, ?_, xs ++ [.ref t], upd_same, ?_, Ex.mut (h3.trans e2) hD⟩
  · have := h2.len
    rw [List.length_map, List.length_range] at this
    exact sz_lt (by omega)
  · rw [List.range_succ, List.map_append]
    exact (prs_snoc (h2.mono e2) ht).updL (e2 _ _ h1)
/-- [a pair for k in range(lo, hi, c)] -/
theorem s_pairs3 {j : Nat} {vs : List Nat} {lo hi c : Int} {n : Nat} {Q : VK} (g : Nat → Pr) (h : EvA ta σ H [.int lo, .int hi, .int c]) (hr : RgC lo hi c n) (hn : n ≤ 900) (hw : ∀ x, wipe ((wipe σ vs).set j (some x)) vs = wipe σ vs)
    (he : ∀ k, k < n → ∀ H1, Ex H H1 → EvPr te ((wipe σ vs).set j (some (.int (lo + (k : Nat) * c)))) H1 (g k)) (q : ∀ p xs H', H p = none → Ex H H' → H' p = some (.lst xs) → Prs H' xs ((List.range n).map g) → Q (.ref p) H') :
    tLc (iRng3 ta) (gName j) (fun σ H Q => Q true H) te vs σ H Q := h H (Ex.refl H) _ fun H1 e1 => ⟨lo, hi, c, n, rfl, hr, fun Dl hD => lc_it (n := n) (walk_rangeC (lo := lo) (c := c)) (g := gName j) (tt := fun σ H Q => Q true H) (te := te) (vs := vs) (σ := σ) (fun i H' => ∃ xs, H' Dl = some (.lst xs) ∧ Prs H' xs ((List.range i).map g) ∧ Ex H1 H')
      ⟨[], upd_same, prs_nil, Ex.new hD⟩ (fun _ _ _ _ => trivial)
      (fun k x H' H'' hk p y => by
        obtain ⟨rfl, rfl⟩ := y
        exact ⟨hw _, lp_turn hD p (by omega) (he k hk H1 e1)⟩)
      (fun H' ⟨xs, h1, h2, h3⟩ => q Dl xs H' (fresh_back e1 hD) (e1.trans h3) h1 h2)⟩
end
section
variable {P : Program} {w : World} {K : PySem.W.Frag} {mg : Str → Option Value} {base : Heap}
/-! ### FrameRule.read -/
abbrev nRead : List Str := ["cls", "text", "words", "at", "pairs"]
def spRead (K : PySem.W.Frag) (C CB : Addr) : Sp := fun vs H Q E => (∃ ws d, vs = [.ref C, .str (tx ws)] ∧ ws ≠ [] ∧ Free ws ∧ (tx ws).length ≤ 1000 ∧ (∀ z ∈ ws, z.length ≤ 1000) ∧ ws.length ≤ 1000 ∧ Due ws d ∧
    (∀ i, d = some i → BadT CB (i : Int) H E) ∧ (d = none → RetRu K C (gw ws 0) (pairsOf ws) H Q)) ∨
  ∃ (x : V) (T : String), vs = [.ref C, x] ∧ TyX K H x (.type T) ∧ kitB T "str" = some false ∧ BadT CB 0 H E
theorem scRead : FnScope nRead ["cls", "text"] (defScope (sFr 10)) := ⟨rfl, rfl, rfl, by decide +kernel, rfl, by decide +kernel, by decide +kernel⟩
theorem ok_Read {C CR CM CB f fI fB : Addr} {mc : Value} {fd fdB : FuncData} (F : Fun K "read" "FrameRule.read" (sFr 10) f fd) (T : GlbT mg) (S : GlbS mg) (M : Mk K C fI) (FI : FnR P w K mg base (L2.CX P w) 4 fI (spInitA K C CR CM))
    (B : GTwo P w K mg base "BadText" "line" "word" CB fB fdB) {fW : Addr} {fdW : FuncData} (GW : FnOk P w K mg base (L2.CX P w) 3 fW fdW ["text"] (spWo K CB)) (kW : PySem.W.keepIn K (.ref fW) = true) (bW : Binds K fdW ["text"] []) (gW : mg "words_of" = some (.ref fW))
    (GC : Gfn P w K mg base 3 "can_stand" ["words", "at"] (spCan K)) : FnOk P w K mg base (L2.CX P w) 6 f fd ["cls", "text"] (spRead K C CB) := by
  obtain ⟨fC, fdC, GC, kC, bC, gC⟩ := GC
  refine F.okX scRead (fun vs H Q E h => ?_) (fun cdv A outer s H vs Q E hr h => ?_)
  · rcases h with ⟨ws, d, rfl, _⟩ | ⟨x, t, rfl, _⟩ <;> rfl
  · have r3 := hr.mono (show 3 ≤ 5 by decide)
    have r2 := hr.mono (show 2 ≤ 5 by decide)
    rcases h with ⟨ws, d, rfl, hn, ok, hl, hz, hl2, due, kd, kn⟩ | ⟨x, t, rfl, ht, hk, k⟩
    all_goals refine ⟨_, pss_cons (ps_set (i := 2) scRead.nd rfl (.inr rfl) (pe_call (E := E) GW r3 (by rfl) gW kW bW .nil (passes_call (takes_of rfl rfl rfl rfl) fun _ _ _ _ z => z) (pa_cons (pv 1) pa_nil)))
      (pss_cons (ps_for (passes_of rfl) rfl (pi_range1 (by rfl) S.range (pa_cons (pe_callB call_len_seq (by rfl) T.len PySem.boot_len (pa_cons (pv 2) pa_nil)) pa_nil)) (pg_name (i := 3) scRead.nd rfl (.inl rfl))
        (pss_one (ps_if (pt_not (pt_val (pe_call GC r3 (by rfl) gC kC bC .nil pass0 (pa_cons (pv 2) (pa_cons (pv 3) pa_nil))))) (pss_one (ps_raise rfl (takes_of rfl rfl rfl rfl) (pmk_oex B.ox B.init B.ty B.ok r2 B.b .nil pass0 (by rfl) B.g (pa_cons pe_int (pa_cons (pv 3) pa_nil))))) pss_nil)))
      (pss_cons (ps_if (PW.pt (pw_or (pt_cmpR op_eq (pe_callB call_len_seq (by rfl) T.len PySem.boot_len (pa_cons (pv 2) pa_nil)) pe_int (nomark _)) (pw_or1 (PW.pt (pw_and (pt_cmpR op_gt (pe_callB call_len_seq (by rfl) T.len PySem.boot_len (pa_cons (pv 2) pa_nil)) pe_int (nomark _)) (pw_and1 (pt_cmpR op_ne (pe_op op_mod (pe_callB call_len_seq (by rfl) T.len PySem.boot_len (pa_cons (pv 2) pa_nil)) pe_int) pe_int (nomark _))))))))
        (pss_one (ps_raise rfl (takes_of rfl rfl rfl rfl) (pmk_oex B.ox B.init B.ty B.ok r2 B.b .nil pass0 (by rfl) B.g (pa_cons pe_int (pa_cons (pe_callB call_len_seq (by rfl) T.len PySem.boot_len (pa_cons (pv 2) pa_nil)) pa_nil))))) pss_nil)
      (pss_cons (ps_setLc (i := 4) (own := [("at", 3)]) (g := gName 3) rfl scRead.nd rfl (by rfl) (by rfl) (pi_range3 (by rfl) S.range (pa_cons pe_int (pa_cons (pe_callB call_len_seq (by rfl) T.len PySem.boot_len (pa_cons (pv 2) pa_nil)) (pa_cons pe_int pa_nil)))) (blkOk_by (own := [("at", 3)]) (N := nRead) (sc := defScope (sFr 10)) (by decide +kernel))
        (fun _ _ _ _ _ => pg_name (i := 3) scRead.nd rfl (Or.inl rfl)) (fun _ _ _ _ _ => pts_nil) (fun _ _ _ _ _ => pe_tup (pa_cons (pe_ix (show IxR _ (rIxL K) from ix_list) (pv 2) (pv 3) (fun _ _ => rfl)) (pa_cons (pe_ix (show IxR _ (rIxL K) from ix_list) (pv 2) (pe_op op_add (pv 3) pe_int) (fun _ _ => rfl)) pa_nil))))
      (pss_one (ps_ret (pe_makeL2 (i := 0) (E := E0) M FI hr rfl (.inl rfl) (passN rfl rfl) (pa_cons (pe_ix ix_list (pv 2) pe_int (fun _ _ => rfl)) (pa_star (pv 4) pa_nil)))))))), ?_⟩
    · refine q_call (ea_cons (ev_var rfl) ea_nil) fun H1 e1 => .inl ⟨ws, rfl, hn, ok, hl, fun p H2 hp e2 h2 => ?_⟩
      have E2 := e1.trans e2
      have sq : ∀ {H3 : Hp}, Ex H2 H3 → SqL K H3 p (ws.map V.str) := fun e => ex_l e (sq_of h2)
      have ln : ∀ {H3 : Hp} {x3 x4 : Option V}, Ex H2 H3 → Ev (tCB (rLenQ K) (tCons (tVar 2) tNil)) [some (.ref C), some (.str (tx ws)), some (.ref p), x3, x4] H3 (.int (ws.length : Int)) := fun e => ev_is (ev_lenSq (ev_var rfl) (sq e)) (by rw [List.length_map])
      refine q_forR1 (ea_cons (ln (Ex.refl H2)) ea_nil) (by omega) (fun i σ' H' => (∃ x3, σ' = [some (.ref C), some (.str (tx ws)), some (.ref p), x3, none]) ∧ Ex H2 H' ∧ ∀ j, j < i → standB ws j = true) (fun H3 e3 => ⟨⟨none, rfl⟩, e3, fun j hj => by omega⟩) ?_ ?_
      · rintro i σ' H3 hi ⟨⟨x3, rfl⟩, e3, all⟩
        have hi : i < ws.length := by omega
        refine s_if (et_not (et_B (ev_call (z := .bl (standB ws i)) (σ := [some (.ref C), some (.str (tx ws)), some (.ref p), some (.int (i : Int)), none]) (ea_cons (ev_var rfl) (ea_cons (ev_var rfl) ea_nil)) fun H4 e4 Q q E => ⟨p, ws, i, rfl, sq (e3.trans e4), hi, hl2, hz, q⟩))) (fun hb H4 e4 => ?_) (fun hb H4 e4 => ?_)
        · have st : standB ws i = false := by simpa using hb
          have dd : Due ws (some i) := ⟨fun j hj _ => all j hj, by omega, fun _ => st, fun z => by omega⟩
          exact raise_two (ea_cons ev_c (ea_cons (ev_var rfl) ea_nil)) ((kd i (due_one due dd)).mono ((E2.trans e3).trans e4))
        · have st : standB ws i = true := by simpa using hb
          refine ⟨⟨_, rfl⟩, e3.trans e4, fun j hj => ?_⟩
          by_cases c : j = i
          · rw [c]; exact st
          · exact all j (by omega)
      · rintro σ' H3 ⟨⟨x3, rfl⟩, e3, all⟩
        rw [Int.toNat_natCast] at all
        have odd : ∀ b : Bool, b = (decide ((ws.length : Int) = 1) || (decide ((ws.length : Int) > 2) && !decide ((ws.length : Int) % 3 = 1))) → (b = true ↔ Odd3 ws.length) := fun b hb => by
          rw [hb]
          unfold Odd3
          rw [Bool.or_eq_true, Bool.and_eq_true, decide_eq_true_iff, decide_eq_true_iff, Bool.not_eq_true', decide_eq_false_iff_not]
          omega
        refine q_when (et_or (et_test (ev_op (ln e3) ev_c (rv_eq rfl))) fun _ => et_and (et_test (ev_op (ln e3) ev_c rv_I0)) fun _ => et_test (ev_op (ev_op (ln e3) ev_c (rv_I (by decide))) ev_c (rv_ne rfl))) (fun hb H4 e4 => ?_) (fun hb H4 e4 => ?_)
        · rw [vint_inj, vint_inj] at hb
          have od := (odd _ rfl).mp hb
          have dd : Due ws (some ws.length) := ⟨fun j hj _ => all j hj, Nat.le_refl _, fun z => by omega, fun _ => od⟩
          exact raise_two (ea_cons ev_c (ea_cons (ln (e3.trans e4)) ea_nil)) ((kd _ (due_one due dd)).mono ((E2.trans e3).trans e4))
        · rw [vint_inj, vint_inj] at hb
          have od : ¬ Odd3 ws.length := fun z => by
            have := (odd _ rfl).mpr z
            rw [hb] at this
            cases this
          have dd : Due ws none := ⟨all, od⟩
          have k := kn (due_one due dd)
          obtain ⟨g, hw⟩ := due_none hn dd
          have l0 : 0 < ws.length := List.length_pos_iff.mpr hn
          have E4 := e3.trans e4
          have two : 2 ≤ ws.length := by
            unfold Odd3 at od
            omega
          have cnt : (((ws.length : Int) - 2 + 3 - 1) / 3).toNat = (ws.length - 1) / 3 := by
            unfold Odd3 at od
            omega
          refine q_asgR (s_pairs3 (j := 3) (vs := [3]) (lo := 2) (hi := (ws.length : Int)) (c := 3) (σ := [some (.ref C), some (.str (tx ws)), some (.ref p), x3, none]) (g := fun k => (gw ws (2 + 3 * k), gw ws (3 + 3 * k))) (ea_cons ev_c (ea_cons (ln E4) (ea_cons ev_c ea_nil))) (rgc_up (by decide) (by decide) (by decide) (by decide) (by omega) (by omega)) (by omega) (fun _ => rfl) (fun k hk H5 e5 => ?_) (fun l xs H5 hl5 e5 h5 hp5 => ?_))
          · refine ep_tup (ev_op (ev_var rfl) (ev_var rfl) (rv_ixL (sq (E4.trans e5)) ?_)) (ev_op (ev_var rfl) (ev_op (ev_var rfl) ev_c rv_I0) (rv_ixL (sq (E4.trans e5)) ?_))
            · rw [show (2 : Int) + (k : Nat) * 3 = ((2 + 3 * k : Nat) : Int) by omega]
              exact atI_ws (by omega)
            · rw [show (2 : Int) + (k : Nat) * 3 + 1 = ((3 + 3 * k : Nat) : Int) by omega]
              exact atI_ws (by unfold Odd3 at od; omega)
          · rw [cnt] at hp5
            have hp5 : Prs H5 xs (pairsOf ws) := hp5
            refine s_retR ⟨rfl, cons_i (ev_op (ev_var rfl) ev_c (rv_ixL (sq (E4.trans e5)) (atI_ws (i := 0) l0)) H5 (Ex.refl H5) _ fun H6 e6 => ⟨.ref l, rfl, l, xs, rfl, .inr (sq_of (e6 _ _ h5)), ?_⟩)⟩
            refine fun x dx hx hd hne => ?_
            rw [List.append_nil]
            have := g.many
            have := hp5.len
            exact init_told hx hd hne (by omega) (made_ok g (hp5.mono e6) (List.Perm.refl _) fun qs gq pm => by
              rw [good_one gq g pm]
              exact k.mono (((E2.trans E4).trans e5).trans e6))
    · exact q_call (ea_cons (ev_var rfl) ea_nil) fun H1 e1 => .inr ⟨x, t, rfl, tyx_mono e1 ht, hk, k.mono e1⟩
end
end K10
namespace K10
open PySem L2 Evl Gr StX EnT ClX ClK RdX SrtT StS
abbrev sRt : Stmt := top 44
/-! ### comprehensions over lists of pairs, over texts -/
section
variable {K : PySem.W.Frag} {σ : L2.St} {H : Hp} {te ta tl : TE} {t : TT}
theorem el_pairL {ps : List Pr} {xs : List V} {a : Addr} {i j : Nat} {vs : List Nat} (f : Pr → Bool) (g : Pr → V) (h : Ev tl σ H (.ref a)) (ha : SqL K H a xs) (hx : Prs H xs ps) (hz : ps.length ≤ 40000) (hw : ∀ x y, wipe (((wipe σ vs).set i (some x)).set j (some y)) vs = wipe σ vs)
    (ht : ∀ p ∈ ps, ∀ H1, Ex H H1 → EvT t (((wipe σ vs).set i (some (.str p.1))).set j (some (.str p.2))) H1 (f p)) (he : ∀ p ∈ ps, ∀ H1, Ex H H1 → f p = true → Ev te (((wipe σ vs).set i (some (.str p.1))).set j (some (.str p.2))) H1 (g p)) :
    EvL (tLc (iList K tl) (gTup K 2 (gCons (gName i) (gCons (gName j) gNil))) t te vs) σ H ((ps.filter f).map g) := by
  have len := hx.len
  have main : EvL (tLc (iList K tl) (gTup K 2 (gCons (gName i) (gCons (gName j) gNil))) t te vs) σ H (given xs.length (at_ ps f) (got ps g)) := fun H0 e Q q => h H0 e _ fun H1 e1 =>
    ⟨a, rfl, ⟨xs, ex_l (e.trans e1) ha⟩, fun Dl hD => lc_it (n := xs.length) (walk_list (xs := xs)) (g := gTup K 2 (gCons (gName i) (gCons (gName j) gNil))) (tt := t) (te := te) (vs := vs) (σ := σ) (Cw H1 (at_ ps f) (got ps g) Dl) ⟨hD, Ex.new hD, upd_same⟩ (fun _ H' _ p => ex_l ((e.trans e1).trans p.2.1) ha)
      (fun k x H' H'' hk p y => by
        obtain ⟨rfl, hx'⟩ := y
        obtain ⟨T, q, rfl, hq, hT⟩ := hx.at hx'
        have eT := (e.trans e1).trans p.2.1
        have hm := List.mem_of_getElem? hq
        refine ⟨T, _, rfl, st_of (eT _ _ hT), rfl, _, _, rfl, _, _, rfl, rfl, hw _ _, cw_turn p (by omega) ?_ fun hf => ?_⟩
        · rw [at_of hq]
          exact ht q hm H1 (e.trans e1)
        · rw [at_of hq] at hf
          rw [got_of hq]
          exact he q hm H1 (e.trans e1) hf)
      (fun H' p => q Dl H' (fresh_back e1 p.1) (e1.trans p.2.1) p.2.2)⟩
  rw [len, given_of] at main
  exact main
/-- a comprehension over a text -/
theorem el_lcS {z : Str} {tl : TE} {j : Nat} {vs : List Nat} (f : Nat → Bool) (v : Nat → V) (h : Ev tl σ H (.str z)) (hz : z.cps.size ≤ 40000) (hw : ∀ x, wipe ((wipe σ vs).set j (some x)) vs = wipe σ vs)
    (ht : ∀ (i c : Nat) H1, Ex H H1 → z.cps[i]? = some c → EvT t ((wipe σ vs).set j (some (.str ⟨#[c]⟩))) H1 (f i)) (he : ∀ (i c : Nat) H1, Ex H H1 → z.cps[i]? = some c → f i = true → Ev te ((wipe σ vs).set j (some (.str ⟨#[c]⟩))) H1 (v i)) :
    EvL (tLc (iStr tl) (gName j) t te vs) σ H (given z.cps.size f v) := fun H0 e Q q => h H0 e _ fun H1 e1 => ⟨z, rfl, fun Dl hD => lc_it (n := z.cps.size) (walk_str (z := z)) (g := gName j) (tt := t) (te := te) (vs := vs) (σ := σ) (Cw H1 f v Dl) ⟨hD, Ex.new hD, upd_same⟩ (fun _ _ _ _ => trivial)
      (fun i x H' H'' hi p y => by
        obtain ⟨rfl, c, hc, rfl⟩ := y
        exact ⟨hw _, cw_turn p (by omega) (ht i c H1 (e.trans e1) hc) fun hf => he i c H1 (e.trans e1) hc hf⟩)
      (fun H' p => q Dl H' (fresh_back e1 p.1) (e1.trans p.2.1) p.2.2)⟩
end
/-- the signs of z that stand not in oi -/
def offs (z : Str) : List Str := ((List.range z.cps.size).filter fun i => !decide (z.cps.toList.getD i 0 ∈ oi.cps.toList)).map fun i => ⟨#[z.cps.toList.getD i 0]⟩
theorem oi_list : oi.cps.toList = [48, 49] := by decide +kernel
theorem offs_nil (z : Str) : (offs z = []) ↔ Sg z = true := by
  unfold offs Sg
  rw [List.map_eq_nil_iff, List.filter_eq_nil_iff, List.all_eq_true, oi_list]
  constructor
  · intro h c hc
    obtain ⟨i, hi, e⟩ := List.mem_iff_getElem.mp hc
    have hi' : i < z.cps.size := hi
    have := h i (List.mem_range.mpr hi')
    rw [List.getD_eq_getElem?_getD, List.getElem?_eq_getElem hi'] at this
    have e : z.cps.toList[i] = c := e
    rw [Option.getD_some, e] at this
    have this : ¬ (c ≠ 48 ∧ c ≠ 49) := by simpa using this
    unfold isO
    rw [decide_eq_true_iff]
    omega
  · intro h i hi
    have hi : i < z.cps.size := List.mem_range.mp hi
    have := h z.cps.toList[i] (List.getElem_mem hi)
    rw [List.getD_eq_getElem?_getD, List.getElem?_eq_getElem hi, Option.getD_some]
    unfold isO at this
    rw [decide_eq_true_iff] at this
    have this : ¬ (z.cps.toList[i] ≠ 48 ∧ z.cps.toList[i] ≠ 49) := by omega
    simpa using this
theorem dps_strs {K : PySem.W.Frag} {H : Hp} : ∀ (ns : List Str), DpAll K H (ns.map V.str) (ns.map PyData.str)
  | [] => .nil
  | n :: ns => .cons (.str n) (dps_strs ns)
theorem eqv_nil (ds : List PyData) : PyData.eqv (.list ds) (.list []) = decide (ds = []) := by
  cases ds with
  | nil => simp [PyData.eqv, PyData.eqvAll]
  | cons d ds => simp [PyData.eqv, PyData.eqvAll]
theorem sh_strs {ns : List Str} (h : ∀ z ∈ ns, PyData.strOk z = true) : SeqAt.shaped (.list (ns.map PyData.str)) = true := low_shaped (low_list (n := 0) fun d hd => by
  obtain ⟨z, hz, rfl⟩ := List.mem_map.mp hd
  exact low_str (h z hz)) (by decide)
theorem strOk_one {z : Str} (h : PyData.strOk z = true) {c : Nat} (hc : c ∈ z.cps.toList) : PyData.strOk ⟨#[c]⟩ = true := by
  unfold PyData.strOk at *
  rw [← Array.all_toList, List.all_eq_true] at h
  simpa using h c hc
section
variable {P : Program} {w : World} {K : PySem.W.Frag} {mg : Str → Option Value} {base : Heap}
/-! ### _law_rule_text -/
abbrev nRt : List Str := ["_law_plan_here", "_law_told", "_law_watch", "_law_put_here"]
/-- a plan of this flag and these pairs stands at v -/
def PlanAt (H : Hp) (v : V) (f : Str) (ps : List Pr) : Prop := ∃ t l xs, v = .ref t ∧ H t = some (.tup [.str f, .ref l]) ∧ H l = some (.lst xs) ∧ Prs H xs ps
theorem PlanAt.mono {H H' : Hp} {v : V} {f : Str} {ps : List Pr} (e : Ex H H') (h : PlanAt H v f ps) : PlanAt H' v f ps := by
  obtain ⟨t, l, xs, h1, h2, h3, h4⟩ := h
  exact ⟨t, l, xs, h1, e _ _ h2, e _ _ h3, h4.mono e⟩
def spRt : Sp := fun vs H Q _ => ∃ (v : V) (f : Str) (ps : List Pr), vs = [v] ∧ PlanAt H v f ps ∧ Good f ps ∧ RetV (.str (tx (rw_ f ps))) H Q
theorem scRt : FnScope nRt ["_law_plan_here"] (defScope sRt) := ⟨rfl, rfl, rfl, by decide +kernel, rfl, by decide +kernel, by decide +kernel⟩
theorem ok_Rt {f : Addr} {fd : FuncData} (F : Fun K "_law_rule_text" "_law_rule_text" sRt f fd) : FnOk P w K mg base CX0 1 f fd ["_law_plan_here"] spRt := by
  refine F.ok scRt (fun vs H Q E h => ?_) (fun cdv A outer s H vs Q E hr h => ?_)
  · obtain ⟨v, f, ps, rfl, _⟩ := h
    rfl
  · obtain ⟨v, f', ps, rfl, hv, g, k⟩ := h
    refine ⟨_, pss_cons (ps_set (i := 1) scRt.nd rfl (.inl rfl) (pe_join pe_str (pe_lc (own := [("_law_watch", 2), ("_law_put_here", 3)]) (g := gTup K 2 (gCons (gName 2) (gCons (gName 3) gNil))) rfl scRt.nd (pi_list (pe_ix ix_tup (pv 0) pe_int (fun _ _ => rfl))) (blkOk_by (own := [("_law_watch", 2), ("_law_put_here", 3)]) (N := nRt) (sc := defScope sRt) (by decide +kernel))
        (fun _ _ _ _ _ => pg_tup rfl (pgs_cons (pg_name (i := 2) scRt.nd rfl (Or.inl rfl)) (pgs_cons (pg_name (i := 3) scRt.nd rfl (Or.inl rfl)) pgs_nil))) (fun _ _ _ _ _ => pts_nil) (fun _ _ _ _ _ => pe_op op_add_str (pe_op op_add_str (pv 2) pe_str) (pv 3)))))
      (pss_one (ps_ret (pe_op op_add_str (pe_op op_add_str (pe_ix ix_tup (pv 0) pe_int (fun _ _ => rfl)) pe_str) (pe_ifExp (pt_cmpR op_ne (pv 1) pe_str (nomark _)) (pe_op op_add_str pe_str (pv 1)) pe_str)))), ?_⟩
    obtain ⟨t, l, xs, rfl, ht, hl, hp⟩ := hv
    have fl := sgB_iff.mp g.flag
    have lens : ∀ p ∈ ps, p.1.length ≤ 8 ∧ p.2.length = 1 ∧ p.1.length ≠ 0 := fun p h => by
      have h1 := sgB_iff.mp (g.ok p h).1
      have h2 := sgB_iff.mp (g.ok p h).2
      omega
    have l1 : (" " : Str).length = 1 := by decide +kernel
    have lapp : ∀ a b : Str, (a ++ b).length = a.length + b.length := fun a b => by rw [TL.len_tl, TL.tl_append, List.length_append, ← TL.len_tl, ← TL.len_tl]
    have many := g.many
    have c := el_pairL (K := K) (σ := [some (.ref t), none, none, none]) (H := H) (t := fun σ H Q => Q true H) (te := tOp (fun x y H Q => ∃ i j, x = .str i ∧ y = .str j ∧ i.length + j.length ≤ sizeLine ∧ Q (.str (i ++ j)) H) (tOp (fun x y H Q => ∃ i j, x = .str i ∧ y = .str j ∧ i.length + j.length ≤ sizeLine ∧ Q (.str (i ++ j)) H) (tVar 2) (tC (.str " "))) (tVar 3))
      (tl := tOp (rIxT K) (tVar 0) (tC (.int 1))) (i := 2) (j := 3) (vs := [2, 3]) (a := l) (fun _ => true) (fun p => V.str (pairTx p)) (ev_op (ev_var rfl) ev_c (rv_ixT_ (st_of ht) (i := 1) rfl)) (sq_of hl) hp (by omega) (fun _ _ => rfl) (fun _ _ _ _ => et_none)
      (fun p hp H1 e _ => by
        have := lens p hp
        exact ev_addS (ev_addS (ev_var rfl) ev_c (by rw [l1]; omega)) (ev_var rfl) (by rw [lapp, l1]; omega))
    rw [List.filter_eq_self.mpr (fun _ _ => rfl)] at c
    have c2 := c
    rw [show (ps.map fun p => V.str (pairTx p)) = (ps.map pairTx).map V.str by rw [List.map_map]; rfl] at c2
    have psum : ((ps.map pairTx).map (·.length)).sum ≤ 10 * (ps.map pairTx).length := by
      have := sum_most (l := (ps.map pairTx).map (·.length)) (b := 10) fun n hn => by
        obtain ⟨z, hz, rfl⟩ := List.mem_map.mp hn
        obtain ⟨p, hp, rfl⟩ := List.mem_map.mp hz
        have := lens p hp
        unfold pairTx
        rw [lapp, lapp, l1]
        omega
      rwa [List.length_map (as := ps.map pairTx)] at this
    rw [List.length_map] at psum
    have l3 : (" , " : Str).length = 3 := by decide +kernel
    have told : Ev (tM1 (rJoin K) (tC (.str " , ")) (tLc (iList K (tOp (rIxT K) (tVar 0) (tC (.int 1)))) (gTup K 2 (gCons (gName 2) (gCons (gName 3) gNil))) (fun σ H Q => Q true H) (tOp (fun x y H Q => ∃ i j, x = .str i ∧ y = .str j ∧ i.length + j.length ≤ sizeLine ∧ Q (.str (i ++ j)) H) (tOp (fun x y H Q => ∃ i j, x = .str i ∧ y = .str j ∧ i.length + j.length ≤ sizeLine ∧ Q (.str (i ++ j)) H) (tVar 2) (tC (.str " "))) (tVar 3)) [2, 3])) [some (.ref t), none, none, none] H (.str (toldTx ps)) := ev_joinL ev_c c2 (by rw [l3, List.length_map]; omega)
    have tlen : (toldTx ps).length ≤ 100 := by
      have e := glue_len (TL.tl (" , " : Str)) ((ps.map pairTx).map TL.tl)
      rw [show TL.joinL (TL.tl (" , " : Str)) ((ps.map pairTx).map TL.tl) = TL.tl (toldTx ps) by unfold toldTx; rw [TL.join_eq, TL.tl_join], ← TL.len_tl, ← TL.len_tl, l3, List.length_map, List.length_map, List.map_map] at e
      have e2 : ((ps.map pairTx).map ((fun x : List Nat => x.length) ∘ TL.tl)) = (ps.map pairTx).map (·.length) := List.map_congr_left fun z _ => (TL.len_tl z).symm
      rw [e2] at e
      omega
    refine q_asg told fun H1 e1 => ?_
    have l2 : (" :" : Str).length = 2 := by decide +kernel
    refine s_ret (ev_is (ev_addS (b := if toldTx ps = mt then mt else " " ++ toldTx ps) (ev_addS (ev_op (ev_var rfl) ev_c (rv_ixT_ (st_of (e1 _ _ ht)) (i := 0) rfl)) ev_c (by rw [l2]; omega)) (ev_if (b := !decide (toldTx ps = mt)) (et_is (et_test (ev_op (ev_var rfl) ev_c (rv_ne rfl))) (by rw [dec_str])) (fun h => ?_) (fun h => ?_)) ?_) ?_) fun H2 e2 => k H2 (e1.trans e2)
    · rw [Bool.not_eq_true', decide_eq_false_iff_not] at h
      rw [if_neg h]
      exact ev_addS ev_c (ev_var rfl) (by rw [l1]; omega)
    · rw [Bool.not_eq_false', decide_eq_true_iff] at h
      rw [if_pos h]
      exact ev_c
    · have : (if toldTx ps = mt then mt else " " ++ toldTx ps).length ≤ 101 := by
        split
        · have : mt.length = 0 := by decide +kernel
          omega
        · rw [lapp, l1]
          omega
      rw [lapp, l2]
      omega
    · exact congrArg V.str (rule_tx (f := f') (ps := ps) fun p h => (lens p h).2.2)
theorem len_two {xs : List V} (h : xs.length = 2) : ∃ a b, xs = [a, b] := by
  match xs, h with
  | [a, b], _ => exact ⟨a, b, rfl⟩
theorem len_three {xs : List V} (h : xs.length = 3) : ∃ a b c, xs = [a, b, c] := by
  match xs, h with
  | [a, b, c], _ => exact ⟨a, b, c, rfl⟩
end
end K10
namespace K10
open PySem L2 Evl Gr StX EnT ClX ClK RdX SrtT StS
abbrev sSg : Stmt := top 43
def Bit (z : Str) : Prop := z = "0" ∨ z = "1"
theorem tl_bit {z : Str} (h : Bit z) : TL.tl z = [48] ∨ TL.tl z = [49] := by
  rcases h with rfl | rfl
  · exact .inl (by decide +kernel)
  · exact .inr (by decide +kernel)
theorem bit_ok {z : Str} (h : Bit z) : sgB z 1 1 = true := by
  rcases h with rfl | rfl <;> decide +kernel
theorem joinL_nil : ∀ (p : List Nat) (r : List (List Nat)), TL.joinL [] (p :: r) = p ++ TL.joinL [] r
  | p, [] => by simp [TL.joinL]
  | p, q :: r => by simp [TL.joinL]
theorem join_bits : ∀ {zs : List Str}, (∀ z ∈ zs, Bit z) → Sg (Txt.join mt zs) = true ∧ (Txt.join mt zs).length = zs.length := by
  have main : ∀ zs : List Str, (∀ z ∈ zs, Bit z) → (TL.joinL [] (zs.map TL.tl)).all isO = true ∧ (TL.joinL [] (zs.map TL.tl)).length = zs.length := fun zs => by
    induction zs with
    | nil => intro _; exact ⟨rfl, rfl⟩
    | cons z zs ih =>
      intro h
      obtain ⟨h1, h2⟩ := ih fun y hy => h y (List.mem_cons_of_mem _ hy)
      rw [List.map_cons, joinL_nil]
      rcases tl_bit (h z List.mem_cons_self) with e | e
      · rw [e]
        exact ⟨by rw [List.all_append, h1]; decide, by rw [List.length_append, h2, List.length_cons]; show 1 + zs.length = zs.length + 1; omega⟩
      · rw [e]
        exact ⟨by rw [List.all_append, h1]; decide, by rw [List.length_append, h2, List.length_cons]; show 1 + zs.length = zs.length + 1; omega⟩
  intro zs h
  obtain ⟨h1, h2⟩ := main zs h
  have e : TL.tl (Txt.join mt zs) = TL.joinL [] (zs.map TL.tl) := by
    rw [TL.join_eq, TL.tl_join]
    rw [show TL.tl mt = [] by decide +kernel]
  refine ⟨?_, ?_⟩
  · unfold Sg
    rw [e]
    exact h1
  · rw [TL.len_tl, e]
    exact h2
section
variable {P : Program} {w : World} {K : PySem.W.Frag} {mg : Str → Option Value} {base : Heap}
/-! ### _law_pick of a text -/
def spPickS : Sp := fun vs H Q _ => ∃ (p l : Addr) (cells : List Int) (m : Nat) (z : Str), vs = [.ref p, .str z] ∧ PenAt H p l cells m ∧ m ≤ 50000 ∧ cells.length ≤ 63 ∧ 0 < z.cps.size ∧ z.cps.size ≤ 1000 ∧
  ∀ c H', c ∈ z.cps.toList → PenAt H' p l cells (m + 1) → Keep p H H' → Q (.str ⟨#[c]⟩) H'
theorem ok_pickS {f fD : Addr} {fd fdD : FuncData} (F : Fun K "_law_pick" "_law_pick" sPick f fd) (T : Glb mg) (FD : Fun K "_law_draw" "_law_draw" sDraw fD fdD) (bD : Binds K fdD ["_law_pen_here", "_law_many"] []) (gD : mg "_law_draw" = some (.ref fD)) :
    FnOk P w K mg base CX0 2 f fd ["_law_pen_here", "_law_some"] spPickS := by
  have GD : FnOk P w K mg base CX0 1 fD fdD ["_law_pen_here", "_law_many"] spDraw := ok_draw FD T
  refine F.ok scPick (fun vs H Q E h => ?_) (fun cdv A outer s H vs Q E hr h => ?_)
  · obtain ⟨p, l, cells, m, z, rfl, _⟩ := h
    rfl
  · obtain ⟨p, l, cells, m, z, rfl, hp, hm, h63, hx0, hx1, k⟩ := h
    refine ⟨_, pss_one (ps_ret (pe_ix ix_str (pv 1) (pe_call GD hr (by rfl) gD FD.kp bD .nil pass0 (pa_cons (pv 0) (pa_cons (pe_callB call_len (by rfl) T.len PySem.boot_len (pa_cons (pv 1) pa_nil)) pa_nil))) (fun _ _ => rfl))), ?_⟩
    have hz : z.length = z.cps.size := rfl
    refine ⟨_, rfl, _, rfl, (ev_cb (σ := [some (.ref p), some (.str z)]) (ea_cons (ev_var (i := 1) rfl) ea_nil) (rc_lenS (K := K) (z := z) (by omega))) H (Ex.refl H) _ fun H1 e1 => ⟨p, l, cells, m, (z.length : Int), rfl, hp.mono e1 (Nat.le_refl m), hm, h63, by omega, by omega, fun d H' d0 d1 hp' kp => ?_⟩⟩
    obtain ⟨i, rfl⟩ := Int.eq_ofNat_of_zero_le d0
    have hi : i < z.cps.toList.length := by
      have : z.cps.toList.length = z.cps.size := rfl
      omega
    exact ⟨z, (i : Int), z.cps.toList[i], rfl, rfl, sz_of (n := z.length) (by omega), atI_nat (List.getElem?_eq_getElem hi), k _ H' (List.getElem_mem hi) hp' ((Keep.of_ex e1).trans kp)⟩
/-! ### _law_signs -/
abbrev nSg : List Str := ["_law_pen_here", "_law_many", "_law_turn"]
def spSg : Sp := fun vs H Q _ => ∃ (p l : Addr) (cells : List Int) (m n : Nat), vs = [.ref p, .int (n : Int)] ∧ PenAt H p l cells m ∧ m + 8 ≤ 50000 ∧ cells.length ≤ 63 ∧ n ≤ 8 ∧
  ∀ z H', Sg z = true → z.length = n → PenAt H' p l cells (m + 8) → Keep p H H' → Q (.str z) H'
theorem scSg : FnScope nSg ["_law_pen_here", "_law_many"] (defScope sSg) := ⟨rfl, rfl, rfl, by decide +kernel, rfl, by decide +kernel, by decide +kernel⟩
theorem ok_Sg {f : Addr} {fd : FuncData} (F : Fun K "_law_signs" "_law_signs" sSg f fd) (S : GlbS mg) (GP : Gfn P w K mg base 2 "_law_pick" ["_law_pen_here", "_law_some"] spPickS) : FnOk P w K mg base CX0 3 f fd ["_law_pen_here", "_law_many"] spSg := by
  obtain ⟨fP, fdP, GP, kP, bP, gP⟩ := GP
  refine F.ok scSg (fun vs H Q E h => ?_) (fun cdv A outer s H vs Q E hr h => ?_)
  · obtain ⟨p, l, cells, m, n, rfl, _⟩ := h
    rfl
  · obtain ⟨p, l, cells, m, n, rfl, hp, hm, h63, hn, k⟩ := h
    refine ⟨_, pss_one (ps_ret (pe_join pe_str (pe_lc (own := [("_law_turn", 2)]) (g := gName 2) rfl scSg.nd (pi_range1 (by rfl) S.range (pa_cons (pv 1) pa_nil)) (blkOk_by (own := [("_law_turn", 2)]) (N := nSg) (sc := defScope sSg) (by decide +kernel))
      (fun _ _ _ _ _ => pg_name (i := 2) scSg.nd rfl (Or.inl rfl)) (fun _ _ _ _ _ => pts_nil) (fun _ _ _ _ _ => pe_call GP hr (by rfl) gP kP bP .nil pass0 (pa_cons (pv 0) (pa_cons pe_str pa_nil)))))), ?_⟩
    refine s_retR ⟨⟨_, rfl⟩, ?_⟩
    refine ⟨_, rfl, (n : Int), rfl, by omega, by omega, fun Dl hD => ?_⟩
    have hDp : Dl ≠ p := fun z => by
      obtain ⟨_, _, q, _⟩ := hp
      rw [z, q] at hD
      cases hD
    have hDl : Dl ≠ l := fun z => by
      obtain ⟨_, _, _, q, _⟩ := hp
      rw [z, q] at hD
      cases hD
    refine lc_range (lo := 0) (n := (n : Int).toNat) (fun i H' => ∃ zs : List Str, H' Dl = some (.lst (zs.map V.str)) ∧ zs.length = i ∧ (∀ z ∈ zs, Bit z) ∧ PenAt H' p l cells (m + i) ∧ Keep p H H') ⟨[], upd_same, rfl, fun y hy => absurd hy (by simp), hp.upd' hDp hDl, (Keep.of_ex (Ex.refl H)).mut hD⟩ (fun i H' hi q => ⟨rfl, ?_⟩) (fun H' q => ?_)
    · obtain ⟨zs, hg, hlen, hb, hP3, k3⟩ := q
      rw [Int.toNat_natCast] at hi
      refine ⟨_, rfl, p, l, cells, m + i, oi, rfl, hP3, by omega, h63, by decide +kernel, by decide +kernel, fun c H4 hc hP4 k4 => ?_⟩
      have bit : Bit ⟨#[c]⟩ := by
        rw [oi_list] at hc
        rcases List.mem_cons.mp hc with rfl | hc
        · exact .inl (by decide +kernel)
        · rw [List.mem_singleton.mp hc]
          exact .inr (by decide +kernel)
      refine ⟨zs.map V.str, k4 _ _ hg hDp, sz_lt (by rw [List.length_map]; omega), zs ++ [⟨#[c]⟩], by rw [upd_same, List.map_append]; rfl, by rw [List.length_append, hlen]; rfl, fun y hy => ?_, (hP4.upd' hDp hDl).le (by omega), (k3.trans k4).mut hD⟩
      rcases List.mem_append.mp hy with z | z
      · exact hb y z
      · rw [List.mem_singleton.mp z]
        exact bit
    · obtain ⟨zs, hg, hlen, hb, hP3, k3⟩ := q
      rw [Int.toNat_natCast] at hlen hP3
      obtain ⟨j1, j2⟩ := join_bits hb
      have sz : (zs.map (·.length)).sum ≤ 1 * (zs.map (·.length)).length := sum_most fun x hx => by
        obtain ⟨z, hz, rfl⟩ := List.mem_map.mp hx
        rcases hb z hz with rfl | rfl <;> decide +kernel
      rw [List.length_map] at sz
      refine ⟨mt, Dl, zs, rfl, rfl, .inl (sq_of hg), ?_, k _ H' j1 (j2.trans hlen) (hP3.le (by omega)) k3⟩
      have : mt.length = 0 := by decide +kernel
      rw [this]
      omega
end
end K10
namespace K10
open PySem L2 Evl Gr StX EnT ClX ClK RdX SrtT StS
abbrev sPlan : Stmt := top 42
/-! ### plans -/
def plansA : List (Str × List Pr) := [("0111111", [("011111", "0")]), ("011", [("01", "0")]), ("0111", [("011", "0")]), ("100", [("10", "1")]), ("0011", [("001", "0")])]
def plansF : List (Str × List Pr) := [("011", [("0000000", "1"), ("01", "0")]), ("0111111", [("00000000", "1"), ("011111", "0")])]
def plansG : List (Str × List Pr) := [("0001", [("000", "1"), ("0111", "0")]), ("01111", [("00", "1"), ("0111", "0")])]
structure Plan (f : Str) (ps : List Pr) : Prop where
  good : Good f ps
  flag : f.length ≤ 7
  many : ps.length ≤ 3
def chk (q : Str × List Pr) : Bool := sgB q.1 2 8 && q.2.all (fun p => sgB p.1 1 8 && sgB p.2 1 1) && decide (q.2.length ≤ 3) && decide (q.1.length ≤ 7) && decide (q.2.Pairwise fun p q => ltB p.1 q.1 = true)
theorem chk_plan {q : Str × List Pr} (h : chk q = true) : Plan q.1 q.2 := by
  unfold chk at h
  simp only [Bool.and_eq_true, decide_eq_true_iff, List.all_eq_true] at h
  obtain ⟨⟨⟨⟨h1, h2⟩, h3⟩, h4⟩, h5⟩ := h
  exact ⟨⟨h1, h2, by omega, h5⟩, h4, h3⟩
theorem plans_ok : ∀ q ∈ plansA ++ (plansF ++ plansG), Plan q.1 q.2 := by
  have : (plansA ++ (plansF ++ plansG)).all chk = true := by decide +kernel
  exact fun q hq => chk_plan (List.all_eq_true.mp this q hq)
def Pls (H : Hp) (xs : List V) (Q : List (Str × List Pr)) : Prop := xs.length = Q.length ∧ ∀ (i : Nat) x q, xs[i]? = some x → Q[i]? = some q → PlanAt H x q.1 q.2
theorem Pls.mono {H H' : Hp} {xs : List V} {Q : List (Str × List Pr)} (e : Ex H H') (h : Pls H xs Q) : Pls H' xs Q := ⟨h.1, fun i x q a b => (h.2 i x q a b).mono e⟩
theorem Pls.app {H : Hp} {xs ys : List V} {Q R : List (Str × List Pr)} (h : Pls H xs Q) (h' : Pls H ys R) : Pls H (xs ++ ys) (Q ++ R) := by
  refine ⟨by rw [List.length_append, List.length_append, h.1, h'.1], fun i x q a b => ?_⟩
  rcases Nat.lt_or_ge i xs.length with z | z
  · rw [List.getElem?_append_left z] at a
    rw [List.getElem?_append_left (by rw [← h.1]; exact z)] at b
    exact h.2 i x q a b
  · rw [List.getElem?_append_right z] at a
    rw [List.getElem?_append_right (by rw [← h.1]; exact z), ← h.1] at b
    exact h'.2 _ x q a b
theorem Pls.at {H : Hp} {xs : List V} {Q : List (Str × List Pr)} (h : Pls H xs Q) {i : Nat} {x : V} (hx : xs[i]? = some x) : ∃ q ∈ Q, PlanAt H x q.1 q.2 := by
  have lt := (List.getElem?_eq_some_iff.mp hx).1
  rw [h.1] at lt
  exact ⟨Q[i], List.getElem_mem lt, h.2 i x _ hx (List.getElem?_eq_getElem lt)⟩
theorem PlanAt.keep {H H' : Hp} {v : V} {f : Str} {ps : List Pr} {p l : Addr} {cells : List Int} {m : Nat} (hP : PenAt H p l cells m) (kp : Keep p H H') (h : PlanAt H v f ps) : PlanAt H' v f ps := by
  obtain ⟨t, a, xs, h1, h2, h3, h4⟩ := h
  obtain ⟨k, r, hp, _⟩ := hP
  refine ⟨t, a, xs, h1, kp _ _ h2 fun z => ?_, kp _ _ h3 fun z => ?_, h4.to fun t p q => kp _ _ q fun z => ?_⟩
  · rw [z, hp] at h2
    cases h2
  · rw [z, hp] at h3
    have e := HO.lst.inj (Option.some.inj h3)
    subst e
    obtain ⟨t, q, e, _⟩ := h4.at (k := 1) (x := V.int k) rfl
    cases e
  · rw [z, hp] at q
    cases q
/-- gives a row of pairs; a plan; a row of plans -/
def EvPp (ta : TA) (σ : L2.St) (H : Hp) (ps : List Pr) : Prop := ∀ H1, Ex H H1 → ∀ Q : List V → Hp → Prop, (∀ xs H2, Ex H1 H2 → Prs H2 xs ps → Q xs H2) → ta σ H1 Q
def EvPl (te : TE) (σ : L2.St) (H : Hp) (f : Str) (ps : List Pr) : Prop := ∀ H1, Ex H H1 → ∀ Q : VK, (∀ v H2, Ex H1 H2 → PlanAt H2 v f ps → Q v H2) → te σ H1 Q
def EvPls (ta : TA) (σ : L2.St) (H : Hp) (R : List (Str × List Pr)) : Prop := ∀ H1, Ex H H1 → ∀ Q : List V → Hp → Prop, (∀ xs H2, Ex H1 H2 → Pls H2 xs R → Q xs H2) → ta σ H1 Q
section
variable {σ : L2.St} {H : Hp} {te tb : TE} {ta : TA} {f : Str} {ps : List Pr} {p : Pr} {R : List (Str × List Pr)}
theorem epp_nil : EvPp tNil σ H [] := fun H1 _ Q q => q [] H1 (Ex.refl H1) prs_nil
theorem epp_cons (h : EvPr te σ H p) (hr : EvPp ta σ H ps) : EvPp (tCons te ta) σ H (p :: ps) := fun H1 e Q q =>
  h H1 e _ fun t H2 e2 ht => hr H2 (e.trans e2) _ fun xs H3 e3 hx => q _ H3 (e2.trans e3) (prs_cons (e3 _ _ ht) hx)
theorem epl_tup (h : Ev te σ H (.str f)) (hr : EvPp ta σ H ps) (hl : ps.length ≤ 100) : EvPl (tTup (tCons te (tCons (tLst ta) tNil))) σ H f ps := fun H1 e Q q =>
  h H1 e _ fun H2 e2 => hr H2 (e.trans e2) _ fun xs H3 e3 hx => ⟨by have := hx.len; exact sz_of (by omega), fun l hl => ⟨by show 2 ≤ sizeLine; decide, fun t ht =>
    q _ _ (((e2.trans e3).trans (Ex.new hl)).trans (Ex.new ht)) ⟨t, l, xs, rfl, upd_same, (Ex.new ht) _ _ upd_same, (hx.mono (Ex.new hl)).mono (Ex.new ht)⟩⟩⟩
theorem epls_nil : EvPls tNil σ H [] := fun H1 _ Q q => q [] H1 (Ex.refl H1) ⟨rfl, fun i x r a => by simp at a⟩
theorem epls_cons (h : EvPl te σ H f ps) (hr : EvPls ta σ H R) : EvPls (tCons te ta) σ H ((f, ps) :: R) := fun H1 e Q q =>
  h H1 e _ fun v H2 e2 hv => hr H2 (e.trans e2) _ fun xs H3 e3 hx => q _ H3 (e2.trans e3) ⟨by rw [List.length_cons, List.length_cons, hx.1], fun i x r a b => by
    cases i with
    | zero =>
      obtain rfl := Option.some.inj a
      obtain rfl := Option.some.inj b
      exact hv.mono e3
    | succ i => exact hx.2 i x r a b⟩
end
section
variable {p l : Addr} {cells : List Int} {σ : L2.St} {H : Hp}
/-- signs: so many as c and a draw say -/
theorem w_signs {i : Nat} {c b : Nat} (hi : σ[i]? = some (some (.ref p))) (h63 : cells.length ≤ 63) (hb : 0 < b) (hcb : c + b ≤ 9) :
    EvW p l cells 9 (tCall spSg [] E0 (tCons (tVar i) (tCons (tOp (rI0 fun i j => .int (i + j)) (tC (.int (c : Int))) (tCall spDraw [] E0 (tCons (tVar i) (tCons (tC (.int (b : Int))) tNil)))) tNil))) σ H (fun v => ∃ z, v = .str z ∧ Sg z = true ∧ c ≤ z.length ∧ z.length < c + b) := fun m H1 kp hP hm Q q =>
  ⟨_, hi, (w_draw (H := H) (many := (b : Int)) hi (fun _ _ => ev_c) (by omega) (by omega) h63) m H1 kp hP (by omega) _ fun v H2 hv hP2 k2 => by
    obtain ⟨d, rfl, hd⟩ := hv
    refine ⟨_, _, rfl, rfl, ?_⟩
    refine ⟨p, l, cells, m + 1, c + d, by rw [Int.natCast_add]; rfl, hP2, by omega, h63, by omega, fun z H3 sg len hP3 k3 => q _ H3 ⟨z, rfl, sg, by omega, by omega⟩ (hP3.le (by omega)) (k2.trans k3)⟩⟩
end
/-! ### the drawn pairs, in a dict -/
structure DOk (kvs : List (Key × V)) (n : Nat) : Prop where
  few : kvs.length ≤ n
  once : (kvs.map (·.1)).Nodup
  ok : ∀ kv ∈ kvs, ∃ k v, kv = (Sum.inr k, V.str v) ∧ PairOk (k, v)
theorem dok_put {kvs : List (Key × V)} {n : Nat} {k v : Str} (h : DOk kvs n) (hp : PairOk (k, v)) : DOk (putK kvs (Sum.inr k) (.str v)) (n + 1) := by
  refine ⟨?_, ?_, ?_⟩
  · have := length_putK kvs (Sum.inr k : Key) (V.str v)
    have := h.few
    omega
  · cases c : valV kvs (Sum.inr k : Key) with
    | none => exact nd_putK _ h.once c
    | some y =>
      unfold putK
      rw [valV_any, c, if_pos (show (some y).isSome = true from rfl), List.map_map]
      rw [show (fun x : Key × V => x.1) ∘ (fun kv => if kv.1 = Sum.inr k then (kv.1, V.str v) else kv) = fun x => x.1 from funext fun x => by
        show (if x.1 = Sum.inr k then (x.1, V.str v) else x).1 = x.1
        split <;> rfl]
      exact h.once
  · intro kv hkv
    unfold putK at hkv
    split at hkv
    · obtain ⟨x, hx, e⟩ := List.mem_map.mp hkv
      split at e
      · rename_i z
        exact ⟨k, v, by rw [← e, z], hp⟩
      · exact e ▸ h.ok x hx
    · rcases List.mem_append.mp hkv with z | z
      · exact h.ok kv z
      · exact ⟨k, v, List.mem_singleton.mp z, hp⟩
def keyT : Key → Str
  | .inl _ => mt
  | .inr z => z
theorem dok_keys {kvs : List (Key × V)} {n : Nat} (h : DOk kvs n) : kvs.map (·.1) = (kvs.map fun kv => keyT kv.1).map Sum.inr := by
  rw [List.map_map]
  refine List.map_congr_left fun kv hkv => ?_
  obtain ⟨k, v, rfl, _⟩ := h.ok kv hkv
  rfl
theorem dok_val {kvs : List (Key × V)} {n : Nat} (h : DOk kvs n) {k : Str} (hk : k ∈ kvs.map fun kv => keyT kv.1) : ∃ v, valV kvs (Sum.inr k) = some (.str v) ∧ PairOk (k, v) := by
  obtain ⟨kv, hkv, rfl⟩ := List.mem_map.mp hk
  obtain ⟨k, v, rfl, _⟩ := h.ok kv hkv
  have any : (kvs.any fun kv => decide (kv.1 = (Sum.inr k : Key))) = true := List.any_eq_true.mpr ⟨_, hkv, decide_eq_true rfl⟩
  rw [valV_any] at any
  obtain ⟨y, hy⟩ := Option.isSome_iff_exists.mp any
  unfold valV at hy
  obtain ⟨e, he, rfl⟩ := Option.map_eq_some_iff.mp hy
  have hm := List.mem_of_find?_eq_some he
  have hq := List.find?_some he
  have hq : e.1 = Sum.inr k := of_decide_eq_true hq
  obtain ⟨k', v', rfl, ok'⟩ := h.ok e hm
  cases hq
  exact ⟨v', hy, ok'⟩
theorem dok_once {kvs : List (Key × V)} {n : Nat} (h : DOk kvs n) : (kvs.map fun kv => keyT kv.1).Nodup := by
  have := h.once
  rw [dok_keys h] at this
  unfold List.Nodup at this ⊢
  rw [List.pairwise_map] at this
  exact this.imp fun {a b} z e => z (congrArg Sum.inr e)
end K10
namespace K10
open PySem L2 Evl Gr StX EnT ClX ClK RdX SrtT StS
section
variable {K : PySem.W.Frag} {σ : L2.St} {H : Hp} {ta : TA} {te tl : TE}
/-- [a pair for x in a list] -/
theorem s_pairsL {ks : List Str} {a : Addr} {j : Nat} {vs : List Nat} {Q : VK} (g : Str → Pr) (ha : H a = some (.lst (ks.map V.str))) (hn : ks.length ≤ 900) (hw : ∀ x, wipe ((wipe σ vs).set j (some x)) vs = wipe σ vs)
    (he : ∀ k ∈ ks, ∀ H1, Ex H H1 → EvPr te ((wipe σ vs).set j (some (.str k))) H1 (g k)) (q : ∀ p xs H', H p = none → Ex H H' → H' p = some (.lst xs) → Prs H' xs (ks.map g) → Q (.ref p) H') :
    tLc (iList K (tC (.ref a))) (gName j) (fun σ H Q => Q true H) te vs σ H Q := by
  have e : (List.range ks.length).map (fun i => g (ks.getD i mt)) = ks.map g := by
    refine List.ext_getElem? fun i => ?_
    rw [List.getElem?_map, List.getElem?_map]
    rcases Nat.lt_or_ge i ks.length with hi | hi
    · rw [List.getElem?_range hi, List.getElem?_eq_getElem hi]
      show some (g (ks.getD i mt)) = some (g ks[i])
      rw [List.getD_eq_getElem?_getD, List.getElem?_eq_getElem hi]
      rfl
    · rw [List.getElem?_eq_none (by rw [List.length_range]; exact hi), List.getElem?_eq_none hi]
      rfl
  refine ⟨a, rfl, ⟨_, sq_of ha⟩, fun Dl hD => lc_it (n := (ks.map V.str).length) (walk_list (K := K) (a := a) (xs := ks.map V.str)) (g := gName j) (tt := fun σ H Q => Q true H) (te := te) (vs := vs) (σ := σ) (fun i H' => ∃ xs, H' Dl = some (.lst xs) ∧ Prs H' xs ((List.range i).map fun i => g (ks.getD i mt)) ∧ Ex H H')
      ⟨[], upd_same, prs_nil, Ex.new hD⟩ (fun _ _ _ ⟨_, _, _, z⟩ => sq_of (z _ _ ha)) (fun k x H' H'' hk p y => ?_) (fun H' ⟨xs, h1, h2, h3⟩ => q Dl xs H' hD h3 h1 ?_)⟩
  · obtain ⟨rfl, hx⟩ := y
    rw [List.getElem?_map] at hx
    obtain ⟨z, hz, rfl⟩ := Option.map_eq_some_iff.mp hx
    have ez : ks.getD k mt = z := by
      rw [List.getD_eq_getElem?_getD, hz]
      rfl
    refine ⟨hw _, lp_turn hD p (by rw [List.length_map] at hk; omega) ?_⟩
    rw [ez]
    exact he z (List.mem_of_getElem? hz) _ (Ex.refl _)
  · rw [List.length_map, e] at h2
    exact h2
/-- [str(k) for k in a dict of texts] -/
theorem el_keys {d : Addr} {kvs : List (Key × V)} {ks : List Str} {i j : Nat} {vs : List Nat} {r : List V → Hp → VK → Prop} (hi : σ[i]? = some (some (.ref d))) (hd : H d = some (.dK kvs)) (hk : kvs.map (·.1) = ks.map Sum.inr) (hn : ks.length ≤ 900) (hw : ∀ x, wipe ((wipe σ vs).set j (some x)) vs = wipe σ vs)
    (hj : ∀ x, ((wipe σ vs).set j (some x))[j]? = some (some x)) (hr : ∀ (z : Str) H' (Q : VK), Q (.str z) H' → r [.str z] H' Q) : EvL (tLockE (tLc (iKeys (tVar i)) (gName j) (fun σ H Q => Q true H) (tCB r (tCons (tVar j) tNil)) vs)) σ H (ks.map V.str) := fun H1 e Q q => by
  have len : kvs.length = ks.length := by
    have := congrArg List.length hk
    rwa [List.length_map, List.length_map] at this
  refine ⟨d, .dK kvs, e _ _ hd, trivial, fun od => ⟨_, hi, d, od, rfl, .inl ⟨kvs, upd_same, fun Dl hD => lc_it (n := kvs.length) (walk_keys (kvs := kvs)) (g := gName j) (tt := fun σ H Q => Q true H) (te := tCB r (tCons (tVar j) tNil)) (vs := vs) (σ := σ) (fun k H' => H' Dl = some (.lst ((ks.take k).map V.str)) ∧ Ex (upd H1 d (.frz od (.dK kvs))) H') ⟨upd_same, Ex.new hD⟩ (fun _ H' _ p => p.2 _ _ upd_same) (fun k x H' H'' hk' p y => ?_) (fun H' p => ?_)⟩⟩⟩
  · obtain ⟨rfl, key, v, hkv, rfl⟩ := y
    have hz : ∃ z, ks[k]? = some z ∧ key = Sum.inr z := by
      have := congrArg (fun l => l[k]?) hk
      simp only [List.getElem?_map, hkv, Option.map_some] at this
      obtain ⟨z, hz, e⟩ := Option.map_eq_some_iff.mp this.symm
      exact ⟨z, hz, e.symm⟩
    obtain ⟨z, hz, rfl⟩ := hz
    refine ⟨hw _, ⟨_, hj _, hr z _ _ ⟨_, p.1, ?_, ?_, Ex.mut p.2 hD⟩⟩⟩
    · rw [List.length_map, List.length_take]
      exact sz_lt (by omega)
    · rw [upd_same, List.take_add_one, hz, List.map_append]
      rfl
  · have hDd : Dl ≠ d := fun z => by rw [z, upd_same] at hD; cases hD
    rw [upd_ne hDd] at hD
    refine ⟨p.2 _ _ upd_same, q Dl _ hD (fun b u hb => ?_) ?_⟩
    · by_cases c : b = d
      · rw [c] at hb ⊢
        rw [e _ _ hd] at hb
        rw [upd_same, hb]
      · rw [upd_ne c]
        exact p.2 _ _ (by rw [upd_ne c]; exact hb)
    · rw [upd_ne hDd, p.1, List.take_of_length_le (by omega)]
end
end K10
namespace K10
open PySem L2 Evl Gr StX EnT ClX ClK RdX SrtT StS
theorem q_asgG {σ : L2.St} {H : Hp} {te : TE} {g : TG} {tz : TS} {D : Ends} (h : te σ H fun x H1 => g x σ H1 fun σ2 H2 => tz D σ2 H2) : tSeq (tAsg te g) tz D σ H := h
/-- for .. in range(a draw) -/
theorem q_forWd {p l : Addr} {cells : List Int} {σ : L2.St} {H : Hp} {te : TE} {b : Int} {m j : Nat} {tu tz : TS} {D : Ends} (hw : EvW p l cells 1 te σ H (fun v => ∃ d : Nat, v = .int (d : Int) ∧ (d : Int) < b)) (hP : PenAt H p l cells m) (hm : m + 1 ≤ 50000)
    (k : ∀ (d : Nat) H1, (d : Int) < b → PenAt H1 p l cells (m + 1) → Keep p H H1 → tSeq (tFor (iRng1 (tCons (tC (.int (d : Int))) tNil)) (gName j) tu) tz D σ H1) : tSeq (tFor (iRng1 (tCons te tNil)) (gName j) tu) tz D σ H :=
  hw m H (Keep.of_ex (Ex.refl H)) hP hm _ fun v H2 hv hP2 k2 => by
    obtain ⟨d, rfl, hd⟩ := hv
    exact k d H2 hd hP2 k2
/-- [a pair for k in sorted(a list of texts)] -/
theorem s_sortPairs {K : PySem.W.Frag} {σ : L2.St} {H : Hp} {te tl : TE} {ks : List Str} {j : Nat} {vs : List Nat} {Q : VK} (g : Str → Pr) (h : EvL tl σ H (ks.map V.str)) (hn : ks.length < 64) (nd : ks.Nodup) (hw : ∀ x, wipe ((wipe σ vs).set j (some x)) vs = wipe σ vs)
    (he : ∀ k ∈ ks, ∀ H1, Ex H H1 → EvPr te ((wipe σ vs).set j (some (.str k))) H1 (g k)) (q : ∀ (p : Addr) (xs : List V) (ys : List Str) (H' : Hp), ys.Perm ks → (ys.Pairwise fun a b => ltB a b = true) → H p = none → Ex H H' → H' p = some (.lst xs) → Prs H' xs (ys.map g) → Q (.ref p) H') :
    tLc (iList K (tCB (rSortedS K) (tCons tl tNil))) (gName j) (fun σ H Q => Q true H) te vs σ H Q :=
  h H (Ex.refl H) _ fun a H1 ha e1 h1 => ⟨a, ks, rfl, sq_of h1, hn, fun ys r pm srt hr => by
    have e2 := e1.trans (Ex.new (o := .lst (ys.map V.str)) hr)
    show tLc (iList K (tC (.ref r))) (gName j) (fun σ H Q => Q true H) te vs σ _ Q
    refine s_pairsL g upd_same (by rw [pm.length_eq]; omega) hw (fun k hk H2 e3 => he k (pm.mem_iff.mp hk) H2 (e2.trans e3)) fun p xs H' hp e3 h3 hx => q p xs ys H' pm ?_ (fresh_back e2 hp) (e2.trans e3) h3 hx
    exact (StO.rows srt (pm.nodup_iff.mpr nd)).imp fun z => decide_eq_true (StO.lt_iff.mp z)⟩
theorem noSl_name {x : Str} {p : PySem.Pos} : NoSl (.Name x p) := fun _ _ => rfl
section
variable {P : Program} {w : World} {K : PySem.W.Frag} {mg : Str → Option Value} {base : Heap}
abbrev nPlan : List Str := ["_law_pen_here", "_law_some", "_law_way", "_law_far", "_law_flag", "_law_pairs", "_law_turn", "_law_watch", "_law_one"]
def spPlan : Sp := fun vs H Q _ => ∃ (p l : Addr) (cells : List Int) (m : Nat), vs = [.ref p] ∧ PenAt H p l cells m ∧ m + 100 ≤ 50000 ∧ cells.length ≤ 63 ∧
  ∀ v f ps H', Plan f ps → PlanAt H' v f ps → PenAt H' p l cells (m + 100) → Keep p H H' → Q v H'
theorem scPlan : FnScope nPlan ["_law_pen_here"] (defScope sPlan) := ⟨rfl, rfl, rfl, by decide +kernel, rfl, by decide +kernel, by decide +kernel⟩
theorem ok_Plan {f fD : Addr} {fd fdD : FuncData} (F : Fun K "_law_plan" "_law_plan" sPlan f fd) (T : GlbT mg) (S : GlbS mg) (I : GlbI mg) (GD : FnOk P w K mg base CX0 1 fD fdD ["_law_pen_here", "_law_many"] spDraw) (kD : PySem.W.keepIn K (.ref fD) = true) (bD : Binds K fdD ["_law_pen_here", "_law_many"] []) (gD : mg "_law_draw" = some (.ref fD))
    (GP : Gfn P w K mg base 2 "_law_pick" ["_law_pen_here", "_law_some"] spPick) (GZ : Gfn P w K mg base 2 "_law_pick" ["_law_pen_here", "_law_some"] spPickS) (GG : Gfn P w K mg base 3 "_law_signs" ["_law_pen_here", "_law_many"] spSg) :
    FnOk P w K mg base CX0 4 f fd ["_law_pen_here"] spPlan := by
  obtain ⟨fP, fdP, GP, kP, bP, gP⟩ := GP
  obtain ⟨fZ, fdZ, GZ, kZ, bZ, gZ⟩ := GZ
  obtain ⟨fG, fdG, GG, kG, bG, gG⟩ := GG
  refine F.ok scPlan (fun vs H Q E h => ?_) (fun cdv A outer s H vs Q E hr h => ?_)
  · obtain ⟨p, l, cells, m, rfl, _⟩ := h
    rfl
  · obtain ⟨p, l, cells, m, rfl, hP, hm, h63, k⟩ := h
    have r1 := hr.mono (show 1 ≤ 3 by decide)
    have r2 := hr.mono (show 2 ≤ 3 by decide)
    have hu : (A.deeper (PyProof.Rows.envOfC "_law_plan" (defScope sPlan) s.heap.objs.size f cdv)).units + 1 < cLine := by have := hr.units; omega
    refine ⟨_, pss_cons (ps_set (i := 1) scPlan.nd rfl (.inl rfl) (pe_lst (pa_cons (pe_tup (pa_cons pe_str (pa_cons (pe_lst (pa_cons (pe_tup (pa_cons pe_str (pa_cons pe_str pa_nil))) pa_nil)) pa_nil))) (pa_cons (pe_tup (pa_cons pe_str (pa_cons (pe_lst (pa_cons (pe_tup (pa_cons pe_str (pa_cons pe_str pa_nil))) pa_nil)) pa_nil))) (pa_cons (pe_tup (pa_cons pe_str (pa_cons (pe_lst (pa_cons (pe_tup (pa_cons pe_str (pa_cons pe_str pa_nil))) pa_nil)) pa_nil))) (pa_cons (pe_tup (pa_cons pe_str (pa_cons (pe_lst (pa_cons (pe_tup (pa_cons pe_str (pa_cons pe_str pa_nil))) pa_nil)) pa_nil))) (pa_cons (pe_tup (pa_cons pe_str (pa_cons (pe_lst (pa_cons (pe_tup (pa_cons pe_str (pa_cons pe_str pa_nil))) pa_nil)) pa_nil))) pa_nil)))))))
      (pss_cons (ps_set (i := 2) scPlan.nd rfl (.inl rfl) (pe_call GD r1 (by rfl) gD kD bD .nil pass0 (pa_cons (pv 0) (pa_cons pe_int pa_nil))))
      (pss_cons (ps_if (pt_cmpR op_lt (pv 2) pe_int (nomark _)) (pss_one (ps_ret (pe_ix ix_list (pv 1) (pv 2) (fun _ _ => rfl)))) pss_nil)
      (pss_cons (ps_if (pt_cmpR op_eq (pv 2) pe_int (nomark _)) (pss_cons (ps_set (i := 3) scPlan.nd rfl (.inl rfl) (pe_lst (pa_cons (pe_tup (pa_cons pe_str (pa_cons (pe_lst (pa_cons (pe_tup (pa_cons pe_str (pa_cons pe_str pa_nil))) (pa_cons (pe_tup (pa_cons pe_str (pa_cons pe_str pa_nil))) pa_nil))) pa_nil))) (pa_cons (pe_tup (pa_cons pe_str (pa_cons (pe_lst (pa_cons (pe_tup (pa_cons pe_str (pa_cons pe_str pa_nil))) (pa_cons (pe_tup (pa_cons pe_str (pa_cons pe_str pa_nil))) pa_nil))) pa_nil))) pa_nil)))) (pss_one (ps_ret (pe_call GP r2 (by rfl) gP kP bP .nil pass0 (pa_cons (pv 0) (pa_cons (pe_op op_cat (pv 3) (pe_lst (pa_cons (pe_tup (pa_cons pe_str (pa_cons (pe_lst (pa_cons (pe_tup (pa_cons pe_str (pa_cons pe_str pa_nil))) (pa_cons (pe_tup (pa_cons pe_str (pa_cons pe_str pa_nil))) pa_nil))) pa_nil))) (pa_cons (pe_tup (pa_cons pe_str (pa_cons (pe_lst (pa_cons (pe_tup (pa_cons pe_str (pa_cons pe_str pa_nil))) (pa_cons (pe_tup (pa_cons pe_str (pa_cons pe_str pa_nil))) pa_nil))) pa_nil))) pa_nil)))) pa_nil)))))) pss_nil)
      (pss_cons (ps_asg (pe_tup (pa_cons (pe_call GG hr (by rfl) gG kG bG .nil pass0 (pa_cons (pv 0) (pa_cons (pe_op op_add pe_int (pe_call GD r1 (by rfl) gD kD bD .nil pass0 (pa_cons (pv 0) (pa_cons pe_int pa_nil)))) pa_nil))) (pa_cons pe_dnewK pa_nil))) (pg_tup rfl (pgs_cons (pg_name (i := 4) scPlan.nd rfl (.inl rfl)) (pgs_cons (pg_name (i := 5) scPlan.nd rfl (.inr rfl)) pgs_nil))))
      (pss_cons (ps_for PassesOwn.never rfl (pi_range1 (by rfl) S.range (pa_cons (pe_call GD r1 (by rfl) gD kD bD .nil pass0 (pa_cons (pv 0) (pa_cons pe_int pa_nil))) pa_nil)) (pg_name (i := 6) scPlan.nd rfl (.inl rfl))
        (pss_one (ps_dput hu (pv 5) (pe_call GG hr (by rfl) gG kG bG .nil pass0 (pa_cons (pv 0) (pa_cons (pe_op op_add pe_int (pe_call GD r1 (by rfl) gD kD bD .nil pass0 (pa_cons (pv 0) (pa_cons pe_int pa_nil)))) pa_nil))) (pe_call GZ r2 (by rfl) gZ kZ bZ .nil pass0 (pa_cons (pv 0) (pa_cons pe_str pa_nil))) (by rfl))))
      (pss_one (ps_ret (pe_tup (pa_cons (pv 4) (pa_cons (pe_lc (own := [("_law_watch", 7)]) (g := gName 7) rfl scPlan.nd (pi_list (pe_callB cr_sortedS (by rfl) I.sorted (by decide +kernel) (pa_cons (pe_lock (pe_lc (own := [("_law_one", 8)]) (g := gName 8) rfl scPlan.nd (pi_keys (pv 5)) (blkOk_by (own := [("_law_one", 8)]) (N := nPlan) (sc := defScope sPlan) (by decide +kernel))
          (fun _ _ _ _ _ => pg_name (i := 8) scPlan.nd rfl (Or.inl rfl)) (fun _ _ _ _ _ => pts_nil) (fun _ _ _ _ _ => pe_callTy OwX.call_strV (by rfl) T.str (by decide +kernel) (pa_cons (pv 8) pa_nil)))) pa_nil)))
          (blkOk_by (own := [("_law_watch", 7)]) (N := nPlan) (sc := defScope sPlan) (by decide +kernel)) (fun _ _ _ _ _ => pg_name (i := 7) scPlan.nd rfl (Or.inl rfl)) (fun _ _ _ _ _ => pts_nil) (fun _ _ _ _ _ => pe_tup (pa_cons (pv 7) (pa_cons (pe_dget hu (pv 5) (pv 7) noSl_name) pa_nil)))) pa_nil)))))))))), ?_⟩
    have pne : ∀ {H1 : Hp} {a : Addr}, Keep p H H1 → H1 p ≠ none → H1 a = none → a ≠ p := fun _ h1 h2 z => h1 (z ▸ h2)
    have there : ∀ {H1 : Hp} {n : Nat}, PenAt H1 p l cells n → H1 p ≠ none := fun ⟨_, _, h, _⟩ z => by rw [h] at z; cases z
    -- the five
    refine q_asgR (lst_i ((show EvPls _ _ _ plansA from (epls_cons (epl_tup ev_c (epp_cons (ep_tup ev_c ev_c) epp_nil) (by decide)) (epls_cons (epl_tup ev_c (epp_cons (ep_tup ev_c ev_c) epp_nil) (by decide)) (epls_cons (epl_tup ev_c (epp_cons (ep_tup ev_c ev_c) epp_nil) (by decide)) (epls_cons (epl_tup ev_c (epp_cons (ep_tup ev_c ev_c) epp_nil) (by decide)) (epls_cons (epl_tup ev_c (epp_cons (ep_tup ev_c ev_c) epp_nil) (by decide)) epls_nil)))))) H (Ex.refl H) _ fun xs H1 e1 hx => ⟨by have := hx.1; rw [this]; exact sz_of (by decide), fun L hL => ?_⟩))
    have e2 : Ex H (upd H1 L (.lst xs)) := e1.trans (Ex.new hL)
    have hL2 : (upd H1 L (.lst xs)) L = some (.lst xs) := upd_same
    have hx2 := hx.mono (Ex.new (o := .lst xs) hL)
    have hP2 := hP.mono e2 (Nat.le_refl m)
    have Lp : L ≠ p := fun z => there (hP.mono e1 (Nat.le_refl m)) (z ▸ hL)
    generalize upd H1 L (.lst xs) = H2 at e2 hL2 hx2 hP2
    refine q_asgR ((w_draw (i := 0) (σ := [some (.ref p), some (.ref L), none, none, none, none, none, none, none]) (many := 8) rfl (fun _ _ => ev_c) (by decide) (by decide) h63) m H2 (Keep.of_ex (Ex.refl H2)) hP2 (by omega) _ fun v H3 hv hP3 k3 => ?_)
    obtain ⟨d, rfl, hd⟩ := hv
    have hL3 := k3 _ _ hL2 Lp
    have hx3 : Pls H3 xs plansA := ⟨hx2.1, fun i x q a b => (hx2.2 i x q a b).keep hP2 k3⟩
    have K3 : Keep p H H3 := (Keep.of_ex e2).trans k3
    have five : xs.length = 5 := hx3.1
    refine q_when (et_test (ev_op (ev_var rfl) ev_c rv_I0)) (fun hb H4 e4 => ?_) (fun hb H4 e4 => ?_)
    · have hd5 : d < xs.length := by
        have := of_decide_eq_true hb
        omega
      have hxd := List.getElem?_eq_getElem hd5
      obtain ⟨q, hq, pl⟩ := hx3.at hxd
      exact s_ret (v := xs[d]) (ev_op (ev_var rfl) (ev_var rfl) (rv_ixL (sq_of (e4 _ _ hL3)) (atI_nat hxd))) fun H5 e5 => k _ q.1 q.2 H5 (plans_ok q (List.mem_append_left _ hq)) (pl.mono (e4.trans e5)) (hP3.mono (e4.trans e5) (by omega)) (K3.trans (Keep.of_ex (e4.trans e5)))
    refine q_when (et_test (ev_op (ev_var rfl) ev_c (rv_eq rfl))) (fun hc H5 e5 => ?_) (fun hc H5 e5 => ?_)
    · have E5 := e4.trans e5
      refine q_asgR (lst_i ((show EvPls _ _ _ plansF from (epls_cons (epl_tup ev_c (epp_cons (ep_tup ev_c ev_c) (epp_cons (ep_tup ev_c ev_c) epp_nil)) (by decide)) (epls_cons (epl_tup ev_c (epp_cons (ep_tup ev_c ev_c) (epp_cons (ep_tup ev_c ev_c) epp_nil)) (by decide)) epls_nil))) H5 (Ex.refl H5) _ fun ys H6 e6 hy => ⟨by have := hy.1; rw [this]; exact sz_of (by decide), fun L2 hL2' => ?_⟩))
      have e7 : Ex H6 (upd H6 L2 (.lst ys)) := Ex.new hL2'
      have hy7 := hy.mono e7
      have hL27 : (upd H6 L2 (.lst ys)) L2 = some (.lst ys) := upd_same
      generalize upd H6 L2 (.lst ys) = H7 at e7 hy7 hL27
      refine s_retR (cons_i ⟨_, rfl, cons_i (op_i ⟨_, rfl, lst_i ((show EvPls _ _ _ plansG from (epls_cons (epl_tup ev_c (epp_cons (ep_tup ev_c ev_c) (epp_cons (ep_tup ev_c ev_c) epp_nil)) (by decide)) (epls_cons (epl_tup ev_c (epp_cons (ep_tup ev_c ev_c) (epp_cons (ep_tup ev_c ev_c) epp_nil)) (by decide)) epls_nil))) H7 (Ex.refl H7) _ fun zs H8 e8 hz => ⟨by have := hz.1; rw [this]; exact sz_of (by decide), fun L3 hL3' => ?_⟩)⟩)⟩)
      have e9 : Ex H8 (upd H8 L3 (.lst zs)) := Ex.new hL3'
      have hz9 := hz.mono e9
      have hL39 : (upd H8 L3 (.lst zs)) L3 = some (.lst zs) := upd_same
      generalize upd H8 L3 (.lst zs) = H9 at e9 hz9 hL39
      have sz : (ys ++ zs).length = 4 := by rw [List.length_append, hy.1, hz.1]; rfl
      refine ⟨L2, L3, ys, zs, rfl, rfl, (e8.trans e9) _ _ hL27, hL39, by rw [← List.length_append, sz]; exact sz_of (by decide), fun a ha => ?_⟩
      have ea := Ex.new (H := H9) (o := .lst (ys ++ zs)) ha
      have all : Pls (upd H9 a (.lst (ys ++ zs))) (ys ++ zs) (plansF ++ plansG) := ((hy7.mono (e8.trans e9)).app hz9).mono ea
      have EA := ((((E5.trans e6).trans e7).trans e8).trans e9).trans ea
      have hPA := hP3.mono EA (Nat.le_refl _)
      have hap : a ≠ p := fun z => there (hP3.mono (((((E5.trans e6).trans e7).trans e8).trans e9)) (Nat.le_refl _)) (z ▸ ha)
      exact ⟨p, l, a, cells, m + 1, ys ++ zs, rfl, hPA, by omega, h63, upd_same, hap, by omega, by omega, fun i x H' hxi hP' k' => by
        obtain ⟨q, hq, pl⟩ := all.at hxi
        exact k x q.1 q.2 H' (plans_ok q (List.mem_append_right _ hq)) (pl.keep hPA k') (hP'.le (by omega)) ((K3.trans (Keep.of_ex EA)).trans k')⟩
    have E5 := e4.trans e5
    have hP5 := hP3.mono E5 (Nat.le_refl _)
    -- a flag, a dict
    refine q_asgG (tup_i (cons_i ((w_signs (i := 0) (c := 2) (b := 4) (σ := [some (.ref p), some (.ref L), some (.int (d : Int)), none, none, none, none, none, none]) rfl h63 (by decide) (by decide)) (m + 1) H5 (Keep.of_ex (Ex.refl H5)) hP5 (by omega) _ fun v H6 hv hP6 k6 => cons_i fun dd hdd => ?_)))
    obtain ⟨z, rfl, sg, z2, z6⟩ := hv
    refine ⟨by show 2 ≤ sizeLine; decide, fun t ht => ⟨t, _, rfl, st_of upd_same, rfl, _, _, rfl, _, _, rfl, rfl, ?_⟩⟩
    have ddp : dd ≠ p := fun z => there hP6 (z ▸ hdd)
    have e7 : Ex H6 (upd (upd H6 dd (.dK [])) t (.tup [.str z, .ref dd])) := (Ex.new hdd).trans (Ex.new ht)
    have hd7 : (upd (upd H6 dd (.dK [])) t (.tup [.str z, .ref dd])) dd = some (.dK []) := (Ex.new ht) _ _ upd_same
    have hddH : H dd = none := by
      cases c : H dd with
      | none => rfl
      | some u =>
        have := k6 _ _ ((Keep.of_ex E5) _ _ (K3 _ _ c ddp) ddp) ddp
        rw [hdd] at this
        cases this
    have K7 : Keep p H (upd (upd H6 dd (.dK [])) t (.tup [.str z, .ref dd])) := ((K3.trans (Keep.of_ex E5)).trans k6).trans (Keep.of_ex e7)
    have hP7 := hP6.mono e7 (Nat.le_refl _)
    generalize upd (upd H6 dd (.dK [])) t (.tup [.str z, .ref dd]) = H7 at e7 hd7 K7 hP7
    refine q_forWd (w_draw (i := 0) (many := 4) rfl (fun _ _ => ev_c) (by decide) (by decide) h63) hP7 (by omega) fun n H8 hn hP8 k8 => ?_
    have K8 := K7.trans k8
    have hd8 := k8 _ _ hd7 ddp
    refine q_forR1 (ea_cons ev_c ea_nil) (by omega) (fun i σ' H' => (∃ x6, σ' = [some (.ref p), some (.ref L), some (.int (d : Int)), none, some (.str z), some (.ref dd), x6, none, none]) ∧ PenAt H' p l cells (m + 1 + 9 + 1 + 10 * i) ∧ Keep p H H' ∧ ∃ kvs, H' dd = some (.dK kvs) ∧ DOk kvs i) (fun H9 e9 => ⟨⟨none, rfl⟩, hP8.mono e9 (by omega), K8.trans (Keep.of_ex e9), [], e9 _ _ hd8, ⟨Nat.le_refl _, List.nodup_nil, fun kv h => by simp at h⟩⟩) ?_ ?_
    · rintro i σ' H9 hi ⟨⟨x6, rfl⟩, hP9, K9, kvs, hk, dok⟩
      refine ⟨_, rfl, p, l, cells, m + 1 + 9 + 1 + 10 * i, oi, rfl, hP9, by omega, h63, by decide +kernel, by decide +kernel, fun c H10 hcm hP10 k10 => ?_⟩
      have bit : Bit ⟨#[c]⟩ := by
        rw [oi_list] at hcm
        rcases List.mem_cons.mp hcm with rfl | hc'
        · exact .inl (by decide +kernel)
        · rw [List.mem_singleton.mp hc']
          exact .inr (by decide +kernel)
      refine ⟨_, rfl, (w_signs (i := 0) (c := 1) (b := 4) (σ := [some (.ref p), some (.ref L), some (.int (d : Int)), none, some (.str z), some (.ref dd), some (.int (i : Int)), none, none]) rfl h63 (by decide) (by decide)) _ H10 (Keep.of_ex (Ex.refl H10)) hP10 (by omega) _ fun v H11 hv hP11 k11 => ?_⟩
      obtain ⟨y, rfl, sgy, y1, y5⟩ := hv
      have hk11 := k11 _ _ (k10 _ _ hk ddp) ddp
      have few := dok.few
      refine ⟨dd, _, rfl, DPut.k (k := Sum.inr y) hk11 (sz_lt (by omega)), ⟨_, rfl⟩, ?_, ?_, _, upd_same, ?_⟩
      · refine (hP11.upd' ddp ?_).le (by omega)
        intro e
        obtain ⟨_, _, _, h2, _⟩ := hP11
        rw [e, h2] at hk11
        cases hk11
      · exact ((K9.trans k10).trans k11).mut hddH
      · exact dok_put dok ⟨sgB_iff.mpr ⟨sgy, by show (1 : Int) ≤ (y.length : Int); omega, by show (y.length : Int) ≤ 8; omega⟩, bit_ok bit⟩
    · rintro σ' H9 ⟨⟨x6, rfl⟩, hP9, K9, kvs, hk, dok⟩
      rw [Int.toNat_natCast] at dok hP9
      have few := dok.few
      have kl : (kvs.map fun kv => keyT kv.1).length = kvs.length := List.length_map _
      have vals : ∀ y ∈ kvs.map (fun kv => keyT kv.1), ∃ v, valV kvs (Sum.inr y) = some (.str v) ∧ PairOk (y, v) := fun y hy => dok_val dok hy
      let g : Str → Pr := fun y => (y, match valV kvs (Sum.inr y : Key) with
        | some (.str v) => v
        | _ => mt)
      have gv : ∀ y ∈ kvs.map (fun kv => keyT kv.1), valV kvs (Sum.inr y : Key) = some (.str (g y).2) ∧ PairOk (g y) := fun y hy => by
        obtain ⟨v, h1, h2⟩ := vals y hy
        have e : g y = (y, v) := by
          show (y, _) = (y, v)
          rw [h1]
        rw [e]
        exact ⟨h1, h2⟩
      refine s_retR (tup_i (cons_i ⟨_, rfl, cons_i (s_sortPairs (K := K) g (el_keys (i := 5) rfl hk (dok_keys dok) (by omega) (fun _ => rfl) (fun _ => rfl) fun z H' Q q => .inr ⟨z, rfl, q⟩) (by omega) (dok_once dok) (fun _ => rfl) (fun y hy H10 e10 => ?_) fun q xs ys H10 pm up hq e10 hq10 hx10 => ?_)⟩))
      · obtain ⟨h1, h2⟩ := gv y hy
        refine ep_tup (ev_var rfl) fun H11 e11 Q q => ⟨_, rfl, _, rfl, dd, _, rfl, .inl ⟨kvs, Sum.inr y, Rd.of ((e10.trans e11) _ _ hk), rfl, h1.symm⟩, q H11 (Ex.refl H11)⟩
      · refine ⟨by show 2 ≤ sizeLine; decide, fun t ht => ?_⟩
        have e11 := e10.trans (Ex.new (o := .tup [.str z, .ref q]) ht)
        have lys : ys.length = kvs.length := by rw [pm.length_eq, kl]
        refine k _ z (ys.map g) _ ⟨⟨sgB_iff.mpr ⟨sg, by omega, by omega⟩, fun p hp => ?_, by rw [List.length_map]; omega, ?_⟩, by omega, by rw [List.length_map]; omega⟩ ⟨t, q, xs, rfl, upd_same, (Ex.new ht) _ _ hq10, hx10.mono (Ex.new ht)⟩ (hP9.mono e11 (by omega)) (K9.trans (Keep.of_ex e11))
        · obtain ⟨y, hy, rfl⟩ := List.mem_map.mp hp
          exact (gv y (pm.mem_iff.mp hy)).2
        · unfold Rise
          rw [List.pairwise_map]
          exact up
end
end K10
namespace K10
open PySem L2 Evl Gr StX EnT ClX ClK RdX SrtT StS Fr
abbrev sPut : Stmt := top 15
abbrev sSent : Stmt := top 16
section
variable {K : PySem.W.Frag} {σ : L2.St} {H : Hp} {te ta tb ti to : TE} {tl th : TO}
theorem ev_slS {z : Str} {lo hi : Option Int} (h : Ev te σ H (.str z)) (h1 : EvO tl σ H lo) (h2 : EvO th σ H hi) (hz : z.length ≤ 100000) : Ev (tSl rSlS te tl th) σ H (.str (cutS z lo hi)) := fun H1 e Q q =>
  h H1 e _ fun H2 e2 => h1 H2 (e.trans e2) _ fun H3 e3 => h2 H3 ((e.trans e2).trans e3) _ fun H4 e4 => ⟨z, rfl, sz_of hz, q H4 ((e2.trans e3).trans e4)⟩
theorem ev_ends {a b : Str} (ha : Ev ta σ H (.str a)) (hb : Ev tb σ H (.str b)) : Ev (tBM K "str" (fun x xs H Q => ∃ a b, x = .str a ∧ xs = [.str b] ∧ Q (.bl (Txt.endswith a b)) H) ta (tCons tb tNil)) σ H (.bl (Txt.endswith a b)) := fun H1 e Q q =>
  ha H1 e _ fun H2 e2 => ⟨rfl, hb H2 (e.trans e2) _ fun H3 e3 => ⟨a, b, rfl, rfl, q H3 (e2.trans e3)⟩⟩
theorem et_din {d : Addr} {kvs : List (Key × V)} {k : Key} (hi : Ev ti σ H (kV k)) (ho : Ev to σ H (.ref d)) (hd : H d = some (.dK kvs)) : EvT (tB (tDIn ti to)) σ H (valV kvs k).isSome := fun H1 e Q q =>
  hi H1 e _ fun H2 e2 => ho H2 (e.trans e2) _ fun H3 e3 => ⟨d, _, rfl, DGet.k (k := k) ((e.trans (e2.trans e3)) _ _ hd), _, rfl, q H3 (e2.trans e3)⟩
end
structure GlbP (mg : Str → Option Value) : Prop where
  eight : ∃ t, mg "MOST_WORD_SIGNS" = some (.int 8 t)
  max : mg "max" = none
theorem best_short {z : L} {ps : List Pr} (h : ∀ p ∈ ps, p.1.length ≤ 8) : (bestS z ps (mt, mt)).1.length ≤ 8 := by
  rcases bestS_mem (z := z) (ps := ps) (b := (mt, mt)) with e | e
  · rw [e]
    decide +kernel
  · exact h _ e
theorem take_snoc {α : Type} {l : List α} {i : Nat} {x : α} (h : l[i]? = some x) : l.take (i + 1) = l.take i ++ [x] := by
  rw [List.take_add_one, h]
  rfl
theorem sapp_len (a b : Str) : (a ++ b).length = a.length + b.length := by rw [TL.len_tl, TL.tl_append, List.length_append, ← TL.len_tl, ← TL.len_tl]
/-! ### what is sent, as values -/
def sentV (s : L) : Option L → V
  | none => .non
  | some t => .str (mk (t.drop s.length))
def tknV : Option L → V
  | none => .non
  | some t => .str (mk t)
theorem chain_pre {ps : LP} {u : L} : ∀ k, u <+: chain ps u k
  | 0 => List.prefix_refl _
  | k + 1 => (chain_pre k).trans (List.prefix_append _ _)
theorem pre_drop {s t : L} (h : s <+: t) : s ++ t.drop s.length = t := by
  obtain ⟨r, rfl⟩ := h
  rw [List.drop_left]
section
variable {P : Program} {w : World} {K : PySem.W.Frag} {mg : Str → Option Value} {base : Heap}
/-! ### put_behind -/
abbrev nPut : List Str := ["signs", "pairs", "longest", "sign", "watch", "put"]
def spPut (K : PySem.W.Frag) : Sp := fun vs H Q _ => ∃ (z : Str) (q : Addr) (xs : List V) (ps : List Pr), vs = [.str z, .ref q] ∧ SqT K H q xs ∧ Prs H xs ps ∧ (∀ p ∈ ps, p.1.length ≤ 8) ∧ RetV (.str (putS ps (TL.tl z))) H Q
theorem scPut : FnScope nPut ["signs", "pairs"] (defScope sPut) := ⟨rfl, rfl, rfl, by decide +kernel, rfl, by decide +kernel, by decide +kernel⟩
theorem ok_Put {f : Addr} {fd : FuncData} (F : Fun K "put_behind" "put_behind" sPut f fd) (T : GlbT mg) : FnOk P w K mg base CX0 1 f fd ["signs", "pairs"] (spPut K) := by
  refine F.ok scPut (fun vs H Q E h => ?_) (fun cdv A outer s H vs Q E hr h => ?_)
  · obtain ⟨z, q, xs, ps, rfl, _⟩ := h
    rfl
  · obtain ⟨z, q, xs, ps, rfl, hq, hp, h8, k⟩ := h
    refine ⟨_, (pss_cons (ps_asg (pe_tup (pa_cons pe_str (pa_cons pe_str pa_nil))) (pg_tup rfl (pgs_cons (pg_name (i := 2) scPut.nd rfl (.inl rfl)) (pgs_cons (pg_name (i := 3) scPut.nd rfl (.inl rfl)) pgs_nil))))
      (pss_cons (ps_for PassesOwn.never rfl (pi_tup (pv 1)) (pg_tup rfl (pgs_cons (pg_name (i := 4) scPut.nd rfl (.inl rfl)) (pgs_cons (pg_name (i := 5) scPut.nd rfl (.inl rfl)) pgs_nil)))
        (pss_one (ps_if (PW.pt (pw_and (pt_cmpR op_gt (pe_callB call_len (by rfl) T.len PySem.boot_len (pa_cons (pv 4) pa_nil)) (pe_callB call_len (by rfl) T.len PySem.boot_len (pa_cons (pv 2) pa_nil)) (nomark _))
            (pw_and1 (pt_val (pe_bm PySem.F.plainAttrs_str PySem.F.slot_str_endswith PySem.F.type_str_endswith mt_endswith (pv 0) (pa_cons (pv 4) pa_nil))))))
          (pss_one (ps_par (i := 2) (j := 3) rfl scPut.nd rfl rfl (by decide) rfl rfl (pa_cons (pv 4) (pa_cons (pv 5) pa_nil)) (by rfl))) pss_nil)))
      (pss_one (ps_ret (pv 3))))), ?_⟩
    have len := hp.len
    refine q_asgG (tup_i (cons_i (c_i (cons_i (c_i ⟨by show 2 ≤ sizeLine; decide, fun t ht => ⟨t, _, rfl, st_of upd_same, rfl, _, _, rfl, _, _, rfl, rfl, ?_⟩⟩)))))
    have e1 : Ex H (upd H t (.tup [.str mt, .str mt])) := Ex.new ht
    generalize upd H t (.tup [.str mt, .str mt]) = H1 at e1 ⊢
    refine q_forT (K := K) (a := q) (xs := xs) (ev_var rfl) (ex_t e1 hq) (fun i σ' H' => (∃ x4 x5 : Option V, σ' = [some (.str z), some (.ref q), some (.str (bestS (TL.tl z) (ps.take i) (mt, mt)).1), some (.str (bestS (TL.tl z) (ps.take i) (mt, mt)).2), x4, x5]) ∧ Ex H H') (fun H2 e2 => ⟨⟨none, none, rfl⟩, e1.trans e2⟩) (fun _ _ _ _ p => ex_t p.2 hq) ?_ ?_
    · rintro i x σ' H2 hx ⟨⟨x4, x5, rfl⟩, e2⟩
      obtain ⟨t2, p, rfl, hpi, ht2⟩ := hp.at hx
      refine ⟨t2, _, rfl, st_of (e2 _ _ ht2), rfl, _, _, rfl, _, _, rfl, rfl, ?_⟩
      have hm := List.mem_of_getElem? hpi
      have b8 : (bestS (TL.tl z) (ps.take i) (mt, mt)).1.length ≤ 8 := best_short fun p hp => h8 p (List.mem_of_mem_take hp)
      have p8 := h8 p hm
      have step : bestS (TL.tl z) (ps.take (i + 1)) (mt, mt) = if (bestS (TL.tl z) (ps.take i) (mt, mt)).1.length < p.1.length ∧ TL.tl p.1 <:+ TL.tl z then p else bestS (TL.tl z) (ps.take i) (mt, mt) := by
        rw [take_snoc hpi, bestS_snoc]
      refine s_when (b := decide (((bestS (TL.tl z) (ps.take i) (mt, mt)).1.length < p.1.length) ∧ TL.tl p.1 <:+ TL.tl z)) (et_is (et_and (et_test (ev_op (ev_cb (ea_cons (ev_var rfl) ea_nil) (rc_lenS (K := K) (z := p.1) (by omega))) (ev_cb (ea_cons (ev_var rfl) ea_nil) (rc_lenS (K := K) (z := (bestS (TL.tl z) (ps.take i) (mt, mt)).1) (by omega))) rv_I0)) fun _ => et_B (ev_ends (ev_var rfl) (ev_var rfl))) ?_) (fun hb H3 e3 => ?_) (fun hb H3 e3 => ?_)
      · rw [ends_is, Bool.eq_iff_iff, Bool.and_eq_true, decide_eq_true_iff, decide_eq_true_iff, decide_eq_true_iff]
        constructor
        · exact fun ⟨a, b⟩ => ⟨by omega, b⟩
        · exact fun ⟨a, b⟩ => ⟨by omega, b⟩
      · rw [if_pos (of_decide_eq_true hb)] at step
        refine ea_cons (ev_var rfl) (ea_cons (ev_var rfl) ea_nil) H3 (Ex.refl H3) _ fun H4 e4 => ⟨_, _, rfl, ⟨some (.str p.1), some (.str p.2), ?_⟩, (e2.trans e3).trans e4⟩
        rw [step]
        rfl
      · rw [if_neg (of_decide_eq_false hb)] at step
        refine ⟨⟨some (.str p.1), some (.str p.2), ?_⟩, e2.trans e3⟩
        rw [step]
        rfl
    · rintro σ' H2 ⟨⟨x4, x5, rfl⟩, e2⟩
      rw [List.take_of_length_le (by omega)]
      exact s_ret (v := .str (putS ps (TL.tl z))) (ev_var rfl) fun H3 e3 => k H3 (e2.trans e3)
/-! ### sent_behind -/
abbrev nSent : List Str := ["signs", "sign", "pairs", "sent", "tails", "tail", "put"]
def spSent (K : PySem.W.Frag) : Sp := fun vs H Q _ => ∃ (z c : Str) (q : Addr) (xs : List V) (f : Str) (ps : List Pr) (s : L) (x : Nat), vs = [.str z, .str c, .ref q] ∧ TL.tl z = tail8 s ∧ TL.tl c = [x] ∧ Sgs s ∧ (x = 48 ∨ x = 49) ∧ SqT K H q xs ∧ Prs H xs ps ∧ Good f ps ∧ RetV (sentV s (sentL (lp ps) s x)) H Q
theorem scSent : FnScope nSent ["signs", "sign", "pairs"] (defScope sSent) := ⟨rfl, rfl, rfl, by decide +kernel, rfl, by decide +kernel, by decide +kernel⟩
theorem putK_new {kvs : List (Key × V)} {k : Key} {v : V} (h : valV kvs k = none) : putK kvs k v = kvs ++ [(k, v)] := by
  unfold putK
  rw [valV_any, h]
  rfl
theorem valV_key {kvs : List (Key × V)} {k : Key} : (valV kvs k).isSome = true ↔ k ∈ kvs.map (·.1) := by
  rw [← valV_any, List.any_eq_true, List.mem_map]
  constructor
  · rintro ⟨p, hp, e⟩
    exact ⟨p, hp, of_decide_eq_true e⟩
  · rintro ⟨p, hp, e⟩
    exact ⟨p, hp, decide_eq_true e⟩
theorem ok_Sent {f : Addr} {fd : FuncData} (F : Fun K "sent_behind" "sent_behind" sSent f fd) (T : GlbT mg) (Z : GlbP mg) (GP : Gfn P w K mg base 1 "put_behind" ["signs", "pairs"] (spPut K)) : FnOk P w K mg base CX0 2 f fd ["signs", "sign", "pairs"] (spSent K) := by
  obtain ⟨fP, fdP, GP, kP, bP, gP⟩ := GP
  obtain ⟨t8, g8⟩ := Z.eight
  refine F.ok scSent (fun vs H Q E h => ?_) (fun cdv A outer s H vs Q E hr h => ?_)
  · obtain ⟨z, c, q, xs, f, ps, s, x, rfl, _⟩ := h
    rfl
  · obtain ⟨z, c, q, xs, fl, ps, s0, x, rfl, hz, hc, sg, hx, hq, hp, g, k⟩ := h
    have hu : (A.deeper (PyProof.Rows.envOfC "sent_behind" (defScope sSent) s.heap.objs.size f cdv)).units + 1 < cLine := by have := hr.units; omega
    refine ⟨_, (pss_cons (ps_set (i := 3) scSent.nd rfl (.inl rfl) (pv 1))
      (pss_cons (ps_set (i := 4) scSent.nd rfl (.inl rfl) pe_dnewK)
      (pss_one (ps_while PassesOwn.never (pt_val pe_bl)
        (pss_cons (ps_set (i := 5) scSent.nd rfl (.inl rfl) (pe_slice sl_str (pe_op op_add_str (pv 0) (pv 3)) (po_some (pe_un un_neg (pe_glob (v := .int 8) (by rfl) g8 ⟨_, rfl⟩))) po_none))
      (pss_cons (ps_set (i := 6) scSent.nd rfl (.inl rfl) (pe_call GP hr (by rfl) gP kP bP .nil pass0 (pa_cons (pv 5) (pa_cons (pv 2) pa_nil))))
      (pss_cons (ps_if (pt_cmpR op_eq (pv 6) pe_str (nomark _)) (pss_one (ps_ret (pv 3))) pss_nil)
      (pss_cons (ps_if (pt_cmp (pc_din hu (pv 5) (pv 4))) (pss_one (ps_ret pe_non)) pss_nil)
      (pss_cons (ps_dput hu (pv 4) (pv 5) pe_bl rfl)
      (pss_one (ps_set (i := 3) scSent.nd rfl (.inl rfl) (pe_op op_add_str (pv 3) (pv 6))))))))))))), ?_⟩
    have O := good_pok g
    have s8 : ∀ p ∈ ps, p.1.length ≤ 8 := fun p hp => by
      have := sgB_iff.mp (g.ok p hp).1
      omega
    let u : L := s0 ++ [x]
    have su : s0 <+: u := List.prefix_append _ _
    have sgu : Sgs u := sg.app fun d hd => by rw [List.mem_singleton.mp hd]; exact hx
    have u1 : 1 ≤ u.length := by show 1 ≤ (s0 ++ [x]).length; rw [List.length_append]; show 1 ≤ _ + 1; omega
    have ulen : u.length = s0.length + 1 := by show (s0 ++ [x]).length = _; rw [List.length_append]; rfl
    have pre : ∀ j, s0 <+: chain (lp ps) u j := fun j => su.trans (chain_pre j)
    have ec : c = mk (u.drop s0.length) := mk_eq (by
      show _ = (s0 ++ [x]).drop s0.length
      rw [List.drop_left, hc])
    refine q_asg (ev_var rfl) fun H1 e1 => ?_
    refine q_asgR fun d hd => ?_
    have e2 := e1.trans (Ex.new (o := .dK []) hd)
    have hd0 : H d = none := fresh_back e1 hd
    refine s_while (fun m σ' H' => ∃ j kvs, m = 300 - j ∧ (∃ x5 x6 : Option V, σ' = [some (.str z), some (.str c), some (.ref q), some (.str (mk ((chain (lp ps) u j).drop s0.length))), some (.ref d), x5, x6]) ∧ Ex H H' ∧ H' d = some (.dK kvs) ∧
      kvs.map (·.1) = (List.range j).map (fun i => (Sum.inr (mk (tail8 (chain (lp ps) u i))) : Key)) ∧ (∀ i, i < j → putL (lp ps) (chain (lp ps) u i) ≠ []) ∧ ∀ i i', i < i' → i' < j → tail8 (chain (lp ps) u i) ≠ tail8 (chain (lp ps) u i')) 300 ⟨0, [], rfl, ⟨none, none, by rw [ec]; rfl⟩, e2, upd_same, rfl, fun i hi => by omega, fun i i' h1 h2 => by omega⟩ ?_
    rintro m σ' H2 ⟨j, kvs, rfl, ⟨x5, x6, rfl⟩, e3, hdk, keys, up, nd⟩
    have j263 : j ≤ 263 := few_tails O u1 sgu up nd
    have clen := chain_len O (s := u) up
    have sl : (mk ((chain (lp ps) u j).drop s0.length)).length ≤ 264 := by
      rw [mk_len, List.length_drop, clen, ulen]
      omega
    have zl : z.length ≤ 8 := by
      rw [TL.len_tl, hz]
      exact tail8_le _
    refine ⟨true, et_B ev_c, fun _ H3 e4 => ⟨fun σ2 H4 => ∃ j' kvs, j' = j + 1 ∧ (∃ x5 x6 : Option V, σ2 = [some (.str z), some (.str c), some (.ref q), some (.str (mk ((chain (lp ps) u j').drop s0.length))), some (.ref d), x5, x6]) ∧ Ex H H4 ∧ H4 d = some (.dK kvs) ∧
      kvs.map (·.1) = (List.range j').map (fun i => (Sum.inr (mk (tail8 (chain (lp ps) u i))) : Key)) ∧ (∀ i, i < j' → putL (lp ps) (chain (lp ps) u i) ≠ []) ∧ ∀ i i', i < i' → i' < j' → tail8 (chain (lp ps) u i) ≠ tail8 (chain (lp ps) u i'), fun σ2 H4 ⟨j', kvs', e, r⟩ => ⟨300 - j', by omega, j', kvs', rfl, r⟩, ?_⟩, fun z => absurd z (by decide)⟩
    have E3 := e3.trans e4
    have tailE : TL.tl (cutS (z ++ mk ((chain (lp ps) u j).drop s0.length)) (some (-8)) none) = tail8 (chain (lp ps) u j) := by
      rw [last8, TL.tl_append, hz, tail8_app]
      show tail8 (s0 ++ (chain (lp ps) u j).drop s0.length) = _
      rw [pre_drop (pre j)]
    have tailIs := mk_eq tailE
    refine q_asg (ev_is (ev_slS (ev_addS (ev_var rfl) (ev_var rfl) (by omega)) (eo_some (i := -8) (ev_un ev_c ru_neg)) eo_none (by rw [sapp_len]; omega)) (by rw [tailIs])) fun H5 e5 => ?_
    refine q_asg (v := .str (putS ps (chain (lp ps) u j))) (ev_is (ev_call (z := .str (putS ps (TL.tl (mk (tail8 (chain (lp ps) u j)))))) (ea_cons (ev_var rfl) (ea_cons (ev_var rfl) ea_nil)) fun H6 e6 Q6 q6 E6 => ⟨_, q, xs, ps, rfl, ex_t ((E3.trans e5).trans e6) hq, hp.mono ((E3.trans e5).trans e6), s8, q6⟩) ?_) fun H6 e6 => ?_
    · rw [putS_mk, putS_mk]
      show V.str (mk (putL (lp ps) (tail8 (chain (lp ps) u j)))) = _
      rw [put_tail O]
    have E6 := (E3.trans e5).trans e6
    have hd6 := (e4.trans (e5.trans e6)) _ _ hdk
    refine q_when (b := decide (putS ps (chain (lp ps) u j) = mt)) (et_is (et_test (ev_op (ev_var rfl) ev_c (rv_eq rfl))) dec_str) (fun hb H7 e7 => ?_) (fun hb H7 e7 => ?_)
    · have pe := (putS_mt ps _).mp (of_decide_eq_true hb)
      have r1 := run_at (n := 300 - j) (k := j) up
      rw [show 300 - j + j = 300 by omega] at r1
      have r2 : run (lp ps) (300 - j) (chain (lp ps) u j) = some (chain (lp ps) u j) := by
        rw [show 300 - j = (299 - j) + 1 by omega]
        show (if _ then _ else _) = _
        rw [if_pos pe]
      refine s_ret (v := .str (mk ((chain (lp ps) u j).drop s0.length))) (ev_var rfl) fun H8 e8 => ?_
      have kk := k H8 ((E6.trans e7).trans e8)
      have se : sentL (lp ps) s0 x = some (chain (lp ps) u j) := r1.trans r2
      rw [se] at kk
      exact kk
    have pe : putL (lp ps) (chain (lp ps) u j) ≠ [] := fun e => of_decide_eq_false hb ((putS_mt ps _).mpr e)
    have upj : ∀ i, i < j + 1 → putL (lp ps) (chain (lp ps) u i) ≠ [] := fun i hi => by
      rcases Nat.lt_or_ge i j with z | z
      · exact up i z
      · rw [show i = j by omega]
        exact pe
    refine q_when (et_din (k := Sum.inr (mk (tail8 (chain (lp ps) u j)))) (ev_var rfl) (ev_var rfl) (e7 _ _ hd6)) (fun hb2 H8 e8 => ?_) (fun hb2 H8 e8 => ?_)
    · rw [valV_key, keys] at hb2
      obtain ⟨i, hi, e⟩ := List.mem_map.mp hb2
      have hi := List.mem_range.mp hi
      have e := mk_inj (Sum.inr.inj e)
      have ends := run_none (endless O hi e up) 300
      refine s_ret (v := .non) ev_c fun H9 e9 => ?_
      have kk := k H9 (((E6.trans e7).trans e8).trans e9)
      have se : sentL (lp ps) s0 x = none := ends
      rw [se] at kk
      exact kk
    have new : (Sum.inr (mk (tail8 (chain (lp ps) u j))) : Key) ∉ kvs.map (·.1) := fun z => by
      rw [valV_key.mpr z] at hb2
      cases hb2
    have vn : valV kvs (Sum.inr (mk (tail8 (chain (lp ps) u j))) : Key) = none := by
      cases cv : valV kvs (Sum.inr (mk (tail8 (chain (lp ps) u j))) : Key) with
      | none => rfl
      | some v =>
        rw [cv] at hb2
        cases hb2
    have klen : kvs.length = j := by
      have := congrArg List.length keys
      rwa [List.length_map, List.length_map, List.length_range] at this
    have hd8 := (e7.trans e8) _ _ hd6
    refine ⟨_, rfl, _, rfl, d, _, rfl, DPut.k (k := Sum.inr (mk (tail8 (chain (lp ps) u j)))) hd8 (sz_lt (by omega)), ?_⟩
    rw [putK_new vn]
    have E9 : Ex H (upd H8 d (.dK (kvs ++ [(Sum.inr (mk (tail8 (chain (lp ps) u j))), .bl true)]))) := Ex.mut ((E6.trans e7).trans e8) hd0
    refine s_asg (v := .str (mk ((chain (lp ps) u (j + 1)).drop s0.length))) (ev_is (ev_addS (ev_var rfl) (ev_var rfl) ?_) ?_) fun Ha ea => ?_
    · have : (putS ps (chain (lp ps) u j)).length ≤ 1 := by
        rw [TL.len_tl, tl_putS]
        rcases put_or O (chain (lp ps) u j) with z | ⟨y, z, _⟩
        · rw [z]; exact Nat.zero_le _
        · rw [z]; exact Nat.le_refl _
      omega
    · rw [putS_mk, mk_app]
      show V.str (mk _) = V.str (mk ((chain (lp ps) u j ++ putL (lp ps) (chain (lp ps) u j)).drop s0.length))
      rw [List.drop_append_of_le_length (pre j).length_le]
    · refine ⟨j + 1, _, rfl, ⟨_, _, rfl⟩, E9.trans ea, ea _ _ upd_same, ?_, upj, fun i i' h1 h2 => ?_⟩
      · rw [List.map_append, keys, List.range_succ, List.map_append]
        rfl
      · rcases Nat.lt_or_ge i' j with z | z
        · exact nd i i' h1 z
        · obtain rfl : i' = j := by omega
          intro e
          refine new ?_
          rw [keys]
          exact List.mem_map.mpr ⟨i, List.mem_range.mpr h1, by rw [e]⟩
end
end K10
namespace K10
open PySem L2 Evl Gr StX EnT ClX ClK RdX SrtT StS Fr
/-! ### the walk along a body -/
/-- a signs are taken, and l is the letter so far -/
def Go (P : LP) (b : L) (a : Nat) (l : L) : Prop := tkn P [] b = (tkn P (b.take a) (b.drop a)).map (l ++ ·)
section
variable {P : LP} {b l : L} {a : Nat}
theorem go_start : Go P b 0 [] := by
  unfold Go
  rw [List.take_zero, List.drop_zero]
  simp
theorem drop_at (h : a < b.length) : b.drop a = b[a] :: b.drop (a + 1) := List.drop_eq_getElem_cons h
theorem take_at (h : a < b.length) : b.take (a + 1) = b.take a ++ [b[a]] := take_snoc (List.getElem?_eq_getElem h)
theorem go_letter (g : Go P b a l) (h : a < b.length) (p : putL P (b.take a) = []) : Go P b (a + 1) (l ++ [b[a]]) := by
  unfold Go at *
  rw [g, drop_at h, take_at h]
  conv => lhs; unfold tkn
  rw [if_pos p, Option.map_map]
  congr 1
  funext t
  show l ++ (b[a] :: t) = (l ++ [b[a]]) ++ t
  simp
theorem go_put (g : Go P b a l) (h : a < b.length) (p : putL P (b.take a) = [b[a]]) : Go P b (a + 1) l := by
  unfold Go at *
  rw [g, drop_at h, take_at h]
  conv => lhs; unfold tkn
  rw [if_neg (by rw [p]; simp), if_pos p.symm]
theorem go_fail (g : Go P b a l) (p : putL P (b.take a) ≠ []) (n : (b.drop a).take 1 ≠ putL P (b.take a)) : tkn P [] b = none := by
  unfold Go at g
  rw [g]
  rcases Nat.lt_or_ge a b.length with h | h
  · rw [drop_at h] at n ⊢
    unfold tkn
    rw [if_neg p, if_neg (fun z => n (by rw [← z]; rfl))]
    rfl
  · rw [List.drop_of_length_le h]
    unfold tkn
    rw [if_neg p]
    rfl
theorem go_end (g : Go P b b.length l) (p : putL P (b.take b.length) = []) : tkn P [] b = some l := by
  unfold Go at g
  rw [g, List.drop_length]
  unfold tkn
  rw [if_pos p]
  simp
theorem part_one (p : (b.drop a).take 1 = putL P (b.take a)) (n : putL P (b.take a) ≠ []) : ∃ h : a < b.length, putL P (b.take a) = [b[a]] := by
  rcases Nat.lt_or_ge a b.length with h | h
  · refine ⟨h, ?_⟩
    rw [← p, drop_at h]
    rfl
  · rw [List.drop_of_length_le h] at p
    exact absurd p.symm n
end
/-- the last eight of the first a -/
theorem win8 {b : L} {a : Nat} (h : a ≤ b.length) : (b.drop (a - 8)).take (a - (a - 8)) = tail8 (b.take a) := by
  unfold tail8
  rw [List.length_take, Nat.min_eq_left h, List.drop_take]
theorem mk_one (c : Nat) : (⟨#[c]⟩ : Str) = mk [c] := rfl
theorem vstr_mk (l m : L) : decide (V.str (mk l) = V.str (mk m)) = decide (l = m) := by
  rw [decide_eq_decide]
  exact ⟨fun h => mk_inj (V.str.inj h), fun h => by rw [h]⟩
theorem vstr_mt (l : L) : decide (V.str (mk l) = V.str "") = decide (l = []) := by
  rw [decide_eq_decide]
  constructor
  · intro h
    have := congrArg TL.tl (V.str.inj h)
    rw [show TL.tl ("" : Str) = [] from tl_mt] at this
    exact this
  · intro h
    rw [h]
    exact congrArg V.str (mk_eq tl_mt).symm
section
variable {K : PySem.W.Frag} {σ : L2.St} {H : Hp} {te ta tb : TE}
/-- body[at:at + 1] -/
theorem ev_sign {z : Str} {a : Nat} (h : Ev te σ H (.str z)) (h1 : Ev ta σ H (.int (a : Int))) (h2 : Ev tb σ H (.int ((a + 1 : Nat) : Int))) (hz : z.length ≤ 100000) : Ev (tSl rSlS te (tPart ta) (tPart tb)) σ H (.str (mk (((TL.tl z).drop a).take 1))) :=
  ev_is (ev_slS h (eo_some h1) (eo_some h2) hz) (by
    rw [mk_eq (tl_part z a (a + 1)), show a + 1 - a = 1 by omega])
/-- letter + body[at] -/
theorem ev_next {z : Str} {a : Nat} {l : L} (hl : Ev te σ H (.str (mk l))) (h : Ev ta σ H (.str z)) (h1 : Ev tb σ H (.int (a : Int))) (hz : z.length ≤ 100000) (ll : l.length ≤ 90000) (lt : a < (TL.tl z).length) :
    Ev (tOp (fun x y H Q => ∃ i j, x = .str i ∧ y = .str j ∧ i.length + j.length ≤ sizeLine ∧ Q (.str (i ++ j)) H) te (tOp rIxS ta tb)) σ H (.str (mk (l ++ [(TL.tl z)[a]]))) :=
  ev_is (ev_addS hl (ev_op h h1 (rv_ixS (c := (TL.tl z)[a]) (by omega) (atI_nat (List.getElem?_eq_getElem lt)))) (by rw [mk_len, mk_one, mk_len]; show _ + 1 ≤ _; omega)) (by rw [mk_one, mk_app])
end
end K10
namespace K10
open PySem L2 Evl Gr StX EnT ClX ClK RdX SrtT StS Fr
abbrev sLru : Stmt := top 45
abbrev sLpu : Stmt := top 46
abbrev sLbo : Stmt := top 47
def bodyV : Option L → V
  | none => .non
  | some t => .str (mk t)
section
variable {K : PySem.W.Frag} {C cT : Addr} {σ : L2.St} {H : Hp} {te : TE} {f : Str} {ps : List Pr}
/-- a rule read -/
theorem eru_read {E : XK} (ht : Ev te σ H (.str (tx (rw_ f ps)))) (g : Good f ps) : EvRu K C (tCMeth C (spRead K C cT) E (tC (.ref C)) (tCons te tNil)) σ H f ps := fun H1 e Q q =>
  ⟨rfl, ht H1 e _ fun H2 e2 => .inl ⟨rw_ f ps, none, rfl, by unfold rw_; simp, good_free g, by have := good_tx g; omega, fun z hz => by have := good_short g z hz; omega, by have := (good_size g).2; omega, good_due g, fun i hi => (by cases hi), fun _ => by
    rw [pairs_rw, show gw (rw_ f ps) 0 = f from rfl]
    exact fun o H4 e4 r => q o H4 (e2.trans e4) r⟩⟩
/-- a walk over a text -/
theorem q_forS {z : Str} {g : TG} {tu tz : TS} {D : Ends} (h : Ev te σ H (.str z)) (Pv : Nat → L2.St → Hp → Prop) (h0 : ∀ H1, Ex H H1 → Pv 0 σ H1)
    (hs : ∀ (i : Nat) σ' H' (lt : i < (TL.tl z).length), Pv i σ' H' → g (.str (mk [(TL.tl z)[i]])) σ' H' fun σ2 H2 => tu { D with nx := Pv (i + 1), ct := Pv (i + 1), bk := tz D } σ2 H2) (hd : ∀ σ' H', Pv (TL.tl z).length σ' H' → tz D σ' H') : tSeq (tFor (iStr te) g tu) tz D σ H :=
  h H (Ex.refl H) _ fun H1 e => ⟨z, rfl, for_it (D := { D with nx := tz D }) walk_str Pv (h0 H1 e) (fun _ _ _ _ _ => trivial) (fun i x σ' H' H2 hi p y => by
    obtain ⟨rfl, c, hc, rfl⟩ := y
    have lt : i < (TL.tl z).length := hi
    have ec : (TL.tl z)[i] = c := by
      have : (TL.tl z)[i]? = some c := by rw [← hc]; exact Array.getElem?_toList
      rw [List.getElem?_eq_getElem lt] at this
      exact Option.some.inj this
    rw [mk_one, ← ec]
    exact hs i σ' _ lt p) hd⟩
end
section
variable {P : Program} {w : World} {K : PySem.W.Frag} {mg : Str → Option Value} {base : Heap}
/-! ### _law_rule -/
def spLru (K : PySem.W.Frag) (C : Addr) : Sp := fun vs H Q _ => ∃ (v : V) (f : Str) (ps : List Pr), vs = [v] ∧ PlanAt H v f ps ∧ Good f ps ∧ RetRu K C f ps H Q
theorem scLru : FnScope ["_law_plan_here"] ["_law_plan_here"] (defScope sLru) := ⟨rfl, rfl, rfl, by decide +kernel, rfl, by decide +kernel, by decide +kernel⟩
theorem ok_Lru {C cT pR fR f : Addr} {mc : Value} {fd fdR : FuncData} (F : Fun K "_law_rule" "_law_rule" sLru f fd) (N : FName K mg C mc) (hRead : CMet K C mc "read" pR fR) (read : FnOk P w K mg base (L2.CX P w) 6 fR fdR ["cls", "text"] (spRead K C cT)) (bR : Binds K fdR ["cls", "text"] [])
    (GT : Gfn P w K mg base 1 "_law_rule_text" ["_law_plan_here"] spRt) : FnOk P w K mg base CX0 7 f fd ["_law_plan_here"] (spLru K C) := by
  obtain ⟨fT, fdT, GT, kT, bT, gT⟩ := GT
  refine F.ok scLru (fun vs H Q E h => ?_) (fun cdv A outer s H vs Q E hr h => ?_)
  · obtain ⟨v, f, ps, rfl, _⟩ := h
    rfl
  · obtain ⟨v, fl, ps, rfl, hv, g, k⟩ := h
    have r1 := hr.mono (show 1 ≤ 6 by decide)
    refine ⟨_, (pss_one (ps_ret (pe_cmeth (E := E0) (pe_glob (v := .ref C) (by rfl) N.g rfl) N.rd hRead (fnR0 read bR) hr (passN rfl rfl) (pa_cons (pe_call GT r1 (by rfl) gT kT bT .nil pass0 (pa_cons (pv 0) pa_nil)) pa_nil)))), ?_⟩
    refine s_retR ((eru_read (K := K) (C := C) (cT := cT) (ev_call (z := .str (tx (rw_ fl ps))) (ea_cons (ev_var rfl) ea_nil) fun H1 e1 Q1 q1 E1 => ⟨v, fl, ps, rfl, hv.mono e1, g, q1⟩) g) H (Ex.refl H) _ fun o H2 e2 r => k o H2 e2 r)
/-! ### _law_put -/
abbrev nLpu : List Str := ["_law_plan_here", "_law_sent", "_law_found_here", "_law_watch", "_law_put_here"]
def spLpu : Sp := fun vs H Q _ => ∃ (v : V) (z f : Str) (ps : List Pr), vs = [v, .str z] ∧ z.length ≤ 90000 ∧ PlanAt H v f ps ∧ (∀ p ∈ ps, p.1.length ≠ 0 ∧ p.1.length ≤ 8) ∧ RetV (.str (mk (putL (lp ps) (TL.tl z)))) H Q
theorem scLpu : FnScope nLpu ["_law_plan_here", "_law_sent"] (defScope sLpu) := ⟨rfl, rfl, rfl, by decide +kernel, rfl, by decide +kernel, by decide +kernel⟩
theorem ok_Lpu {f : Addr} {fd : FuncData} (F : Fun K "_law_put" "_law_put" sLpu f fd) (T : GlbT mg) : FnOk P w K mg base CX0 1 f fd ["_law_plan_here", "_law_sent"] spLpu := by
  refine F.ok scLpu (fun vs H Q E h => ?_) (fun cdv A outer s H vs Q E hr h => ?_)
  · obtain ⟨v, z, f, ps, rfl, _⟩ := h
    rfl
  · obtain ⟨v, z, fl, ps, rfl, hz, hv, h8, k⟩ := h
    refine ⟨_, (pss_cons (ps_set (i := 2) scLpu.nd rfl (.inl rfl) (pe_tup (pa_cons pe_str (pa_cons pe_str pa_nil))))
      (pss_cons (ps_for PassesOwn.never rfl (pi_list (pe_ix ix_tup (pv 0) pe_int (fun _ _ => rfl))) (pg_tup rfl (pgs_cons (pg_name (i := 3) scLpu.nd rfl (.inl rfl)) (pgs_cons (pg_name (i := 4) scLpu.nd rfl (.inl rfl)) pgs_nil)))
        (pss_one (ps_if (PW.pt (pw_and (pt_cmpR op_gt (pe_callB call_len (by rfl) T.len PySem.boot_len (pa_cons (pv 3) pa_nil)) (pe_callB call_len (by rfl) T.len PySem.boot_len (pa_cons (pe_ix ix_tup (pv 2) pe_int (fun _ _ => rfl)) pa_nil)) (nomark _))
            (pw_and1 (pt_cmpR op_eq (pe_slice sl_str (pv 1) (po_some (pe_un un_neg (pe_callB call_len (by rfl) T.len PySem.boot_len (pa_cons (pv 3) pa_nil)))) po_none) (pv 3) (nomark _)))))
          (pss_one (ps_set (i := 2) scLpu.nd rfl (.inl rfl) (pe_tup (pa_cons (pv 3) (pa_cons (pv 4) pa_nil))))) pss_nil)))
      (pss_one (ps_ret (pe_ix ix_tup (pv 2) pe_int (fun _ _ => rfl)))))), ?_⟩
    obtain ⟨t, l, xs, rfl, ht, hl, hp⟩ := hv
    have len := hp.len
    refine q_asgU (eu_tup (ea_cons ev_c (ea_cons ev_c ea_nil)) (by show 2 ≤ 100000; decide)) fun t0 H1 h0 e1 ht0 => ?_
    refine q_forL (K := K) (a := l) (xs := xs) (ev_op (ev_var rfl) ev_c (rv_ixT_ (st_of (e1 _ _ ht)) (i := 1) rfl)) (sq_of (e1 _ _ hl)) (fun i σ' H' => ∃ t2, (∃ x4 x5 : Option V, σ' = [some (.ref t), some (.str z), some (.ref t2), x4, x5]) ∧ Ex H H' ∧ H' t2 = some (.tup [.str (bestS (TL.tl z) (ps.take i) (mt, mt)).1, .str (bestS (TL.tl z) (ps.take i) (mt, mt)).2]))
      (fun H2 e2 => ⟨t0, ⟨none, none, rfl⟩, e1.trans e2, e2 _ _ ht0⟩) (fun _ _ _ _ ⟨_, _, e, _⟩ => sq_of (e _ _ hl)) ?_ ?_
    · rintro i x σ' H2 hx ⟨t2, ⟨x4, x5, rfl⟩, e2, ht2⟩
      obtain ⟨tp, p, rfl, hpi, htp⟩ := hp.at hx
      refine ⟨tp, _, rfl, st_of (e2 _ _ htp), rfl, _, _, rfl, _, _, rfl, rfl, ?_⟩
      have hm := List.mem_of_getElem? hpi
      have b8 : (bestS (TL.tl z) (ps.take i) (mt, mt)).1.length ≤ 8 := best_short fun p hp => (h8 p (List.mem_of_mem_take hp)).2
      obtain ⟨p0, p8⟩ := h8 p hm
      have step : bestS (TL.tl z) (ps.take (i + 1)) (mt, mt) = if (bestS (TL.tl z) (ps.take i) (mt, mt)).1.length < p.1.length ∧ TL.tl p.1 <:+ TL.tl z then p else bestS (TL.tl z) (ps.take i) (mt, mt) := by
        rw [take_snoc hpi, bestS_snoc]
      refine s_when (b := decide (((bestS (TL.tl z) (ps.take i) (mt, mt)).1.length < p.1.length) ∧ TL.tl p.1 <:+ TL.tl z)) (et_is (et_and (et_test (ev_op (ev_cb (ea_cons (ev_var rfl) ea_nil) (rc_lenS (K := K) (z := p.1) (by omega))) (ev_cb (ea_cons (ev_op (ev_var rfl) ev_c (rv_ixT_ (st_of ht2) (i := 0) rfl)) ea_nil) (rc_lenS (K := K) (z := (bestS (TL.tl z) (ps.take i) (mt, mt)).1) (by omega))) rv_I0))
        fun _ => et_test (ev_op (ev_slS (z := z) (ev_var rfl) (eo_some (i := -(p.1.length : Int)) (ev_un (ev_cb (ea_cons (ev_var rfl) ea_nil) (rc_lenS (K := K) (z := p.1) (by omega))) ru_neg)) eo_none (by omega)) (ev_var rfl) (rv_eq rfl))) ?_) (fun hb H3 e3 => ?_) (fun hb H3 e3 => ?_)
      · rw [dec_str, Bool.eq_iff_iff, Bool.and_eq_true, decide_eq_true_iff, decide_eq_true_iff, decide_eq_true_iff, last_is p0]
        constructor
        · exact fun ⟨a, b⟩ => ⟨by omega, b⟩
        · exact fun ⟨a, b⟩ => ⟨by omega, b⟩
      · rw [if_pos (of_decide_eq_true hb)] at step
        refine s_asgU (eu_tup (ea_cons (ev_var rfl) (ea_cons (ev_var rfl) ea_nil)) (by show 2 ≤ 100000; decide)) fun t3 H4 h3 e4 ht3 => ⟨t3, ⟨some (.str p.1), some (.str p.2), rfl⟩, (e2.trans e3).trans e4, ?_⟩
        rw [step]
        exact ht3
      · rw [if_neg (of_decide_eq_false hb)] at step
        refine ⟨t2, ⟨some (.str p.1), some (.str p.2), rfl⟩, e2.trans e3, ?_⟩
        rw [step]
        exact e3 _ _ ht2
    · rintro σ' H2 ⟨t2, ⟨x4, x5, rfl⟩, e2, ht2⟩
      rw [List.take_of_length_le (by omega)] at ht2
      refine s_ret (v := .str (putS ps (TL.tl z))) (ev_op (ev_var rfl) ev_c (rv_ixT_ (st_of ht2) (i := 1) rfl)) fun H3 e3 => ?_
      rw [putS_mk]
      exact k H3 (e2.trans e3)
/-! ### _law_body -/
abbrev nLbo : List Str := ["_law_plan_here", "_law_letter", "_law_sent", "_law_sign", "_law_turn", "_law_put_here"]
def spLbo : Sp := fun vs H Q _ => ∃ (v : V) (z f : Str) (ps : List Pr), vs = [v, .str z] ∧ z.length ≤ 200 ∧ Sg z = true ∧ PlanAt H v f ps ∧ Good f ps ∧ RetV (bodyV (bodyL (lp ps) [] (TL.tl z))) H Q
theorem scLbo : FnScope nLbo ["_law_plan_here", "_law_letter"] (defScope sLbo) := ⟨rfl, rfl, rfl, by decide +kernel, rfl, by decide +kernel, by decide +kernel⟩
theorem bodyL_cons {P : LP} {s r : L} {c : Nat} {o : Option L} (h : sentL P s c = o) : bodyL P s (c :: r) = o.bind fun t => bodyL P t r := by
  conv => lhs; unfold bodyL
  rw [h]
  cases o <;> rfl
theorem ok_Lbo {f : Addr} {fd : FuncData} (F : Fun K "_law_body" "_law_body" sLbo f fd) (S : GlbS mg) (GP : Gfn P w K mg base 1 "_law_put" ["_law_plan_here", "_law_sent"] spLpu) : FnOk P w K mg base CX0 2 f fd ["_law_plan_here", "_law_letter"] spLbo := by
  obtain ⟨fP, fdP, GP, kP, bP, gP⟩ := GP
  refine F.ok scLbo (fun vs H Q E h => ?_) (fun cdv A outer s H vs Q E hr h => ?_)
  · obtain ⟨v, z, f, ps, rfl, _⟩ := h
    rfl
  · obtain ⟨v, z, fl, ps, rfl, hz, sg, hv, g, k⟩ := h
    refine ⟨_, (pss_cons (ps_set (i := 2) scLbo.nd rfl (.inl rfl) pe_str)
      (pss_cons (ps_for PassesOwn.never rfl (pi_str (pv 1)) (pg_name (i := 3) scLbo.nd rfl (.inl rfl))
        (pss_cons (ps_set (i := 2) scLbo.nd rfl (.inl rfl) (pe_op op_add_str (pv 2) (pv 3)))
      (pss_cons (ps_for PassesOwn.never rfl (pi_range1 (by rfl) S.range (pa_cons pe_int pa_nil)) (pg_name (i := 4) scLbo.nd rfl (.inl rfl))
          (pss_cons (ps_set (i := 5) scLbo.nd rfl (.inl rfl) (pe_call GP hr (by rfl) gP kP bP .nil pass0 (pa_cons (pv 0) (pa_cons (pv 2) pa_nil))))
      (pss_cons (ps_set (i := 2) scLbo.nd rfl (.inl rfl) (pe_op op_add_str (pv 2) (pv 5)))
      (pss_one (ps_if (pt_cmpR op_eq (pv 5) pe_str (nomark _)) (pss_one ps_break) pss_nil)))))
      (pss_one (ps_if (pt_cmpR op_ne (pv 5) pe_str (nomark _)) (pss_one (ps_ret pe_non)) pss_nil)))))
      (pss_one (ps_ret (pv 2))))), ?_⟩
    have O := good_pok g
    have s8 : ∀ p ∈ ps, p.1.length ≠ 0 ∧ p.1.length ≤ 8 := fun p hp => by
      have := sgB_iff.mp (g.ok p hp).1
      omega
    generalize hb : TL.tl z = b at k
    have bl : b.length ≤ 200 := by rw [← hb, ← TL.len_tl]; exact hz
    refine q_asg ev_c fun H1 e1 => ?_
    refine q_forS (z := z) (ev_var rfl) (fun i σ' H' => ∃ t, (∃ x3 x4 x5 : Option V, σ' = [some v, some (.str z), some (.str (mk t)), x3, x4, x5]) ∧ Ex H H' ∧ bodyL (lp ps) [] b = bodyL (lp ps) t (b.drop i) ∧ t.length ≤ 301 * i) (fun H2 e2 => ⟨[], ⟨none, none, none, by rw [show mk [] = ("" : Str) from (mk_eq tl_mt).symm]; rfl⟩, e1.trans e2, by rw [List.drop_zero], Nat.zero_le _⟩) ?_ ?_
    · subst hb
      rintro i σ' H2 lt ⟨t, ⟨x3, x4, x5, rfl⟩, e2, bd, tl⟩
      generalize hc : (TL.tl z)[i] = c
      have bd2 : bodyL (lp ps) [] (TL.tl z) = (sentL (lp ps) t c).bind fun t => bodyL (lp ps) t ((TL.tl z).drop (i + 1)) := by
        rw [bd, drop_at lt, hc]
        exact bodyL_cons rfl
      have tl2 : t.length ≤ 301 * 200 := by omega
      refine q_asg (ev_is (ev_addS (ev_var rfl) (ev_var rfl) (by rw [mk_len, mk_len]; show _ + 1 ≤ _; omega)) (congrArg V.str (mk_app t [c]))) fun H3 e3 => ?_
      have E3 := e2.trans e3
      let u : L := t ++ [c]
      have ul : u.length = t.length + 1 := by show (t ++ [c]).length = _; rw [List.length_append]; rfl
      refine q_forR1 (ea_cons ev_c ea_nil) (by decide) (fun j σ' H' => (∃ x4 x5 : Option V, σ' = [some v, some (.str z), some (.str (mk (chain (lp ps) u j))), some (.str (mk [c])), x4, x5] ∧ (0 < j → ∃ y, x5 = some (.str (mk y)) ∧ y ≠ [])) ∧ Ex H H' ∧ ∀ i', i' < j → putL (lp ps) (chain (lp ps) u i') ≠ []) (fun H4 e4 => ⟨⟨x4, x5, rfl, fun z => by omega⟩, E3.trans e4, fun i' z => by omega⟩) ?_ ?_
      · rintro j σ' H4 hj ⟨⟨y4, y5, rfl, _⟩, e4, up⟩
        have cl := chain_len O (s := u) up
        have cl2 : (chain (lp ps) u j).length ≤ 301 * 200 + 301 := by omega
        refine q_asg (v := .str (mk (putL (lp ps) (chain (lp ps) u j)))) (ev_call (ea_cons (ev_var rfl) (ea_cons (ev_var rfl) ea_nil)) fun H5 e5 Q5 q5 E5 => ⟨v, mk (chain (lp ps) u j), fl, ps, rfl, by rw [mk_len]; omega, hv.mono (e4.trans e5), s8, q5⟩) fun H5 e5 => ?_
        have pl : (putL (lp ps) (chain (lp ps) u j)).length ≤ 1 := by
          rcases put_or O (chain (lp ps) u j) with z | ⟨y, z, _⟩
          · rw [z]; exact Nat.zero_le _
          · rw [z]; exact Nat.le_refl _
        refine q_asg (ev_is (ev_addS (ev_var rfl) (ev_var rfl) (by rw [mk_len, mk_len]; omega)) (congrArg V.str (mk_app _ _))) fun H6 e6 => ?_
        have E6 := (e4.trans e5).trans e6
        refine s_when (b := decide (putL (lp ps) (chain (lp ps) u j) = [])) (et_is (et_test (ev_op (ev_var rfl) ev_c (rv_eq rfl))) (by rw [vstr_mt])) (fun hb H7 e7 => ?_) (fun hb H7 e7 => ?_)
        · have pe := of_decide_eq_true hb
          have r1 := run_at (n := 300 - j) (k := j) up
          rw [show 300 - j + j = 300 by omega] at r1
          have r2 : run (lp ps) (300 - j) (chain (lp ps) u j) = some (chain (lp ps) u j) := by
            rw [show 300 - j = (299 - j) + 1 by omega]
            show (if _ then _ else _) = _
            rw [if_pos pe]
          have se : sentL (lp ps) t c = some (chain (lp ps) u j) := r1.trans r2
          show tBreak _ [some v, some (.str z), some (.str (mk (chain (lp ps) u j ++ putL (lp ps) (chain (lp ps) u j)))), some (.str (mk [c])), some (.int (j : Int)), some (.str (mk (putL (lp ps) (chain (lp ps) u j))))] H7
          rw [pe, List.append_nil]
          refine s_when (b := false) (et_is (et_test (ev_op (ev_var rfl) ev_c (rv_ne rfl))) (by rw [vstr_mt]; rfl)) (fun z => absurd z (by decide)) (fun _ H8 e8 => ⟨_, ⟨_, _, _, rfl⟩, (E6.trans e7).trans e8, ?_, ?_⟩)
          · rw [bd2, se]
            rfl
          · omega
        · have pe := of_decide_eq_false hb
          refine ⟨⟨_, _, rfl, fun _ => ⟨_, rfl, pe⟩⟩, E6.trans e7, fun i' hi' => ?_⟩
          rcases Nat.lt_or_ge i' j with y | y
          · exact up i' y
          · rw [show i' = j by omega]
            exact pe
      · rintro σ' H4 ⟨⟨y4, y5, rfl, ne⟩, e4, up⟩
        obtain ⟨y, rfl, yn⟩ := ne (by decide)
        have r1 := run_at (n := 0) (k := 300) up
        have se : sentL (lp ps) t c = none := r1
        refine s_when (b := true) (et_is (et_test (ev_op (ev_var rfl) ev_c (rv_ne rfl))) (by rw [vstr_mt, decide_eq_false yn]; rfl)) (fun _ H5 e5 => ?_) (fun z => absurd z (by decide))
        refine s_ret (v := .non) ev_c fun H6 e6 => ?_
        rw [bd2, se] at k
        exact k H6 ((e4.trans e5).trans e6)
    · rintro σ' H2 ⟨t, ⟨x3, x4, x5, rfl⟩, e2, bd, tl⟩
      rw [hb, List.drop_length] at bd
      refine s_ret (v := .str (mk t)) (ev_var rfl) fun H3 e3 => ?_
      rw [bd] at k
      exact k H3 (e2.trans e3)
end
end K10
namespace K10
open PySem L2 Evl Gr StX EnT ClX ClK RdX SrtT StS Fr
abbrev sStO : Stmt := top 17
abbrev sLst : Stmt := top 49
structure GlbW (mg : Str → Option Value) : Prop where
  any : mg "any" = none
  len : mg "len" = none
  int : mg "int" = none
  list : mg "list" = none
  tuple : mg "tuple" = none
  sorted : mg "sorted" = none
  range : mg "range" = none
  str : mg "str" = none
  inst : mg "isinstance" = none
/-! ### texts within texts -/
theorem begins_is (a b : Str) : Txt.startswith a b = decide (TL.tl b <+: TL.tl a) := by
  rw [← PyProof.Rows.starts_fact (b := Txt.startswith a b) rfl rfl, PySem.StrLaws.subAt_eq, Bool.eq_iff_iff, Bool.and_eq_true, decide_eq_true_iff, decide_eq_true_iff, beq_iff_eq, TL.len_tl a, TL.len_tl b, Nat.zero_add, List.drop_zero, List.prefix_iff_eq_take]
  constructor
  · exact fun h => h.2.symm
  · intro h
    refine ⟨?_, h.symm⟩
    have := congrArg List.length h
    rw [List.length_take] at this
    omega
theorem inf_iff {f t : L} : f <:+: t ↔ ∃ i, i + f.length ≤ t.length ∧ (t.drop i).take f.length = f := by
  constructor
  · rintro ⟨p, q, rfl⟩
    refine ⟨p.length, by simp only [List.length_append]; omega, ?_⟩
    rw [List.append_assoc, List.drop_left, List.take_left]
  · rintro ⟨i, _, h⟩
    rw [← h]
    exact (List.take_prefix _ _).isInfix.trans (List.drop_suffix _ _).isInfix
theorem in_is (a b : Str) : (!(Builtin.Str.occurrences a b 0 a.length 1).isEmpty) = decide (TL.tl b <:+: TL.tl a) := by
  rw [Bool.eq_iff_iff, decide_eq_true_iff, PySem.StrLaws.found_iff, inf_iff]
  constructor
  · rintro ⟨i, h1, h2⟩
    rw [PySem.StrLaws.subAt_eq, beq_iff_eq] at h2
    refine ⟨i, by rw [← TL.len_tl, ← TL.len_tl]; exact h1, ?_⟩
    rw [← TL.len_tl]
    exact h2
  · rintro ⟨i, h1, h2⟩
    refine ⟨i, by rw [← TL.len_tl, ← TL.len_tl] at h1; exact h1, ?_⟩
    rw [PySem.StrLaws.subAt_eq, beq_iff_eq]
    rw [← TL.len_tl] at h2
    exact h2
theorem strOk_sg {z : Str} (h : Sg z = true) : PyData.strOk z = true := by
  unfold PyData.strOk
  rw [← Array.all_toList, List.all_eq_true]
  intro c hc
  rcases sgs_iff.mp h c hc with rfl | rfl <;> decide
theorem shaped_strs {zs : List Str} (hz : ∀ z ∈ zs, Sg z = true) : SeqAt.shaped (.list (zs.map PyData.str)) = true := by
  have h1 : ∀ l : List Str, (∀ z ∈ l, Sg z = true) → PyData.canLayAll0 (l.map PyData.str) = true := fun l => by
    induction l with
    | nil => intro _; simp [PyData.canLayAll0]
    | cons z r ih =>
      intro h
      simp [PyData.canLayAll0, PyData.canLay0, ih fun y hy => h y (List.mem_cons_of_mem _ hy), strOk_sg (h z List.mem_cons_self)]
  have h2 : ∀ l : List Str, PyData.depthAll (l.map PyData.str) = 0 := fun l => by
    induction l with
    | nil => simp [PyData.depthAll]
    | cons z r ih => simp [PyData.depthAll, PyData.depth, ih]
  unfold SeqAt.shaped
  simp [PyData.canLay0, PyData.depth, h1 zs hz, h2]
abbrev rStarts : V → List V → Hp → VK → Prop := fun x xs H Q => ∃ a b, x = .str a ∧ xs = [.str b] ∧ Q (.bl (Txt.startswith a b)) H
abbrev rInStr : R2 := fun x y H Q => ∃ i j, x = .str i ∧ y = .str j ∧ Q (.bl (!(Builtin.Str.occurrences j i 0 j.length 1).isEmpty)) H
section
variable {K : PySem.W.Frag} {σ : L2.St} {H : Hp} {te ta tb : TE}
theorem ev_starts {a b : Str} (ha : Ev ta σ H (.str a)) (hb : Ev tb σ H (.str b)) : Ev (tBM K "str" (fun x xs H Q => ∃ a b, x = .str a ∧ xs = [.str b] ∧ Q (.bl (Txt.startswith a b)) H) ta (tCons tb tNil)) σ H (.bl (Txt.startswith a b)) := fun H1 e Q q =>
  ha H1 e _ fun H2 e2 => ⟨rfl, hb H2 (e.trans e2) _ fun H3 e3 => ⟨a, b, rfl, rfl, q H3 (e2.trans e3)⟩⟩
theorem ev_inS {a b : Str} (ha : Ev ta σ H (.str a)) (hb : Ev tb σ H (.str b)) : Ev (tOp rInStr ta tb) σ H (.bl (decide (TL.tl a <:+: TL.tl b))) := fun H1 e Q q =>
  ha H1 e _ fun H2 e2 => hb H2 (e.trans e2) _ fun H3 e3 => ⟨a, b, rfl, rfl, by rw [in_is]; exact q H3 (e2.trans e3)⟩
theorem ev_any {bs : List Bool} (h : EvL te σ H (bs.map V.bl)) : Ev (tCB (rAny K) (tCons te tNil)) σ H (.bl (bs.any id)) := fun H1 e Q q =>
  h H1 e _ fun p H2 _ e2 hp => ⟨p, bs, rfl, sq_of hp, q H2 e2⟩
theorem el_star {x : V} {xs : List V} (h : Ev ta σ H x) (hr : EvL te σ H xs) (hz : xs.length ≤ 90000) : EvL (tLst (tCons ta (tStar K te tNil))) σ H (x :: xs) := fun H1 e Q q =>
  h H1 e _ fun H2 e2 => hr H2 (e.trans e2) _ fun p H3 _ e3 hp => ⟨p, xs, rfl, .inr (sq_of hp), by
    show (x :: (xs ++ [])).length ≤ sizeLine ∧ ∀ l, H3 l = none → Q (.ref l) (upd H3 l (.lst (x :: (xs ++ []))))
    rw [List.append_nil]
    exact ⟨sz_of (by rw [List.length_cons]; omega), fun l hl => q l _ (fresh_back (e2.trans e3) hl) ((e2.trans e3).trans (Ex.new hl)) upd_same⟩⟩
theorem ev_neNilS {zs : List Str} (hz : ∀ z ∈ zs, Sg z = true) (h : EvL te σ H (zs.map V.str)) : Ev (tOp (rNeD K) te (tLst tNil)) σ H (.bl (!decide (zs = []))) := fun H1 e Q q =>
  h H1 e _ fun p H2 _ e2 hp => ⟨by decide, fun l hl => ⟨.list (zs.map PyData.str), .list [], .lst (sq_of ((Ex.new hl) _ _ hp)) (dps_strs zs), .lst (sq_of upd_same) .nil, by
    exact shaped_strs hz, by decide +kernel, by
    rw [eqv_nil]
    have : decide (zs.map PyData.str = []) = decide (zs = []) := by
      cases zs <;> simp
    rw [this]
    exact q _ (e2.trans (Ex.new hl))⟩⟩
end
/-! ### words -/
def watches (ps : List Pr) : List L := (lp ps).map (·.1)
def Wp (f : Str) (ps : List Pr) : List L := TL.tl f :: watches ps
def Wl (f : Str) (ps : List Pr) : List L := (TL.tl f).dropLast :: watches ps
theorem wp_ne {f : Str} {ps : List Pr} : Wp f ps ≠ [] := List.cons_ne_nil _ _
theorem wl_ne {f : Str} {ps : List Pr} : Wl f ps ≠ [] := List.cons_ne_nil _ _
theorem watches_mem {ps : List Pr} : ∀ q ∈ lp ps, q.1 ∈ watches ps := fun q hq => List.mem_map.mpr ⟨q, hq, rfl⟩
theorem wp_mem {f : Str} {ps : List Pr} : ∀ q ∈ lp ps, q.1 ∈ Wp f ps := fun q hq => List.mem_cons_of_mem _ (watches_mem q hq)
theorem wl_mem {f : Str} {ps : List Pr} : ∀ q ∈ lp ps, q.1 ∈ Wl f ps := fun q hq => List.mem_cons_of_mem _ (watches_mem q hq)
theorem watches_8 {f : Str} {ps : List Pr} (g : Good f ps) : ∀ w ∈ watches ps, w.length ≤ 8 := fun w hw => by
  obtain ⟨q, hq, rfl⟩ := List.mem_map.mp hw
  exact (good_pok g).w8 q hq
theorem flag_len {f : Str} {ps : List Pr} (g : Good f ps) : 2 ≤ (TL.tl f).length ∧ (TL.tl f).length ≤ 8 := by
  have := sgB_iff.mp g.flag
  rw [TL.len_tl] at this
  omega
theorem wp_8 {f : Str} {ps : List Pr} (g : Good f ps) : ∀ w ∈ Wp f ps, w.length ≤ 8 := fun w hw => by
  rcases List.mem_cons.mp hw with rfl | hw
  · exact (flag_len g).2
  · exact watches_8 g w hw
theorem wl_8 {f : Str} {ps : List Pr} (g : Good f ps) : ∀ w ∈ Wl f ps, w.length ≤ 8 := fun w hw => by
  rcases List.mem_cons.mp hw with rfl | hw
  · rw [List.length_dropLast]
    have := (flag_len g).2
    omega
  · exact watches_8 g w hw
theorem wstr (ps : List Pr) : ((ps.filter fun _ => true).map fun p => V.str p.1) = (ps.map (·.1)).map V.str := by
  rw [List.filter_eq_self.mpr fun _ _ => rfl, List.map_map]
  rfl
theorem watches_tl (ps : List Pr) : watches ps = (ps.map (·.1)).map TL.tl := by
  unfold watches lp
  rw [List.map_map, List.map_map]
  rfl
theorem any_beg {ws : List Str} {e : L} : ((ws.map fun w => decide (e <+: TL.tl w)).any id) = decide (Beg (ws.map TL.tl) e) := by
  rw [Bool.eq_iff_iff, decide_eq_true_iff, List.any_eq_true]
  constructor
  · rintro ⟨b, hb, h⟩
    obtain ⟨w, hw, rfl⟩ := List.mem_map.mp hb
    exact ⟨_, List.mem_map.mpr ⟨w, hw, rfl⟩, of_decide_eq_true h⟩
  · rintro ⟨w, hw, h⟩
    obtain ⟨v, hv, rfl⟩ := List.mem_map.mp hw
    exact ⟨_, List.mem_map.mpr ⟨v, hv, rfl⟩, decide_eq_true h⟩
section
variable {P : Program} {w : World} {K : PySem.W.Frag} {mg : Str → Option Value} {base : Heap}
/-! ### state_of -/
abbrev nStO : List Str := ["signs", "flag", "pairs", "words", "ending", "watch", "_", "word"]
def spStO (K : PySem.W.Frag) : Sp := fun vs H Q _ => ∃ (z f : Str) (q : Addr) (xs : List V) (ps : List Pr), vs = [.str z, .str f, .ref q] ∧ z.length ≤ 90000 ∧ SqT K H q xs ∧ Prs H xs ps ∧ Good f ps ∧ RetV (.str (mk (stOf (Wp f ps) (TL.tl z)))) H Q
theorem scStO : FnScope nStO ["signs", "flag", "pairs"] (defScope sStO) := ⟨rfl, rfl, rfl, by decide +kernel, rfl, by decide +kernel, by decide +kernel⟩
theorem ok_StO {f : Addr} {fd : FuncData} (F : Fun K "state_of" "state_of" sStO f fd) (T : GlbT mg) (W : GlbW mg) (Z : GlbP mg) : FnOk P w K mg base CX0 1 f fd ["signs", "flag", "pairs"] (spStO K) := by
  obtain ⟨t8, g8⟩ := Z.eight
  refine F.ok scStO (fun vs H Q E h => ?_) (fun cdv A outer s H vs Q E hr h => ?_)
  · obtain ⟨z, f, q, xs, ps, rfl, _⟩ := h
    rfl
  · obtain ⟨z, fl, q, xs, ps, rfl, hz, hq, hp, g, k⟩ := h
    refine ⟨_, (pss_cons (ps_set (i := 3) scStO.nd rfl (.inl rfl) (pe_lst (pa_cons (pv 1) (pa_star (pe_lc (own := [("watch", 5), ("_", 6)]) (g := gTup K 2 (gCons (gName 5) (gCons (gName 6) gNil))) rfl scStO.nd (pi_tup (pv 2)) (blkOk_by (own := [("watch", 5), ("_", 6)]) (N := nStO) (sc := defScope sStO) (by decide +kernel))
          (fun _ _ _ _ _ => pg_tup rfl (pgs_cons (pg_name (i := 5) scStO.nd rfl (Or.inl rfl)) (pgs_cons (pg_name (i := 6) scStO.nd rfl (Or.inl rfl)) pgs_nil))) (fun _ _ _ _ _ => pts_nil) (fun _ _ _ _ _ => pv 5)) pa_nil))))
      (pss_cons (ps_set (i := 4) scStO.nd rfl (.inr rfl) (pe_slice sl_str (pv 0) (po_some (pe_un un_neg (pe_glob (v := .int 8) (by rfl) g8 ⟨_, rfl⟩))) po_none))
      (pss_cons (ps_while PassesOwn.never (pt_not (pt_val (pe_callB (cr_any rfl) (by rfl) W.any (by decide +kernel) (pa_cons (pe_lc (te := tBM K "str" rStarts (tVar 7) (tCons (tVar 4) tNil)) (own := [("word", 7)]) (g := gName 7) rfl scStO.nd (pi_list (pv 3)) (blkOk_by (own := [("word", 7)]) (N := nStO) (sc := defScope sStO) (by decide +kernel))
          (fun _ _ _ _ _ => pg_name (i := 7) scStO.nd rfl (Or.inl rfl)) (fun _ _ _ _ _ => pts_nil) (fun _ _ _ _ _ => by exact pe_bm PySem.F.plainAttrs_str PySem.F.slot_str_startswith PySem.F.type_str_startswith mt_startswith (pv 7) (pa_cons (pv 4) pa_nil))) pa_nil))))
        (pss_one (ps_set (i := 4) scStO.nd rfl (.inr rfl) (pe_slice sl_str (pv 4) (po_some pe_int) po_none))))
      (pss_one (ps_ret (pv 4)))))), ?_⟩
    let ws : List Str := fl :: ps.map (·.1)
    have wsE : ws.map TL.tl = Wp fl ps := by
      show TL.tl fl :: _ = _
      rw [← watches_tl]
      rfl
    have few := g.many
    refine q_asgL (xs := ws.map V.str) ?_ fun W3 H1 hW3 e1 hl => ?_
    · have := el_star (K := K) (x := .str fl) (ta := tVar 1) (σ := [some (.str z), some (.str fl), some (.ref q), none, none, none, none, none]) (H := H) (ev_var rfl) (el_pairT (tl := tVar 2) (i := 5) (j := 6) (vs := [5, 6]) (t := fun σ H Q => Q true H) (te := tVar 5) (fun _ => true) (fun p => V.str p.1) (etu_var (i := 2) rfl hq) hp (by omega) (fun _ _ => rfl) (fun p _ H1 _ => et_none) (fun p _ H1 _ _ => ev_var rfl)) (by rw [List.length_map, List.filter_eq_self.mpr fun _ _ => rfl]; omega)
      rw [wstr] at this
      exact this
    refine q_asg (ev_is (ev_slS (z := z) (ev_var rfl) (eo_some (i := -8) (ev_un ev_c ru_neg)) eo_none (by omega)) (congrArg V.str (mk_eq (last8 z)))) fun H2 e2 => ?_
    refine q_while (fun m σ' H' => ∃ e, m = e.length ∧ σ' = [some (.str z), some (.str fl), some (.ref q), some (.ref W3), some (.str (mk e)), none, none, none] ∧ Ex H1 H' ∧ e.length ≤ 8 ∧ stOf (Wp fl ps) e = stOf (Wp fl ps) (TL.tl z)) (tail8 (TL.tl z)).length
      ⟨_, rfl, rfl, e2, tail8_le _, st_tail8 wp_ne (wp_8 g) _⟩ ?_
    rintro m σ' H3 ⟨e, rfl, rfl, e3, e8, he⟩
    have hl3 : SqL K H3 W3 (ws.map V.str) := sq_of (e3 _ _ hl)
    refine ⟨!decide (Beg (Wp fl ps) e), et_is (et_not (et_B (ev_any (K := K) (bs := ws.map fun w => decide (e <+: TL.tl w)) ?_))) (by rw [any_beg, wsE]), fun hb H4 e4 => ⟨fun σ2 H4 => ∃ e', e'.length < e.length ∧ σ2 = [some (.str z), some (.str fl), some (.ref q), some (.ref W3), some (.str (mk e')), none, none, none] ∧ Ex H1 H4 ∧ e'.length ≤ 8 ∧ stOf (Wp fl ps) e' = stOf (Wp fl ps) (TL.tl z),
      fun σ2 H4 ⟨e', h1, h2⟩ => ⟨_, h1, e', rfl, h2⟩, ?_⟩, fun hb H4 e4 => ?_⟩
    · have := el_mapL (K := K) (α := Str) V.str (l := ws) (a := W3) (j := 7) (vs := [7]) (t := fun σ H Q => Q true H) (te := tBM K "str" (fun x xs H Q => ∃ a b, x = .str a ∧ xs = [.str b] ∧ Q (.bl (Txt.startswith a b)) H) (tVar 7) (tCons (tVar 4) tNil)) (tl := tVar 3) (σ := [some (.str z), some (.str fl), some (.ref q), some (.ref W3), some (.str (mk e)), none, none, none]) (H := H3) (fun _ => true) (fun w => .bl (decide (e <+: TL.tl w))) (ev_var rfl) hl3 (by show (ps.map _).length + 1 ≤ _; rw [List.length_map]; omega) (fun _ => rfl) (fun _ _ _ _ => et_none)
        (fun w _ H5 _ _ => ev_is (ev_starts (a := w) (b := mk e) (ev_var rfl) (ev_var rfl)) (by rw [begins_is]))
      rw [List.filter_eq_self.mpr fun _ _ => rfl] at this
      rw [List.map_map]
      exact this
    · rw [Bool.not_eq_true', decide_eq_false_iff_not] at hb
      cases e with
      | nil => exact absurd (beg_nil wp_ne) hb
      | cons c r =>
        refine s_asg (v := .str (mk r)) (ev_is (ev_slS (z := mk (c :: r)) (ev_var rfl) (eo_some (i := ((1 : Nat) : Int)) ev_c) eo_none (by rw [mk_len]; omega)) (congrArg V.str (mk_eq (tl_rest (mk (c :: r)) 1)))) fun H5 e5 => ⟨r, Nat.lt_succ_self _, rfl, (e3.trans e4).trans e5, by rw [List.length_cons] at e8; omega, ?_⟩
        rw [← he]
        show _ = (if Beg (Wp fl ps) (c :: r) then _ else _)
        rw [if_neg hb]
    · rw [Bool.not_eq_false', decide_eq_true_iff] at hb
      refine s_ret (v := .str (mk e)) (ev_var rfl) fun H5 e5 => ?_
      rw [← he, st_is wp_ne (List.suffix_refl e) hb (fun x hx _ => hx)] at k
      exact k H5 (((e1.trans e3).trans e4).trans e5)
end
end K10
namespace K10
open PySem L2 Evl Gr StX EnT ClX ClK RdX SrtT StS Fr
/-! ### _law_state -/
abbrev rLenV (K : PySem.W.Frag) : List V → Hp → VK → Prop := fun xs H Q => ∃ x n, xs = [x] ∧ LenV K x H n ∧ Q (.int n) H
section
variable {K : PySem.W.Frag} {σ : L2.St} {H : Hp} {te ta tb : TE}
theorem el_cat {xs ys : List V} (ha : EvL ta σ H xs) (hb : EvL tb σ H ys) (hz : xs.length + ys.length ≤ 100000) : EvL (tOp rCat ta tb) σ H (xs ++ ys) := fun H1 e Q k =>
  ha H1 e _ fun p H2 _ e2 hp => hb H2 (e.trans e2) _ fun r H3 _ e3 hr => ⟨p, r, xs, ys, rfl, rfl, e3 _ _ hp, hr, sz_of hz, fun a ha => k a _ (fresh_back (e2.trans e3) ha) ((e2.trans e3).trans (Ex.new ha)) (by rw [upd_same])⟩
end
theorem tl_most (z : Str) : TL.tl (cutS z none (some (-1))) = (TL.tl z).dropLast := by
  rw [tl_cut, HT.sIx_none, show HT.sIx z.length z.length (some (-1)) = z.length - 1 from sIx_neg _ _ 1 (by decide), List.drop_zero, Nat.sub_zero, List.dropLast_eq_take, TL.len_tl]
theorem beg_at {W : List L} {s : L} {i : Nat} (h : i ≤ s.length) : Beg W (s.drop i) ↔ ∃ w ∈ W, w.take (s.length - i) = s.drop i := by
  unfold Beg
  constructor
  · rintro ⟨w, hw, p⟩
    refine ⟨w, hw, ?_⟩
    have := List.prefix_iff_eq_take.mp p
    rw [List.length_drop] at this
    exact this.symm
  · rintro ⟨w, hw, p⟩
    exact ⟨w, hw, by rw [← p]; exact List.take_prefix _ _⟩
theorem st_drop {W : List L} {s : L} {i : Nat} (h : i < s.length) : stOf W (s.drop i) = if Beg W (s.drop i) then s.drop i else stOf W (s.drop (i + 1)) := by
  conv => lhs; rw [List.drop_eq_getElem_cons h]
  conv => rhs; rw [List.drop_eq_getElem_cons h]
  rfl
section
variable {P : Program} {w : World} {K : PySem.W.Frag} {mg : Str → Option Value} {base : Heap}
abbrev nLst : List Str := ["_law_plan_here", "_law_sent", "_law_words", "_law_at", "_law_watch", "_law_put_here", "_law_word"]
def spLst : Sp := fun vs H Q _ => ∃ (v : V) (z f : Str) (ps : List Pr), vs = [v, .str z] ∧ z.length ≤ 90000 ∧ Sg z = true ∧ PlanAt H v f ps ∧ Good f ps ∧ RetV (.str (mk (stOf (Wl f ps) (TL.tl z)))) H Q
theorem scLst : FnScope nLst ["_law_plan_here", "_law_sent"] (defScope sLst) := ⟨rfl, rfl, rfl, by decide +kernel, rfl, by decide +kernel, by decide +kernel⟩
abbrev tCutW (K : PySem.W.Frag) : TT := tTest (tOp rEq (tSl rSlS (tVar 6) tNoPart (tPart (tOp (rI0 fun i j => .int (i - j)) (tCB (rLenV K) (tCons (tVar 1) tNil)) (tVar 3)))) (tSl rSlS (tVar 1) (tPart (tVar 3)) tNoPart))
theorem ok_Lst {f : Addr} {fd : FuncData} (F : Fun K "_law_state" "_law_state" sLst f fd) (T : GlbT mg) (S : GlbS mg) : FnOk P w K mg base CX0 1 f fd ["_law_plan_here", "_law_sent"] spLst := by
  refine F.ok scLst (fun vs H Q E h => ?_) (fun cdv A outer s H vs Q E hr h => ?_)
  · obtain ⟨v, z, f, ps, rfl, _⟩ := h
    rfl
  · obtain ⟨v, z, fl, ps, rfl, hz, sg, hv, g, k⟩ := h
    have hu : (A.deeper (PyProof.Rows.envOfC "_law_state" (defScope sLst) s.heap.objs.size f cdv)).units + 64 < cLine := by have := hr.units; omega
    refine ⟨_, (pss_cons (ps_set (i := 2) scLst.nd rfl (.inl rfl) (pe_op op_cat (pe_lst (pa_cons (pe_slice sl_str (pe_ix ix_tup (pv 0) pe_int (fun _ _ => rfl)) po_none (po_some (pe_un un_neg pe_int))) pa_nil)) (pe_lc (own := [("_law_watch", 4), ("_law_put_here", 5)]) (g := gTup K 2 (gCons (gName 4) (gCons (gName 5) gNil))) rfl scLst.nd (pi_list (pe_ix ix_tup (pv 0) pe_int (fun _ _ => rfl))) (blkOk_by (own := [("_law_watch", 4), ("_law_put_here", 5)]) (N := nLst) (sc := defScope sLst) (by decide +kernel))
          (fun _ _ _ _ _ => pg_tup rfl (pgs_cons (pg_name (i := 4) scLst.nd rfl (Or.inl rfl)) (pgs_cons (pg_name (i := 5) scLst.nd rfl (Or.inl rfl)) pgs_nil))) (fun _ _ _ _ _ => pts_nil) (fun _ _ _ _ _ => pv 4))))
      (pss_cons (ps_for PassesOwn.never rfl (pi_range1 (by rfl) S.range (pa_cons (pe_callB call_len (by rfl) T.len PySem.boot_len (pa_cons (pv 1) pa_nil)) pa_nil)) (pg_name (i := 3) scLst.nd rfl (.inr rfl))
        (pss_one (ps_if (pt_cmpR (op_neD hu) (pe_lc (tt := tCutW K) (own := [("_law_word", 6)]) (g := gName 6) rfl scLst.nd (pi_list (pv 2)) (blkOk_by (own := [("_law_word", 6)]) (N := nLst) (sc := defScope sLst) (by decide +kernel))
          (fun _ _ _ _ _ => pg_name (i := 6) scLst.nd rfl (Or.inl rfl)) (fun _ _ _ _ _ => pts_one (pt_cmpR op_eq (pe_slice sl_str (pv 6) po_none (po_some (pe_op op_sub (pe_callB call_len (by rfl) T.len PySem.boot_len (pa_cons (pv 1) pa_nil)) (pv 3)))) (pe_slice sl_str (pv 1) (po_some (pv 3)) po_none) (nomark _))) (fun _ _ _ _ _ => pv 6)) (pe_lst pa_nil) (nomark _))
          (pss_one (ps_ret (pe_slice sl_str (pv 1) (po_some (pv 3)) po_none))) pss_nil)))
      (pss_one (ps_ret pe_str)))), ?_⟩
    obtain ⟨t, l, xs, rfl, ht, hl, hp⟩ := hv
    have few := g.many
    let f1 : Str := mk (TL.tl fl).dropLast
    let ws : List Str := f1 :: ps.map (·.1)
    have wsE : ws.map TL.tl = Wl fl ps := by
      show (TL.tl fl).dropLast :: _ = _
      rw [← watches_tl]
      rfl
    have w8 : ∀ y ∈ ws, y.length ≤ 8 := fun y hy => by
      rw [TL.len_tl]
      exact wl_8 g _ (by rw [← wsE]; exact List.mem_map.mpr ⟨y, hy, rfl⟩)
    have wsg : ∀ y ∈ ws, Sg y = true := fun y hy => by
      rcases List.mem_cons.mp hy with rfl | hy
      · exact sg_mk fun c hc => sgs_iff.mp (sgB_iff.mp g.flag).1 c ((List.dropLast_prefix _).subset hc)
      · obtain ⟨p, hp, rfl⟩ := List.mem_map.mp hy
        exact (sgB_iff.mp (g.ok p hp).1).1
    have zn : z.length = (TL.tl z).length := TL.len_tl z
    generalize hb : TL.tl z = b at k zn
    refine q_asgL (xs := ws.map V.str) ?_ fun W3 H1 hW3 e1 hw => ?_
    · have flen := sgB_iff.mp g.flag
      have := el_cat (xs := [V.str f1]) (ta := tLst (tCons (tSl rSlS (tOp (rIxT K) (tVar 0) (tC (.int 0))) tNoPart (tPart (tUn (rU fun i => .int (-i)) (tC (.int 1))))) tNil)) (el_lst (ea_cons (ev_is (ev_slS (z := fl) (ev_op (ev_var (i := 0) rfl) ev_c (rv_ixT_ (st_of ht) (i := 0) rfl)) eo_none (eo_some (i := -1) (ev_un ev_c ru_neg)) (by omega)) (congrArg V.str (mk_eq (tl_most fl)))) ea_nil) (by show 1 ≤ 100000; decide))
        (el_pairL (K := K) (a := l) (i := 4) (j := 5) (vs := [4, 5]) (t := fun σ H Q => Q true H) (te := tVar 4) (tl := tOp (rIxT K) (tVar 0) (tC (.int 1))) (σ := [some (.ref t), some (.str z), none, none, none, none, none]) (H := H) (fun _ => true) (fun p => V.str p.1) (ev_op (ev_var rfl) ev_c (rv_ixT_ (st_of ht) (i := 1) rfl)) (sq_of hl) hp (by omega) (fun _ _ => rfl) (fun p _ H1 _ => et_none) (fun p _ H1 _ _ => ev_var rfl)) (by rw [List.length_map, List.filter_eq_self.mpr fun _ _ => rfl]; show 1 + _ ≤ _; omega)
      rw [wstr] at this
      exact this
    refine q_forR1 (n := (b.length : Int)) (ea_cons (ev_is (ev_cb (ea_cons (ev_var rfl) ea_nil) (rc_lenS (K := K) (z := z) (by omega))) (by rw [zn])) ea_nil) ⟨by omega, by omega⟩ (fun i σ' H' => (∃ x3 : Option V, σ' = [some (.ref t), some (.str z), some (.ref W3), x3, none, none, none]) ∧ Ex H1 H' ∧ stOf (Wl fl ps) b = stOf (Wl fl ps) (b.drop i)) (fun H2 e2 => ⟨⟨none, rfl⟩, e2, by rw [List.drop_zero]⟩) ?_ ?_
    · rintro i σ' H2 hi ⟨⟨x3, rfl⟩, e2, st⟩
      have lt : i < b.length := by omega
      have hw2 : SqL K H2 W3 (ws.map V.str) := sq_of (e2 _ _ hw)
      let c : Str → Bool := fun y => decide ((TL.tl y).take (b.length - i) = b.drop i)
      have cE : decide (ws.filter c = []) = !decide (Beg (Wl fl ps) (b.drop i)) := by
        rw [← decide_not, decide_eq_decide, beg_at (Nat.le_of_lt lt), ← wsE, List.filter_eq_nil_iff]
        constructor
        · rintro h ⟨_, h1, h2⟩
          obtain ⟨y, hy, rfl⟩ := List.mem_map.mp h1
          exact h y hy (decide_eq_true h2)
        · exact fun h y hy z => h ⟨_, List.mem_map.mpr ⟨y, hy, rfl⟩, of_decide_eq_true z⟩
      refine s_when (b := decide (Beg (Wl fl ps) (b.drop i))) (et_is (et_test (ev_neNilS (K := K) (zs := ws.filter c) (fun y hy => wsg y ((List.mem_filter.mp hy).1)) ?_)) (by rw [cE, Bool.not_not])) (fun hb2 H3 e3 => ?_) (fun hb2 H3 e3 => ?_)
      · have := el_mapL (K := K) (α := Str) V.str (l := ws) (a := W3) (j := 6) (vs := [6]) (t := tCutW K) (te := tVar 6) (tl := tVar 2) (σ := [some (.ref t), some (.str z), some (.ref W3), some (.int (i : Int)), none, none, none]) (H := H2) c V.str (ev_var rfl) hw2 (by show (ps.map _).length + 1 ≤ _; rw [List.length_map]; omega) (fun _ => rfl)
          (fun y hy H5 _ => ?_) (fun y _ H5 _ _ => ev_var rfl)
        · exact this
        · have yl := w8 y hy
          refine et_is (et_test (ev_op (ev_is (ev_slS (z := y) (ev_var rfl) eo_none (eo_some (i := ((b.length - i : Nat) : Int)) (ev_is (ev_op (ev_cb (ea_cons (ev_var rfl) ea_nil) (rc_lenS (K := K) (z := z) (by omega))) (ev_var rfl) rv_I0) (congrArg V.int (by omega)))) (by omega)) (congrArg V.str (mk_eq (tl_first y _)))) (ev_is (ev_slS (z := z) (ev_var rfl) (eo_some (i := (i : Int)) (ev_var rfl)) eo_none (by omega)) (congrArg V.str (mk_eq (tl_rest z i)))) (rv_eq rfl))) ?_
          rw [vstr_mk, hb]
      · have hb2 := of_decide_eq_true hb2
        refine s_ret (v := .str (mk (b.drop i))) (ev_is (ev_slS (z := z) (ev_var rfl) (eo_some (i := (i : Int)) (ev_var rfl)) eo_none (by omega)) (by rw [mk_eq (tl_rest z i), hb])) fun H4 e4 => ?_
        rw [st, st_drop lt, if_pos hb2] at k
        exact k H4 (((e1.trans e2).trans e3).trans e4)
      · have hb2 := of_decide_eq_false hb2
        refine ⟨⟨_, rfl⟩, e2.trans e3, ?_⟩
        rw [st, st_drop lt, if_neg hb2]
    · rintro σ' H2 ⟨⟨x3, rfl⟩, e2, st⟩
      refine s_ret (v := .str "") ev_c fun H3 e3 => ?_
      rw [st, List.drop_of_length_le (by omega)] at k
      have k := k H3 ((e1.trans e2).trans e3)
      rw [show stOf (Wl fl ps) [] = [] from rfl, show mk [] = ("" : Str) from (mk_eq tl_mt).symm] at k
      exact k
end
end K10
namespace K10
open PySem L2 Evl Gr StX EnT ClX ClK RdX SrtT StS Fr
abbrev sLet : Stmt := top 5
/-! ### what letters and frames are told -/
abbrev Puts (cC : Addr) (H : Hp) (E : XK) : Prop := Out1 cC "part" (.str "puts") H E
/-- what body is told of x -/
def BodyT (K : PySem.W.Frag) (cL cC : Addr) (ps : List Pr) (x : V) (H : Hp) (E : XK) (ok : Str → L → Prop) : Prop :=
  (SgV K H x 0 200 false ∧ Out1 cL "value" x H E) ∨ ∃ z, x = .str z ∧ sgB z 0 200 = true ∧ ((bodyL (lp ps) [] (TL.tl z) = none ∧ Puts cC H E) ∨ ∃ t, bodyL (lp ps) [] (TL.tl z) = some t ∧ ok z t)
theorem BodyT.mono {K : PySem.W.Frag} {cL cC : Addr} {ps : List Pr} {x : V} {H H' : Hp} {E : XK} {ok ok' : Str → L → Prop} (e : Ex H H') (k : ∀ z t, ok z t → ok' z t) (h : BodyT K cL cC ps x H E ok) : BodyT K cL cC ps x H' E ok' := by
  rcases h with ⟨h1, h2⟩ | ⟨z, h0, h1, ⟨h2, h3⟩ | ⟨t, h2, h3⟩⟩
  · exact .inl ⟨h1.mono e, h2.mono e⟩
  · exact .inr ⟨z, h0, h1, .inl ⟨h2, h3.mono e⟩⟩
  · exact .inr ⟨z, h0, h1, .inr ⟨t, h2, k _ _ h3⟩⟩
/-- what a text of signs is read as: a part that is wrong, or a letter -/
def dueF (f : Str) (ps : List Pr) (z : Str) : Sum Str L :=
  if Txt.find z f < 0 ∨ Txt.find z f + (f.length : Int) ≠ (z.length : Int) then .inl "flag"
  else match tkn (lp ps) [] ((TL.tl z).take (Txt.find z f).toNat) with
    | none => .inl "body"
    | some l => if l.length ≤ 200 then .inr l else .inl "body"
abbrev BadF (cF : Addr) (p : Str) (H : Hp) (E : XK) : Prop := Out1 cF "part" (.str p) H E
section
variable {K : PySem.W.Frag} {σ : L2.St} {H : Hp} {te ta tb : TE} {t : TA}
theorem ev_find {a b : Str} (ha : Ev ta σ H (.str a)) (hb : Ev tb σ H (.str b)) : Ev (tBM K "str" (fun x xs H Q => ∃ a b, x = .str a ∧ xs = [.str b] ∧ Q (.int (Txt.find a b)) H) ta (tCons tb tNil)) σ H (.int (Txt.find a b)) := fun H1 e Q q =>
  ha H1 e _ fun H2 e2 => ⟨rfl, hb H2 (e.trans e2) _ fun H3 e3 => ⟨a, b, rfl, rfl, q H3 (e2.trans e3)⟩⟩
theorem rv_isN {x : V} : RV (fun x y H Q => y = V.non ∧ Q (.bl (decide (x = V.non))) H) x .non H (.bl (decide (x = V.non))) := fun H1 _ _ q => ⟨rfl, q H1 (Ex.refl H1)⟩
theorem ev_flagL {C o : Addr} {f : Str} {ps : List Pr} (G : FCls K C) (ha : Ev ta σ H (.ref o)) (h : RuleAt K C H o f ps) : Ev (tFld K ta "flag") σ H (.str f) := ev_flag G ha h
theorem ev_lenF {C o : Addr} {f : Str} {ps : List Pr} (G : FCls K C) (ha : Ev ta σ H (.ref o)) (h : RuleAt K C H o f ps) : Ev (tCB (fun xs H Q => ∃ x n, xs = [x] ∧ LenV K x H n ∧ Q (.int n) H) (tCons (tFld K ta "flag") tNil)) σ H (.int (f.length : Int)) :=
  ev_cb (ea_cons (ev_flag G ha h) ea_nil) (rc_lenS (K := K) (z := f) (by have := sgB_iff.mp h.good.flag; omega))
end
section
variable {P : Program} {w : World} {K : PySem.W.Frag} {mg : Str → Option Value} {base : Heap}
/-! ### is_letter -/
def spLet (K : PySem.W.Frag) : Sp := fun vs H Q _ => ∃ (x : V) (b : Bool), vs = [x] ∧ SgV K H x 0 200 b ∧ RetV (.bl b) H Q
theorem scLet : FnScope ["value"] ["value"] (defScope sLet) := ⟨rfl, rfl, rfl, by decide +kernel, rfl, by decide +kernel, by decide +kernel⟩
theorem ok_Let {f : Addr} {fd : FuncData} (F : Fun K "is_letter" "is_letter" sLet f fd) (hm : ∃ t, mg "MOST_LETTER_SIGNS" = some (.int 200 t)) (GW : Gfn P w K mg base 2 "is_signs_within" ["value", "least", "most"] (spSignsW K)) : FnOk P w K mg base CX0 3 f fd ["value"] (spLet K) := by
  obtain ⟨fW, fdW, GW, kW, bW, gW⟩ := GW
  obtain ⟨tm, gm⟩ := hm
  refine F.ok scLet (fun vs H Q E h => ?_) (fun cdv A outer s H vs Q E hr h => ?_)
  · obtain ⟨x, b, rfl, _⟩ := h
    rfl
  · obtain ⟨x, b, rfl, hx, k⟩ := h
    refine ⟨_, (pss_one (ps_ret (pe_call GW hr (by rfl) gW kW bW .nil pass0 (pa_cons (pv 0) (pa_cons pe_int (pa_cons (pe_glob (v := .int 200) (by rfl) gm ⟨_, rfl⟩) pa_nil)))))), ?_⟩
    exact s_ret (ev_sgw (ev_var rfl) ev_c ev_c hx) k
theorem ev_let {σ : L2.St} {H : Hp} {ta : TE} {x : V} {b : Bool} (ha : Ev ta σ H x) (h : SgV K H x 0 200 b) : Ev (tCall (spLet K) [] E0 (tCons ta tNil)) σ H (.bl b) :=
  ev_call (z := .bl b) (ea_cons ha ea_nil) fun H1 e Q q E => ⟨x, b, rfl, h.mono e, q⟩
/-! ### FrameRule.body -/
abbrev nBody : List Str := ["self", "letter", "signs", "sign", "sent"]
def spBody (K : PySem.W.Frag) (C cL cC : Addr) : Sp := fun vs H Q E => ∃ (o : Addr) (f : Str) (ps : List Pr) (x : V), vs = [.ref o, x] ∧ RuleAt K C H o f ps ∧ BodyT K cL cC ps x H E fun _ t => RetV (.str (mk t)) H Q
theorem scBody : FnScope nBody ["self", "letter"] (defScope (sFr 2)) := ⟨rfl, rfl, rfl, by decide +kernel, rfl, by decide +kernel, by decide +kernel⟩
theorem ok_Body {C cL fL cC fC f : Addr} {fd fdL fdC : FuncData} (F : Fun K "body" "FrameRule.body" (sFr 2) f fd) (G : FCls K C) (BL : GOne P w K mg base "BadLetter" "value" cL fL fdL) (BC : GOne P w K mg base "Clashing" "part" cC fC fdC)
    (GL : Gfn P w K mg base 3 "is_letter" ["value"] (spLet K)) (GS : Gfn P w K mg base 2 "sent_behind" ["signs", "sign", "pairs"] (spSent K)) : FnOk P w K mg base (L2.CX P w) 4 f fd ["self", "letter"] (spBody K C cL cC) := by
  obtain ⟨fT, fdT, GL, kL, bL, gL⟩ := GL
  obtain ⟨fS, fdS, GS, kS, bS, gS⟩ := GS
  refine F.okX scBody (fun vs H Q E h => ?_) (fun cdv A outer s H vs Q E hr h => ?_)
  · obtain ⟨o, f, ps, x, rfl, _⟩ := h
    rfl
  · obtain ⟨o, fl, ps, x, rfl, hO, hx⟩ := h
    have r2 := hr.mono (show 2 ≤ 3 by decide)
    refine ⟨_, (pss_cons (ps_if (pt_not (pt_val (pe_call GL hr (by rfl) gL kL bL .nil pass0 (pa_cons (pv 1) pa_nil)))) (pss_one (ps_raise rfl (takes_of rfl rfl rfl rfl) (pmk_oex BL.ox BL.init BL.ty BL.ok r2 BL.b .nil pass0 (by rfl) BL.g (pa_cons (pv 1) pa_nil)))) pss_nil)
      (pss_cons (ps_set (i := 2) scBody.nd rfl (.inl rfl) pe_str)
      (pss_cons (ps_for (passes_of rfl) rfl (pi_str (pv 1)) (pg_name (i := 3) scBody.nd rfl (.inl rfl))
        (pss_cons (ps_set (i := 4) scBody.nd rfl (.inl rfl) (pe_call GS r2 (by rfl) gS kS bS .nil pass0 (pa_cons (pe_slice sl_str (pv 2) (po_some (pe_un un_neg pe_int)) po_none) (pa_cons (pv 3) (pa_cons (pe_fld (pv 0) rfl) pa_nil)))))
      (pss_cons (ps_if (pt_cmpR op_isN (pv 4) pe_non (nomark _)) (pss_one (ps_raise rfl (takes_of rfl rfl rfl rfl) (pmk_oex BC.ox BC.init BC.ty BC.ok r2 BC.b .nil pass0 (by rfl) BC.g (pa_cons pe_str pa_nil)))) pss_nil)
      (pss_one (ps_set (i := 2) scBody.nd rfl (.inl rfl) (pe_op op_add_str (pv 2) (pv 4)))))))
      (pss_one (ps_ret (pv 2)))))), ?_⟩
    have g := hO.good
    have O := good_pok g
    rcases hx with ⟨h1, h2⟩ | ⟨z, rfl, hz, hx⟩
    · exact q_when (b := true) (et_not (et_B (ev_let (ev_var rfl) h1))) (fun _ H1 e1 => raise_one (ea_cons (ev_var rfl) ea_nil) (h2.mono e1)) (fun z => absurd z (by decide))
    have lz := sgB_iff.mp hz
    refine q_when (b := false) (et_not (et_B (ev_let (b := true) (ev_var rfl) (by
      have := sgv_str (K := K) (H := H) (z := z) (lo := 0) (hi := 200) (by omega)
      rwa [hz] at this)))) (fun z => absurd z (by decide)) (fun _ H1 e1 => ?_)
    have sgz : Sgs (TL.tl z) := sgs_iff.mp lz.1
    have bl : (TL.tl z).length ≤ 200 := by rw [← TL.len_tl]; omega
    refine q_asg ev_c fun H2 e2 => ?_
    obtain ⟨dx, q, vs, hO1, hO2, hO3, _⟩ := id hO
    refine q_forS (z := z) (ev_var rfl) (fun i σ' H' => ∃ t, (∃ x3 x4 : Option V, σ' = [some (.ref o), some (.str z), some (.str (mk t)), x3, x4]) ∧ Ex H H' ∧ bodyL (lp ps) [] (TL.tl z) = bodyL (lp ps) t ((TL.tl z).drop i) ∧ t.length ≤ 301 * i ∧ Sgs t) (fun H3 e3 => ⟨[], ⟨none, none, by rw [show mk [] = ("" : Str) from (mk_eq tl_mt).symm]; rfl⟩, (e1.trans e2).trans e3, by rw [List.drop_zero], Nat.zero_le _, fun c hc => by cases hc⟩) ?_ ?_
    · rintro i σ' H3 lt ⟨t, ⟨x3, x4, rfl⟩, e3, bd, tl, sgt⟩
      generalize hc : (TL.tl z)[i] = c
      have c01 : c = 48 ∨ c = 49 := by rw [← hc]; exact sgz _ (List.getElem_mem lt)
      have bd2 : bodyL (lp ps) [] (TL.tl z) = (sentL (lp ps) t c).bind fun t => bodyL (lp ps) t ((TL.tl z).drop (i + 1)) := by
        rw [bd, drop_at lt, hc]
        exact bodyL_cons rfl
      refine q_asg (v := sentV t (sentL (lp ps) t c)) (ev_call (ea_cons (x := .str (mk (tail8 t))) (ev_is (ev_slS (z := mk t) (ev_var rfl) (eo_some (i := -8) (ev_un ev_c ru_neg)) eo_none (by rw [mk_len]; omega)) (congrArg V.str (mk_eq (last8 (mk t))))) (ea_cons (ev_var rfl) (ea_cons (ev_fld (ev_var rfl) (e3 _ _ hO1) G.cls G.pairs rfl) ea_nil)))
        fun H4 e4 Q4 q4 E4 => ⟨_, _, q, vs, fl, ps, t, c, rfl, rfl, rfl, sgt, c01, ex_t (e3.trans e4) hO2, hO3.mono (e3.trans e4), g, q4⟩) fun H4 e4 => ?_
      have E4 := e3.trans e4
      cases hs : sentL (lp ps) t c with
      | none =>
        rw [hs] at bd2
        refine q_when (b := true) (et_is (et_test (ev_op (ev_var rfl) ev_c rv_isN)) (decide_eq_true rfl)) (fun _ H5 e5 => ?_) (fun z => absurd z (by decide))
        rcases hx with ⟨_, h3⟩ | ⟨t', h3, _⟩
        · exact raise_one (ea_cons ev_c ea_nil) (h3.mono (E4.trans e5))
        · rw [bd2] at h3
          cases h3
      | some u =>
        rw [hs] at bd2
        refine q_when (b := false) (et_is (et_test (ev_op (ev_var rfl) ev_c rv_isN)) (decide_eq_false fun z => by cases z)) (fun z => absurd z (by decide)) (fun _ H5 e5 => ?_)
        have pre : t <+: u := (List.prefix_append t [c]).trans (run_up hs).1
        have ul := run_len O hs
        rw [List.length_append, List.length_singleton] at ul
        refine s_asg (v := .str (mk u)) (ev_is (ev_addS (ev_var rfl) (ev_var rfl) (by rw [mk_len, mk_len, List.length_drop]; omega)) ?_) fun H6 e6 => ⟨u, ⟨_, _, rfl⟩, (E4.trans e5).trans e6, bd2, by omega, run_sgs O (sgt.app fun d hd => by rw [List.mem_singleton.mp hd]; exact c01) hs⟩
        rw [mk_app, pre_drop pre]
    · rintro σ' H3 ⟨t, ⟨x3, x4, rfl⟩, e3, bd, tl, sgt⟩
      rw [List.drop_length] at bd
      rcases hx with ⟨h3, _⟩ | ⟨t', h3, k⟩
      · rw [bd] at h3
        cases h3
      · rw [bd] at h3
        cases h3
        exact s_ret (v := .str (mk t)) (ev_var rfl) fun H4 e4 => k H4 (e3.trans e4)
/-! ### FrameRule.frame, puts -/
def spFrame (K : PySem.W.Frag) (C cL cC : Addr) : Sp := fun vs H Q E => ∃ (o : Addr) (f : Str) (ps : List Pr) (x : V), vs = [.ref o, x] ∧ RuleAt K C H o f ps ∧ BodyT K cL cC ps x H E fun _ t => RetV (.str (mk t ++ f)) H Q
def spPuts (K : PySem.W.Frag) (C cL cC : Addr) : Sp := fun vs H Q E => ∃ (o : Addr) (f : Str) (ps : List Pr) (x : V), vs = [.ref o, x] ∧ RuleAt K C H o f ps ∧ BodyT K cL cC ps x H E fun z t => RetV (.int ((t.length : Int) - (z.length : Int))) H Q
theorem scFrame : FnScope ["self", "letter"] ["self", "letter"] (defScope (sFr 3)) := ⟨rfl, rfl, rfl, by decide +kernel, rfl, by decide +kernel, by decide +kernel⟩
theorem scPuts : FnScope ["self", "letter"] ["self", "letter"] (defScope (sFr 4)) := ⟨rfl, rfl, rfl, by decide +kernel, rfl, by decide +kernel, by decide +kernel⟩
theorem ok_Frame {C cL cC f fB : Addr} {fd fdB : FuncData} (F : Fun K "frame" "FrameRule.frame" (sFr 3) f fd) (G : FCls K C) (hB : Meth K C "body" fB) (GB : FnOk P w K mg base (L2.CX P w) 4 fB fdB ["self", "letter"] (spBody K C cL cC)) (bB : Binds K fdB ["self", "letter"] []) :
    FnOk P w K mg base (L2.CX P w) 5 f fd ["self", "letter"] (spFrame K C cL cC) := by
  refine F.okX scFrame (fun vs H Q E h => ?_) (fun cdv A outer s H vs Q E hr h => ?_)
  · obtain ⟨o, f, ps, x, rfl, _⟩ := h
    rfl
  · obtain ⟨o, fl, ps, x, rfl, hO, hx⟩ := h
    refine ⟨_, (pss_one (ps_ret (pe_op op_add_str (pe_meth (E := E) (pv 0) G.cls hB GB hr bB .nil (passes_call (takes_of rfl rfl rfl rfl) fun _ _ _ _ z => z) (pa_cons (pv 1) pa_nil)) (pe_fld (pv 0) rfl)))), ?_⟩
    obtain ⟨dx, q, vs, hO1, _⟩ := id hO
    have fl8 := sgB_iff.mp hO.good.flag
    have O := good_pok hO.good
    refine s_retR (op_i ⟨_, rfl, o, dx, _, rfl, hO1, rfl, _, rfl, o, fl, ps, x, rfl, hO, ?_⟩)
    have go : ∀ z t, sgB z 0 200 = true → bodyL (lp ps) [] (TL.tl z) = some t → RetV (.str (mk t ++ fl)) H Q → RetV (.str (mk t)) H (fun x H1 => tFld K (tVar 0) "flag" [some (.ref o), some (.str z)] H1 fun y H2 => (fun x y H Q => ∃ i j, x = V.str i ∧ y = V.str j ∧ i.length + j.length ≤ sizeLine ∧ Q (V.str (i ++ j)) H) x y H2 Q) := fun z t hz ht k H1 e1 => by
      have := body_len O ht
      have lz := sgB_iff.mp hz
      rw [TL.len_tl] at lz
      simp only [List.length_nil] at this
      exact (ev_flag (σ := [some (.ref o), some (.str z)]) (ta := tVar 0) G (ev_var rfl) (hO.mono e1)) H1 (Ex.refl H1) _ fun H2 e2 => ⟨mk t, fl, rfl, rfl, by rw [mk_len]; exact sz_of (by omega), k H2 (e1.trans e2)⟩
    rcases hx with h | ⟨z, rfl, hz, h | ⟨t, ht, k⟩⟩
    · exact .inl h
    · exact .inr ⟨z, rfl, hz, .inl h⟩
    · exact .inr ⟨z, rfl, hz, .inr ⟨t, ht, go z t hz ht k⟩⟩
theorem ok_Puts {C cL cC f fB : Addr} {fd fdB : FuncData} (F : Fun K "puts" "FrameRule.puts" (sFr 4) f fd) (T : GlbT mg) (G : FCls K C) (hB : Meth K C "body" fB) (GB : FnOk P w K mg base (L2.CX P w) 4 fB fdB ["self", "letter"] (spBody K C cL cC)) (bB : Binds K fdB ["self", "letter"] []) :
    FnOk P w K mg base (L2.CX P w) 5 f fd ["self", "letter"] (spPuts K C cL cC) := by
  refine F.okX scPuts (fun vs H Q E h => ?_) (fun cdv A outer s H vs Q E hr h => ?_)
  · obtain ⟨o, f, ps, x, rfl, _⟩ := h
    rfl
  · obtain ⟨o, fl, ps, x, rfl, hO, hx⟩ := h
    refine ⟨_, (pss_one (ps_ret (pe_op op_sub (pe_callB call_len (by rfl) T.len PySem.boot_len (pa_cons (pe_meth (E := E) (pv 0) G.cls hB GB hr bB .nil (passes_call (takes_of rfl rfl rfl rfl) fun _ _ _ _ z => z) (pa_cons (pv 1) pa_nil)) pa_nil)) (pe_callB call_len (by rfl) T.len PySem.boot_len (pa_cons (pv 1) pa_nil))))), ?_⟩
    obtain ⟨dx, q, vs, hO1, _⟩ := id hO
    have O := good_pok hO.good
    refine s_retR (op_i (cons_i ⟨_, rfl, o, dx, _, rfl, hO1, rfl, _, rfl, o, fl, ps, x, rfl, hO, ?_⟩))
    rcases hx with h | ⟨z, rfl, hz, h | ⟨t, ht, k⟩⟩
    · exact .inl h
    · exact .inr ⟨z, rfl, hz, .inl h⟩
    · refine .inr ⟨z, rfl, hz, .inr ⟨t, ht, fun H1 e1 => ?_⟩⟩
      have := body_len O ht
      have lz := sgB_iff.mp hz
      rw [TL.len_tl] at lz
      simp only [List.length_nil] at this
      refine ⟨.str (mk t), (mk t).length, rfl, ⟨sz_of (by rw [mk_len]; omega), rfl⟩, ?_⟩
      exact (ev_cb (σ := [some (.ref o), some (.str z)]) (ea_cons (ev_var (i := 1) rfl) ea_nil) (rc_lenS (K := K) (z := z) (by rw [TL.len_tl]; omega))) H1 (Ex.refl H1) _ fun H2 e2 => ⟨_, _, rfl, rfl, k H2 (e1.trans e2)⟩
end
end K10
namespace K10
open PySem L2 Evl Gr StX EnT ClX ClK RdX SrtT StS Fr
abbrev sWkd : Stmt := top 18
/-! ### tuples stay -/
def TupE (H H' : Hp) : Prop := ∀ a xs, H a = some (.tup xs) → H' a = some (.tup xs)
theorem TupE.of {H H' : Hp} (e : Ex H H') : TupE H H' := fun a xs h => e a _ h
theorem TupE.trans {H H1 H2 : Hp} (a : TupE H H1) (b : TupE H1 H2) : TupE H H2 := fun x xs h => b x xs (a x xs h)
theorem TupE.lst {H : Hp} {a : Addr} {xs : List V} {o : HO} (h : H a = some (.lst xs)) : TupE H (upd H a o) := fun b ys hb => by
  rw [upd_ne (fun z => by rw [z, h] at hb; cases hb)]
  exact hb
theorem TupE.dk {H : Hp} {a : Addr} {kvs : List (Key × V)} {o : HO} (h : H a = some (.dK kvs)) : TupE H (upd H a o) := fun b ys hb => by
  rw [upd_ne (fun z => by rw [z, h] at hb; cases hb)]
  exact hb
/-! ### moves, rows -/
def MvAt (H : Hp) (v : V) : Option (L × L) → Prop
  | none => v = .non
  | some m => ∃ t, v = .ref t ∧ H t = some (.tup [.str (mk m.1), .str (mk m.2)])
theorem MvAt.to {H H' : Hp} {v : V} : ∀ {m : Option (L × L)}, TupE H H' → MvAt H v m → MvAt H' v m
  | none, _, h => h
  | some _, e, ⟨t, h1, h2⟩ => ⟨t, h1, e _ _ h2⟩
/-- the moves for the first i signs -/
def MvsAt (ps : LP) (W : List L) (e : L) (H : Hp) (ms : List V) (i : Nat) : Prop := ms.length = i ∧ ∀ (j : Nat) v c, ms[j]? = some v → [48, 49][j]? = some c → MvAt H v (mvOf ps W e c)
theorem MvsAt.to {ps : LP} {W : List L} {e : L} {H H' : Hp} {ms : List V} {i : Nat} (t : TupE H H') (h : MvsAt ps W e H ms i) : MvsAt ps W e H' ms i := ⟨h.1, fun j v c h1 h2 => (h.2 j v c h1 h2).to t⟩
theorem mvs_nil {ps : LP} {W : List L} {e : L} {H : Hp} : MvsAt ps W e H [] 0 := ⟨rfl, fun j v c h => by simp at h⟩
theorem MvsAt.snoc {ps : LP} {W : List L} {e : L} {H : Hp} {ms : List V} {i c : Nat} {v : V} (h : MvsAt ps W e H ms i) (hc : [48, 49][i]? = some c) (hv : MvAt H v (mvOf ps W e c)) : MvsAt ps W e H (ms ++ [v]) (i + 1) := by
  refine ⟨by rw [List.length_append, h.1]; rfl, fun j u d h1 h2 => ?_⟩
  rcases Nat.lt_or_ge j ms.length with z | z
  · rw [List.getElem?_append_left z] at h1
    exact h.2 j u d h1 h2
  · have jl := (List.getElem?_eq_some_iff.mp h1).1
    rw [List.length_append, List.length_singleton] at jl
    obtain rfl : j = i := by have := h.1; omega
    rw [List.getElem?_append_right z, show j - ms.length = 0 by omega] at h1
    obtain rfl : v = u := Option.some.inj h1
    rw [hc] at h2
    cases h2
    exact hv
/-- a row: letter, state, moves; p is the state and the letter -/
def RowAt (ps : LP) (W : List L) (H : Hp) (v : V) (p : L × L) : Prop := ∃ t b ms, v = .ref t ∧ H t = some (.tup [.str (mk p.2), .str (mk p.1), .ref b]) ∧ H b = some (.tup ms) ∧ MvsAt ps W p.1 H ms 2
theorem RowAt.to {ps : LP} {W : List L} {H H' : Hp} {v : V} {p : L × L} (t : TupE H H') (h : RowAt ps W H v p) : RowAt ps W H' v p := by
  obtain ⟨a, b, ms, h1, h2, h3, h4⟩ := h
  exact ⟨a, b, ms, h1, t _ _ h2, t _ _ h3, h4.to t⟩
def RowsAt (ps : LP) (W : List L) (H : Hp) (rs : List V) (ol : List (L × L)) : Prop := rs.length = ol.length ∧ ∀ (i : Nat) v p, rs[i]? = some v → ol[i]? = some p → RowAt ps W H v p
theorem RowsAt.to {ps : LP} {W : List L} {H H' : Hp} {rs : List V} {ol : List (L × L)} (t : TupE H H') (h : RowsAt ps W H rs ol) : RowsAt ps W H' rs ol := ⟨h.1, fun i v p h1 h2 => (h.2 i v p h1 h2).to t⟩
theorem rws_nil {ps : LP} {W : List L} {H : Hp} : RowsAt ps W H [] [] := ⟨rfl, fun i v p h => by simp at h⟩
theorem RowsAt.snoc {ps : LP} {W : List L} {H : Hp} {rs : List V} {ol : List (L × L)} {v : V} {p : L × L} (h : RowsAt ps W H rs ol) (hv : RowAt ps W H v p) : RowsAt ps W H (rs ++ [v]) (ol ++ [p]) := by
  refine ⟨by rw [List.length_append, List.length_append, h.1]; rfl, fun j u r h1 h2 => ?_⟩
  rcases Nat.lt_or_ge j rs.length with z | z
  · rw [List.getElem?_append_left z] at h1
    rw [List.getElem?_append_left (by rw [← h.1]; exact z)] at h2
    exact h.2 j u r h1 h2
  · rw [List.getElem?_append_right z] at h1
    rw [List.getElem?_append_right (by rw [← h.1]; exact z), ← h.1] at h2
    have jl := (List.getElem?_eq_some_iff.mp h1).1
    rw [List.length_singleton] at jl
    rw [show j - rs.length = 0 by omega] at h1 h2
    cases h1
    cases h2
    exact hv
/-! ### the table of states -/
def kv (ol : List (L × L)) : List (Key × V) := ol.map fun p => ((Sum.inr (mk p.1) : Key), V.str (mk p.2))
def sts (ol : List (L × L)) : List V := ol.map fun p => V.str (mk p.1)
theorem kv_keys (ol : List (L × L)) : (kv ol).map (·.1) = (ol.map Prod.fst).map fun e => (Sum.inr (mk e) : Key) := by
  unfold kv
  rw [List.map_map, List.map_map]
  rfl
theorem key_inj {a b : L} (h : (Sum.inr (mk a) : Key) = Sum.inr (mk b)) : a = b := mk_inj (Sum.inr.inj h)
theorem kv_is (ol : List (L × L)) (e : L) : (valV (kv ol) (Sum.inr (mk e) : Key)).isSome = decide (e ∈ ol.map Prod.fst) := by
  rw [Bool.eq_iff_iff, valV_key, kv_keys, decide_eq_true_iff, List.mem_map]
  constructor
  · rintro ⟨a, ha, h⟩
    rw [← key_inj h]
    exact ha
  · exact fun h => ⟨e, h, rfl⟩
theorem kv_none {ol : List (L × L)} {e : L} (h : e ∉ ol.map Prod.fst) : valV (kv ol) (Sum.inr (mk e) : Key) = none := by
  have := kv_is ol e
  rw [decide_eq_false h] at this
  cases c : valV (kv ol) (Sum.inr (mk e) : Key) with
  | none => rfl
  | some x => rw [c] at this; cases this
theorem kv_some : ∀ {ol : List (L × L)} {e r : L}, (ol.map Prod.fst).Nodup → (e, r) ∈ ol → valV (kv ol) (Sum.inr (mk e) : Key) = some (.str (mk r))
  | p :: l, e, r, nd, h => by
    rw [List.map_cons, List.nodup_cons] at nd
    show valV (((Sum.inr (mk p.1) : Key), V.str (mk p.2)) :: kv l) _ = _
    rcases List.mem_cons.mp h with rfl | h
    · exact valV_pos rfl
    · rw [valV_neg (fun z => nd.1 (by rw [key_inj z]; exact List.mem_map.mpr ⟨_, h, rfl⟩))]
      exact kv_some nd.2 h
theorem kv_put {ol : List (L × L)} {e r : L} (h : e ∉ ol.map Prod.fst) : putK (kv ol) (Sum.inr (mk e) : Key) (.str (mk r)) = kv (ol ++ [(e, r)]) := by
  rw [putK_new (kv_none h)]
  unfold kv
  rw [List.map_append]
  rfl
theorem sts_snoc (ol : List (L × L)) (p : L × L) : sts (ol ++ [p]) = sts ol ++ [.str (mk p.1)] := by
  unfold sts
  rw [List.map_append]
  rfl
theorem mk_nil : mk [] = ("" : Str) := (mk_eq tl_mt).symm
section
variable {K : PySem.W.Frag} {σ : L2.St} {H : Hp} {te ta tb ti to : TE}
theorem ev_dget {d : Addr} {kvs : List (Key × V)} {k : Key} {v : V} (ho : Ev to σ H (.ref d)) (hi : Ev ti σ H (kV k)) (hd : H d = some (.dK kvs)) (hv : valV kvs k = some v) : Ev (tDGet to ti) σ H v := fun H1 e Q q =>
  ho H1 e _ fun H2 e2 => hi H2 (e.trans e2) _ fun H3 e3 => ⟨d, v, rfl, by rw [← hv]; exact DGet.k ((e.trans (e2.trans e3)) _ _ hd), q H3 (e2.trans e3)⟩
theorem et_dnotin {d : Addr} {kvs : List (Key × V)} {k : Key} (hi : Ev ti σ H (kV k)) (ho : Ev to σ H (.ref d)) (hd : H d = some (.dK kvs)) : EvT (tB (tDNotIn ti to)) σ H (!(valV kvs k).isSome) := fun H1 e Q q =>
  hi H1 e _ fun H2 e2 => ho H2 (e.trans e2) _ fun H3 e3 => ⟨d, _, rfl, DGet.k (k := k) ((e.trans (e2.trans e3)) _ _ hd), _, rfl, q H3 (e2.trans e3)⟩
theorem eu_tuple {p : Addr} {xs : List V} (h : Ev te σ H (.ref p)) (hs : SqL K H p xs) : EvU (tThen te (kTup K)) σ H xs := fun H1 e Q q =>
  h H1 e _ fun H2 e2 => .inl ⟨p, xs, rfl, ex_l (e.trans e2) hs, fun r hr => q r _ (fresh_back e2 hr) (e2.trans (Ex.new hr)) upd_same⟩
theorem q_dput {tv : TE} {tz : TS} {D : Ends} {i j : Nat} {d : Addr} {kvs : List (Key × V)} {k : Key} {v : V} (hi : σ[i]? = some (some (.ref d))) (hj : σ[j]? = some (some (kV k))) (hd : H d = some (.dK kvs)) (hz : kvs.length < 100000) (h : Ev tv σ H v)
    (kk : ∀ H1, Ex H H1 → tz D σ (upd H1 d (.dK (putK kvs k v)))) : tSeq (sDPut (tVar i) (tVar j) tv) tz D σ H := h H (Ex.refl H) _ fun H1 e => ⟨.ref d, hi, kV k, hj, d, _, rfl, DPut.k (e _ _ hd) (sz_lt hz), kk H1 e⟩
theorem s_appG {D : Ends} {i : Nat} {l : Addr} {xs : List V} (hi : σ[i]? = some (some (.ref l))) (hl : H l = some (.lst xs)) (h : te σ H fun v H2 => rAppend (.ref l) [v] H2 fun _ H3 => D.nx σ H3) : tDrop (tBM K "list" rAppend (tVar i) (tCons te tNil)) D σ H :=
  ⟨.ref l, hi, Or.inl ⟨rfl, xs, sq_of hl⟩, h⟩
end
theorem one_take {α : Type} {l : List α} {i : Nat} {x : α} (h : l[i]? = some x) : l.take (i + 1) = l.take i ++ [x] := take_snoc h
/-- what stands in the walk -/
structure WS (ps : LP) (W : List L) (H0 H : Hp) (d lo lr : Addr) (ol : List (L × L)) (n : Nat) (rs : List V) : Prop where
  ex : Ex H0 H
  hd : H d = some (.dK (kv ol))
  ho : H lo = some (.lst (sts ol))
  hr : H lr = some (.lst rs)
  rows : RowsAt ps W H rs (ol.take n)
theorem WS.mono {ps : LP} {W : List L} {H0 H H' : Hp} {d lo lr : Addr} {ol : List (L × L)} {n : Nat} {rs : List V} (e : Ex H H') (w : WS ps W H0 H d lo lr ol n rs) : WS ps W H0 H' d lo lr ol n rs :=
  ⟨w.ex.trans e, e _ _ w.hd, e _ _ w.ho, e _ _ w.hr, w.rows.to (TupE.of e)⟩
/-- another list is written -/
theorem WS.other {ps : LP} {W : List L} {H0 H : Hp} {d lo lr a : Addr} {ol : List (L × L)} {n : Nat} {rs xs ys : List V} (w : WS ps W H0 H d lo lr ol n rs) (h0 : H0 a = none) (ha : H a = some (.lst xs)) (h1 : a ≠ lo) (h2 : a ≠ lr) : WS ps W H0 (upd H a (.lst ys)) d lo lr ol n rs := by
  refine ⟨Ex.mut w.ex h0, ?_, ?_, ?_, w.rows.to (TupE.lst ha)⟩
  · rw [upd_ne (fun z => by rw [← z, w.hd] at ha; cases ha)]
    exact w.hd
  · rw [upd_ne h1.symm]
    exact w.ho
  · rw [upd_ne h2.symm]
    exact w.hr
section
variable {P : Program} {w : World} {K : PySem.W.Frag} {mg : Str → Option Value} {base : Heap}
/-! ### walked -/
abbrev nWkd : List Str := ["flag", "pairs", "letters", "order", "rows", "state", "moves", "sign", "sent", "after"]
def spWkd (K : PySem.W.Frag) : Sp := fun vs H Q _ => ∃ (f : Str) (q : Addr) (xs : List V) (ps : List Pr), vs = [.str f, .ref q] ∧ SqT K H q xs ∧ Prs H xs ps ∧ Good f ps ∧
  ∀ (p : Addr) (rs : List V) (ol : List (L × L)) H1, H p = none → Ex H H1 → H1 p = some (.lst rs) → Wk (lp ps) (Wp f ps) ol ol.length → RowsAt (lp ps) (Wp f ps) H1 rs ol → Q (.ref p) H1
theorem scWkd : FnScope nWkd ["flag", "pairs"] (defScope sWkd) := ⟨rfl, rfl, rfl, by decide +kernel, rfl, by decide +kernel, by decide +kernel⟩
theorem sent_val {ps : LP} {s : L} {c : Nat} : sentV s (sentL ps s c) = match sendL ps s c with | none => V.non | some u => V.str (mk u) := by
  unfold sendL
  cases sentL ps s c <;> rfl
theorem ok_Wkd {f : Addr} {fd : FuncData} (F : Fun K "walked" "walked" sWkd f fd) (T : GlbT mg) (W : GlbW mg)
    (GS : Gfn P w K mg base 2 "sent_behind" ["signs", "sign", "pairs"] (spSent K)) (GO : Gfn P w K mg base 1 "state_of" ["signs", "flag", "pairs"] (spStO K)) : FnOk P w K mg base CX0 3 f fd ["flag", "pairs"] (spWkd K) := by
  obtain ⟨fS, fdS, GS, kS, bS, gS⟩ := GS
  obtain ⟨fO, fdO, GO, kO, bO, gO⟩ := GO
  refine F.ok scWkd (fun vs H Q E h => ?_) (fun cdv A outer s H vs Q E hr h => ?_)
  · obtain ⟨f, q, xs, ps, rfl, _⟩ := h
    rfl
  · obtain ⟨fl, q, xs, ps, rfl, hq, hp, g, k⟩ := h
    have hu : (A.deeper (PyProof.Rows.envOfC "walked" (defScope sWkd) s.heap.objs.size f cdv)).units + 1 < cLine := by have := hr.units; omega
    have r1 := hr.mono (show 1 ≤ 2 by decide)
    refine ⟨_, (pss_cons (ps_set (i := 2) scWkd.nd rfl (.inl rfl) (pe_disp (pps_cons pe_str pe_str pps_nil) rfl rfl (by decide) (by decide)))
      (pss_cons (ps_set (i := 3) scWkd.nd rfl (.inl rfl) (pe_lst (pa_cons pe_str pa_nil)))
      (pss_cons (ps_set (i := 4) scWkd.nd rfl (.inl rfl) (pe_lst pa_nil))
      (pss_cons (ps_while PassesOwn.never (pt_cmpR op_lt (pe_callB call_len_seq (by rfl) T.len PySem.boot_len (pa_cons (pv 4) pa_nil)) (pe_callB call_len_seq (by rfl) T.len PySem.boot_len (pa_cons (pv 3) pa_nil)) (nomark _))
        (pss_cons (ps_set (i := 5) scWkd.nd rfl (.inl rfl) (pe_ix ix_list (pv 3) (pe_callB call_len_seq (by rfl) T.len PySem.boot_len (pa_cons (pv 4) pa_nil)) (fun _ _ => rfl)))
      (pss_cons (ps_set (i := 6) scWkd.nd rfl (.inl rfl) (pe_lst pa_nil))
      (pss_cons (ps_for PassesOwn.never rfl (pi_str pe_str) (pg_name (i := 7) scWkd.nd rfl (.inl rfl))
            (pss_cons (ps_set (i := 8) scWkd.nd rfl (.inl rfl) (pe_call GS hr (by rfl) gS kS bS .nil pass0 (pa_cons (pv 5) (pa_cons (pv 7) (pa_cons (pv 1) pa_nil)))))
      (pss_cons (ps_if (pt_cmpR op_isN (pv 8) pe_non (nomark _)) (pss_cons (ps_expr (pe_bm PySem.F.plainAttrs_list PySem.F.slot_list_append PySem.F.type_list_append mt_append (pv 6) (pa_cons pe_non pa_nil)))
      (pss_one ps_continue)) pss_nil)
      (pss_cons (ps_set (i := 9) scWkd.nd rfl (.inl rfl) (pe_call GO r1 (by rfl) gO kO bO .nil pass0 (pa_cons (pe_op op_add_str (pv 5) (pv 8)) (pa_cons (pv 0) (pa_cons (pv 1) pa_nil)))))
      (pss_cons (ps_expr (pe_bm PySem.F.plainAttrs_list PySem.F.slot_list_append PySem.F.type_list_append mt_append (pv 6) (pa_cons (pe_tup (pa_cons (pv 9) (pa_cons (pv 8) pa_nil))) pa_nil)))
      (pss_one (ps_if (pt_cmp (pc_dnotin hu (pv 9) (pv 2)))
                (pss_cons (ps_dput hu (pv 2) (pv 9) (pe_op op_add_str (pe_dget hu (pv 2) (pv 5) noSl_name) (pv 7)) rfl)
      (pss_one (ps_expr (pe_bm PySem.F.plainAttrs_list PySem.F.slot_list_append PySem.F.type_list_append mt_append (pv 3) (pa_cons (pv 9) pa_nil))))) pss_nil)))))))
      (pss_one (ps_expr (pe_bm PySem.F.plainAttrs_list PySem.F.slot_list_append PySem.F.type_list_append mt_append (pv 4) (pa_cons (pe_tup (pa_cons (pe_dget hu (pv 2) (pv 5) noSl_name) (pa_cons (pv 5) (pa_cons (pe_tupleOf (by rfl) W.tuple (pv 6)) pa_nil)))) pa_nil))))))))
      (pss_one (ps_ret (pv 4))))))), ?_⟩
    have O := good_pok g
    have few5 : (Wp fl ps).length ≤ 5 := by
      unfold Wp watches lp
      rw [List.length_cons, List.length_map, List.length_map]
      have := g.many
      omega
    refine q_asgR fun d hdn => ⟨upd_same, [((Sum.inr "" : Key), .str "")], rfl, by decide, ?_⟩
    have e1 : Ex H (upd (upd H d (.dK [])) d (.dK [((Sum.inr "" : Key), V.str "")])) := Ex.mut (Ex.new hdn) hdn
    have hd1 : (upd (upd H d (.dK [])) d (.dK [((Sum.inr "" : Key), V.str "")])) d = some (.dK (kv [([], [])])) := by
      rw [upd_same]
      show some (HO.dK [((Sum.inr "" : Key), V.str "")]) = some (.dK [((Sum.inr (mk []) : Key), V.str (mk []))])
      rw [mk_nil]
    show tSeq _ _ _ [some (.str fl), some (.ref q), some (.ref d), none, none, none, none, none, none, none] (upd (upd H d (.dK [])) d (.dK [((Sum.inr "" : Key), V.str "")]))
    generalize upd (upd H d (.dK [])) d (.dK [((Sum.inr "" : Key), V.str "")]) = H1 at e1 hd1 ⊢
    refine q_asgL (el_lst (ea_cons ev_c ea_nil) (by show 1 ≤ 100000; decide)) fun lo H2 hlo e2 ho2 => ?_
    refine q_asgL (el_lst ea_nil (by show 0 ≤ 100000; decide)) fun lr H3 hlr e3 hr3 => ?_
    have nlo : H lo = none := fresh_back e1 hlo
    have nlr : H lr = none := fresh_back (e1.trans e2) hlr
    have lolr : lo ≠ lr := fun z => by rw [← z, ho2] at hlr; cases hlr
    refine q_while (fun m σ' H' => ∃ n ol rs, m = 46 - n ∧ n ≤ ol.length ∧ (∃ x5 x6 x7 x8 x9 : Option V, σ' = [some (.str fl), some (.ref q), some (.ref d), some (.ref lo), some (.ref lr), x5, x6, x7, x8, x9]) ∧ Wk (lp ps) (Wp fl ps) ol n ∧ WS (lp ps) (Wp fl ps) H H' d lo lr ol n rs) 46
      ⟨0, [([], [])], [], rfl, Nat.zero_le _, ⟨none, none, none, none, none, rfl⟩, wk_start, ⟨(e1.trans e2).trans e3, (e2.trans e3) _ _ hd1, ?_, hr3, rws_nil⟩⟩ ?_
    · rw [e3 _ _ ho2]
      show some (HO.lst [V.str ""]) = some (.lst [V.str (mk [])])
      rw [mk_nil]
    rintro m σ' H4 ⟨n, ol, rs, rfl, nle, ⟨x5, x6, x7, x8, x9, rfl⟩, wk, ws⟩
    have ol45 : ol.length ≤ 45 := by
      have := wk.few wp_ne (wp_8 g)
      omega
    have rsn : rs.length = n := by
      rw [ws.rows.1, List.length_take]
      omega
    have stl : (sts ol).length = ol.length := List.length_map _
    refine ⟨decide (n < ol.length), et_is (et_test (ev_op (ev_len (K := K) (ev_var rfl) (sq_of ws.hr)) (ev_len (K := K) (ev_var rfl) (sq_of ws.ho)) rv_I0)) (by rw [rsn, stl, decide_eq_decide]; omega), fun hb H5 e5 => ⟨fun σ2 H' => ∃ ol rs, n + 1 ≤ ol.length ∧ (∃ x5 x6 x7 x8 x9 : Option V, σ2 = [some (.str fl), some (.ref q), some (.ref d), some (.ref lo), some (.ref lr), x5, x6, x7, x8, x9]) ∧ Wk (lp ps) (Wp fl ps) ol (n + 1) ∧ WS (lp ps) (Wp fl ps) H H' d lo lr ol (n + 1) rs,
      fun σ2 H' ⟨ol, rs, h1, h2, h3, h4⟩ => ⟨46 - (n + 1), by have := h3.few wp_ne (wp_8 g); omega, n + 1, ol, rs, rfl, h1, h2, h3, h4⟩, ?_⟩, fun hb H5 e5 => ?_⟩
    · have lt : n < ol.length := of_decide_eq_true hb
      have ws5 := ws.mono e5
      obtain ⟨⟨e, r⟩, hn⟩ : ∃ p, ol[n]? = some p := ⟨_, List.getElem?_eq_getElem lt⟩
      have e8 : e.length ≤ 8 := wk.len wp_ne (wp_8 g) _ (List.mem_of_getElem? hn)
      have sge : Sgs e := wk.sgs O _ (List.mem_of_getElem? hn)
      refine q_asg (v := .str (mk e)) (ev_op (ev_var rfl) (ev_is (ev_len (K := K) (ev_var rfl) (sq_of ws5.hr)) (by rw [rsn])) (rv_ixL (sq_of ws5.ho) (atI_nat (by unfold sts; rw [List.getElem?_map, hn]; rfl)))) fun H6 e6 => ?_
      have ws6 := ws5.mono e6
      refine q_asgL (el_lst ea_nil (by show 0 ≤ 100000; decide)) fun lm H7 hlm e7 hm7 => ?_
      have ws7 := ws6.mono e7
      have nlm : H lm = none := fresh_back ws6.ex hlm
      have lmlo : lm ≠ lo := fun z => by rw [z, ws6.ho] at hlm; cases hlm
      have lmlr : lm ≠ lr := fun z => by rw [z, ws6.hr] at hlm; cases hlm
      refine q_forS (z := "01") ev_c (fun i σ' H' => ∃ ol' ms, (∃ x7 x8 x9 : Option V, σ' = [some (.str fl), some (.ref q), some (.ref d), some (.ref lo), some (.ref lr), some (.str (mk e)), some (.ref lm), x7, x8, x9]) ∧ Wki (lp ps) (Wp fl ps) ol' n e r i ∧ WS (lp ps) (Wp fl ps) H H' d lo lr ol' n rs ∧ H' lm = some (.lst ms) ∧ MvsAt (lp ps) (Wp fl ps) e H' ms i)
        (fun H8 e8 => ⟨ol, [], ⟨x7, x8, x9, rfl⟩, wk.begin hn, ws7.mono e8, e8 _ _ hm7, mvs_nil⟩) ?_ ?_
      · rintro i σ' H8 lt2 ⟨ol', ms, ⟨y7, y8, y9, rfl⟩, wi, w8, hm8, mv⟩
        have hc : [48, 49][i]? = some (TL.tl ("01" : Str))[i] := List.getElem?_eq_getElem lt2
        generalize (TL.tl ("01" : Str))[i] = c at hc
        have bc := bit2 hc
        have msl : ms.length ≤ 2 := by
          have := mv.1
          have : i < 2 := (List.getElem?_eq_some_iff.mp hc).1
          omega
        have ol45' : ol'.length ≤ 45 := by
          have := wi.wk.few wp_ne (wp_8 g)
          omega
        refine q_asg (v := sentV e (sentL (lp ps) e c)) (ev_call (ea_cons (x := .str (mk e)) (ev_var rfl) (ea_cons (x := .str (mk [c])) (ev_var rfl) (ea_cons (ev_var rfl) ea_nil))) fun H9 e9 Q9 q9 E9 => ⟨_, _, q, xs, fl, ps, e, c, rfl, by
            show e = tail8 e
            unfold tail8
            rw [show e.length - 8 = 0 by omega, List.drop_zero], rfl, sge, bc, ex_t (w8.ex.trans e9) hq, hp.mono (w8.ex.trans e9), g, q9⟩) fun H9 e9 => ?_
        rw [sent_val]
        have w9 := w8.mono e9
        cases hs : sendL (lp ps) e c with
        | none =>
          refine q_when (b := true) (et_is (et_test (ev_op (ev_var rfl) ev_c rv_isN)) (decide_eq_true rfl)) (fun _ Ha ea => ?_) (fun z => absurd z (by decide))
          have wa := w9.mono ea
          have hma := (e9.trans ea) _ _ hm8
          refine q_app hma (ev_var rfl) ev_c (by omega) fun Hb eb => ?_
          have hmb := eb _ _ hma
          refine ⟨ol', ms ++ [.non], ⟨_, _, _, rfl⟩, wi.none hc hs, (wa.mono eb).other nlm hmb lmlo lmlr, upd_same, ?_⟩
          refine ((mv.to (TupE.of ((e9.trans ea).trans eb))).to (TupE.lst hmb)).snoc hc ?_
          unfold mvOf
          rw [hs]
          rfl
        | some u =>
          have ul := send_len O hs
          refine q_when (b := false) (et_is (et_test (ev_op (ev_var rfl) ev_c rv_isN)) (decide_eq_false fun z => by cases z)) (fun z => absurd z (by decide)) (fun _ Ha ea => ?_)
          have wa := w9.mono ea
          refine q_asg (v := .str (mk (stOf (Wp fl ps) (e ++ u)))) (ev_call (ea_cons (x := .str (mk (e ++ u))) (ev_is (ev_addS (ev_var rfl) (ev_var rfl) (by rw [mk_len, mk_len]; omega)) (by rw [mk_app])) (ea_cons (ev_var rfl) (ea_cons (ev_var rfl) ea_nil))) fun Hb eb Qb qb Eb => ⟨mk (e ++ u), fl, q, xs, ps, rfl, by rw [mk_len, List.length_append]; omega, ex_t (wa.ex.trans eb) hq, hp.mono (wa.ex.trans eb), g, qb⟩) fun Hb eb => ?_
          have wb := wa.mono eb
          generalize ha : stOf (Wp fl ps) (e ++ u) = a
          have hmb := ((e9.trans ea).trans eb) _ _ hm8
          refine q_appU hmb (ev_var rfl) (eu_tup (ea_cons (ev_var rfl) (ea_cons (ev_var rfl) ea_nil)) (by show 2 ≤ 100000; decide)) (by omega) fun t Hc ht ec htc => ?_
          have hmc := ec _ _ hmb
          have wc := (wb.mono ec).other (ys := ms ++ [.ref t]) nlm hmc lmlo lmlr
          have mvc := ((mv.to (TupE.of (((e9.trans ea).trans eb).trans ec))).to (TupE.lst (o := .lst (ms ++ [.ref t])) hmc)).snoc (v := .ref t) hc (by
            unfold mvOf
            rw [hs]
            refine ⟨t, rfl, ?_⟩
            rw [upd_ne (fun z => by rw [z, hmc] at htc; cases htc), htc]
            show some (HO.tup [V.str (mk a), V.str (mk u)]) = some (.tup [.str (mk (stOf (Wp fl ps) (e ++ u))), .str (mk u)])
            rw [ha])
          have hmd : (upd Hc lm (.lst (ms ++ [.ref t]))) lm = some (.lst (ms ++ [.ref t])) := upd_same
          generalize upd Hc lm (.lst (ms ++ [.ref t])) = Hd at wc mvc hmd
          refine s_when (b := !decide (a ∈ ol'.map Prod.fst)) (et_is (et_dnotin (k := Sum.inr (mk a)) (ev_var rfl) (ev_var rfl) wc.hd) (by rw [kv_is])) (fun hb He ee => ?_) (fun hb He ee => ?_)
          · rw [Bool.not_eq_true', decide_eq_false_iff_not] at hb
            have we := wc.mono ee
            have rl : r.length < ol'.length := wi.wk.short _ wi.mem
            have put : Ev (tOp (fun x y H Q => ∃ i j, x = .str i ∧ y = .str j ∧ i.length + j.length ≤ sizeLine ∧ Q (.str (i ++ j)) H) (tDGet (tVar 2) (tVar 5)) (tVar 7)) [some (.str fl), some (.ref q), some (.ref d), some (.ref lo), some (.ref lr), some (.str (mk e)), some (.ref lm), some (.str (mk [c])), some (.str (mk u)), some (.str (mk a))] He (.str (mk (r ++ [c]))) :=
              ev_is (ev_addS (ev_dget (k := Sum.inr (mk e)) (ev_var rfl) (ev_var rfl) we.hd (kv_some wi.wk.wlk.nd wi.mem)) (ev_var rfl) (by rw [mk_len]; show r.length + 1 ≤ _; omega)) (by rw [mk_app])
            refine q_dput (i := 2) (j := 9) (k := Sum.inr (mk a)) rfl rfl we.hd (by unfold kv; rw [List.length_map]; omega) put fun Hf ef => ?_
            have wf := we.mono ef
            rw [kv_put hb]
            have nd : ∀ {x : Addr} {zs : List V}, Hf x = some (.lst zs) → (upd Hf d (.dK (kv (ol' ++ [(a, r ++ [c])])))) x = some (.lst zs) := fun {x zs} hx => by
              rw [upd_ne (fun z => by rw [z, wf.hd] at hx; cases hx)]
              exact hx
            have hgd : (upd Hf d (.dK (kv (ol' ++ [(a, r ++ [c])])))) d = some (.dK (kv (ol' ++ [(a, r ++ [c])]))) := upd_same
            have hog := nd wf.ho
            have hrg := nd wf.hr
            have hmg := nd ((ee.trans ef) _ _ hmd)
            have tg := ((TupE.of (ee.trans ef)).trans (TupE.dk (o := .dK (kv (ol' ++ [(a, r ++ [c])]))) wf.hd))
            have eg : Ex H (upd Hf d (.dK (kv (ol' ++ [(a, r ++ [c])])))) := Ex.mut wf.ex hdn
            generalize upd Hf d (.dK (kv (ol' ++ [(a, r ++ [c])]))) = Hg at hgd hog hrg hmg tg eg ⊢
            refine s_app hog (ev_var rfl) (ev_var rfl) (by unfold sts; rw [List.length_map]; omega) fun Hh eh => ?_
            have hoh := eh _ _ hog
            have tz := (tg.trans (TupE.of eh)).trans (TupE.lst (o := .lst (sts ol' ++ [.str (mk a)])) hoh)
            refine ⟨ol' ++ [(a, r ++ [c])], ms ++ [.ref t], ⟨_, _, _, rfl⟩, ?_, ⟨Ex.mut (eg.trans eh) nlo, ?_, ?_, ?_, ?_⟩, ?_, mvc.to tz⟩
            · have := wi.new wp_ne wp_mem hc hs (by rw [ha]; exact hb)
              rwa [ha] at this
            · rw [upd_ne (fun z => by rw [← z, eh _ _ hgd] at hoh; cases hoh)]
              exact eh _ _ hgd
            · rw [upd_same, sts_snoc]
            · rw [upd_ne lolr.symm]
              exact eh _ _ hrg
            · have ltn : n < ol'.length := (List.getElem?_eq_some_iff.mp wi.at_).1
              rw [List.take_append_of_le_length (by omega)]
              exact wc.rows.to tz
            · rw [upd_ne lmlo]
              exact eh _ _ hmg
          · rw [Bool.not_eq_false', decide_eq_true_iff] at hb
            exact ⟨ol', ms ++ [.ref t], ⟨_, _, _, rfl⟩, wi.old hc hs (by rw [ha]; exact hb), wc.mono ee, ee _ _ hmd, mvc.to (TupE.of ee)⟩
      · rintro σ' H8 ⟨ol', ms, ⟨y7, y8, y9, rfl⟩, wi, w8, hm8, mv⟩
        have two : (TL.tl ("01" : Str)).length = 2 := by decide +kernel
        rw [two] at wi mv
        have ltn : n < ol'.length := (List.getElem?_eq_some_iff.mp wi.at_).1
        refine s_appG (i := 4) rfl w8.hr (tup_i (cons_i ((ev_dget (k := Sum.inr (mk e)) (ev_var (i := 2) rfl) (ev_var (i := 5) rfl) w8.hd (kv_some wi.wk.wlk.nd wi.mem)) H8 (Ex.refl H8) _ fun H9 e9 => cons_i ((ev_var (i := 5) (v := .str (mk e)) rfl) H9 (Ex.refl H9) _ fun Ha ea => cons_i ((eu_tuple (K := K) (ev_var (i := 6) rfl) (sq_of ((e9.trans ea) _ _ hm8))) Ha (Ex.refl Ha) _ fun b Hb hbn eb hb2 => ?_)))))
        have Eb := (e9.trans ea).trans eb
        refine ⟨by show 3 ≤ sizeLine; decide, fun t ht => ?_⟩
        have wb := (w8.mono Eb).mono (Ex.new (o := .tup [.str (mk r), .str (mk e), .ref b]) ht)
        have tb : (upd Hb t (.tup [.str (mk r), .str (mk e), .ref b])) t = some (.tup [.str (mk r), .str (mk e), .ref b]) := upd_same
        have hb3 := (Ex.new (o := .tup [.str (mk r), .str (mk e), .ref b]) ht) _ _ hb2
        have mvb := (mv.to (TupE.of Eb)).to (TupE.of (Ex.new (o := .tup [.str (mk r), .str (mk e), .ref b]) ht))
        generalize upd Hb t (.tup [.str (mk r), .str (mk e), .ref b]) = Hc at wb tb hb3 mvb ⊢
        refine ⟨lr, rs, .ref t, rfl, rfl, wb.hr, sz_lt (by omega), ?_⟩
        have tz : TupE Hc (upd Hc lr (.lst (rs ++ [.ref t]))) := TupE.lst wb.hr
        refine ⟨ol', rs ++ [.ref t], ltn, ⟨_, _, _, _, _, rfl⟩, wi.done, ⟨Ex.mut wb.ex nlr, ?_, ?_, upd_same, ?_⟩⟩
        · rw [upd_ne (fun z => by have h1 := wb.hd; rw [z, wb.hr] at h1; cases h1)]
          exact wb.hd
        · rw [upd_ne lolr]
          exact wb.ho
        · rw [take_snoc wi.at_]
          exact (wb.rows.to tz).snoc ⟨t, b, ms, rfl, tz _ _ tb, tz _ _ hb3, mvb.to tz⟩
    · have : ¬ n < ol.length := of_decide_eq_false hb
      obtain rfl : n = ol.length := by omega
      refine s_ret (v := .ref lr) (ev_var rfl) fun H6 e6 => ?_
      have w6 := (ws.mono e5).mono e6
      have rw6 := w6.rows
      rw [List.take_length] at rw6
      exact k lr rs ol H6 nlr w6.ex w6.hr wk rw6
end
end K10
namespace K10
open PySem L2 Evl Gr StX EnT ClX ClK RdX SrtT StS Fr
abbrev sMvo : Stmt := top 19
/-! ### x in a tuple, as data -/
section
variable {X : Cx}
def rInDT (K : PySem.W.Frag) : R2 := fun x y H Q => ∃ d ds, Dp K H x d ∧ Dp K H y (.tuple ds) ∧ SeqAt.shaped d = true ∧ SeqAt.shaped (.tuple ds) = true ∧ Q (.bl (ds.any fun z => PyData.eqv z d)) H
theorem op_inDT (hu : X.A.units + 65 < cLine) : OpR X (compareOp .In) (rInDT X.K) := by
  intro pins s σ H x y v u Q I rx ry h
  obtain ⟨d, ds, hd, he, sd, se, q⟩ := h
  obtain ⟨as, r1⟩ := Dp.reads I d x v hd rx
  obtain ⟨bs, r2⟩ := Dp.reads I (.tuple ds) y u he ry
  exact SeqAt.in_tuple_reads r2 r1 (SeqAt.canLay_of_shaped se) (SeqAt.canLay_of_shaped sd) (PyProof.Rows.room_in_shaped sd hu) ⟨.bl _, H, I, rfl, q⟩
end
/-! ### comprehensions of two clauses, and of dicts -/
section
variable {J J1 : It} {n n1 : Nat} {G G1 : Hp → Prop} {Y Y1 : Nat → Hp → V → Hp → Prop}
theorem lc2_it (w : Walk J n G Y) {g : TG} {tt : TT} {wi1 : TI} {g1 : TG} {tt1 : TT} {te : TE} {vs vs1 : List Nat} {σ : L2.St} {H1 : Hp} {D : Addr} {Qd : Hp → Prop} (Pv : Nat → Hp → Prop) (h0 : Pv 0 (upd H1 D (.lst []))) (hG : ∀ i H, i ≤ n → Pv i H → G H)
    (hs : ∀ i x H H', i < n → Pv i H → Y i H x H' → g x (wipe σ vs) H' fun σ2 H2 => wipe σ2 vs = wipe σ vs ∧ tt σ2 H2 fun b H3 =>
      if b = true then wi1 σ2 H3 fun J1 H4 => ∃ W1 : Nat → Nat → Hp → Prop, (∃ m, W1 0 m H4) ∧ ∀ j k H, W1 j k H →
        (J1.stop j H ∧ Pv (i + 1) H) ∨ (J1.go j H ∧ ∃ Nx1 : Hp → Prop, (∀ H', Nx1 H' → ∃ k', k' < k ∧ W1 (j + 1) k' H') ∧ ∀ x H', J1.yld j H x H' → g1 x (wipe σ2 vs1) H' fun σ3 H5 => wipe σ3 vs1 = wipe σ2 vs1 ∧ tt1 σ3 H5 fun b H6 =>
          if b = true then te σ3 H6 fun y H7 => ∃ acc, H7 D = some (.lst acc) ∧ acc.length < sizeLine ∧ Nx1 (upd H7 D (.lst (acc ++ [y]))) else Nx1 H6)
      else Pv (i + 1) H3) (hd : ∀ H, Pv n H → Qd H) :
    ∃ W : Nat → Nat → Hp → Prop, (∃ m, W 0 m (upd H1 D (.lst []))) ∧ ∀ i m H, W i m H →
      (J.stop i H ∧ Qd H) ∨ (J.go i H ∧ ∃ Nx : Hp → Prop, (∀ H', Nx H' → ∃ m', m' < m ∧ W (i + 1) m' H') ∧ ∀ x H', J.yld i H x H' → g x (wipe σ vs) H' fun σ2 H2 => wipe σ2 vs = wipe σ vs ∧ tt σ2 H2 fun b H3 =>
        if b = true then wi1 σ2 H3 fun J1 H4 => ∃ W1 : Nat → Nat → Hp → Prop, (∃ m, W1 0 m H4) ∧ ∀ j k H, W1 j k H →
          (J1.stop j H ∧ Nx H) ∨ (J1.go j H ∧ ∃ Nx1 : Hp → Prop, (∀ H', Nx1 H' → ∃ k', k' < k ∧ W1 (j + 1) k' H') ∧ ∀ x H', J1.yld j H x H' → g1 x (wipe σ2 vs1) H' fun σ3 H5 => wipe σ3 vs1 = wipe σ2 vs1 ∧ tt1 σ3 H5 fun b H6 =>
            if b = true then te σ3 H6 fun y H7 => ∃ acc, H7 D = some (.lst acc) ∧ acc.length < sizeLine ∧ Nx1 (upd H7 D (.lst (acc ++ [y]))) else Nx1 H6)
        else Nx H3) := by
  refine ⟨fun i m H => m = n - i ∧ i ≤ n ∧ Pv i H, ⟨n, by simp, Nat.zero_le _, h0⟩, fun i m H ⟨em, hi, p⟩ => ?_⟩
  subst em
  have q := hG i H hi p
  rcases Nat.lt_or_ge i n with lt | ge
  · exact .inr ⟨w.goes i H lt q, Pv (i + 1), fun H' p' => ⟨n - (i + 1), by omega, rfl, lt, p'⟩, fun x H' y => hs i x H H' lt p (w.yields i H x H' lt q y)⟩
  · obtain rfl : i = n := by omega
    exact .inl ⟨w.stops H q, hd H p⟩
theorem in2_it (w : Walk J1 n1 G1 Y1) {g1 : TG} {tt1 : TT} {te : TE} {vs1 : List Nat} {σ2 : L2.St} {H4 : Hp} {D : Addr} {Nx : Hp → Prop} (Qv : Nat → Hp → Prop) (h0 : Qv 0 H4) (hG : ∀ i H, i ≤ n1 → Qv i H → G1 H)
    (hs : ∀ i x H H', i < n1 → Qv i H → Y1 i H x H' → g1 x (wipe σ2 vs1) H' fun σ3 H5 => wipe σ3 vs1 = wipe σ2 vs1 ∧ tt1 σ3 H5 fun b H6 =>
      if b = true then te σ3 H6 fun y H7 => ∃ acc, H7 D = some (.lst acc) ∧ acc.length < sizeLine ∧ Qv (i + 1) (upd H7 D (.lst (acc ++ [y]))) else Qv (i + 1) H6) (hd : ∀ H, Qv n1 H → Nx H) :
    ∃ W1 : Nat → Nat → Hp → Prop, (∃ m, W1 0 m H4) ∧ ∀ j k H, W1 j k H →
      (J1.stop j H ∧ Nx H) ∨ (J1.go j H ∧ ∃ Nx1 : Hp → Prop, (∀ H', Nx1 H' → ∃ k', k' < k ∧ W1 (j + 1) k' H') ∧ ∀ x H', J1.yld j H x H' → g1 x (wipe σ2 vs1) H' fun σ3 H5 => wipe σ3 vs1 = wipe σ2 vs1 ∧ tt1 σ3 H5 fun b H6 =>
        if b = true then te σ3 H6 fun y H7 => ∃ acc, H7 D = some (.lst acc) ∧ acc.length < sizeLine ∧ Nx1 (upd H7 D (.lst (acc ++ [y]))) else Nx1 H6) := by
  refine ⟨fun i m H => m = n1 - i ∧ i ≤ n1 ∧ Qv i H, ⟨n1, by simp, Nat.zero_le _, h0⟩, fun i m H ⟨em, hi, p⟩ => ?_⟩
  subst em
  have q := hG i H hi p
  rcases Nat.lt_or_ge i n1 with lt | ge
  · exact .inr ⟨w.goes i H lt q, Qv (i + 1), fun H' p' => ⟨n1 - (i + 1), by omega, rfl, lt, p'⟩, fun x H' y => hs i x H H' lt p (w.yields i H x H' lt q y)⟩
  · obtain rfl : i = n1 := by omega
    exact .inl ⟨w.stops H q, hd H p⟩
theorem dc_it (w : Walk J n G Y) {g : TG} {tt : TT} {tk tv : TE} {vs : List Nat} {σ : L2.St} {H1 : Hp} {D : Addr} {Qd : Hp → Prop} (Pv : Nat → Hp → Prop) (h0 : Pv 0 (upd H1 D (.dK []))) (hG : ∀ i H, i ≤ n → Pv i H → G H)
    (hs : ∀ i x H H', i < n → Pv i H → Y i H x H' → g x (wipe σ vs) H' fun σ2 H2 => wipe σ2 vs = wipe σ vs ∧ tt σ2 H2 fun b H3 =>
      if b = true then tk σ2 H3 fun y H4 => tv σ2 H4 fun z H5 => ∃ kvs k, y = kV k ∧ H5 D = some (.dK kvs) ∧ kvs.length < sizeLine ∧ Pv (i + 1) (upd H5 D (.dK (putK kvs k z))) else Pv (i + 1) H3) (hd : ∀ H, Pv n H → Qd H) :
    ∃ W : Nat → Nat → Hp → Prop, (∃ m, W 0 m (upd H1 D (.dK []))) ∧ ∀ i m H, W i m H →
      (J.stop i H ∧ Qd H) ∨ (J.go i H ∧ ∃ Nx : Hp → Prop, (∀ H', Nx H' → ∃ m', m' < m ∧ W (i + 1) m' H') ∧ ∀ x H', J.yld i H x H' → g x (wipe σ vs) H' fun σ2 H2 => wipe σ2 vs = wipe σ vs ∧ tt σ2 H2 fun b H3 =>
        if b = true then tk σ2 H3 fun y H4 => tv σ2 H4 fun z H5 => ∃ kvs k, y = kV k ∧ H5 D = some (.dK kvs) ∧ kvs.length < sizeLine ∧ Nx (upd H5 D (.dK (putK kvs k z))) else Nx H3) := by
  refine ⟨fun i m H => m = n - i ∧ i ≤ n ∧ Pv i H, ⟨n, by simp, Nat.zero_le _, h0⟩, fun i m H ⟨em, hi, p⟩ => ?_⟩
  subst em
  have q := hG i H hi p
  rcases Nat.lt_or_ge i n with lt | ge
  · exact .inr ⟨w.goes i H lt q, Pv (i + 1), fun H' p' => ⟨n - (i + 1), by omega, rfl, lt, p'⟩, fun x H' y => hs i x H H' lt p (w.yields i H x H' lt q y)⟩
  · obtain rfl : i = n := by omega
    exact .inl ⟨w.stops H q, hd H p⟩
end
/-! ### moves as data -/
def mvD : Option (L × L) → PyData
  | none => .none
  | some m => .tuple [.str (mk m.1), .str (mk m.2)]
theorem MvAt.dp {K : PySem.W.Frag} {H : Hp} {v : V} : ∀ {m : Option (L × L)}, MvAt H v m → Dp K H v (mvD m)
  | none, h => by
    rw [show v = .non from h]
    exact .non
  | some m, h => by
    obtain ⟨t, rfl, ht⟩ := h
    exact .tup (st_of ht) (.cons (.str _) (.cons (.str _) .nil))
theorem MvsAt.two {ps : LP} {W : List L} {e : L} {H : Hp} {ms : List V} (h : MvsAt ps W e H ms 2) : ∃ x y, ms = [x, y] ∧ MvAt H x (mvOf ps W e 48) ∧ MvAt H y (mvOf ps W e 49) := by
  obtain ⟨h1, h2⟩ := h
  match ms, h1 with
  | [x, y], _ => exact ⟨x, y, rfl, h2 0 x 48 rfl rfl, h2 1 y 49 rfl rfl⟩
theorem mv_sgs {ps : LP} {W : List L} {e : L} {c : Nat} (O : Pok ps) (he : Sgs e) (hc : Fr.Bit c) {m : L × L} (h : mvOf ps W e c = some m) : Sgs m.1 ∧ Sgs m.2 := by
  unfold mvOf at h
  obtain ⟨u, hu, rfl⟩ := Option.map_eq_some_iff.mp h
  have su := send_sgs O he hc hu
  exact ⟨fun d hd => (he.app su) d ((st_suf _).subset hd), su⟩
theorem mv_lay {m : Option (L × L)} (h : ∀ p, m = some p → Sgs p.1 ∧ Sgs p.2) : PyData.canLay0 (mvD m) = true ∧ PyData.depth (mvD m) ≤ 1 := by
  cases m with
  | none => exact ⟨rfl, by decide⟩
  | some p =>
    obtain ⟨h1, h2⟩ := h p rfl
    constructor
    · simp [mvD, PyData.canLay0, PyData.canLayAll0, strOk_sg (sg_mk h1), strOk_sg (sg_mk h2)]
    · simp [mvD, PyData.depth, PyData.depthAll]
def noEnd (ps : LP) (e : L) : Bool := (sendL ps e 48).isNone || (sendL ps e 49).isNone
theorem eqv_mv (m : Option (L × L)) : PyData.eqv (mvD m) .none = m.isNone := by
  cases m <;> simp [mvD, PyData.eqv]
section
variable {K : PySem.W.Frag} {σ : L2.St} {H : Hp} {te ta tb tl : TE}
theorem ev_noneIn {ps : LP} {W : List L} {e : L} {ms : List V} {b : Addr} (O : Pok ps) (he : Sgs e) (hb : Ev tb σ H (.ref b)) (h1 : H b = some (.tup ms)) (h2 : MvsAt ps W e H ms 2) : Ev (tOp (rInDT K) (tC .non) tb) σ H (.bl (noEnd ps e)) := fun H1 e1 Q q =>
  hb H1 e1 _ fun H2 e2 => by
    have E := e1.trans e2
    obtain ⟨x, y, rfl, hx, hy⟩ := h2.two
    have hx := hx.to (TupE.of E)
    have hy := hy.to (TupE.of E)
    obtain ⟨a1, a2⟩ := mv_lay (m := mvOf ps W e 48) fun p hp => mv_sgs O he (.inl rfl) hp
    obtain ⟨b1, b2⟩ := mv_lay (m := mvOf ps W e 49) fun p hp => mv_sgs O he (.inr rfl) hp
    refine ⟨.none, [mvD (mvOf ps W e 48), mvD (mvOf ps W e 49)], .non, .tup (st_of (E _ _ h1)) (.cons hx.dp (.cons hy.dp .nil)), by decide, ?_, ?_⟩
    · unfold SeqAt.shaped
      simp [PyData.canLay0, PyData.canLayAll0, PyData.depth, PyData.depthAll, a1, b1]
      omega
    · have e3 : ([mvD (mvOf ps W e 48), mvD (mvOf ps W e 49)].any fun z => PyData.eqv z .none) = noEnd ps e := by
        simp only [List.any_cons, List.any_nil, Bool.or_false, eqv_mv]
        unfold noEnd mvOf
        rw [Option.isNone_map, Option.isNone_map]
      rw [e3]
      exact q H2 e2
/-- [.. for letter, state, moves in rows] -/
theorem el_rows {ps : LP} {W : List L} {a : Addr} {rs : List V} {ol : List (L × L)} {i1 i2 i3 : Nat} {vs : List Nat} (v : L × L → V) (h : Ev tl σ H (.ref a)) (ha : H a = some (.lst rs)) (hr : RowsAt ps W H rs ol) (hz : ol.length ≤ 40000)
    (hw : ∀ x y z, wipe ((((wipe σ vs).set i1 (some x)).set i2 (some y)).set i3 (some z)) vs = wipe σ vs)
    (he : ∀ p ∈ ol, ∀ H1, Ex H H1 → ∀ b ms, H1 b = some (.tup ms) → MvsAt ps W p.1 H1 ms 2 → Ev te ((((wipe σ vs).set i1 (some (.str (mk p.2)))).set i2 (some (.str (mk p.1)))).set i3 (some (.ref b))) H1 (v p)) :
    EvL (tLc (iList K tl) (gTup K 3 (gCons (gName i1) (gCons (gName i2) (gCons (gName i3) gNil)))) (fun σ H Q => Q true H) te vs) σ H (ol.map v) := fun H0 e Q q => h H0 e _ fun H1 e1 => by
  have E := e.trans e1
  have ha1 := E _ _ ha
  have hr1 := hr.to (TupE.of E)
  refine ⟨a, rfl, ⟨rs, sq_of ha1⟩, fun Dl hD => lc_it (n := rs.length) (walk_list (xs := rs)) (g := gTup K 3 (gCons (gName i1) (gCons (gName i2) (gCons (gName i3) gNil)))) (tt := fun σ H Q => Q true H) (te := te) (vs := vs) (σ := σ) (Cw H1 (at_ ol fun _ => true) (got ol v) Dl) ⟨hD, Ex.new hD, upd_same⟩ (fun _ H' _ p => sq_of (p.2.1 _ _ ha1))
      (fun k x H' H'' hk p y => ?_) (fun H' p => q Dl H' (fresh_back e1 p.1) (e1.trans p.2.1) ?_)⟩
  · obtain ⟨rfl, hx⟩ := y
    have hk2 : k < ol.length := by rw [← hr1.1]; exact hk
    have hp := List.getElem?_eq_getElem hk2
    obtain ⟨t, b, ms, rfl, h1, h2, h3⟩ := hr1.2 k x _ hx hp
    have eT := p.2.1
    refine ⟨t, _, rfl, st_of (eT _ _ h1), rfl, _, _, rfl, _, _, rfl, _, _, rfl, rfl, hw _ _ _, cw_turn (t := fun σ H Q => Q true H) p (by omega) ?_ fun _ => ?_⟩
    · rw [at_of hp]
      exact et_none
    rw [got_of hp]
    exact he _ (List.getElem_mem hk2) H1 E b ms h2 h3
  · have := p.2.2
    rw [hr1.1] at this
    rw [this, given_of, List.filter_eq_self.mpr fun _ _ => rfl]
end
end K10
namespace K10
open PySem L2 Evl Gr StX EnT ClX ClK RdX SrtT StS Fr
/-! ### the dict of moves -/
def MovesT (ps : LP) (W : List L) (H : Hp) (b : Addr) (e : L) : Prop := ∃ ms, H b = some (.tup ms) ∧ MvsAt ps W e H ms 2
theorem MovesT.to {ps : LP} {W : List L} {H H' : Hp} {b : Addr} {e : L} (t : TupE H H') (h : MovesT ps W H b e) : MovesT ps W H' b e := by
  obtain ⟨ms, h1, h2⟩ := h
  exact ⟨ms, t _ _ h1, h2.to t⟩
structure KvAt (ps : LP) (W : List L) (H : Hp) (kvs : List (Key × V)) (ol : List (L × L)) : Prop where
  keys : kvs.map (·.1) = (ol.map Prod.fst).map fun e => (Sum.inr (mk e) : Key)
  vals : ∀ x ∈ kvs, ∃ e b, x = ((Sum.inr (mk e) : Key), V.ref b) ∧ MovesT ps W H b e
theorem KvAt.to {ps : LP} {W : List L} {H H' : Hp} {kvs : List (Key × V)} {ol : List (L × L)} (t : TupE H H') (h : KvAt ps W H kvs ol) : KvAt ps W H' kvs ol :=
  ⟨h.keys, fun x hx => by obtain ⟨e, b, h1, h2⟩ := h.vals x hx; exact ⟨e, b, h1, h2.to t⟩⟩
theorem kvat_nil {ps : LP} {W : List L} {H : Hp} : KvAt ps W H [] [] := ⟨rfl, fun x hx => by cases hx⟩
theorem kvat_has {ps : LP} {W : List L} {H : Hp} {kvs : List (Key × V)} {ol : List (L × L)} (h : KvAt ps W H kvs ol) (e : L) : (valV kvs (Sum.inr (mk e) : Key)).isSome = decide (e ∈ ol.map Prod.fst) := by
  rw [Bool.eq_iff_iff, valV_key, h.keys, decide_eq_true_iff, List.mem_map]
  constructor
  · rintro ⟨a, ha, h⟩
    rw [← key_inj h]
    exact ha
  · exact fun h => ⟨e, h, rfl⟩
theorem valV_in {kvs : List (Key × V)} {k : Key} {v : V} (h : valV kvs k = some v) : (k, v) ∈ kvs := by
  unfold valV at h
  obtain ⟨x, hx, rfl⟩ := Option.map_eq_some_iff.mp h
  have h1 := List.mem_of_find?_eq_some hx
  have h2 := List.find?_some hx
  rw [← of_decide_eq_true h2]
  exact h1
theorem kvat_get {ps : LP} {W : List L} {H : Hp} {kvs : List (Key × V)} {ol : List (L × L)} (h : KvAt ps W H kvs ol) {e : L} (he : e ∈ ol.map Prod.fst) : ∃ b, valV kvs (Sum.inr (mk e) : Key) = some (.ref b) ∧ MovesT ps W H b e := by
  have hs := kvat_has h e
  rw [decide_eq_true he] at hs
  obtain ⟨v, hv⟩ := Option.isSome_iff_exists.mp hs
  obtain ⟨e', b, h1, h2⟩ := h.vals _ (valV_in hv)
  cases (Prod.mk.inj h1).2
  have := key_inj (Prod.mk.inj h1).1
  subst this
  exact ⟨b, hv, h2⟩
theorem kvat_snoc {ps : LP} {W : List L} {H : Hp} {kvs : List (Key × V)} {ol : List (L × L)} {p : L × L} {b : Addr} (h : KvAt ps W H kvs ol) (n : p.1 ∉ ol.map Prod.fst) (m : MovesT ps W H b p.1) : KvAt ps W H (putK kvs (Sum.inr (mk p.1) : Key) (.ref b)) (ol ++ [p]) := by
  have hn : valV kvs (Sum.inr (mk p.1) : Key) = none := by
    have := kvat_has h p.1
    rw [decide_eq_false n] at this
    cases c : valV kvs (Sum.inr (mk p.1) : Key) with
    | none => rfl
    | some x => rw [c] at this; cases this
  rw [putK_new hn]
  refine ⟨?_, fun x hx => ?_⟩
  · rw [List.map_append, h.keys, List.map_append, List.map_append]
    rfl
  · rcases List.mem_append.mp hx with hx | hx
    · exact h.vals x hx
    · exact ⟨p.1, b, List.mem_singleton.mp hx, m⟩
/-! ### clashes -/
def ClashT (cC : Addr) (f : Str) (ps : List Pr) (H : Hp) (E : XK) (ok : Prop) : Prop :=
  (PutsC (lp ps) ∧ Puts cC H E) ∨ (¬ PutsC (lp ps) ∧ ((FlagC (lp ps) (TL.tl f) ∧ Out1 cC "part" (.str "flag") H E) ∨ (¬ FlagC (lp ps) (TL.tl f) ∧ ok)))
theorem ClashT.mono {cC : Addr} {f : Str} {ps : List Pr} {H H' : Hp} {E : XK} {ok ok' : Prop} (e : Ex H H') (k : ok → ok') (h : ClashT cC f ps H E ok) : ClashT cC f ps H' E ok' := by
  rcases h with ⟨h1, h2⟩ | ⟨h1, ⟨h2, h3⟩ | ⟨h2, h3⟩⟩
  · exact .inl ⟨h1, h2.mono e⟩
  · exact .inr ⟨h1, .inl ⟨h2, h3.mono e⟩⟩
  · exact .inr ⟨h1, .inr ⟨h2, k h3⟩⟩
/-- the flag in a step -/
def flIn (ps : LP) (f : L) (e : L) (c : Nat) : Bool := match sendL ps e c with
  | none => false
  | some u => decide (f <:+: e ++ u)
def fl2 (ps : LP) (f : L) (p : L × L) : List Bool := [flIn ps f p.1 48, flIn ps f p.1 49]
theorem noEnd_iff {ps : LP} {ol : List (L × L)} : ((ol.map fun p => noEnd ps p.1).any id) = false ↔ NoPuts ps (ol.map Prod.fst) := by
  rw [List.any_eq_false]
  constructor
  · intro h e he c hc hs
    obtain ⟨p, hp, rfl⟩ := List.mem_map.mp he
    refine h _ (List.mem_map.mpr ⟨p, hp, rfl⟩) ?_
    show noEnd ps p.1 = true
    unfold noEnd
    rcases hc with rfl | rfl <;> rw [hs] <;> simp
  · intro h b hb z
    obtain ⟨p, hp, rfl⟩ := List.mem_map.mp hb
    have z : noEnd ps p.1 = true := z
    unfold noEnd at z
    rw [Bool.or_eq_true, Option.isNone_iff_eq_none, Option.isNone_iff_eq_none] at z
    rcases z with z | z
    · exact h p.1 (List.mem_map.mpr ⟨p, hp, rfl⟩) 48 (.inl rfl) z
    · exact h p.1 (List.mem_map.mpr ⟨p, hp, rfl⟩) 49 (.inr rfl) z
theorem fl_iff {ps : LP} {f : L} {ol : List (L × L)} : ((ol.flatMap (fl2 ps f)).any id) = true ↔ ∃ p ∈ ol, ∃ c, Fr.Bit c ∧ ∃ u, sendL ps p.1 c = some u ∧ f <:+: p.1 ++ u := by
  rw [List.any_eq_true]
  have one : ∀ e c, flIn ps f e c = true ↔ ∃ u, sendL ps e c = some u ∧ f <:+: e ++ u := fun e c => by
    unfold flIn
    cases sendL ps e c with
    | none => exact ⟨fun z => (by cases z), fun ⟨u, z, _⟩ => (by cases z)⟩
    | some u => exact ⟨fun z => ⟨u, rfl, of_decide_eq_true z⟩, fun ⟨v, z, y⟩ => by cases z; exact decide_eq_true y⟩
  constructor
  · rintro ⟨b, hb, h⟩
    obtain ⟨p, hp, hb⟩ := List.mem_flatMap.mp hb
    have h : b = true := h
    subst h
    unfold fl2 at hb
    simp only [List.mem_cons, List.not_mem_nil, or_false] at hb
    rcases hb with z | z
    · exact ⟨p, hp, 48, .inl rfl, (one _ _).mp z.symm⟩
    · exact ⟨p, hp, 49, .inr rfl, (one _ _).mp z.symm⟩
  · rintro ⟨p, hp, c, hc, h⟩
    refine ⟨true, List.mem_flatMap.mpr ⟨p, hp, ?_⟩, rfl⟩
    unfold fl2
    rcases hc with rfl | rfl
    · rw [(one _ _).mpr h]
      exact List.mem_cons_self
    · rw [(one p.1 49).mpr h]
      exact List.mem_cons_of_mem _ List.mem_cons_self
section
variable {f : Str} {ps : List Pr} {ol : List (L × L)}
theorem f_ne (g : Good f ps) : TL.tl f ≠ [] := fun z => by
  have := (flag_len g).1
  rw [z] at this
  cases this
theorem f_beg : Beg (Wp f ps) (TL.tl f).dropLast := ⟨_, List.mem_cons_self, List.dropLast_prefix _⟩
theorem f_begL : Beg (Wl f ps) (TL.tl f).dropLast := ⟨_, List.mem_cons_self, List.prefix_refl _⟩
theorem puts_is (w : Wk (lp ps) (Wp f ps) ol ol.length) : PutsC (lp ps) ↔ ¬ NoPuts (lp ps) (ol.map Prod.fst) :=
  Wlk.puts wp_ne wp_mem (by have := w.wlk; rwa [show ol.length = (ol.map Prod.fst).length by rw [List.length_map]] at this)
theorem flag_is (g : Good f ps) (w : Wk (lp ps) (Wp f ps) ol ol.length) (np : NoPuts (lp ps) (ol.map Prod.fst)) : FlagC (lp ps) (TL.tl f) ↔ ((ol.flatMap (fl2 (lp ps) (TL.tl f))).any id) = true := by
  rw [fl_iff]
  constructor
  · intro h
    refine Classical.byContradiction fun n => flag_none wp_ne wp_mem (f_ne g) f_beg (by have := w.wlk; rwa [show ol.length = (ol.map Prod.fst).length by rw [List.length_map]] at this) np (fun e he c hc u hu z => ?_) h
    obtain ⟨p, hp, rfl⟩ := List.mem_map.mp he
    exact n ⟨p, hp, c, hc, u, hu, z⟩
  · rintro ⟨p, hp, c, hc, u, hu, z⟩
    obtain ⟨t, h1, h2⟩ := w.rch p hp
    exact flag_some wp_mem h1 h2 hc hu z
end
section
variable {P : Program} {w : World} {K : PySem.W.Frag} {mg : Str → Option Value} {base : Heap}
/-! ### moves_of -/
abbrev nMvo : List Str := ["flag", "pairs", "rows", "_", "moves", "state", "sent"]
def spMvo (K : PySem.W.Frag) (cC : Addr) : Sp := fun vs H Q E => ∃ (f : Str) (q : Addr) (xs : List V) (ps : List Pr), vs = [.str f, .ref q] ∧ SqT K H q xs ∧ Prs H xs ps ∧ Good f ps ∧
  ClashT cC f ps H E (∀ (d : Addr) (kvs : List (Key × V)) (ol : List (L × L)) H1, H d = none → Ex H H1 → H1 d = some (.dK kvs) → Wk (lp ps) (Wp f ps) ol ol.length → NoPuts (lp ps) (ol.map Prod.fst) → KvAt (lp ps) (Wp f ps) H1 kvs ol → Q (.ref d) H1)
theorem scMvo : FnScope nMvo ["flag", "pairs"] (defScope sMvo) := ⟨rfl, rfl, rfl, by decide +kernel, rfl, by decide +kernel, by decide +kernel⟩
abbrev g3 (K : PySem.W.Frag) (i j k : Nat) : TG := gTup K 3 (gCons (gName i) (gCons (gName j) (gCons (gName k) gNil)))
abbrev rAddS : R2 := fun x y H Q => ∃ i j, x = .str i ∧ y = .str j ∧ i.length + j.length ≤ sizeLine ∧ Q (.str (i ++ j)) H
theorem ok_Mvo {cC fC f : Addr} {fd fdC : FuncData} (F : Fun K "moves_of" "moves_of" sMvo f fd) (W : GlbW mg) (BC : GOne P w K mg base "Clashing" "part" cC fC fdC) (GW : Gfn P w K mg base 3 "walked" ["flag", "pairs"] (spWkd K)) :
    FnOk P w K mg base (L2.CX P w) 4 f fd ["flag", "pairs"] (spMvo K cC) := by
  obtain ⟨fW, fdW, GW, kW, bW, gW⟩ := GW
  refine F.okX scMvo (fun vs H Q E h => ?_) (fun cdv A outer s H vs Q E hr h => ?_)
  · obtain ⟨f, q, xs, ps, rfl, _⟩ := h
    rfl
  · obtain ⟨fl, q, xs, ps, rfl, hq, hp, g, hx⟩ := h
    have hu : (A.deeper (PyProof.Rows.envOfC "moves_of" (defScope sMvo) s.heap.objs.size f cdv)).units + 65 < cLine := by have := hr.un; omega
    have r2 := hr.mono (show 2 ≤ 3 by decide)
    refine ⟨_, (pss_cons (ps_set (i := 2) scMvo.nd rfl (.inl rfl) (pe_call GW hr (by rfl) gW kW bW .nil pass0 (pa_cons (pv 0) (pa_cons (pv 1) pa_nil))))
      (pss_cons (ps_if (pt_val (pe_callB (cr_any rfl) (by rfl) W.any (by decide +kernel) (pa_cons (pe_lc (te := tOp (rInDT K) (tC .non) (tVar 4)) (own := [("_", 3), ("moves", 4)]) (g := g3 K 3 3 4) rfl scMvo.nd (pi_list (pv 2)) (blkOk_by (own := [("_", 3), ("moves", 4)]) (N := nMvo) (sc := defScope sMvo) (by decide +kernel))
          (fun _ _ _ _ _ => pg_tup rfl (pgs_cons (pg_name (i := 3) scMvo.nd rfl (Or.inl rfl)) (pgs_cons (pg_name (i := 3) scMvo.nd rfl (Or.inl rfl)) (pgs_cons (pg_name (i := 4) scMvo.nd rfl (Or.inl rfl)) pgs_nil)))) (fun _ _ _ _ _ => pts_nil) (fun _ _ _ _ _ => pe_cmpR (op_inDT hu) pe_non (pv 4) (by with_unfolding_all rfl))) pa_nil)))
        (pss_one (ps_raise rfl (takes_of rfl rfl rfl rfl) (pmk_oex BC.ox BC.init BC.ty BC.ok r2 BC.b .nil pass0 (by rfl) BC.g (pa_cons pe_str pa_nil)))) pss_nil)
      (pss_cons (ps_if (pt_val (pe_callB (cr_any rfl) (by rfl) W.any (by decide +kernel) (pa_cons (pe_lc2 (te := tOp rInStr (tVar 0) (tOp rAddS (tVar 5) (tVar 6))) (own := [("_", 3), ("state", 5), ("moves", 4), ("sent", 6)]) (vs1 := [3, 6]) (g := g3 K 3 5 4) (g1 := gTup K 2 (gCons (gName 3) (gCons (gName 6) gNil))) (wi1 := iTup K (tVar 4)) rfl scMvo.nd (pi_list (pv 2)) (blkOk_by (own := [("_", 3), ("state", 5), ("moves", 4), ("sent", 6)]) (N := nMvo) (sc := defScope sMvo) (by decide +kernel)) (by decide)
          (fun _ _ _ _ _ => pg_tup rfl (pgs_cons (pg_name (i := 3) scMvo.nd rfl (Or.inl rfl)) (pgs_cons (pg_name (i := 5) scMvo.nd rfl (Or.inl rfl)) (pgs_cons (pg_name (i := 4) scMvo.nd rfl (Or.inl rfl)) pgs_nil)))) (fun _ _ _ _ _ => pts_nil)
          (fun _ _ _ _ _ => pi_tup (pv 4)) (fun _ _ _ _ _ => pg_tup rfl (pgs_cons (pg_name (i := 3) scMvo.nd rfl (Or.inl rfl)) (pgs_cons (pg_name (i := 6) scMvo.nd rfl (Or.inl rfl)) pgs_nil))) (fun _ _ _ _ _ => pts_nil)
          (fun _ _ _ _ _ => pe_cmpR op_in_str (pv 0) (pe_op op_add_str (pv 5) (pv 6)) (by with_unfolding_all rfl))) pa_nil)))
        (pss_one (ps_raise rfl (takes_of rfl rfl rfl rfl) (pmk_oex BC.ox BC.init BC.ty BC.ok r2 BC.b .nil pass0 (by rfl) BC.g (pa_cons pe_str pa_nil)))) pss_nil)
      (pss_one (ps_ret (pe_dc (own := [("_", 3), ("state", 5), ("moves", 4)]) (g := g3 K 3 5 4) rfl scMvo.nd (pi_list (pv 2)) (blkOk_by (own := [("_", 3), ("state", 5), ("moves", 4)]) (N := nMvo) (sc := defScope sMvo) (by decide +kernel))
          (fun _ _ _ _ _ => pg_tup rfl (pgs_cons (pg_name (i := 3) scMvo.nd rfl (Or.inl rfl)) (pgs_cons (pg_name (i := 5) scMvo.nd rfl (Or.inl rfl)) (pgs_cons (pg_name (i := 4) scMvo.nd rfl (Or.inl rfl)) pgs_nil)))) (fun _ _ _ _ _ => pts_nil) (fun _ _ _ _ _ => pv 5) (fun _ _ _ _ _ => pv 4))))))), ?_⟩
    have O := good_pok g
    refine q_call (ea_cons (ev_var rfl) (ea_cons (ev_var rfl) ea_nil)) fun H0 e0 => ⟨fl, q, xs, ps, rfl, ex_t e0 hq, hp.mono e0, g, fun p rs ol H1 hpn e1 hrs wk rows => ?_⟩
    replace e1 := e0.trans e1
    have ol45 : ol.length ≤ 45 := by
      have := wk.few wp_ne (wp_8 g)
      have l5 : (Wp fl ps).length ≤ 5 := by
        unfold Wp watches lp
        rw [List.length_cons, List.length_map, List.length_map]
        have := g.many
        omega
      omega
    have sg : ∀ p ∈ ol, Sgs p.1 := wk.sgs O
    have l8 : ∀ p ∈ ol, p.1.length ≤ 8 := wk.len wp_ne (wp_8 g)
    show tSeq _ _ _ [some (.str fl), some (.ref q), some (.ref p), none, none, none, none] H1
    refine q_when (b := (ol.map fun p => noEnd (lp ps) p.1).any id) (et_B (ev_any (K := K) ?_)) (fun hb H2 e2 => ?_) (fun hb H2 e2 => ?_)
    · rw [List.map_map]
      exact el_rows (K := K) (i1 := 3) (i2 := 3) (i3 := 4) (vs := [3, 4]) (fun p => .bl (noEnd (lp ps) p.1)) (ev_var (i := 2) rfl) hrs rows (by omega) (fun _ _ _ => rfl) fun p hp H3 _ b ms h1 h2 => ev_noneIn (K := K) O (sg p hp) (ev_var rfl) h1 h2
    · have np : PutsC (lp ps) := (puts_is wk).mpr fun z => by rw [noEnd_iff.mpr z] at hb; cases hb
      rcases hx with ⟨_, h3⟩ | ⟨h3, _⟩
      · exact raise_one (ea_cons ev_c ea_nil) (h3.mono (e1.trans e2))
      · exact absurd np h3
    have np : NoPuts (lp ps) (ol.map Prod.fst) := noEnd_iff.mp hb
    have nputs : ¬ PutsC (lp ps) := fun z => (puts_is wk).mp z np
    have E2 := e1.trans e2
    have hrs2 := e2 _ _ hrs
    have rows2 := rows.to (TupE.of e2)
    refine q_when (b := (ol.flatMap (fl2 (lp ps) (TL.tl fl))).any id) (et_B (ev_any (K := K) fun H3 e3 Q3 q3 => ?_)) (fun hb2 H3 e3 => ?_) (fun hb2 H3 e3 => ?_)
    · have hrs3 := e3 _ _ hrs2
      have rows3 := rows2.to (TupE.of e3)
      refine ⟨_, rfl, p, rfl, ⟨rs, sq_of hrs3⟩, fun D hD => lc2_it (n := rs.length) (walk_list (K := K) (a := p) (xs := rs)) (σ := [some (.str fl), some (.ref q), some (.ref p), none, none, none, none]) (H1 := H3) (D := D) (fun i H' => Ex H3 H' ∧ H' D = some (.lst (((ol.take i).flatMap (fl2 (lp ps) (TL.tl fl))).map V.bl))) ⟨Ex.new hD, upd_same⟩ (fun _ H' _ h => sq_of (h.1 _ _ hrs3)) (fun i x H' H'' hi h y => ?_) (fun H' h => q3 D H' hD h.1 ?_)⟩
      · obtain ⟨rfl, hxi⟩ := y
        have hi2 : i < ol.length := by rw [← rows3.1]; exact hi
        have hpi := List.getElem?_eq_getElem hi2
        obtain ⟨t, b, ms, rfl, h1, h2, h3⟩ := rows3.2 i x _ hxi hpi
        generalize ol[i] = pi at hpi h1 h3
        have hm := List.mem_of_getElem? hpi
        have eT := h.1
        have step : (ol.take (i + 1)).flatMap (fl2 (lp ps) (TL.tl fl)) = (ol.take i).flatMap (fl2 (lp ps) (TL.tl fl)) ++ fl2 (lp ps) (TL.tl fl) pi := by
          rw [take_snoc hpi, List.flatMap_append]
          simp
        refine ⟨t, _, rfl, st_of (eT _ _ h1), rfl, _, _, rfl, _, _, rfl, _, _, rfl, rfl, rfl, ?_⟩
        refine ⟨_, rfl, b, rfl, ⟨ms, st_of (eT _ _ h2)⟩, in2_it (n1 := ms.length) (walk_tup (K := K) (a := b) (xs := ms)) (H4 := H'') (D := D) (fun j H' => Ex H3 H' ∧ H' D = some (.lst (((ol.take i).flatMap (fl2 (lp ps) (TL.tl fl)) ++ (fl2 (lp ps) (TL.tl fl) pi).take j).map V.bl))) ⟨h.1, by rw [List.take_zero, List.append_nil]; exact h.2⟩ (fun _ H' _ h => st_of (h.1 _ _ h2)) (fun j y Ha Hb hj hq yj => ?_) (fun Ha ha => ?_)⟩
        · obtain ⟨rfl, hyj⟩ := yj
          have j2 : j < 2 := by rw [← h3.1]; exact hj
          obtain ⟨c, hc⟩ : ∃ c, [48, 49][j]? = some c := ⟨_, List.getElem?_eq_getElem j2⟩
          have bc := bit2 hc
          have mv := (h3.2 j y c hyj hc).to (TupE.of hq.1)
          cases hs : sendL (lp ps) pi.1 c with
          | none => exact absurd hs (np _ (List.mem_map.mpr ⟨pi, hm, rfl⟩) c bc)
          | some u =>
            unfold mvOf at mv
            rw [hs] at mv
            obtain ⟨t2, rfl, ht2⟩ := mv
            refine ⟨t2, _, rfl, st_of ht2, rfl, _, _, rfl, _, _, rfl, rfl, rfl, ?_⟩
            have ul := send_len O hs
            have pl := l8 pi hm
            have fb : (fl2 (lp ps) (TL.tl fl) pi)[j]? = some (decide (TL.tl fl <:+: pi.1 ++ u)) := by
              have e4 : flIn (lp ps) (TL.tl fl) pi.1 c = decide (TL.tl fl <:+: pi.1 ++ u) := by
                unfold flIn
                rw [hs]
              rw [← e4]
              match j, j2, hc with
              | 0, _, hc => cases hc; rfl
              | 1, _, hc => cases hc; rfl
            have ev : Ev (tOp rInStr (tVar 0) (tOp rAddS (tVar 5) (tVar 6))) [some (.str fl), some (.ref q), some (.ref p), some (.str (mk (stOf (Wp fl ps) (pi.1 ++ u)))), some (.ref b), some (.str (mk pi.1)), some (.str (mk u))] Hb (.bl (decide (TL.tl fl <:+: pi.1 ++ u))) :=
              ev_is (ev_inS (ev_var rfl) (ev_is (ev_addS (a := mk pi.1) (b := mk u) (ev_var rfl) (ev_var rfl) (by rw [mk_len, mk_len]; omega)) (by rw [mk_app]))) rfl
            refine ev Hb (Ex.refl Hb) _ fun Hc ec => ⟨_, ec _ _ hq.2, ?_, Ex.mut (hq.1.trans ec) hD, ?_⟩
            · rw [List.length_map, List.length_append, List.length_take]
              have : ((ol.take i).flatMap (fl2 (lp ps) (TL.tl fl))).length ≤ 2 * 45 := by
                have : ∀ l : List (L × L), (l.flatMap (fl2 (lp ps) (TL.tl fl))).length = 2 * l.length := fun l => by
                  induction l with
                  | nil => rfl
                  | cons a l ih =>
                    rw [List.flatMap_cons, List.length_append, ih, List.length_cons]
                    show 2 + _ = _
                    omega
                rw [this, List.length_take]
                omega
              exact sz_lt (by omega)
            · rw [upd_same, take_snoc fb, ← List.append_assoc]
              conv => rhs; rw [List.map_append]
              rfl
        · refine ⟨ha.1, ?_⟩
          have e5 : (fl2 (lp ps) (TL.tl fl) pi).take ms.length = fl2 (lp ps) (TL.tl fl) pi := by
            rw [h3.1]
            rfl
          rw [ha.2, step, e5]
      · rw [h.2, rows3.1, List.take_length]
    · have fc : FlagC (lp ps) (TL.tl fl) := (flag_is g wk np).mpr hb2
      rcases hx with ⟨h3, _⟩ | ⟨_, ⟨_, h3⟩ | ⟨h3, _⟩⟩
      · exact absurd h3 nputs
      · exact raise_one (ea_cons ev_c ea_nil) (h3.mono (E2.trans e3))
      · exact absurd fc h3
    have nf : ¬ FlagC (lp ps) (TL.tl fl) := fun z => by rw [(flag_is g wk np).mp z] at hb2; cases hb2
    rcases hx with ⟨h3, _⟩ | ⟨_, ⟨h3, _⟩ | ⟨_, k⟩⟩
    · exact absurd h3 nputs
    · exact absurd h3 nf
    have hrs3 := e3 _ _ hrs2
    have rows3 := rows2.to (TupE.of e3)
    refine s_retR ⟨_, rfl, p, rfl, ⟨rs, sq_of hrs3⟩, fun D hD => dc_it (n := rs.length) (walk_list (K := K) (a := p) (xs := rs)) (σ := [some (.str fl), some (.ref q), some (.ref p), none, none, none, none]) (H1 := H3) (D := D) (fun i H' => Ex H3 H' ∧ ∃ kvs, H' D = some (.dK kvs) ∧ KvAt (lp ps) (Wp fl ps) H' kvs (ol.take i)) ⟨Ex.new hD, [], upd_same, kvat_nil⟩ (fun _ H' _ h => sq_of (h.1 _ _ hrs3)) (fun i x H' H'' hi h y => ?_) (fun H' ⟨h1, kvs, h2, h3⟩ => ?_)⟩
    · obtain ⟨rfl, hxi⟩ := y
      have hi2 : i < ol.length := by rw [← rows3.1]; exact hi
      have hpi := List.getElem?_eq_getElem hi2
      obtain ⟨t, b, ms, rfl, h1, h2, h3⟩ := rows3.2 i x _ hxi hpi
      generalize ol[i] = pi at hpi h1 h3
      obtain ⟨eT, kvs, hD2, hk⟩ := h
      refine ⟨t, _, rfl, st_of (eT _ _ h1), rfl, _, _, rfl, _, _, rfl, _, _, rfl, rfl, rfl, ?_⟩
      refine ⟨_, rfl, _, rfl, kvs, Sum.inr (mk pi.1), rfl, hD2, ?_, Ex.mut eT hD, _, upd_same, ?_⟩
      · have := congrArg List.length hk.keys
        rw [List.length_map, List.length_map, List.length_map, List.length_take] at this
        exact sz_lt (by omega)
      · rw [take_snoc hpi]
        have tz : TupE H'' (upd H'' D (.dK (putK kvs (Sum.inr (mk pi.1)) (.ref b)))) := TupE.dk hD2
        refine kvat_snoc (hk.to tz) (fun z => ?_) ⟨ms, tz _ _ (eT _ _ h2), (h3.to (TupE.of eT)).to tz⟩
        have nd := wk.wlk.nd
        have sp : ol.map Prod.fst = (ol.take i).map Prod.fst ++ (pi.1 :: (ol.drop (i + 1)).map Prod.fst) := by
          conv => lhs; rw [← List.take_append_drop (i + 1) ol, take_snoc hpi]
          rw [List.map_append, List.map_append]
          simp
        rw [sp, List.nodup_append] at nd
        exact nd.2.2 _ z _ List.mem_cons_self rfl
    · rw [rows3.1, List.take_length] at h3
      exact k D kvs ol H' (fresh_back (E2.trans e3) hD) ((E2.trans e3).trans h1) h2 wk np h3
end
end K10
/-! a lambda handed to a def: what its call lets out is told beside the names of the def as they stand at the call -/
namespace LamY
open PySem PySem.Spec PyProof.Rows L2 LamX
abbrev nm : Str := "<lambda>"
/-- the def's own suite, entered at z0 -/
abbrev Suite (X : Cx) (N : List Str) (x : Str) (sc : Scope) (g : Addr) (cd : Value) (z0 : Shared) (G0 : Hp) : Cx := cxOf C8.CX0 X.prog X.w X.K X.mg X.base N x sc g cd X.A X.stack z0 G0 C8.E0
abbrev Deep (X : Cx) (x : Str) (sc : Scope) (g : Addr) (cd : Value) (z0 : Shared) : Around := X.A.deeper (envOfC x sc z0.heap.objs.size g cd)
section
variable {X : Cx} {pins : List (Addr × Obj)} {σ : L2.St} {G0 : Hp} {z0 : Shared} {N : List Str} {x a : Str} {sc scope : Scope} {g f c' : Addr} {cd pm ctv : Value} {params : Arguments} {body : Expr} {k i : Nat} {tb : XK → TE} {p1 p2 : Pos}
abbrev lamObj (X : Cx) (params : Arguments) (body : Expr) (scope : Scope) (pm ctv : Value) (c' : Addr) : Obj := PySem.W.kla_obj nm (X.env.qual ++ nm) params body scope (cloFrom X.env.cells scope.names []) pm c' ctv
/-- the call itself -/
theorem asked {pn : List (Addr × Obj)} {xe : Value → Shared → Prop} {E : XK} {Q : VK} (I : Inv X pins σ G0 z0) (L : LamS X.env.scope scope) (at_ : z0.heap.get? f = some (lamObj X params body scope pm ctv c')) (un0 : G0 f = none) (off : f ∉ frs X.stack)
    (bare : bindArgs (PySem.W.kla_fn nm (X.env.qual ++ nm) params body scope (cloFrom X.env.cells scope.names []) pm (.ref c') ctv) ⟨[], []⟩ = pure []) (room : Room (k + 1) (Deep X x sc g cd z0))
    (reads : ∀ (A : Around) (outer : List Env) (z : Shared) (G : Hp), Room k (A.deeper (lamEnv X scope z.heap.objs.size f c')) → PE (lamCx X A outer z G E scope f c') body (tb E))
    {pz : List (Addr × Obj)} {τ : L2.St} {G : Hp} {z : Shared} (J : Inv ((Suite X N x sc g cd z0 G0).tr pn xe) pz τ G z) (code : G c' = some (CodeO c' (X.env.qual ++ nm))) (told : tb E σ G Q) :
    codeAny (model X.prog X.w) (Deep X x sc g cd z0) (.call (.ref f) ⟨[], []⟩) (CR (L2.CX X.prog X.w) (envOfC x sc z0.heap.objs.size g cd :: X.stack) X.prog X.w G z Q E) z := by
  have here := J.base.keep f _ at_ un0 off (fun h => nomatch (show f ∈ ([] : List Addr) from h))
  obtain ⟨⟨_, _, _, q1, q2, q3⟩, _⟩ := J.hok c' _ code
  apply PySem.W.kla_callFunE room.depth here rfl L.co L.gen rfl ⟨c', _, _, _, rfl, q1, q2, q3⟩
  rw [bare]
  apply wpAny_pure
  refine wpAny_newFunctionEnv (fun y hy => (L.own y hy).2) (fun _ h => by cases h) (fun h1 ns sb => ?_) L.kind
  refine ⟨J.nolimit.fresh _ sb, ?_⟩
  have stays : ∀ (b : Addr) (o : Obj), z.heap.get? b = some o → h1.get? b = some o := fun b o e => sb.extBut b o (Nat.ne_of_lt (Heap.lt_size e)) (Heap.get?_push_of_some _ e)
  have begun := lam_start2 (E := E) (f := f) (c' := c') (tk := z.toks + ([] : List (Str × Value)).length) I L J.env0 room.hd J.base ns stays
  have run := (reads _ _ z G (room.deeper _)).run [] _ _ G Q begun told
  apply PySem.W.kla_codeExpr
  refine wpAny_mono run (fun v z1 back => ?_) (fun _ _ h => h)
  obtain ⟨u, G1, J1, ru, q⟩ := back
  exact ⟨u, G1, J1.os, J1.bare, J1.base, J1.hok, ru, q⟩
/-- a(), in that suite: what goes out is told of the names as they stand -/
theorem pe_ask {pn : List (Addr × Obj)} {xe : Value → Shared → Prop} {W : WX} (I : Inv X pins σ G0 z0) (L : LamS X.env.scope scope) (at_ : z0.heap.get? f = some (lamObj X params body scope pm ctv c')) (un0 : G0 f = none) (off : f ∉ frs X.stack)
    (bare : bindArgs (PySem.W.kla_fn nm (X.env.qual ++ nm) params body scope (cloFrom X.env.cells scope.names []) pm (.ref c') ctv) ⟨[], []⟩ = pure []) (tk : Takes ((Suite X N x sc g cd z0 G0).tr pn xe) W) (room : Room (k + 1) (Deep X x sc g cd z0))
    (reads : ∀ (E : XK) (A : Around) (outer : List Env) (z : Shared) (G : Hp), Room k (A.deeper (lamEnv X scope z.heap.objs.size f c')) → PE (lamCx X A outer z G E scope f c') body (tb E))
    (hN : N[i]? = some a) (vis : Vis sc a) (nd : (a == ("__debug__" : Str)) = false) (nc : (a == ("__classdict__" : Str)) = false) :
    PE ((Suite X N x sc g cd z0 G0).tr pn xe) (.Call (.Name a p1) [] [] p2)
      (fun τ G Q => τ[i]? = some (some (.ref f)) ∧ G c' = some (CodeO c' (X.env.qual ++ nm)) ∧ ∃ E : XK, (∀ cls d G', E cls d G' → W cls d τ G') ∧ tb E σ G Q) := by
  constructor
  rintro pz z τ G Q J ⟨here, code, E, up, told⟩
  have name := (pe_var (X := (Suite X N x sc g cd z0 G0).tr pn xe) (pos := p1) (i := i) hN vis nd nc).run pz z τ G (fun v G1 => v = .ref f ∧ G1 = G) J ⟨.ref f, here, rfl, rfl⟩
  apply wpAny_Call_Name_kw
  refine thn name fun u z1 back => ?_
  obtain ⟨v, G1, J1, ru, ev, eG⟩ := back
  subst ev
  subst eG
  cases (show u = Value.ref f from ru)
  have still := J1.base.keep f _ at_ un0 off (fun h => nomatch (show f ∈ ([] : List Addr) from h))
  apply PySem.W.callWith_F0 ⟨_, _, _, _, still⟩
  refine wpAny_call (codeAny_mono (asked I L at_ un0 off bare room (reads E) J1 code told) fun r z2 out => ?_)
  match r, out with
  | .error e, out => exact tk e z2 (XE.of_call J1 (fun cls d G' h => up cls d G' h) out)
  | .ok (.ret u), out => exact J1.after out
  | .ok .next, out => exact out.elim
  | .ok .brk, out => exact out.elim
  | .ok .cont, out => exact out.elim
/-- what a def makes of a lambda that it calls by the name a -/
def GivesS (X : Cx) (N : List Str) (x : Str) (sc : Scope) (g : Addr) (cd : Value) (suite : List Stmt) (a q : Str) (TT : (XK → Hp → VK → Prop) → Hp → VK → Prop) : Prop :=
  ∀ (f c' : Addr) (z0 : Shared) (G0 : Hp) (Q : VK) (tl : XK → Hp → VK → Prop),
    (∀ (W : WX) (pn : List (Addr × Obj)) (xe : Value → Shared → Prop) (p1 p2 : Pos), Takes ((Suite X N x sc g cd z0 G0).tr pn xe) W →
      PE ((Suite X N x sc g cd z0 G0).tr pn xe) (.Call (.Name a p1) [] [] p2) (fun τ G Q => τ[0]? = some (some (.ref f)) ∧ G c' = some (CodeO c' q) ∧ ∃ E : XK, (∀ cls d G', E cls d G' → W cls d τ G') ∧ tl E G Q)) →
    G0 c' = some (CodeO c' q) → TT tl G0 Q → ∃ t, PSs (Suite X N x sc g cd z0 G0).nox suite t ∧ t { nx := fun _ G' => Q .non G', rt := Q } (L2.start N [.ref f]) G0
/-- x(lambda: e) -/
theorem pe_lamcallS {T : List (Addr × Str)} {TT : (XK → Hp → VK → Prop) → Hp → VK → Prop} {c Pt : Addr} {pg : Arguments} {suite : List Stmt} {dV kV doc pmG ctG oc : Value} {an od : Option Addr} {osl : Array (Option Value)} {p lpos pos : Pos} (glob : Gl X x) (isG : X.mg x = some (.ref g)) (keep : PySem.W.keepIn X.K (.ref g) = true)
    (lk : X.K.lookup g = some ⟨oc, od, .func (PySem.W.fnOf x x pg suite sc dV kV doc pmG an cd ctG), osl⟩) (codeG : PySem.W.codeIn X.K cd x = true) (binds : L2.Binds X.K (PySem.W.fnOf x x pg suite sc dV kV doc pmG an cd ctG) [a] []) (S : FnScope N [a] sc) (hN : N[0]? = some a) (vis : Vis sc a)
    (gives : GivesS X N x sc g cd suite a (X.env.qual ++ nm) TT) (TB : TabB X.base X.mg c Pt) (hcode : X.env.code = .ref c) (hT : (Pt, X.env.qual ++ nm) ∈ T) (hu : ∀ p ∈ T, p.1 = Pt → p.2 = X.env.qual ++ nm) (room : Room (k + 2) X.A) (L : LamS X.env.scope scope) (hdef : defaultsOf params X.env = ([], []))
    (bare : ∀ (q : Str) (cl : List (Str × Addr)) (pm cv ctv : Value), bindArgs (PySem.W.kla_fn nm q params body scope cl pm cv ctv) ⟨[], []⟩ = pure [])
    (reads : ∀ (A : Around) (outer : List Env) (z : Shared) (G : Hp) (E : XK) (f c' : Addr), Room k (A.deeper (lamEnv X scope z.heap.objs.size f c')) → PE (lamCx X A outer z G E scope f c') body (tb E))
    (xd : (x == ("__debug__" : Str)) = false := by decide) (nd : (a == ("__debug__" : Str)) = false := by decide) (nc : (a == ("__classdict__" : Str)) = false := by decide) : PE X (.Call (.Name x p) [.Lambda params body scope lpos] [] pos) (tLam T TT tb) := by
  constructor
  rintro pins s τ H Q I ⟨tabs, told⟩
  apply wpAny_Call_Name_kw
  refine ld_glob I glob isG ?_ xd
  refine PySem.W.callWith_K (h₀ := X.base) I.ok.mod.kin keep ?_ (by rfl) (by rfl)
  refine Calls.spliced_cons (x := eval (.Lambda params body scope lpos) X.env) (rest := backTo pos (starEach [] X.env)) (lam_make2 I TB hcode hT hu tabs hdef (L.has I.ok) fun f c' pm' ctv H1 s1 I1 more tabs1 at_ un0 off code => ?_)
  refine Calls.spliced_nil ⟨I1.kIn, ?_⟩
  have ran : codeAny (model X.prog X.w) X.A (.call (.ref g) ⟨[.ref f], []⟩) (CR C8.CX0 X.stack X.prog X.w H1 s1 Q C8.E0) s1 := by
    apply run_ofS (N := N) (ps := [a]) (us := [.ref f]) (vs := [.ref f]) lk codeG S room I1.env0 (binds s1 [.ref f] I1.kIn rfl) (.cons rfl .nil) rfl
    intro room'
    obtain ⟨t, reads', told'⟩ := gives f c' s1 H1 Q (fun E G Q' => tb E τ G Q') (fun W pn xe p1 p2 tk => pe_ask (i := 0) I1 L at_ un0 off (bare _ _ _ _ _) tk room' (fun E A outer z G r => reads A outer z G E f c' r) hN vis nd nc) code (told H1 more tabs1)
    exact ⟨t, reads'.nox, told'⟩
  refine wpAny_call (codeAny_mono ran fun r s2 out => ?_)
  match r, out with
  | .error e, out => exact (show False from out).elim
  | .ok (.ret u), out => exact I1.after out
  | .ok .next, out => exact out.elim
  | .ok .brk, out => exact out.elim
  | .ok .cont, out => exact out.elim
end
end LamY
namespace L2
open PySem PySem.Spec PyProof.Rows
/-! ### defs that are called where no repr runs (the law, and what it calls): FnG -/
def Qt (A : Around) : Prop := A.guards = some []
theorem Qt.deeper {A : Around} (h : Qt A) (env : Env) : Qt (A.deeper env) := h
structure FnG (P : Program) (w : World) (K : PySem.W.Frag) (mg : Str → Option Value) (base : Heap) (k : Nat) (f : Addr) (fd : FuncData) (ps : List Str) (sp : Sp) : Prop where
  len : ∀ vs H Q E, sp vs H Q E → vs.length = ps.length
  run : ∀ (A : Around) (outer : List Env) (s : Shared) (H : Hp) (args : Args) (us : List Value) (vs : List V) (Q : VK) (E : XK), Qt A → Room k A → Env0 P w K mg base A outer s H → BindsTo s fd args (ps.zip us) → Vals vs us → sp vs H Q E →
    codeAny (model P w) A (.call (.ref f) args) (CR CX0 outer P w H s Q E) s
/-- a def whose body is walked where no repr runs -/
theorem fnG_of {P : Program} {w : World} {K : PySem.W.Frag} {mg : Str → Option Value} {base : Heap} {k : Nat} {f : Addr} {fd : FuncData} {x qual : Str} {st : Stmt} {N ps : List Str} {sp : Sp} (F : Fun K x qual st f fd) (S : FnScope N ps (defScope st))
    (len : ∀ vs H Q E, sp vs H Q E → vs.length = ps.length)
    (hbody : ∀ (cdv : Value) (A : Around) (outer : List Env) (s : Shared) (H : Hp) (vs : List V) (Q : VK) (E : XK), Qt A → Room k (A.deeper (envOfC qual (defScope st) s.heap.objs.size f cdv)) → sp vs H Q E →
      ∃ t, PSs (cxOf CX0 P w K mg base N qual (defScope st) f cdv A outer s H E).nox (defBody st) t ∧ t { nx := fun _ H' => Q .non H', rt := Q } (start N vs) H) : FnG P w K mg base (k + 1) f fd ps sp := by
  obtain ⟨oc, od, kV, doc, pm, an, cdv, ct, osl, rfl, lk, hcd⟩ := F.ex
  refine ⟨len, fun A outer s H args us vs Q E gd room e0 bound rel hsp => ?_⟩
  obtain ⟨t, ht, hq⟩ := hbody cdv A outer s H vs Q E gd (room.deeper _) hsp
  have many := len _ _ _ _ hsp
  have inK : K.In s.heap := e0.mod.kin.keeps fun b o e => (e0.bs b o e).1
  have free : s.heap.NoLimit := e0.mod.nolimit.keeps fun b o e => (e0.bs b o e).1
  refine codeAny_call_function room.depth (inK _ _ lk) rfl S.co S.gen rfl (PySem.W.codeRec_of inK hcd) (bound _ _ _ _ ?_)
  have kinds : ∀ y ∈ ps.zip us, (defScope st).names.lookup y.1 = some .local ∨ ((defScope st).names.lookup y.1 = some .cell ∧ ((cellsFrom (s.heap.objs.size + 1) (defScope st).names []).lookup y.1).isSome = true) := by
    rintro ⟨n, v⟩ hy
    exact (S.par n (List.of_mem_zip hy).1).imp id fun q => ⟨q, PySem.W.cellsFrom_some _ _ _ (.inl q)⟩
  refine wpAny_newFunctionEnv_cells S.kind kinds fun env he s1 x => ?_
  cases he
  refine ⟨free.keeps x.toInCall.keep, codeAny_func ?_⟩
  refine wpAny_mono (ht.nox.run [] s1 (start N vs) H _ (inv_start S room.hd e0 many rel x) hq) (fun fl s' hs => ?_) fun e s' hs => hs
  cases fl with
  | ret u =>
    obtain ⟨v, σ', H', J, rv, q⟩ := hs
    exact ⟨v, H', J.os, J.bare, J.base, J.hok, rv, q⟩
  | next =>
    obtain ⟨σ', H', J, q⟩ := hs
    exact ⟨V.non, H', J.os, J.bare, J.base, J.hok, rfl, q⟩
  | brk => exact (hs.choose_spec.choose_spec.2).elim
  | cont => exact (hs.choose_spec.choose_spec.2).elim
section
variable {X : Cx} {k : Nat} {f : Addr} {fd : FuncData} {ps : List Str} {sp : Sp} {x : Str} {p pos : Pos} {e : Expr} {es : List Expr} {t : TA}
theorem pe_callG (F : FnG X.prog X.w X.K X.mg X.base k f fd ps sp) (gd : Qt X.A) (hr : Room k X.A) (hg : Gl X x) (hm : X.mg x = some (.ref f)) (hk : PySem.W.keepIn X.K (.ref f) = true) (hb : Binds X.K fd ps [])
    (ha : PA X (e :: es) t) (hdb : (x == ("__debug__" : Str)) = false := by decide) (he : starEach (e :: es) X.env = (false, eval e X.env) :: starEach es X.env := by rfl) (hpl : (backTo pos (starEach es X.env)).any (·.1) = false := by rfl) :
    PE X (.Call (.Name x p) (e :: es) [] pos) (tCall sp [] E0 t) := by
  refine ⟨fun pins s σ H Q I h => ?_⟩
  refine wpAny_Call_Name_kw (ld_glob I hg hm ?_ hdb)
  refine PySem.W.callWith_K (h₀ := X.base) I.ok.mod.kin hk (thn (ha.run pos pins s σ H _ I h) fun us s1 ⟨vs, H1, I1, r, q⟩ => ⟨I1.kIn, ?_⟩) he hpl
  have q0 : sp vs H1 Q E0 := by simpa using q
  have many : us.length = ps.length := r.length.symm.trans (F.len _ _ _ _ q0)
  have bd : BindsTo s1 fd ⟨us, []⟩ (ps.zip us) := by simpa using hb s1 us I1.kIn (by simpa using many)
  show wpAny _ _ (call (.ref f) us) _ _ _
  refine wpAny_call (codeAny_mono (F.run X.A X.stack s1 H1 ⟨us, []⟩ us vs Q E0 gd hr I1.env0 bd r q0) fun res s' hq => ?_)
  cases res with
  | error er => exact (show False from hq).elim
  | ok fl =>
    cases fl with
    | next => exact False.elim hq
    | brk => exact False.elim hq
    | cont => exact False.elim hq
    | ret u => exact I1.after hq
end

/-! ### repr of data -/
mutual
inductive Ds (K : PySem.W.Frag) (H : Hp) : V → PyData → Prop
  | non : Ds K H .non .none
  | bl (b : Bool) : Ds K H (.bl b) (.bool b)
  | int (i : Int) : Ds K H (.int i) (.int i)
  | str (x : Str) : Ds K H (.str x) (.str x)
  | lst {a : Addr} {xs : List V} {ds : List PyData} : SqL K H a xs → a ≠ sysModules → DsAll K H xs ds → Ds K H (.ref a) (.list ds)
  | tup {a : Addr} {xs : List V} {ds : List PyData} : SqT K H a xs → DsAll K H xs ds → Ds K H (.ref a) (.tuple ds)
  | one {a : Addr} {x : Str} {i : Int} : H a = some (.dK [(.inr x, .int i)]) → Ds K H (.ref a) (.dict [(.str x, .int i)])
  | emp {a : Addr} : H a = some (.dK []) → Ds K H (.ref a) (.dict [])
inductive DsAll (K : PySem.W.Frag) (H : Hp) : List V → List PyData → Prop
  | nil : DsAll K H [] []
  | cons {v : V} {vs : List V} {d : PyData} {ds : List PyData} : Ds K H v d → DsAll K H vs ds → DsAll K H (v :: vs) (d :: ds)
end
section
variable {X : Cx} {pins : List (Addr × Obj)} {σ : St} {H : Hp} {s : Shared}
theorem pairs_one {P : Program} {w : World} {x : Str} {i : Int} {es : List DictEntry} {vs : List (Key × Value)} (hp : Pairs (mixKind P w) es vs) (kv : KV [((Sum.inr x : Key), V.int i)] vs) (h : Heap) :
    ReadsAll h (es.map (·.key)) [.str x] [] ∧ ReadsAll h (es.map (·.val)) [.int i] [] := by
  cases kv with
  | cons k1 k2 =>
    cases k2
    rename_i q
    obtain ⟨k, u⟩ := q
    obtain ⟨e1, e2⟩ := k1
    simp only at e1 e2
    subst e1
    obtain ⟨t, rfl⟩ := e2
    cases hp with
    | cons i1 i2 i3 =>
      rename_i e es'
      cases i3
      rcases keyIs_shape (show keyIs (Sum.inr x) e.key = true from i1) with ⟨j, t', e3, e4⟩ | ⟨y, t', e3, e4⟩
      · cases e3
      · cases e3
        rw [List.map_cons, List.map_nil, e4, List.map_cons, List.map_nil, i2]
        exact ⟨ReadsAll.cons (as := []) (bs := []) (Reads.str x t') ReadsAll.nil, ReadsAll.cons (as := []) (bs := []) (Reads.int i t) ReadsAll.nil⟩
theorem pairs_nil {P : Program} {w : World} {es : List DictEntry} (hp : Pairs (mixKind P w) es ([] : List (Key × Value))) (h : Heap) : ReadsAll h (es.map (·.key)) [] [] ∧ ReadsAll h (es.map (·.val)) [] [] := by
  cases hp
  exact ⟨ReadsAll.nil, ReadsAll.nil⟩
mutual
theorem Ds.reads (I : Inv X pins σ H s) : ∀ (d : PyData) (v : V) (u : Value), Ds X.K H v d → RelV v u → ∃ as, Reads s.heap u d as ∧ sysModules ∉ as
  | .none, _, _, h, r => by
    cases h
    cases r
    exact ⟨_, Reads.none, by simp⟩
  | .bool b, _, _, h, r => by
    cases h
    cases r
    exact ⟨_, Reads.bool b, by simp⟩
  | .int i, _, _, h, r => by
    cases h
    obtain ⟨t, rfl⟩ := r
    exact ⟨_, Reads.int i t, by simp⟩
  | .str x, _, _, h, r => by
    cases h
    obtain ⟨t, rfl⟩ := r
    exact ⟨_, Reads.str x t, by simp⟩
  | .list ds, _, _, h, r => by
    cases h with
    | lst hs hne ha =>
      cases r
      obtain ⟨its, rv, ⟨o, n, ho, hc, _, hd⟩, _⟩ := I.list hs
      obtain ⟨as, hr, hq⟩ := Ds.readsAll I ds _ its ha rv
      exact ⟨_, Reads.list ho hc hd hr, by simp only [List.mem_cons, not_or]; exact ⟨Ne.symm hne, hq⟩⟩
  | .tuple ds, _, _, h, r => by
    cases h with
    | tup hs ha =>
      cases r
      obtain ⟨its, rv, ⟨o, ho, hc, n, hd⟩, _⟩ := I.tuple hs
      obtain ⟨as, hr, hq⟩ := Ds.readsAll I ds _ its ha rv
      exact ⟨_, Reads.tuple ho hc hd hr, hq⟩
  | .dict _, _, _, h, r => by
    cases h with
    | @one a x i h =>
      cases r
      obtain ⟨_, ns, vs, kv, o, es, ep, ho, hx, hd, _, hp, _⟩ := (show ObjOk X.prog X.w H s.heap a (.dK [(.inr x, .int i)]) from I.hok a _ h)
      obtain ⟨r1, r2⟩ := pairs_one hp kv s.heap
      exact ⟨_, Reads.dict ho hx.1 hd r1 r2, by
        simp only [List.append_nil, List.mem_cons, List.not_mem_nil, or_false]
        exact fun z => absurd (beq_iff_eq.mpr z.symm) (by rw [ns]; decide)⟩
    | @emp a h =>
      cases r
      obtain ⟨_, ns, vs, kv, o, es, ep, ho, hx, hd, _, hp, _⟩ := (show ObjOk X.prog X.w H s.heap a (.dK []) from I.hok a _ h)
      cases kv
      obtain ⟨r1, r2⟩ := pairs_nil hp s.heap
      exact ⟨_, Reads.dict ho hx.1 hd r1 r2, by
        simp only [List.append_nil, List.mem_cons, List.not_mem_nil, or_false]
        exact fun z => absurd (beq_iff_eq.mpr z.symm) (by rw [ns]; decide)⟩
theorem Ds.readsAll (I : Inv X pins σ H s) : ∀ (ds : List PyData) (vs : List V) (us : List Value), DsAll X.K H vs ds → Vals vs us → ∃ as, ReadsAll s.heap us ds as ∧ sysModules ∉ as
  | [], _, _, h, r => by
    cases h
    cases r
    exact ⟨_, ReadsAll.nil, by simp⟩
  | d :: ds, _, _, h, r => by
    cases h with
    | cons h1 h2 =>
      cases r with
      | cons r1 r2 =>
        obtain ⟨as, q1, n1⟩ := Ds.reads I d _ _ h1 r1
        obtain ⟨bs, q2, n2⟩ := Ds.readsAll I ds _ _ h2 r2
        exact ⟨_, ReadsAll.cons q1 q2, by rw [List.mem_append]; exact fun z => z.elim n1 n2⟩
end
end
/-- repr(x), x such data -/
def rRepr (K : PySem.W.Frag) : List V → Hp → VK → Prop := fun xs H Q => ∃ (x : V) (d : PyData), xs = [x] ∧ Ds K H x d ∧ d.showable = true ∧ d.depth ≤ 60 ∧ d.shown.length ≤ sizeLine ∧ Q (.str d.shown) H
theorem call_reprD {X : Cx} (gd : Qt X.A) (hu : X.A.units + 64 < cLine) : CallR X (.builtin "repr") (rRepr X.K) := by
  intro pins s σ H xs us Q I r h
  obtain ⟨x, d, rfl, hd, sh, dp, sz, q⟩ := h
  obtain ⟨u, rfl, ru⟩ := vals1 r
  obtain ⟨as, rd, ns⟩ := Ds.reads I d x u hd ru
  cases rd with
  | none => exact PySem.P.repr_of_none ⟨.str _, H, I.tok _, ⟨_, rfl⟩, q⟩
  | bool b => exact PySem.P.repr_of_bool ⟨.str _, H, I.tok _, ⟨_, rfl⟩, q⟩
  | int i t => exact PySem.P.repr_of_int (of_decide_eq_true sh) ⟨.str _, H, I.tok _, ⟨_, rfl⟩, q⟩
  | str z t => exact PySem.P.repr_of_str ⟨.str _, H, I.tok _, ⟨_, rfl⟩, q⟩ sz
  | list h1 h2 h3 h4 => exact repr_of_reads' (Reads.list h1 h2 h3 h4) sh (fun _ => ns) gd (by omega) (fun _ _ z => z) (fun h' u tk k => ⟨.str _, H, I.kept k, ⟨_, rfl⟩, q⟩) sz
  | tuple h1 h2 h3 h4 => exact repr_of_reads' (Reads.tuple h1 h2 h3 h4) sh (fun _ => ns) gd (by omega) (fun _ _ z => z) (fun h' u tk k => ⟨.str _, H, I.kept k, ⟨_, rfl⟩, q⟩) sz
  | dict h1 h2 h3 h4 h5 => exact repr_of_reads' (Reads.dict h1 h2 h3 h4 h5) sh (fun _ => ns) gd (by omega) (fun _ _ z => z) (fun h' u tk k => ⟨.str _, H, I.kept k, ⟨_, rfl⟩, q⟩) sz
/-- a list display, whose place is known not to be the table of modules -/
def tLstS (t : TA) : TE := fun σ H Q => t σ H fun xs H1 => xs.length ≤ sizeLine ∧ ∀ l, H1 l = none → l ≠ sysModules → Q (.ref l) (upd H1 l (.lst xs))
theorem pe_lstS {X : Cx} {es : List Expr} {t : TA} {pos : Pos} (h : PA X es t) : PE X (.List es pos) (tLstS t) := by
  refine ⟨fun pins s σ H Q I hq => ?_⟩
  refine wpAny_List_spliced (thn (h.run pos pins s σ H _ I hq) fun us s1 ⟨xs, H1, I1, r, z, q⟩ => ⟨by rw [← r.length]; exact z, ?_⟩)
  have far : s1.heap.objs.size ≠ sysModules := by
    have z1 : (3 : Nat) < X.base.objs.size := I1.mod.glob.lt
    have z2 := I1.ok.bsz
    have z3 := I1.sz
    show s1.heap.objs.size ≠ 1
    omega
  exact ⟨.ref s1.heap.objs.size, _, I1.laid (t' := s1.toks) (o := .lst xs) (fun b u e => Heap.get?_push_of_some _ e) (Nat.le_refl _) ⟨z, us, 0, r, Heap.get?_push_size _ rfl⟩, rfl, q _ (I1.hok.fresh (Nat.le_refl _)) far⟩
end L2
namespace L2
open PySem PySem.Spec PyProof.Rows
/-! ### the law's end, for a law that is walked where no repr runs -/
/-- the law's end from a heap in which nothing but the script may be tracked -/
theorem lawG_core {P : Program} {w : World} {K : PySem.W.Frag} {mg mb : Str → Option Value} {k : Nat} {fa a : Addr} {fd : FuncData} {x : Str} {sp : Sp} {s : Shared} {vs : List Value} {ns : List Int} {H : Hp}
    (KX : K.In s.heap) (hns : s.heap.Ns mainGlobals mg) (hb : s.heap.Ns builtinsNs mb) (hbb : ∀ x : Str, x ≠ "__name__" → mb x = bootBuiltins x) (hlim : s.heap.NoLimit) (hg : s.gens = #[])
    (ha : s.heap.get? a = some { cls := .type "list", data := .seq vs.toArray }) (hr : Room k callerA)
    (F : ∀ base : Heap, K.In base → base.Ns mainGlobals mg → FnG P w K mg base k fa fd [x] sp) (hbind : ∀ (s : Shared) (u : Value), BindsTo s fd ⟨[u], []⟩ [(x, u)])
    (hO : Only H) (hok : HOk P w H s.heap) (hA : ∀ b, H b ≠ none → b = a) (hK : H a ≠ none → K.lookup a = none)
    (hsp : sp [.ref a] H (fun v _ => v = .bl true) E0) :
    codeAny (model P w) callerA (.call (.ref fa) ⟨[.ref a], []⟩) (fun r s' => r = .ok (.ret (.bool true)) ∧ OldK s.heap s'.heap ∧ s'.os = s.os ∧ AllBare s'.gens) s := by
  have apart : ∀ {b : Addr} {o : Obj}, s.heap.get? b = some o → (b = a → False) → (hidT s.heap H).get? b = some o := fun {b o} e n => hidT_get e (Classical.byContradiction fun z => n (hA b z))
  have space : ∀ {b : Addr} {m : Str → Option Value}, s.heap.Ns b m → (hidT s.heap H).Ns b m := fun {b m} ⟨o, es, ep, e, d, r⟩ => ⟨o, es, ep, apart e fun z => by
    subst z
    rw [ha] at e
    cases e
    exact Data.noConfusion (show Data.seq vs.toArray _ = Data.dict es ep from d), d, r⟩
  have inb : K.In (hidT s.heap H) := fun b o e => hidT_get (KX b o e) (Classical.byContradiction fun z => by
    obtain rfl := hA b z
    rw [hK z] at e
    cases e)
  have world : Mod K mg (hidT s.heap H) := ⟨inb, space hns, ⟨mb, space hb, hbb⟩, hlim.elim fun mc z => ⟨mc, space z.1, z.2⟩⟩
  have start0 : Env0 P w K mg (hidT s.heap H) callerA [] s H := ⟨rfl, world, fun _ _ z => of_hidT z, Nat.le_of_eq (hidT_size _ _), trivial, fun b hb => absurd hb List.not_mem_nil, hok, .of_eq hg⟩
  refine codeAny_mono ((F _ inb (space hns)).run callerA [] s H ⟨[.ref a], []⟩ [.ref a] [.ref a] _ E0 rfl hr start0 (hbind s (.ref a)) (.cons rfl .nil) hsp) fun r s' h => ?_
  cases r with
  | error e => exact (show False from h).elim
  | ok fl =>
    cases fl with
    | next => exact False.elim h
    | brk => exact False.elim h
    | cont => exact False.elim h
    | ret u =>
      obtain ⟨v, H', os, bare, un, hok', r', q⟩ := h
      obtain rfl : v = .bl true := q
      obtain rfl : u = Value.bool true := r'
      refine ⟨rfl, OldK.of_keep fun b o e => ?_, os, bare⟩
      rcases hO b with z | ⟨ob, xs, z⟩
      · exact un.keep b o e z List.not_mem_nil List.not_mem_nil
      · have e1 := (hok b _ z).1
        have e2 := (hok' b _ (un.frzs b ob _ z)).1
        rw [e] at e1
        cases e1
        exact e2
theorem lawG_call {P : Program} {w : World} {K : PySem.W.Frag} {mg mb : Str → Option Value} {k : Nat} {fa a : Addr} {fd : FuncData} {x : Str} {sp : Sp} {s : Shared} {vs : List Value} {ns : List Int}
    (KX : K.In s.heap) (hns : s.heap.Ns mainGlobals mg) (hb : s.heap.Ns builtinsNs mb) (hbb : ∀ x : Str, x ≠ "__name__" → mb x = bootBuiltins x) (hlim : s.heap.NoLimit) (hg : s.gens = #[])
    (ha : s.heap.get? a = some { cls := .type "list", data := .seq vs.toArray }) (hi : IntsAre vs ns) (hl : ns.length ≤ sizeLine) (hr : Room k callerA)
    (F : ∀ base : Heap, K.In base → base.Ns mainGlobals mg → FnG P w K mg base k fa fd [x] sp) (hbind : ∀ (s : Shared) (u : Value), BindsTo s fd ⟨[u], []⟩ [(x, u)])
    (hsp : ∀ H : Hp, Only H → SqL K H a (ns.map V.int) → sp [.ref a] H (fun v _ => v = .bl true) E0) :
    codeAny (model P w) callerA (.call (.ref fa) ⟨[.ref a], []⟩) (fun r s' => r = .ok (.ret (.bool true)) ∧ OldK s.heap s'.heap ∧ s'.os = s.os ∧ AllBare s'.gens) s := by
  have rv := vals_ints hi
  cases hk : K.lookup a with
  | some o =>
    have e := KX a o hk
    rw [ha] at e
    cases e
    have hS : SqL K (fun _ => none) a (ns.map V.int) := .inr ⟨_, vs.toArray, _, hk, rfl, rfl, rfl, by rw [List.size_toArray, hi.length]; exact hl, by simpa using rv⟩
    exact lawG_core (ns := ns) KX hns hb hbb hlim hg ha hr F hbind (fun _ => .inl rfl) (fun b u z => by cases (show (none : Option HO) = some u from z)) (fun b z => absurd rfl z) (fun z => absurd rfl z) (hsp _ (fun _ => .inl rfl) hS)
  | none =>
    let ob : Obj := { cls := .type "list", data := .seq vs.toArray }
    let H : Hp := upd (fun _ => none) a (.frz ob (.lst (ns.map V.int)))
    have hO : Only H := fun b => by
      by_cases z : b = a
      · exact .inr ⟨_, _, by rw [z]; exact upd_same⟩
      · exact .inl (upd_ne z)
    have only : ∀ b, H b ≠ none → b = a := fun b z => Classical.byContradiction fun n => z (upd_ne n)
    refine lawG_core (ns := ns) (H := H) KX hns hb hbb hlim hg ha hr F hbind hO (fun b u z => ?_) only (fun _ => hk) (hsp H hO (.inl (.inr ⟨ob, upd_same⟩)))
    obtain rfl := only b (by rw [z]; simp)
    cases upd_same.symm.trans z
    exact ⟨ha, by rw [List.length_map]; exact hl, vs, _, rv, ha⟩
theorem walkG_of {l : PySem.W.OpenLaw} {n k : Nat} {q : Program} {loose : List Str} {XP : (Str → Option Value) → Heap → Prop} {YP : World → Heap → Prop} {d : DefRec} {K : Params → PySem.W.Frag} {sp : World → Sp} {x : Str}
    (hn : l.most = some n) (hn2 : n ≤ sizeLine) (hdf : d.params.defaults = []) (hr : Room k callerA)
    (hY : ∀ (w : World) (h : Heap), YP w h → (K w.params).In h)
    (F : ∀ (w : World) (mg : Str → Option Value) (fa : Addr) (h : Heap), (K w.params).In h → h.Ns mainGlobals mg → mg d.name = some (.ref fa) →
      ∃ fd : FuncData, (∀ (s : Shared) (u : Value), BindsTo s fd ⟨[u], []⟩ [(x, u)]) ∧ ∀ base : Heap, (K w.params).In base → base.Ns mainGlobals mg → FnG l.prog w (K w.params) mg base k fa fd [x] (sp w))
    (hsp : ∀ (w : World) (H : Hp) (a : Addr) (ns : List Int), ns.length ≤ n → Only H → SqL (K w.params) H a (ns.map V.int) → sp w [.ref a] H (fun v _ => v = .bl true) E0) :
    PySem.W.WalkO q loose XP YP l.row.toRowW d [] (fun f vs => PySem.call f vs) := by
  refine Att.attach_call hn hdf fun w s₀ s₁ mg mb fa o pm cd doc a vs ns G Y ho hd hcd hmg hobj hints hlen hg => ?_
  obtain ⟨fd, hb, hF⟩ := F w mg fa _ (hY w _ Y) G.T.g hmg
  exact lawG_call (hY w _ Y) G.T.g G.T.b G.T.builtins G.T.nolimit hg hobj hints (Nat.le_trans hlen hn2) hr hF hb fun H hO hS => hsp w H a ns hlen hO hS
end L2
/-! the law's end, for a law that is walked where no repr runs and whose defs make code objects -/
namespace L2
open PySem PySem.Spec PyProof.Rows LamX
theorem lawT_core {P : Program} {w : World} {K : PySem.W.Frag} {mg mb : Str → Option Value} {k : Nat} {fa a : Addr} {cs : List (Addr × Addr)} {fd : FuncData} {x : Str} {sp : Sp} {s : Shared} {vs : List Value} {H : Hp}
    (KX : K.In s.heap) (hns : s.heap.Ns mainGlobals mg) (hb : s.heap.Ns builtinsNs mb) (hbb : ∀ x : Str, x ≠ "__name__" → mb x = bootBuiltins x) (hlim : s.heap.NoLimit) (hg : s.gens = #[])
    (hT : ∀ p ∈ cs, s.heap.get? p.2 = some { cls := .none, data := .fields #[] }) (nT : ∀ p ∈ cs, K.lookup p.2 = none) (C : ∀ p ∈ cs, PySem.W.CodeHd s.heap p.1 p.2)
    (hbm : ∃ (bm : Addr) (ob : Obj), mg "__builtins__" = some (.ref bm) ∧ bm ≠ builtinsNs ∧ s.heap.get? bm = some ob ∧ ob.cls = .type "module" ∧ ob.dict = some builtinsNs ∧ ob.data = .plain)
    (ha : s.heap.get? a = some { cls := .type "list", data := .seq vs.toArray }) (hr : Room k callerA)
    (F : ∀ base : Heap, K.In base → base.Ns mainGlobals mg → (∀ p ∈ cs, TabB base mg p.1 p.2) → FnG P w K mg base k fa fd [x] sp) (hbind : ∀ (s : Shared) (u : Value), BindsTo s fd ⟨[u], []⟩ [(x, u)])
    (hH : ∀ p ∈ cs, H p.2 = some (.tbl #[])) (hO : ∀ b, (∃ p ∈ cs, p.2 = b) ∨ H b = none ∨ ∃ o xs, H b = some (.frz o (.lst xs))) (hok : HOk P w H s.heap) (hA : ∀ b, H b ≠ none → b = a ∨ ∃ p ∈ cs, p.2 = b) (hK : H a ≠ none → K.lookup a = none)
    (hsp : sp [.ref a] H (fun v _ => v = .bl true) E0) :
    codeAny (model P w) callerA (.call (.ref fa) ⟨[.ref a], []⟩) (fun r s' => r = .ok (.ret (.bool true)) ∧ OldK s.heap s'.heap ∧ s'.os = s.os ∧ AllBare s'.gens) s := by
  -- what H tells of is the script or an empty table
  have told : ∀ {b : Addr} {o : Obj}, s.heap.get? b = some o → H b ≠ none → o.data = .seq vs.toArray ∨ o.data = .fields #[] := fun {b o} e n => by
    rcases hA b n with z | ⟨p, hp, z⟩
    · rw [z, ha] at e
      cases e
      exact .inl rfl
    · rw [← z, hT p hp] at e
      cases e
      exact .inr rfl
  have apart : ∀ {b : Addr} {o : Obj}, s.heap.get? b = some o → o.data ≠ .seq vs.toArray → o.data ≠ .fields #[] → (hidT s.heap H).get? b = some o := fun {b o} e n1 n2 => hidT_get e (Classical.byContradiction fun z => (told e z).elim n1 n2)
  have space : ∀ {b : Addr} {m : Str → Option Value}, s.heap.Ns b m → (hidT s.heap H).Ns b m := fun {b m} ⟨o, es, ep, e, d, r⟩ => ⟨o, es, ep, apart e (by rw [d]; exact fun z => (nomatch z)) (by rw [d]; exact fun z => (nomatch z)), d, r⟩
  have inb : K.In (hidT s.heap H) := fun b o e => hidT_get (KX b o e) (Classical.byContradiction fun n => by
    rcases hA b n with z | ⟨p, hp, z⟩
    · subst z
      rw [hK n] at e
      cases e
    · rw [← z, nT p hp] at e
      cases e)
  have world : Mod K mg (hidT s.heap H) := ⟨inb, space hns, ⟨mb, space hb, hbb⟩, hlim.elim fun mc z => ⟨mc, space z.1, z.2⟩⟩
  have start0 : Env0 P w K mg (hidT s.heap H) callerA [] s H := ⟨rfl, world, fun _ _ z => of_hidT z, Nat.le_of_eq (hidT_size _ _), trivial, fun b hb => absurd hb List.not_mem_nil, hok, .of_eq hg⟩
  have noDict : ∀ {b : Addr} {m : Str → Option Value} {o : Obj}, s.heap.Ns b m → s.heap.get? b = some o → (∀ es ep, o.data ≠ .dict es ep) → False := fun {b m o} ⟨o', es, ep, e, d, _⟩ e' n => by
    rw [e] at e'
    cases e'
    exact n es ep d
  have tabs : ∀ p ∈ cs, TabB (hidT s.heap H) mg p.1 p.2 := fun p hp => by
    refine ⟨?_, ?_, fun z => noDict hns (by rw [z]; exact hT p hp) fun es ep z => by cases z⟩
    · obtain ⟨o, us, file, tf, flags, tg, inF, text, tt, e1, r1, r2, r3, rest⟩ := C p hp
      refine ⟨o, us, file, tf, flags, tg, inF, text, tt, apart e1 (by rw [r2]; exact fun z => (nomatch z)) (fun z => ?_), r1, r2, r3, rest⟩
      rw [r2] at z
      cases z
      simp at r3
    · obtain ⟨bm, ob, b1, b2, b3, b4, b5, b6⟩ := hbm
      refine ⟨bm, ob, b1, b2, fun z => noDict hns (by rw [← z]; exact b3) fun es ep => by rw [b6]; exact fun z => (nomatch z), fun z => ?_, apart b3 (by rw [b6]; exact fun z => (nomatch z)) (by rw [b6]; exact fun z => (nomatch z)), b4, b5, b6⟩
      rw [z, hT p hp] at b3
      cases b3
      cases b6
  refine codeAny_mono ((F _ inb (space hns) tabs).run callerA [] s H ⟨[.ref a], []⟩ [.ref a] [.ref a] _ E0 rfl hr start0 (hbind s (.ref a)) (.cons rfl .nil) hsp) fun r s' h => ?_
  cases r with
  | error e => exact (show False from h).elim
  | ok fl =>
    cases fl with
    | next => exact False.elim h
    | brk => exact False.elim h
    | cont => exact False.elim h
    | ret u =>
      obtain ⟨v, H', os, bare, un, hok', r', q⟩ := h
      obtain rfl : v = .bl true := q
      obtain rfl : u = Value.bool true := r'
      have grown : ∀ p ∈ cs, ∃ more : Array Value, s'.heap.get? p.2 = some { cls := .none, data := .fields more } := fun p hp => (un.tbls p.2 #[] (hH p hp)).elim fun more z => ⟨_, hok' p.2 _ z⟩
      have same : ∀ b o, (¬ ∃ p ∈ cs, p.2 = b) → s.heap.get? b = some o → s'.heap.get? b = some o := fun b o nb e => by
        rcases hO b with z | z | ⟨ob, xs, z⟩
        · exact absurd z nb
        · exact un.keep b o e z List.not_mem_nil List.not_mem_nil
        · have e1 := (hok b _ z).1
          have e2 := (hok' b _ (un.frzs b ob _ z)).1
          rw [e] at e1
          cases e1
          exact e2
      refine ⟨rfl, ⟨fun b o e => ?_, fun b o e => ?_⟩, os, bare⟩
      · by_cases hc : ∃ p ∈ cs, p.2 = b
        · obtain ⟨p, hp, rfl⟩ := hc
          obtain ⟨more, hm⟩ := grown p hp
          have e' := hT p hp
          rw [e] at e'
          cases e'
          exact .inr (.inl ⟨((C p hp).tab (hT p hp)).isCodeTable, rfl, #[], more, rfl, by rw [Array.empty_append]; exact hm⟩)
        · exact .inl (same b o hc e)
      · by_cases hc : ∃ p ∈ cs, p.2 = b
        · obtain ⟨p, hp, rfl⟩ := hc
          obtain ⟨more, hm⟩ := grown p hp
          exact ⟨_, hm⟩
        · exact ⟨o, same b o hc e⟩
/-- what is known of the law's promise at the head's heap -/
def LawAtG (l : PySem.W.OpenLaw) (w : World) (K : PySem.W.Frag) (k n : Nat) (x : Str) (mg : Str → Option Value) (fa : Addr) (h : Heap) : Prop :=
  ∃ (fd : FuncData) (cs : List (Addr × Addr)) (sp : Sp), (∀ p ∈ cs, h.get? p.2 = some { cls := .none, data := .fields #[] }) ∧ (∀ p ∈ cs, K.lookup p.2 = none) ∧ (∀ p ∈ cs, PySem.W.CodeHd h p.1 p.2) ∧ (∀ (s : Shared) (u : Value), BindsTo s fd ⟨[u], []⟩ [(x, u)]) ∧
    (∀ (H : Hp) (a : Addr) (ns : List Int), ns.length ≤ n → (∀ p ∈ cs, H p.2 = some (.tbl #[])) → SqL K H a (ns.map V.int) → sp [.ref a] H (fun v _ => v = .bl true) E0) ∧
    ∀ base : Heap, K.In base → base.Ns mainGlobals mg → (∀ p ∈ cs, TabB base mg p.1 p.2) → FnG l.prog w K mg base k fa fd [x] sp
theorem lawT_call {P : Program} {w : World} {K : PySem.W.Frag} {mg mb : Str → Option Value} {k : Nat} {fa a : Addr} {cs : List (Addr × Addr)} {fd : FuncData} {x : Str} {sp : Sp} {s : Shared} {vs : List Value} {ns : List Int}
    (KX : K.In s.heap) (hns : s.heap.Ns mainGlobals mg) (hb : s.heap.Ns builtinsNs mb) (hbb : ∀ x : Str, x ≠ "__name__" → mb x = bootBuiltins x) (hlim : s.heap.NoLimit) (hg : s.gens = #[])
    (hT : ∀ p ∈ cs, s.heap.get? p.2 = some { cls := .none, data := .fields #[] }) (nT : ∀ p ∈ cs, K.lookup p.2 = none) (C : ∀ p ∈ cs, PySem.W.CodeHd s.heap p.1 p.2)
    (hbm : ∃ (bm : Addr) (ob : Obj), mg "__builtins__" = some (.ref bm) ∧ bm ≠ builtinsNs ∧ s.heap.get? bm = some ob ∧ ob.cls = .type "module" ∧ ob.dict = some builtinsNs ∧ ob.data = .plain)
    (ha : s.heap.get? a = some { cls := .type "list", data := .seq vs.toArray }) (hi : IntsAre vs ns) (hl : ns.length ≤ sizeLine) (hr : Room k callerA)
    (F : ∀ base : Heap, K.In base → base.Ns mainGlobals mg → (∀ p ∈ cs, TabB base mg p.1 p.2) → FnG P w K mg base k fa fd [x] sp) (hbind : ∀ (s : Shared) (u : Value), BindsTo s fd ⟨[u], []⟩ [(x, u)])
    (hsp : ∀ H : Hp, (∀ p ∈ cs, H p.2 = some (.tbl #[])) → SqL K H a (ns.map V.int) → sp [.ref a] H (fun v _ => v = .bl true) E0) :
    codeAny (model P w) callerA (.call (.ref fa) ⟨[.ref a], []⟩) (fun r s' => r = .ok (.ret (.bool true)) ∧ OldK s.heap s'.heap ∧ s'.os = s.os ∧ AllBare s'.gens) s := by
  classical
  have rv := vals_ints hi
  have nA : ¬ ∃ p ∈ cs, p.2 = a := fun ⟨p, hp, z⟩ => by
    have e := hT p hp
    rw [z, ha] at e
    cases e
  -- the tables alone
  let H0 : Hp := fun b => if ∃ p ∈ cs, p.2 = b then some (.tbl #[]) else none
  have yes : ∀ {b : Addr}, (∃ p ∈ cs, p.2 = b) → H0 b = some (.tbl #[]) := fun z => if_pos z
  have no : ∀ {b : Addr}, (¬ ∃ p ∈ cs, p.2 = b) → H0 b = none := fun z => if_neg z
  have ok0 : HOk P w H0 s.heap := fun b u z => by
    by_cases hc : ∃ p ∈ cs, p.2 = b
    · rw [yes hc] at z
      cases z
      obtain ⟨p, hp, rfl⟩ := hc
      exact hT p hp
    · rw [no hc] at z
      cases z
  cases hk : K.lookup a with
  | some o =>
    have e := KX a o hk
    rw [ha] at e
    cases e
    have hS : SqL K H0 a (ns.map V.int) := .inr ⟨_, vs.toArray, _, hk, rfl, rfl, rfl, by rw [List.size_toArray, hi.length]; exact hl, by simpa using rv⟩
    exact lawT_core KX hns hb hbb hlim hg hT nT C hbm ha hr F hbind (fun p hp => yes ⟨p, hp, rfl⟩) (fun b => (Classical.em _).imp id fun z => .inl (no z)) ok0 (fun b n => .inr (Classical.byContradiction fun z => n (no z))) (fun z => absurd (no nA) z) (hsp _ (fun p hp => yes ⟨p, hp, rfl⟩) hS)
  | none =>
    let ob : Obj := { cls := .type "list", data := .seq vs.toArray }
    let H : Hp := upd H0 a (.frz ob (.lst (ns.map V.int)))
    have off : ∀ {b : Addr}, b ≠ a → H b = H0 b := fun n => upd_ne n
    have hH : ∀ p ∈ cs, H p.2 = some (.tbl #[]) := fun p hp => (off fun z => nA ⟨p, hp, z⟩).trans (yes ⟨p, hp, rfl⟩)
    refine lawT_core (H := H) KX hns hb hbb hlim hg hT nT C hbm ha hr F hbind hH (fun b => ?_) (fun b u z => ?_) (fun b n => ?_) (fun _ => hk) (hsp H hH (.inl (.inr ⟨ob, upd_same⟩)))
    · by_cases z : b = a
      · exact .inr (.inr ⟨_, _, by rw [z]; exact upd_same⟩)
      · rw [off z]
        exact (Classical.em _).imp id fun z => .inl (no z)
    · by_cases q : b = a
      · rw [q] at z ⊢
        cases upd_same.symm.trans z
        exact ⟨ha, by rw [List.length_map]; exact hl, vs, _, rv, ha⟩
      · rw [off q] at z
        have z' := ok0 b u z
        by_cases hc : ∃ p ∈ cs, p.2 = b
        · rw [yes hc] at z
          cases z
          exact z'
        · rw [no hc] at z
          cases z
    · by_cases q : b = a
      · exact .inl q
      · rw [off q] at n
        exact .inr (Classical.byContradiction fun z => n (no z))
/-- the end, for a law whose defs xs make code objects -/
theorem walkT_of {l : PySem.W.OpenLaw} {n k : Nat} {q : Program} {loose : List Str} {XP : (Str → Option Value) → Heap → Prop} {YP : World → Heap → Prop} {d : DefRec} {K : Params → PySem.W.Frag} {x : Str} {xs : List Str}
    (hn : l.most = some n) (hn2 : n ≤ sizeLine) (hdf : d.params.defaults = []) (hr : Room k callerA) (hrec : ∀ y ∈ xs, ((recsOf q).any fun e => e.name == y) = true) (hY : ∀ (w : World) (h : Heap), YP w h → (K w.params).In h)
    (F : ∀ (w : World) (mg : Str → Option Value) (fa : Addr) (h : Heap), YP w h → (K w.params).In h → h.Ns mainGlobals mg → mg d.name = some (.ref fa) → (∀ y, y ∈ xs → ∀ c P, PySem.W.tabIn (K w.params) y = some (c, P) → PySem.W.CodeHd h c P ∧ h.get? P = some { cls := .none, data := .fields #[] }) → LawAtG l w (K w.params) k n x mg fa h) :
    PySem.W.WalkO q loose XP YP l.row.toRowW d [] (fun f vs => PySem.call f vs) := by
  refine Att.attach_callB hn hdf fun w s₀ s₁ mg mb fa o pm cd doc a vs ns G Y ho hd hcd hmg hobj hints hlen hbits hg => ?_
  have KX := hY w _ Y
  obtain ⟨fd, cs, sp, hT, nT, C, hb, hsp, hF⟩ := F w mg fa _ Y KX G.T.g hmg fun y hy c P ht => by
    cases z : (recsOf q).find? (fun e => e.name == y) with
    | none =>
      obtain ⟨dL, hm, hn1⟩ := List.any_eq_true.mp (hrec y hy)
      exact absurd hn1 (List.find?_eq_none.mp z dL hm)
    | some dL => exact PySem.W.tab_of G.T KX z ht
  exact lawT_call KX G.T.g G.T.b G.T.builtins G.T.nolimit hg hT nT C G.T.bmain hobj hints (Nat.le_trans hlen hn2) hr hF hb fun H hH hS => hsp H a ns hlen hH hS
end L2
namespace K10
open PySem L2 Evl Gr StX EnT ClX ClK RdX SrtT StS Fr
section
variable {X : Cx}
/-- a text times a number -/
theorem op_mulS : OpR X (binaryOp .Mult) (fun x y H Q => ∃ a i, x = .str a ∧ y = .int i ∧ MulOk a i ∧ Q (.str (Txt.mul a i)) H) := by
  intro pins s σ H x y v u Q I rx ry h
  obtain ⟨a, i, rfl, rfl, ok, q⟩ := h
  obtain ⟨t, rfl⟩ := rx
  obtain ⟨t2, rfl⟩ := ry
  exact SB.mul ok fun t' k => ⟨.str _, H, I.tok _, ⟨_, rfl⟩, q⟩
end
section
variable {p l : Addr} {cells : List Int} {σ : L2.St} {H : Hp} {ta tb te : TE}
theorem ev_mulS {a : Str} {i : Int} (ha : Ev ta σ H (.str a)) (hb : Ev tb σ H (.int i)) (ok : MulOk a i) : Ev (tOp (fun x y H Q => ∃ a i, x = .str a ∧ y = .int i ∧ MulOk a i ∧ Q (.str (Txt.mul a i)) H) ta tb) σ H (.str (Txt.mul a i)) := ev_op ha hb fun H1 _ Q q => ⟨a, i, rfl, rfl, ok, q H1 (Ex.refl H1)⟩
theorem w_pickV {i : Nat} {tr : TA} {xs : List V} (hi : σ[i]? = some (some (.ref p))) (hr : ∀ H1, EvA tr σ H1 xs) (h0 : 0 < xs.length) (h1 : xs.length ≤ 1000) (h63 : cells.length ≤ 63) :
    EvW p l cells 1 (tCall spPick [] E0 (tCons (tVar i) (tCons (tLst tr) tNil))) σ H (fun v => v ∈ xs) := fun m H1 kp hP hm Q q =>
  ⟨_, hi, hr H1 H1 (Ex.refl H1) _ fun H2 e2 => ⟨sz_of (n := xs.length) (by omega), fun a ha => by
    have e3 := e2.trans (Ex.new (o := .lst xs) ha)
    have hap : a ≠ p := by
      obtain ⟨k, r, hp, _⟩ := hP
      intro z
      rw [z, e2 _ _ hp] at ha
      cases ha
    refine ⟨p, l, a, cells, m, xs, rfl, hP.mono e3 (Nat.le_refl m), by omega, h63, upd_same, hap, h0, by omega, fun j x H3 hx hP3 k3 => ?_⟩
    exact q _ H3 (List.mem_of_getElem? hx) hP3 ((Keep.of_ex e3).trans k3)⟩⟩
end
/-- for .. in range(what a draw leads to) -/
theorem q_forW2 {p l : Addr} {cells : List Int} {σ : L2.St} {H : Hp} {te : TE} {n m j : Nat} {tu tz : TS} {D : Ends} (hw : ∀ Q : VK, (∀ (d : Nat) H1, d < n → PenAt H1 p l cells m → Keep p H H1 → Q (.int (d : Int)) H1) → te σ H Q)
    (k : ∀ (d : Nat) H1, d < n → PenAt H1 p l cells m → Keep p H H1 → tSeq (tFor (iRng1 (tCons (tC (.int (d : Int))) tNil)) (gName j) tu) tz D σ H1) : tSeq (tFor (iRng1 (tCons te tNil)) (gName j) tu) tz D σ H := hw _ fun d H1 hd hP k1 => k d H1 hd hP k1
theorem rv_notN {H : Hp} {x : V} : RV (fun x y H Q => y = V.non ∧ Q (.bl (!decide (x = V.non))) H) x .non H (.bl (!decide (x = V.non))) := fun H1 _ _ q => ⟨rfl, q H1 (Ex.refl H1)⟩
end K10
namespace L2
open PySem PySem.Spec PyProof.Rows Evl
mutual
theorem Ds.up {K : PySem.W.Frag} {H H' : Hp} (e : Ex H H') : ∀ (d : PyData) {v : V}, Ds K H v d → Ds K H' v d
  | .none, _, .non => .non
  | .bool _, _, .bl b => .bl b
  | .int _, _, .int i => .int i
  | .str _, _, .str x => .str x
  | .list ds, _, .lst h n a => .lst (ex_l e h) n (Ds.ups e ds a)
  | .tuple ds, _, .tup h a => .tup (ex_t e h) (Ds.ups e ds a)
  | .dict _, _, .one h => .one (e _ _ h)
  | .dict _, _, .emp h => .emp (e _ _ h)
theorem Ds.ups {K : PySem.W.Frag} {H H' : Hp} (e : Ex H H') : ∀ (ds : List PyData) {vs : List V}, DsAll K H vs ds → DsAll K H' vs ds
  | [], _, .nil => .nil
  | d :: ds, _, .cons h a => .cons (Ds.up e d h) (Ds.ups e ds a)
end
end L2
namespace L2
open PySem PySem.Spec PyProof.Rows
/-- a def as it stands behind the top, its code object known -/
structure FunC (K : PySem.W.Frag) (x qual : Str) (st : Stmt) (f : Addr) (fd : FuncData) (c : Addr) : Prop where
  ex : ∃ (oc : Value) (od : Option Addr) (kV doc pm : Value) (an : Option Addr) (ct : Value) (osl : Array (Option Value)),
    fd = PySem.W.fnOf x qual (defArgs st) (defBody st) (defScope st) .none kV doc pm an (.ref c) ct ∧ K.lookup f = some ⟨oc, od, .func fd, osl⟩ ∧ PySem.W.codeIn K (.ref c) qual = true
  kp : PySem.W.keepIn K (.ref f) = true
section
variable {P : Program} {w : World} {K : PySem.W.Frag} {mg : Str → Option Value} {base : Heap}
theorem FunC.fn {x qual : Str} {st : Stmt} {f c : Addr} {fd : FuncData} (F : FunC K x qual st f fd c) : Fun K x qual st f fd := by
  obtain ⟨oc, od, kV, doc, pm, an, ct, osl, h⟩ := F.ex
  exact ⟨⟨oc, od, kV, doc, pm, an, .ref c, ct, osl, h⟩, F.kp⟩
/-- such a def, walked where no repr runs -/
theorem FunC.okG {x qual : Str} {st : Stmt} {f c : Addr} {fd : FuncData} {N ps : List Str} {k : Nat} {sp : Sp} (F : FunC K x qual st f fd c) (S : FnScope N ps (defScope st)) (len : ∀ vs H Q E, sp vs H Q E → vs.length = ps.length)
    (hbody : ∀ (A : Around) (outer : List Env) (s : Shared) (H : Hp) (vs : List V) (Q : VK) (E : XK), Qt A → Room k (A.deeper (envOfC qual (defScope st) s.heap.objs.size f (.ref c))) → sp vs H Q E →
      ∃ t, PSs (cxOf CX0 P w K mg base N qual (defScope st) f (.ref c) A outer s H E).nox (defBody st) t ∧ t { nx := fun _ H' => Q .non H', rt := Q } (start N vs) H) : FnG P w K mg base (k + 1) f fd ps sp := by
  obtain ⟨oc, od, kV, doc, pm, an, ct, osl, rfl, lk, hcd⟩ := F.ex
  refine ⟨len, fun A outer s H args us vs Q E gd room e0 bound rel hsp => ?_⟩
  obtain ⟨t, ht, hq⟩ := hbody A outer s H vs Q E gd (room.deeper _) hsp
  have many := len _ _ _ _ hsp
  have inK : K.In s.heap := e0.mod.kin.keeps fun b o e => (e0.bs b o e).1
  have free : s.heap.NoLimit := e0.mod.nolimit.keeps fun b o e => (e0.bs b o e).1
  refine codeAny_call_function room.depth (inK _ _ lk) rfl S.co S.gen rfl (PySem.W.codeRec_of inK hcd) (bound _ _ _ _ ?_)
  have kinds : ∀ y ∈ ps.zip us, (defScope st).names.lookup y.1 = some .local ∨ ((defScope st).names.lookup y.1 = some .cell ∧ ((cellsFrom (s.heap.objs.size + 1) (defScope st).names []).lookup y.1).isSome = true) := by
    rintro ⟨n, v⟩ hy
    exact (S.par n (List.of_mem_zip hy).1).imp id fun q => ⟨q, PySem.W.cellsFrom_some _ _ _ (.inl q)⟩
  refine wpAny_newFunctionEnv_cells S.kind kinds fun env he s1 x => ?_
  cases he
  refine ⟨free.keeps x.toInCall.keep, codeAny_func ?_⟩
  refine wpAny_mono (ht.nox.run [] s1 (start N vs) H _ (inv_start S room.hd e0 many rel x) hq) (fun fl s' hs => ?_) fun e s' hs => hs
  cases fl with
  | ret u =>
    obtain ⟨v, σ', H', J, rv, q⟩ := hs
    exact ⟨v, H', J.os, J.bare, J.base, J.hok, rv, q⟩
  | next =>
    obtain ⟨σ', H', J, q⟩ := hs
    exact ⟨V.non, H', J.os, J.bare, J.base, J.hok, rfl, q⟩
  | brk => exact (hs.choose_spec.choose_spec.2).elim
  | cont => exact (hs.choose_spec.choose_spec.2).elim
end
end L2
namespace K10
open PySem L2 Evl Gr ClX OwX OpX StX LamX LamY EXC ClK RdX StS EqT EnT SrtT Fr
/-- what stays: all but the pen and the tables -/
def Still (p : Addr) (H H' : Hp) : Prop := ∀ b o, H b = some o → b ≠ p → (∀ ps, o ≠ .tbl ps) → H' b = some o
section
variable {p l a : Addr} {H H' H2 : Hp} {cells : List Int} {m n : Nat} {T : List (Addr × Str)}
theorem still_keep (k : Keep p H H') : Still p H H' := fun b o h hb _ => k b o h hb
theorem still_ext (e : ExtN H H') : Still p H H' := fun b o h _ hn => e b o h hn
theorem still_ex (e : Ex H H') : Still p H H' := fun b o h _ _ => e b o h
theorem Still.trans (h : Still p H H') (h' : Still p H' H2) : Still p H H2 := fun b o hb n1 n2 => h' b o (h b o hb n1 n2) n1 n2
theorem Still.refl : Still p H H := fun _ _ h _ _ => h
theorem still_lst {xs : List V} (k : Still p H H') (h : H a = some (.lst xs)) (n : a ≠ p) : H' a = some (.lst xs) := k _ _ h n fun _ z => by cases z
theorem still_tup {xs : List V} (hP : PenAt H p l cells m) (k : Still p H H') (h : H a = some (.tup xs)) : H' a = some (.tup xs) := by
  obtain ⟨_, _, hp, _⟩ := hP
  exact k _ _ h (fun z => by rw [z, hp] at h; cases h) fun _ z => by cases z
theorem pen_there (hP : PenAt H p l cells m) : H p ≠ none := fun z => by
  obtain ⟨_, _, hp, _⟩ := hP
  rw [hp] at z
  cases z
theorem pen_lst (hP : PenAt H p l cells m) : ∃ xs, H p = some (.lst xs) := by
  obtain ⟨_, _, hp, _⟩ := hP
  exact ⟨_, hp⟩
/-- the pen stays where its list and its cells do -/
theorem pen_still (hP : PenAt H p l cells m) (k : Still p H H') (same : H' p = H p) : PenAt H' p l cells m := by
  obtain ⟨c, r, h1, h2, h3⟩ := hP
  refine ⟨c, r, same.trans h1, k _ _ h2 (fun z => ?_) (fun ps z => by cases z), h3⟩
  rw [z, h1] at h2
  have e := HO.lst.inj (Option.some.inj h2)
  cases cells with
  | nil => cases e
  | cons x xs => cases e
theorem pen_ext (hP : PenAt H p l cells m) (e : ExtN H H') : PenAt H' p l cells m := by
  obtain ⟨xs, hp⟩ := pen_lst hP
  exact pen_still hP (still_ext e) ((e _ _ hp fun ps z => by cases z).trans hp.symm)
theorem tabs_keep (h : Tabs T H) (hP : PenAt H p l cells m) (k : Keep p H H') : Tabs T H' := fun q hq => by
  obtain ⟨_, _, hp, _⟩ := hP
  obtain ⟨ps, h1, h2, h3⟩ := h q hq
  refine ⟨ps, k _ _ h1 (fun z => by rw [z, hp] at h1; cases h1), h2, fun pos cv hc => ?_⟩
  obtain ⟨c, e1, e2⟩ := h3 pos cv hc
  exact ⟨c, e1, k _ _ e2 (fun z => by rw [z, hp] at e2; unfold CodeO at e2; cases e2)⟩
theorem PlanAt.still {v : V} {f : Str} {ps : List Pr} (hP : PenAt H p l cells m) (kp : Still p H H') (h : PlanAt H v f ps) : PlanAt H' v f ps := by
  obtain ⟨t, b, xs, h1, h2, h3, h4⟩ := h
  obtain ⟨c, r, hp, _⟩ := hP
  refine ⟨t, b, xs, h1, kp _ _ h2 (fun z => ?_) (fun ps z => by cases z), kp _ _ h3 (fun z => ?_) (fun ps z => by cases z), h4.to fun t q e => kp _ _ e (fun z => ?_) fun ps z => by cases z⟩
  · rw [z, hp] at h2
    cases h2
  · rw [z, hp] at h3
    have e := HO.lst.inj (Option.some.inj h3)
    subst e
    obtain ⟨t, q, e, _⟩ := h4.at (k := 1) (x := V.int c) rfl
    cases e
  · rw [z, hp] at e
    cases e
end
/-- what repr shows -/
structure Shown (K : PySem.W.Frag) (H : Hp) (v : V) (d : PyData) : Prop where
  ds : Ds K H v d
  sh : d.showable = true
  dp : d.depth ≤ 60
  sz : d.shown.length ≤ sizeLine
theorem Shown.mono {K : PySem.W.Frag} {H H' : Hp} {v : V} {d : PyData} (e : Ex H H') (h : Shown K H v d) : Shown K H' v d := ⟨Ds.up e d h.ds, h.sh, h.dp, h.sz⟩
theorem RuleAt.still {K : PySem.W.Frag} {C p l o : Addr} {cells : List Int} {m : Nat} {H H' : Hp} {f : Str} {ps : List Pr} (hP : PenAt H p l cells m) (k : Still p H H') (h : RuleAt K C H o f ps) : RuleAt K C H' o f ps := by
  obtain ⟨dx, q, vs, h1, h2, h3, h4⟩ := h
  obtain ⟨_, _, hp, _⟩ := hP
  have up : ∀ {a : Addr} {u : HO}, H a = some u → (∀ xs, u ≠ .lst xs) → (∀ ps, u ≠ .tbl ps) → H' a = some u := fun e n t => k _ _ e (fun z => by
    rw [z, hp] at e
    exact n _ (Option.some.inj e).symm) t
  refine ⟨dx, q, vs, up h1 (fun _ z => by cases z) (fun _ z => by cases z), ?_, h3.to fun t p e => up e (fun _ z => by cases z) (fun _ z => by cases z), h4⟩
  rcases h2 with (h | ⟨w, h⟩) | h
  · exact .inl (.inl (up h (fun _ z => by cases z) (fun _ z => by cases z)))
  · exact .inl (.inr ⟨w, up h (fun _ z => by cases z) (fun _ z => by cases z)⟩)
  · exact .inr h
section
variable {K : PySem.W.Frag} {σ : L2.St} {H : Hp} {ta tb te tl : TE}
theorem ev_xcF {a C d : Addr} {fs : List (Str × V)} {v : V} {f : Str} (h : Ev te σ H (.ref a)) (ha : H a = some (ExC (.ref C) (some d) a)) (hd : H d = some (.xd fs)) (xc : XcC K C) (own : PySem.W.findIn K (.ref C) f = some none) (l : fs.lookup f = some v) : Ev (tXcF K f te) σ H v := fun H1 e Q q =>
  h H1 e _ fun H2 e2 => ⟨a, C, d, fs, v, rfl, (e.trans e2) _ _ ha, (e.trans e2) _ _ hd, xc, own, l, q H2 e2⟩
theorem rc_xc {a C D d : Addr} {fs : List (Str × V)} {b : Bool} (ha : H a = some (ExC (.ref C) (some d) a)) (hd : H d = some (.xd fs)) (xc : XcC K C) (hk : PySem.W.kitOne K (.ref C) (.ref D) = some b) : RC (rXc K) [.ref a, .ref D] H (.bl b) := fun H1 e Q q =>
  ⟨a, C, some d, _, _, b, rfl, .own D, e _ _ ha, fun dd z => ⟨fs, by cases z; exact e _ _ hd⟩, xc, hk, q H1 (Ex.refl H1)⟩
theorem rc_shown {v : V} {d : PyData} (h : Shown K H v d) : RC (rRepr K) [v] H (.str d.shown) := fun H1 e Q q => ⟨v, d, rfl, Ds.up e d h.ds, h.sh, h.dp, h.sz, q H1 (Ex.refl H1)⟩
end
/-! ### what is heard -/
structure Aft (p l : Addr) (cells : List Int) (m : Nat) (T : List (Addr × Str)) (H H' : Hp) : Prop where
  st : Still p H H'
  pen : PenAt H' p l cells m
  tabs : Tabs T H'
section
variable {K : PySem.W.Frag} {C p l cL cF cC : Addr} {T : List (Addr × Str)} {σ : L2.St} {H H' H2 : Hp} {cells : List Int} {m : Nat} {Q : VK}
theorem aft_of {H1 : Hp} (hP : PenAt H p l cells m) (x : ExtN H H1) (t : Tabs T H1) (e : Ex H1 H') : Aft p l cells m T H H' := ⟨(still_ext x).trans (still_ex e), (pen_ext hP x).mono e (Nat.le_refl m), t.ext e⟩
theorem Aft.ex (h : Aft p l cells m T H H') (e : Ex H' H2) : Aft p l cells m T H H2 := ⟨h.st.trans (still_ex e), h.pen.mono e (Nat.le_refl m), h.tabs.ext e⟩
theorem Aft.trans (h : Aft p l cells m T H H') (h' : Aft p l cells m T H' H2) : Aft p l cells m T H H2 := ⟨h.st.trans h'.st, h'.pen, h'.tabs⟩
theorem Aft.refl (hP : PenAt H p l cells m) (t : Tabs T H) : Aft p l cells m T H H := ⟨Still.refl, hP, t⟩
end
end K10
namespace OwX
open PySem PySem.Spec PyProof.Rows L2 StX OpX
section
variable {X : Cx} {CX : CXT} {k : Nat} {C f : Addr} {fd : FuncData} {ps ks : List Str} {sp : Sp} {o : Expr} {m : Str} {pos apos : Pos} {ta : TE} {tk : TA} {pl : Sem Bool} {kws : List Keyword} {g : List Value → List Value → List Value} {gV : List V → List V → List V} {E : XK}
/-- o.m(k = v, ..), keywords alone, with what goes out of it -/
theorem pe_methKE (he : PE X o ta) (c : Cls X.K C) (hm : Meth X.K C m f) (F : FnOk X.prog X.w X.K X.mg X.base CX k f fd ps sp) (hr : Room k X.A) (hx : Passes CX X E) (hb : KBn X.K fd ps 1 ks g gV) (hkw : PK X kws tk)
    (some_ : (backToKw pos (keywordEach kws X.env)).all (·.1.isSome) = true := by rfl) (names : (backToKw pos (keywordEach kws X.env)).filterMap (·.1) = ks := by rfl)
    (none_ : ((backTo pos (starEach [] X.env)).any (·.1) || (backToKw pos (keywordEach kws X.env)).any (·.1.isNone)) = false := by rfl)
    (form : eval (.Call (.Attribute o m apos) [] kws pos) X.env = (do let ov ← eval o X.env; standAt apos.atName; let (f, first) ← holding [ov] (getMethod ov m pl); callWith pos f first (backTo pos (starEach [] X.env)) (backToKw pos (keywordEach kws X.env))) := by rfl) :
    PE X (.Call (.Attribute o m apos) [] kws pos) (fun σ H Q => ta σ H fun x H1 => ∃ a dx fs, x = .ref a ∧ H1 a = some (.ins C dx fs) ∧ fs.lookup m = none ∧ tk σ H1 fun zs H2 => zs.length = ks.length ∧ sp (gV [.ref a] zs) H2 Q E) := by
  refine ⟨fun pins s σ H Q I h => PySem.W.methodCall_KW (pl := pl) (thn (he.run pins s σ H _ I h) fun u s1 ⟨x, H1, J, rx, a, dx, fs, ex, ea, l, q⟩ => ?_) form⟩
  subst ex
  cases (show u = Value.ref a from rx)
  refine getmeth_ok J ea c hm l (PySem.W.callWith_KW0 (first := [.ref a]) (h₀ := X.base) J.ok.mod.kin hm.kp some_ ?_ none_)
  refine thn (hkw.run pos pins s1 σ H1 _ J q) fun ws s2 ⟨zs, H2, J2, rz, l2, q2⟩ => ⟨J2.kIn, ?_⟩
  rw [names]
  exact run_fnN (us := [.ref a]) (vs := [.ref a]) F hr hb hx J2 (.cons rfl .nil) rz rfl l2 q2
end
end OwX
namespace K10
open PySem L2 Evl Gr ClX OwX OpX StX LamX LamY EXC ClK RdX StS EqT EnT SrtT Fr
/-! lists told as data -/
theorem dps_app {K : PySem.W.Frag} {H : Hp} : ∀ {xs ys : List V} {ds es : List PyData}, DpAll K H xs ds → DpAll K H ys es → DpAll K H (xs ++ ys) (ds ++ es)
  | _, _, _, _, .nil, h => h
  | _, _, _, _, .cons a r, h => .cons a (dps_app r h)
theorem dps_rep {K : PySem.W.Frag} {H : Hp} {xs : List V} {ds : List PyData} (h : DpAll K H xs ds) : ∀ n, DpAll K H (List.replicate n xs).flatten (List.replicate n ds).flatten
  | 0 => .nil
  | n + 1 => by
    rw [List.replicate_succ, List.replicate_succ, List.flatten_cons, List.flatten_cons]
    exact dps_app h (dps_rep h n)
theorem dps_len {K : PySem.W.Frag} {H : Hp} : ∀ {xs : List V} {ds : List PyData}, DpAll K H xs ds → xs.length = ds.length
  | _, _, .nil => rfl
  | _, _, .cons _ r => by rw [List.length_cons, List.length_cons, dps_len r]
/-- gives a new list of these data -/
def EvLD (K : PySem.W.Frag) (te : TE) (σ : L2.St) (H : Hp) (ds : List PyData) : Prop := ∀ H1, Ex H H1 → ∀ Q : VK, (∀ l xs H2, Ex H1 H2 → H2 l = some (.lst xs) → DpAll K H2 xs ds → Q (.ref l) H2) → te σ H1 Q
section
variable {K : PySem.W.Frag} {σ : L2.St} {H : Hp} {te ta tb : TE} {d : PyData} {ds es : List PyData}
theorem eld_one (h : EvD K te σ H d) : EvLD K (tLst (tCons te tNil)) σ H [d] := fun H1 e Q q => h H1 e _ fun v H2 e2 hv => ⟨by show 1 ≤ sizeLine; decide, fun l hl => q l [v] _ (e2.trans (Ex.new hl)) upd_same (.cons (dp_up (Ex.new hl) d hv) .nil)⟩
theorem eld_rep {n : Nat} (h : EvLD K te σ H ds) (hn : n ≤ 100) (hd : ds.length * n ≤ 100000) : EvLD K (tOp rRep te (tC (.int (n : Int)))) σ H (List.replicate n ds).flatten := fun H1 e Q q =>
  h H1 e _ fun l xs H2 e2 hl hx => ⟨l, (n : Int), xs, rfl, rfl, hl, by omega, by omega, by rw [Int.toNat_natCast, dps_len hx]; exact sz_of hd, fun p hp => by
    rw [Int.toNat_natCast]
    exact q p _ _ (e2.trans (Ex.new hp)) upd_same (dps_up (Ex.new hp) _ (dps_rep hx n))⟩
theorem eld_cat (ha : EvLD K ta σ H ds) (hb : EvLD K tb σ H es) (hz : ds.length + es.length ≤ 100000) : EvLD K (tOp rCat ta tb) σ H (ds ++ es) := fun H1 e Q q =>
  ha H1 e _ fun l xs H2 e2 hl hx => hb H2 (e.trans e2) _ fun r ys H3 e3 hr hy => ⟨l, r, xs, ys, rfl, rfl, e3 _ _ hl, hr, by rw [dps_len hx, dps_len hy]; exact sz_of hz, fun p hp =>
    q p _ _ ((e2.trans e3).trans (Ex.new hp)) upd_same (dps_up (Ex.new hp) _ (dps_app (dps_up e3 _ hx) hy))⟩
theorem ed_eld (h : EvLD K te σ H ds) : EvD K te σ H (.list ds) := fun H1 e Q q => h H1 e _ fun l xs H2 e2 hl hx => q _ H2 e2 (.lst (sq_of hl) hx)
theorem ed_two {a b : Str} : EvD K (tTup (tCons (tC (.str a)) (tCons (tC (.str b)) tNil))) σ H (.tuple [.str a, .str b]) := ed_T (etu_disp (ea_cons ev_c (ea_cons ev_c ea_nil)) (by show 2 ≤ 100000; decide)) fun _ _ => .cons (.str _) (.cons (.str _) .nil)
end
theorem low_self {n : Nat} {d : PyData} (h : Low n d) : PyData.eqv d d = true := SeqAt.eqv_refl d h.1
/-! ### the methods of rules -/
structure FOp (P : Program) (w : World) (K : PySem.W.Frag) (mg : Str → Option Value) (base : Heap) (C cL cF cC mB mF mP : Addr) (dB dF dP : FuncData) : Prop where
  G : FCls K C
  hB : Meth K C "body" mB
  oB : FnOk P w K mg base (L2.CX P w) 4 mB dB ["self", "letter"] (spBody K C cL cC)
  bB : Binds K dB ["self", "letter"] []
  kB : KBn K dB ["self", "letter"] 1 ["letter"] (fun us ws => us ++ ws) (fun vs zs => vs ++ zs)
  hF : Meth K C "frame" mF
  oF : FnOk P w K mg base (L2.CX P w) 5 mF dF ["self", "letter"] (spFrame K C cL cC)
  bF : Binds K dF ["self", "letter"] []
  kF : KBn K dF ["self", "letter"] 1 ["letter"] (fun us ws => us ++ ws) (fun vs zs => vs ++ zs)
  hP : Meth K C "puts" mP
  oP : FnOk P w K mg base (L2.CX P w) 5 mP dP ["self", "letter"] (spPuts K C cL cC)
  bP : Binds K dP ["self", "letter"] []
  kP : KBn K dP ["self", "letter"] 1 ["letter"] (fun us ws => us ++ ws) (fun vs zs => vs ++ zs)
/-- no name of a method is a field -/
def NoFld (m : Str) : Prop := ∀ a b : V, ([("flag", a), ("pairs", b)] : List (Str × V)).lookup m = none
theorem nf_b : NoFld "body" := fun _ _ => rfl
theorem nf_f : NoFld "frame" := fun _ _ => rfl
theorem nf_p : NoFld "puts" := fun _ _ => rfl
theorem nf_l : NoFld "letter_of" := fun _ _ => rfl
/-- o.m(k = e) -/
abbrev tMethK (C : Addr) (m : Str) (ks : List Str) (sp : Sp) (E : XK) (ta : TE) (tk : TA) : TE := fun σ H Q => ta σ H fun x H1 => ∃ a dx fs, x = .ref a ∧ H1 a = some (.ins C dx fs) ∧ fs.lookup m = none ∧ tk σ H1 fun zs H2 => zs.length = ks.length ∧ sp ((fun vs zs => vs ++ zs) [.ref a] zs) H2 Q E
section
variable {K : PySem.W.Frag} {C o p l cL cF cC : Addr} {T : List (Addr × Str)} {σ : L2.St} {H : Hp} {cells : List Int} {n : Nat} {Q : VK} {f z m : Str} {ps : List Pr} {ta tb : TE} {sp : Sp} {y : V} {E : XK} {ks : List Str} {i j : Nat}
theorem ev_mt (ha : Ev ta σ H (.ref o)) (hO : RuleAt K C H o f ps) (nm : NoFld m) (hb : Ev tb σ H y) {v : V} (hs : ∀ H1, Ex H H1 → ∀ Q, (∀ H2, Ex H1 H2 → Q v H2) → sp [.ref o, y] H1 Q E) : Ev (tMeth C m sp [] E ta (tCons tb tNil)) σ H v := fun H1 e Q q =>
  ha H1 e _ fun H2 e2 => by
    obtain ⟨dx, qq, vs, h1, _⟩ := hO.mono (e.trans e2)
    exact ⟨o, dx, _, rfl, h1, nm _ _, hb H2 (e.trans e2) _ fun H3 e3 => hs H3 ((e.trans e2).trans e3) Q fun H4 e4 => q H4 ((e2.trans e3).trans e4)⟩
theorem ev_mtK {k1 : Str} (ha : Ev ta σ H (.ref o)) (hO : RuleAt K C H o f ps) (nm : NoFld m) (hb : Ev tb σ H y) {v : V} (hs : ∀ H1, Ex H H1 → ∀ Q, (∀ H2, Ex H1 H2 → Q v H2) → sp [.ref o, y] H1 Q E) : Ev (tMethK C m [k1] sp E ta (tCons tb tNil)) σ H v := fun H1 e Q q =>
  ha H1 e _ fun H2 e2 => by
    obtain ⟨dx, qq, vs, h1, _⟩ := hO.mono (e.trans e2)
    exact ⟨o, dx, _, rfl, h1, nm _ _, hb H2 (e.trans e2) _ fun H3 e3 => ⟨rfl, hs H3 ((e.trans e2).trans e3) Q fun H4 e4 => q H4 ((e2.trans e3).trans e4)⟩⟩
theorem sp_body {t : L} (hO : RuleAt K C H o f ps) (hz : sgB z 0 200 = true) (ht : bodyL (lp ps) [] (TL.tl z) = some t) : ∀ H1, Ex H H1 → ∀ Q, (∀ H2, Ex H1 H2 → Q (.str (mk t)) H2) → spBody K C cL cC [.ref o, .str z] H1 Q E := fun H1 e Q q => ⟨o, f, ps, _, rfl, hO.mono e, .inr ⟨z, rfl, hz, .inr ⟨t, ht, q⟩⟩⟩
theorem sp_frame {t : L} (hO : RuleAt K C H o f ps) (hz : sgB z 0 200 = true) (ht : bodyL (lp ps) [] (TL.tl z) = some t) : ∀ H1, Ex H H1 → ∀ Q, (∀ H2, Ex H1 H2 → Q (.str (mk t ++ f)) H2) → spFrame K C cL cC [.ref o, .str z] H1 Q E := fun H1 e Q q => ⟨o, f, ps, _, rfl, hO.mono e, .inr ⟨z, rfl, hz, .inr ⟨t, ht, q⟩⟩⟩
theorem sp_puts {t : L} (hO : RuleAt K C H o f ps) (hz : sgB z 0 200 = true) (ht : bodyL (lp ps) [] (TL.tl z) = some t) : ∀ H1, Ex H H1 → ∀ Q, (∀ H2, Ex H1 H2 → Q (.int ((t.length : Int) - (z.length : Int))) H2) → spPuts K C cL cC [.ref o, .str z] H1 Q E := fun H1 e Q q => ⟨o, f, ps, _, rfl, hO.mono e, .inr ⟨z, rfl, hz, .inr ⟨t, ht, q⟩⟩⟩
end
theorem var_is {σ : L2.St} {i : Nat} {v : V} (h : σ[i]? = some (some v)) (H : Hp) : ∀ Q : VK, Q v H → tVar i σ H Q := fun Q q => ⟨v, h, q⟩
theorem body_str {f z : Str} {ps : List Pr} {t : L} (g : Good f ps) (hz : sgB z 0 200 = true) (ht : bodyL (lp ps) [] (TL.tl z) = some t) : Sgs t ∧ t.length ≤ 60200 := by
  have O := good_pok g
  have lz := sgB_iff.mp hz
  have h1 := body_len O ht
  rw [TL.len_tl] at lz
  simp only [List.length_nil] at h1
  exact ⟨body_sgs O (fun c hc => by cases hc) (sgs_iff.mp lz.1) ht, by omega⟩
end K10
namespace K10
open PySem L2 Evl Gr StX EnT ClX ClK RdX SrtT StS Fr LamX
abbrev sIno : Stmt := top 20
abbrev qIno : Str := ("in_order" : Str) ++ ".<locals>." ++ "<lambda>"
theorem call_i {sp : Sp} {dvs : List V} {E : XK} {ta : TA} {σ : L2.St} {H : Hp} {Q : VK} (h : ta σ H fun vs H1 => sp (vs ++ dvs) H1 Q E) : tCall sp dvs E ta σ H Q := h
theorem cb_i {r : List V → Hp → VK → Prop} {ta : TA} {σ : L2.St} {H : Hp} {Q : VK} (h : ta σ H fun vs H1 => r vs H1 Q) : tCB r ta σ H Q := h
theorem extN_new {H : Hp} {p : Addr} {o : HO} (h : H p = none) : ExtN H (upd H p o) := ExtN.of (Ex.new h)
theorem tabs_ex {T : List (Addr × Str)} {H H' : Hp} (t : Tabs T H) (e : Ex H H') : Tabs T H' := t.ext e
section
variable {P : Program} {w : World} {K : PySem.W.Frag} {mg : Str → Option Value} {base : Heap}
theorem funC_ok {x qual : Str} {st : Stmt} {f c : Addr} {fd : FuncData} {N ps : List Str} {k : Nat} {sp : Sp} (F : FunC K x qual st f fd c) (S : FnScope N ps (defScope st)) (len : ∀ vs H Q E, sp vs H Q E → vs.length = ps.length)
    (hbody : ∀ (A : Around) (outer : List Env) (s : Shared) (H : Hp) (vs : List V) (Q : VK) (E : XK), Room k (A.deeper (PyProof.Rows.envOfC qual (defScope st) s.heap.objs.size f (.ref c))) → sp vs H Q E →
      ∃ t, PSs (cxOf CX0 P w K mg base N qual (defScope st) f (.ref c) A outer s H E).nox (defBody st) t ∧ t { nx := fun _ H' => Q .non H', rt := Q } (L2.start N vs) H) : FnOk P w K mg base CX0 (k + 1) f fd ps sp := by
  obtain ⟨oc, od, kV, doc, pm, an, ct, osl, rfl, lk, hcd⟩ := F.ex
  refine fn_of lk hcd S len fun A outer s H vs Q E hr hsp => ?_
  obtain ⟨t, h, q⟩ := hbody A outer s H vs Q E hr hsp
  exact ⟨t, h.nox, q⟩
/-! ### in_order -/
def spIno (T : List (Addr × Str)) : Sp := fun vs H Q _ => ∃ (a : Addr) (zs : List Str), vs = [.ref a] ∧ H a = some (.lst (zs.map V.str)) ∧ (∀ z ∈ zs, z.length ≤ 100000) ∧ Tabs T H ∧
  ∀ (H2 : Hp) (p : Addr) (ys : List Str), ExtN H H2 → Tabs T H2 → ys.Perm zs → ys.Pairwise SLn.Le → H2 p = some (.tup (ys.map V.str)) → Q (.ref p) H2
theorem scIno : FnScope ["states"] ["states"] (defScope sIno) := ⟨rfl, rfl, rfl, by decide +kernel, rfl, by decide +kernel, by decide +kernel⟩
theorem ok_Ino {f c Pc : Addr} {fd : FuncData} {T : List (Addr × Str)} (F : FunC K "in_order" "in_order" sIno f fd c) (TB : TabB base mg c Pc) (hT : (Pc, qIno) ∈ T) (hu : ∀ p ∈ T, p.1 = Pc → p.2 = qIno) (W : GlbW mg) : FnOk P w K mg base CX0 1 f fd ["states"] (spIno T) := by
  refine funC_ok F scIno (fun vs H Q E h => ?_) (fun A outer s H vs Q E hr h => ?_)
  · obtain ⟨a, zs, rfl, _⟩ := h
    rfl
  · obtain ⟨a, zs, rfl, ha, hz, tabs, k⟩ := h
    refine ⟨_, (pss_one (ps_ret (pe_tupleOf (by rfl) W.tuple (SLn.pe_sln (T := T) (x := "state") (c := c) (P := Pc) (pv 0) hr (by rfl) W.sorted W.len TB rfl hT hu rfl (fun _ _ _ _ _ _ => rfl) rfl rfl rfl (by decide +kernel) (by rfl) (by rfl))))), ?_⟩
    refine s_retR ⟨.ref a, rfl, a, zs, rfl, ha, hz, tabs, fun H2 b ys eN T2 hb pm up => .inl ⟨b, _, rfl, sq_of upd_same, fun q hq => ?_⟩⟩
    have e2 : Ex H2 (upd (upd H2 b (.lst (ys.map V.str))) q (.tup (ys.map V.str))) := (Ex.new hb).trans (Ex.new hq)
    exact k _ q ys (eN.trans (ExtN.of e2)) (tabs_ex T2 e2) pm up upd_same
end
end K10
namespace K10
open PySem L2 Evl Gr StX EnT ClX ClK RdX SrtT StS Fr LamX
section
variable {K : PySem.W.Frag} {σ : L2.St} {H : Hp} {te ta tb : TE}
theorem ev_intS {z : Str} {n : Int} (h : Ev te σ H (.str z)) (hn : PySem.intText? z = some n) (hl : z.length ≤ 640) : Ev (tCB (fun xs H Q => ∃ a n, xs = [.str a] ∧ PySem.intText? a = some n ∧ a.length ≤ 640 ∧ Q (.int n) H) (tCons te tNil)) σ H (.int n) := fun H1 e Q q =>
  h H1 e _ fun H2 e2 => ⟨z, n, rfl, hn, hl, q H2 e2⟩
end
theorem int_bit {c : Nat} {j : Nat} (hc : [48, 49][j]? = some c) : PySem.intText? (mk [c]) = some (j : Int) := by
  match j, hc with
  | 0, hc => cases hc; decide +kernel
  | 1, hc => cases hc; decide +kernel
theorem kit_ss : kitB "str" "str" = some true := by decide +kernel
theorem bit_ix {c : Nat} (h : Fr.Bit c) : ∃ j : Nat, ([48, 49] : List Nat)[j]? = some c := by
  rcases h with rfl | rfl
  · exact ⟨0, rfl⟩
  · exact ⟨1, rfl⟩
/-- z is told in the row of states -/
def InRow (ol : List (L × L)) (z : Str) : Prop := TL.tl z ∈ ol.map Prod.fst
section
variable {P : Program} {w : World} {K : PySem.W.Frag} {mg : Str → Option Value} {base : Heap}
/-! ### FrameRule.all_states -/
def spAll (K : PySem.W.Frag) (C cC : Addr) (T : List (Addr × Str)) : Sp := fun vs H Q E => ∃ (o : Addr) (f : Str) (ps : List Pr), vs = [.ref o] ∧ RuleAt K C H o f ps ∧ Tabs T H ∧
  ClashT cC f ps H E (∀ (H2 : Hp) (p : Addr) (ol : List (L × L)) (ys : List Str), Wk (lp ps) (Wp f ps) ol ol.length → NoPuts (lp ps) (ol.map Prod.fst) → ys.Perm (ol.map fun p => mk p.1) → ys.Pairwise SLn.Le → ExtN H H2 → Tabs T H2 → H2 p = some (.tup (ys.map V.str)) → Q (.ref p) H2)
theorem scAll : FnScope ["self"] ["self"] (defScope (sFr 6)) := ⟨rfl, rfl, rfl, by decide +kernel, rfl, by decide +kernel, by decide +kernel⟩
theorem kv_texts {ps : LP} {W : List L} {H : Hp} {kvs : List (Key × V)} {ol : List (L × L)} (h : KvAt ps W H kvs ol) : (kvs.map fun x => kV x.1) = (ol.map fun p => mk p.1).map V.str := by
  have : kvs.map (fun x => kV x.1) = (kvs.map (·.1)).map kV := by rw [List.map_map]; rfl
  rw [this, h.keys, List.map_map, List.map_map, List.map_map]
  rfl
theorem ok_All {C cC f : Addr} {fd : FuncData} {T : List (Addr × Str)} (F : Fun K "all_states" "FrameRule.all_states" (sFr 6) f fd) (W : GlbW mg) (G : FCls K C) (GM : ∃ f fd, FnOk P w K mg base (L2.CX P w) 4 f fd ["flag", "pairs"] (spMvo K cC) ∧ PySem.W.keepIn K (.ref f) = true ∧ Binds K fd ["flag", "pairs"] [] ∧ mg "moves_of" = some (.ref f))
    (GI : Gfn P w K mg base 1 "in_order" ["states"] (spIno T)) : FnOk P w K mg base (L2.CX P w) 5 f fd ["self"] (spAll K C cC T) := by
  obtain ⟨fM, fdM, GM, kM, bM, gM⟩ := GM
  obtain ⟨fI, fdI, GI, kI, bI, gI⟩ := GI
  refine F.okX scAll (fun vs H Q E h => ?_) (fun cdv A outer s H vs Q E hr h => ?_)
  · obtain ⟨o, f, ps, rfl, _⟩ := h
    rfl
  · obtain ⟨o, fl, ps, rfl, hO, tabs, hx⟩ := h
    have r1 := hr.mono (show 1 ≤ 4 by decide)
    refine ⟨_, (pss_one (ps_ret (pe_call GI r1 (by rfl) gI kI bI .nil pass0 (pa_cons (pe_callTy (call_list_dK rfl) (by rfl) W.list (by decide +kernel) (pa_cons (pe_call (E := E) GM hr (by rfl) gM kM bM .nil (passes_call (takes_of rfl rfl rfl rfl) fun _ _ _ _ z => z) (pa_cons (pe_fld (pv 0) rfl) (pa_cons (pe_fld (pv 0) rfl) pa_nil))) pa_nil)) pa_nil)))), ?_⟩
    obtain ⟨dx, q, vs, hO1, hO2, hO3, _⟩ := id hO
    refine s_retR (call_i (cons_i (cb_i (cons_i (call_i ((ea_cons (ev_flag (σ := [some (.ref o)]) (ta := tVar 0) G (ev_var rfl) hO) (ea_cons (ev_fld (ev_var rfl) hO1 G.cls G.pairs rfl) ea_nil)) H (Ex.refl H) _ fun H1 e1 => ?_))))))
    refine ⟨fl, q, vs, ps, rfl, ex_t e1 hO2, hO3.mono e1, hO.good, hx.mono e1 fun k d kvs ol H2 hdn e2 hd wk np kv => ?_⟩
    have E2 := e1.trans e2
    refine ⟨d, kvs, rfl, hd, fun l hl => ?_⟩
    have e3 : Ex H2 (upd H2 l (.lst (kvs.map fun x => kV x.1))) := Ex.new hl
    have hl3 : (upd H2 l (.lst (kvs.map fun x => kV x.1))) l = some (.lst ((ol.map fun p => mk p.1).map V.str)) := by rw [upd_same, kv_texts kv]
    generalize upd H2 l (.lst (kvs.map fun x => kV x.1)) = H3 at e3 hl3
    refine ⟨l, ol.map fun p => mk p.1, rfl, hl3, fun z hz => ?_, tabs_ex tabs (E2.trans e3), fun H4 p ys eN T4 pm up hp => k H4 p ol ys wk np pm up ((ExtN.of (E2.trans e3)).trans eN) T4 hp⟩
    obtain ⟨p, hp, rfl⟩ := List.mem_map.mp hz
    have := wk.len wp_ne (wp_8 hO.good) p hp
    rw [mk_len]
    omega
end
end K10
namespace K10
open PySem L2 Evl Gr StX EnT ClX ClK RdX SrtT StS Fr
abbrev sIsb : Stmt := top 21
abbrev sFsb : Stmt := top 22
/-! ### find -/
theorem tl_mk (l : L) : TL.tl (mk l) = l := rfl
theorem mk_app_r (a : L) (f : Str) : mk a ++ f = mk (a ++ TL.tl f) := mk_eq (TL.tl_append _ _)
theorem at_pre (x y : Str) (i : Nat) : StrLaws.At x y x.length i ↔ i ≤ (TL.tl x).length ∧ TL.tl y <+: (TL.tl x).drop i := by
  unfold StrLaws.At
  rw [PySem.StrLaws.subAt_eq, beq_iff_eq, TL.len_tl, TL.len_tl, List.prefix_iff_eq_take]
  constructor
  · rintro ⟨h1, h2⟩
    exact ⟨by omega, h2.symm⟩
  · rintro ⟨h1, h2⟩
    refine ⟨?_, h2.symm⟩
    have := congrArg List.length h2
    rw [List.length_take, List.length_drop] at this
    omega
theorem find_early (t f : L) : Txt.find (mk (t ++ f)) (mk f) < (t.length : Int) ↔ Early f t := by
  have h := StrLaws.occ_head (mk (t ++ f)) (mk f) 1 (Nat.le_refl 1)
  simp only [at_pre, tl_mk] at h
  unfold Txt.find
  have there : t.length ≤ (t ++ f).length ∧ f <+: (t ++ f).drop t.length := by
    rw [List.drop_left]
    exact ⟨by rw [List.length_append]; omega, List.prefix_refl f⟩
  rcases h with ⟨_, h⟩ | ⟨i, r, e, h1, h2⟩
  · exact absurd there (h _)
  · rw [e]
    constructor
    · intro lt
      exact ⟨i, by have lt : (i : Int) < t.length := lt; omega, h1.2⟩
    · rintro ⟨j, jl, hj⟩
      show (i : Int) < t.length
      have : ¬ j < i := fun z => h2 j z ⟨by rw [List.length_append]; omega, hj⟩
      omega
section
variable {P : Program} {w : World} {K : PySem.W.Frag} {mg : Str → Option Value} {base : Heap}
/-! ### is_breaking -/
abbrev nIsb : List Str := ["flag", "state", "move", "after", "sent"]
def spIsb (K : PySem.W.Frag) : Sp := fun vs H Q _ => ∃ (f : Str) (e : L) (v : V) (ps : LP) (W : List L) (c : Nat), vs = [.str f, .str (mk e), v] ∧ MvAt H v (mvOf ps W e c) ∧ f.length ≤ 8 ∧ e.length ≤ 8 ∧ (∀ a u, mvOf ps W e c = some (a, u) → a.length ≤ 8 ∧ u.length ≤ 301) ∧
  ∀ b : Bool, (b = true ↔ Brk ps W (TL.tl f) e c) → RetV (.bl b) H Q
theorem scIsb : FnScope nIsb ["flag", "state", "move"] (defScope sIsb) := ⟨rfl, rfl, rfl, by decide +kernel, rfl, by decide +kernel, by decide +kernel⟩
theorem ok_Isb {f : Addr} {fd : FuncData} (F : Fun K "is_breaking" "is_breaking" sIsb f fd) (W : GlbW mg) : FnOk P w K mg base CX0 1 f fd ["flag", "state", "move"] (spIsb K) := by
  refine F.ok scIsb (fun vs H Q E h => ?_) (fun cdv A outer s H vs Q E hr h => ?_)
  · obtain ⟨f, e, v, ps, W, c, rfl, _⟩ := h
    rfl
  · obtain ⟨f, e, v, ps, W', c, rfl, mv, fl, el, ml, k⟩ := h
    refine ⟨_, (pss_cons (ps_if (pt_cmpR op_isN (pv 2) pe_non (nomark _)) (pss_one (ps_ret pe_bl)) pss_nil)
      (pss_cons (ps_asg (pv 2) (pg_tup rfl (pgs_cons (pg_name (i := 3) scIsb.nd rfl (.inl rfl)) (pgs_cons (pg_name (i := 4) scIsb.nd rfl (.inl rfl)) pgs_nil))))
      (pss_one (ps_ret (pe_or (pe_cmpR op_in_str (pv 0) (pe_op op_add_str (pv 1) (pv 4)) (by with_unfolding_all rfl)) (pe_one (pe_cmpR op_lt (pe_bm PySem.F.plainAttrs_str PySem.F.slot_str_find PySem.F.type_str_find mt_find (pe_op op_add_str (pv 3) (pv 0)) (pa_cons (pv 0) pa_nil)) (pe_callB call_len (by rfl) W.len PySem.boot_len (pa_cons (pv 3) pa_nil)) (nomark _)))))))), ?_⟩
    cases hm : mvOf ps W' e c with
    | none =>
      rw [hm] at mv
      obtain rfl : v = .non := mv
      have bt : Brk ps W' (TL.tl f) e c := fun u hu => by
        unfold mvOf at hm
        rw [hu] at hm
        cases hm
      exact q_when (b := true) (et_is (et_test (ev_op (ev_var rfl) ev_c rv_isN)) (decide_eq_true rfl)) (fun _ H1 e1 => s_ret ev_c fun H2 e2 => k true ⟨fun _ => bt, fun _ => rfl⟩ H2 (e1.trans e2)) (fun z => absurd z (by decide))
    | some m =>
      obtain ⟨a, u⟩ := m
      rw [hm] at mv
      obtain ⟨t, rfl, ht⟩ := mv
      obtain ⟨al, ul⟩ := ml a u hm
      refine q_when (b := false) (et_is (et_test (ev_op (ev_var rfl) ev_c rv_isN)) (decide_eq_false fun z => by cases z)) (fun z => absurd z (by decide)) (fun _ H1 e1 => ?_)
      refine q_asgG ((ev_var rfl) H1 (Ex.refl H1) _ fun H2 e2 => ?_)
      refine ⟨t, _, rfl, st_of ((e1.trans e2) _ _ ht), rfl, _, _, rfl, _, _, rfl, rfl, ?_⟩
      have E2 := e1.trans e2
      have hb : (decide (TL.tl f <:+: e ++ u) || decide (Txt.find (mk (a ++ TL.tl f)) f < (a.length : Int))) = true ↔ Brk ps W' (TL.tl f) e c := by
        have fe : mk (TL.tl f) = f := (mk_eq rfl).symm
        have q := find_early a (TL.tl f)
        rw [fe] at q
        unfold mvOf at hm
        obtain ⟨u', hu, e3⟩ := Option.map_eq_some_iff.mp hm
        obtain ⟨rfl, rfl⟩ := Prod.mk.inj e3
        rw [Bool.or_eq_true, decide_eq_true_iff, decide_eq_true_iff, q]
        unfold Brk
        constructor
        · intro h v hv
          rw [hu] at hv
          obtain rfl := Option.some.inj hv
          exact h
        · exact fun h => h u' hu
      refine s_ret (ev_orV (ev_is (ev_inS (ev_var rfl) (ev_is (ev_addS (a := mk e) (b := mk u) (ev_var rfl) (ev_var rfl) (by rw [mk_len, mk_len]; omega)) (by rw [mk_app]))) (by rw [tl_mk])) fun _ => ev_op (ev_find (ev_is (ev_addS (a := mk a) (b := f) (ev_var rfl) (ev_var rfl) (by rw [mk_len]; omega)) (by rw [mk_app_r])) (ev_var rfl)) (ev_cb (ea_cons (ev_var rfl) ea_nil) (rc_lenS (K := K) (z := mk a) (by rw [mk_len]; omega))) rv_I0) fun H3 e3 => k _ ?_ H3 (E2.trans e3)
      rw [mk_len]
      exact hb
end
end K10
namespace K10
open PySem L2 Evl Gr StX EnT ClX ClK RdX SrtT StS Fr
abbrev forB (J : It) (g : TG) (tb : TS) (D : Ends) (σ : L2.St) (H1 : Hp) : Prop := ∃ W : Nat → Nat → L2.St → Hp → Prop, (∃ m, W 0 m σ H1) ∧ ∀ i m σ H, W i m σ H →
  (J.stop i H ∧ D.nx σ H) ∨ (J.go i H ∧ ∃ N : L2.St → Hp → Prop, (∀ σ' H', N σ' H' → ∃ m', m' < m ∧ W (i + 1) m' σ' H') ∧ ∀ x H', J.yld i H x H' → g x σ H' fun σ2 H2 => tb { D with nx := N, ct := N, bk := D.nx } σ2 H2)
theorem for_call {K : PySem.W.Frag} {σ : L2.St} {H : Hp} {sp : Sp} {t : TA} {vs : List V} {g : TG} {tb tz : TS} {D : Ends} {E : XK} (ha : EvA t σ H vs)
    (k : ∀ H1, Ex H H1 → sp (vs ++ []) H1 (fun x H2 => ∃ a, x = .ref a ∧ (∃ xs, SqL K H2 a xs) ∧ forB (Itl K a) g tb { D with nx := tz D } σ H2) E) : tSeq (tFor (iList K (tCall sp [] E t)) g tb) tz D σ H := ha H (Ex.refl H) _ k
theorem for_zs {K : PySem.W.Frag} {σ : L2.St} {H : Hp} {t : TA} {x : Str} {b : Addr} {g : TG} {tb : TS} {D : Ends} (ha : EvA t σ H [.str x, .ref b])
    (k : ∀ H1, Ex H H1 → ∃ ys, SqT K H1 b ys ∧ forB (ZsT.It2 K x b) g tb D σ H1) : tFor (ZsT.iZs K t) g tb D σ H := ha H (Ex.refl H) _ fun H1 e => by
  obtain ⟨ys, h1, h2⟩ := k H1 e
  exact ⟨x, b, ys, rfl, h1, h2⟩
/-- the signs 0 and 1 beside a tuple of two -/
theorem walk_zs {K : PySem.W.Frag} {b : Addr} {ms : List V} (h2 : ms.length = 2) : Walk (ZsT.It2 K "01" b) 2 (fun H => SqT K H b ms) (fun i H v H' => ∃ T c y, v = .ref T ∧ H T = none ∧ H' = upd H T (.tup [.str (mk [c]), y]) ∧ ([48, 49] : List Nat)[i]? = some c ∧ ms[i]? = some y) := by
  have two : ("01" : Str).cps.size = 2 := by decide +kernel
  refine ⟨fun i H hi q => ⟨by rw [two]; exact hi, ms, q, by rw [h2]; exact hi⟩, fun H q => ⟨Nat.le_of_eq two.symm, ms, q, Nat.le_of_eq h2.symm, .inl two.symm⟩, fun i H v H' hi q y => ?_⟩
  obtain ⟨T, c, z, h3, h4, h5, h6, h7⟩ := y
  refine ⟨T, c, z, h3, h4, ?_, ?_, h7 ms q⟩
  · rw [h5, mk_one]
  · have : (TL.tl ("01" : Str))[i]? = some c := by rw [← h6]; exact Array.getElem?_toList
    exact this
section
variable {P : Program} {w : World} {K : PySem.W.Frag} {mg : Str → Option Value} {base : Heap}
/-! ### first_break -/
abbrev nFsb : List Str := ["flag", "pairs", "letter", "state", "moves", "sign", "move"]
/-- gives the least letter after which the rule goes wrong, or none -/
def BrkT (ps : LP) (f : L) (H : Hp) (Q : VK) : Prop := ∀ H1, Ex H H1 → (NoneW ps f → Q .non H1) ∧ ∀ l, LeastW ps f l → l.length ≤ 45 → Q (.str (mk l)) H1
def spFsb (K : PySem.W.Frag) : Sp := fun vs H Q _ => ∃ (f : Str) (q : Addr) (xs : List V) (ps : List Pr), vs = [.str f, .ref q] ∧ SqT K H q xs ∧ Prs H xs ps ∧ Good f ps ∧ BrkT (lp ps) (TL.tl f) H Q
theorem scFsb : FnScope nFsb ["flag", "pairs"] (defScope sFsb) := ⟨rfl, rfl, rfl, by decide +kernel, rfl, by decide +kernel, by decide +kernel⟩
theorem ok_Fsb {f : Addr} {fd : FuncData} (F : Fun K "first_break" "first_break" sFsb f fd) (W : GlbW mg) (zip : mg "zip" = none) (GW : Gfn P w K mg base 3 "walked" ["flag", "pairs"] (spWkd K)) (GI : Gfn P w K mg base 1 "is_breaking" ["flag", "state", "move"] (spIsb K)) :
    FnOk P w K mg base CX0 4 f fd ["flag", "pairs"] (spFsb K) := by
  obtain ⟨fW, fdW, GW, kW, bW, gW⟩ := GW
  obtain ⟨fI, fdI, GI, kI, bI, gI⟩ := GI
  refine F.ok scFsb (fun vs H Q E h => ?_) (fun cdv A outer s H vs Q E hr h => ?_)
  · obtain ⟨f, q, xs, ps, rfl, _⟩ := h
    rfl
  · obtain ⟨fl, q, xs, ps, rfl, hq, hp, g, k⟩ := h
    have r1 := hr.mono (show 1 ≤ 3 by decide)
    refine ⟨_, (pss_cons (ps_for PassesOwn.never rfl (pi_list (pe_call GW hr (by rfl) gW kW bW .nil pass0 (pa_cons (pv 0) (pa_cons (pv 1) pa_nil)))) (pg_tup rfl (pgs_cons (pg_name (i := 2) scFsb.nd rfl (.inl rfl)) (pgs_cons (pg_name (i := 3) scFsb.nd rfl (.inl rfl)) (pgs_cons (pg_name (i := 4) scFsb.nd rfl (.inl rfl)) pgs_nil))))
        (pss_one (ps_for PassesOwn.never rfl (ZsT.pi_zs (by rfl) zip (pa_cons pe_str (pa_cons (pv 4) pa_nil))) (pg_tup rfl (pgs_cons (pg_name (i := 5) scFsb.nd rfl (.inl rfl)) (pgs_cons (pg_name (i := 6) scFsb.nd rfl (.inl rfl)) pgs_nil)))
          (pss_one (ps_if (pt_val (pe_call GI r1 (by rfl) gI kI bI .nil pass0 (pa_cons (pv 0) (pa_cons (pv 3) (pa_cons (pv 6) pa_nil))))) (pss_one (ps_ret (pe_op op_add_str (pv 2) (pv 5)))) pss_nil)))))
      (pss_one (ps_ret pe_non))), ?_⟩
    have O := good_pok g
    have hf := f_ne g
    have hfW : TL.tl fl ∈ Wp fl ps := List.mem_cons_self
    have fl8 : fl.length ≤ 8 := by have := (flag_len g).2; rw [TL.len_tl]; exact this
    refine for_call (ea_cons (ev_var rfl) (ea_cons (ev_var rfl) ea_nil)) fun H0 e0 => ⟨fl, q, xs, ps, rfl, ex_t e0 hq, hp.mono e0, g, fun p rs ol H1 hpn e1 hrs wk rows => ?_⟩
    replace e1 := e0.trans e1
    have few5 : (Wp fl ps).length ≤ 5 := by
      unfold Wp watches lp
      rw [List.length_cons, List.length_map, List.length_map]
      have := g.many
      omega
    have ol45 : ol.length ≤ 45 := by
      have := wk.few wp_ne (wp_8 g)
      omega
    have wq : ∀ n i, Wq (lp ps) (Wp fl ps) ol n i := fun n i => (wk.o.q).less n i
    refine ⟨p, rfl, ⟨rs, sq_of hrs⟩, for_it (n := rs.length) (walk_list (K := K) (a := p) (xs := rs)) (fun i σ' H' => (∃ x2 x3 x4 x5 x6 : Option V, σ' = [some (.str fl), some (.ref q), x2, x3, x4, x5, x6]) ∧ Ex H1 H' ∧ Clean (lp ps) (Wp fl ps) (TL.tl fl) ol i 0) ⟨⟨_, _, _, _, _, rfl⟩, Ex.refl _, clean_start⟩ (fun _ _ H' _ h => sq_of (h.2.1 _ _ hrs)) (fun i x σ' H2 H2' hi h y => ?_) (fun σ' H2 h => ?_)⟩
    · obtain ⟨⟨x2, x3, x4, x5, x6, rfl⟩, e2, cl⟩ := h
      obtain ⟨rfl, hxi⟩ := y
      have hi2 : i < ol.length := by rw [← rows.1]; exact hi
      obtain ⟨⟨e, r⟩, hpi⟩ : ∃ p, ol[i]? = some p := ⟨_, List.getElem?_eq_getElem hi2⟩
      obtain ⟨t, b, ms, rfl, h1, h2, h3⟩ := rows.2 i x _ hxi hpi
      have hm := List.mem_of_getElem? hpi
      have e8 : e.length ≤ 8 := wk.len wp_ne (wp_8 g) _ hm
      have r45 : r.length < ol.length := wk.short _ hm
      refine ⟨t, _, rfl, st_of (e2 _ _ h1), rfl, _, _, rfl, _, _, rfl, _, _, rfl, rfl, ?_⟩
      refine for_zs (x := "01") (b := b) (ea_cons ev_c (ea_cons (ev_var rfl) ea_nil)) fun H3 e3 => ⟨ms, st_of ((e2.trans e3) _ _ h2), for_it (n := 2) (walk_zs (K := K) (b := b) h3.1) (fun j σ' H' => (∃ x5 x6 : Option V, σ' = [some (.str fl), some (.ref q), some (.str (mk r)), some (.str (mk e)), some (.ref b), x5, x6]) ∧ Ex H1 H' ∧ Clean (lp ps) (Wp fl ps) (TL.tl fl) ol i j) ⟨⟨_, _, rfl⟩, e2.trans e3, cl⟩ (fun _ _ H' _ h => st_of (h.2.1 _ _ h2)) (fun j z σ' H4 H5 hj h y => ?_) (fun σ' H4 h => ?_)⟩
      · obtain ⟨⟨x5, x6, rfl⟩, e4, cl⟩ := h
        obtain ⟨T, c, mv, rfl, hT, rfl, hc, hmj⟩ := y
        have e5 : Ex H4 (upd H4 T (.tup [.str (mk [c]), mv])) := Ex.new hT
        refine ⟨T, _, rfl, st_of upd_same, rfl, _, _, rfl, _, _, rfl, rfl, ?_⟩
        have E5 := e4.trans e5
        generalize upd H4 T (.tup [.str (mk [c]), mv]) = H5 at e5 E5
        have mvA := (h3.2 j mv c hmj hc).to (TupE.of E5)
        have bound : ∀ a u, mvOf (lp ps) (Wp fl ps) e c = some (a, u) → a.length ≤ 8 ∧ u.length ≤ 301 := fun a u hm2 => by
          unfold mvOf at hm2
          obtain ⟨u', hu, e6⟩ := Option.map_eq_some_iff.mp hm2
          obtain ⟨rfl, rfl⟩ := Prod.mk.inj e6
          exact ⟨st_len wp_ne (wp_8 g) _, send_len O hu⟩
        obtain ⟨_, t', _, _, _, stp⟩ := at_step wp_ne wp_mem hf hfW wk.rch hpi (wq i j) cl hc
        have brk : ∀ bb : Bool, (bb = true ↔ Brk (lp ps) (Wp fl ps) (TL.tl fl) e c) → EvT (tB (tCall (spIsb K) [] E0 (tCons (tVar 0) (tCons (tVar 3) (tCons (tVar 6) tNil))))) [some (.str fl), some (.ref q), some (.str (mk r)), some (.str (mk e)), some (.ref b), some (.str (mk [c])), some mv] H5 bb := fun b' hb => et_B (ev_call (ea_cons (ev_var rfl) (ea_cons (ev_var rfl) (ea_cons (ev_var rfl) ea_nil))) fun H6 e6 Q6 q6 E6 => ⟨fl, e, mv, lp ps, Wp fl ps, c, rfl, mvA.to (TupE.of e6), fl8, e8, bound, fun b2 hb2 => by
          have : b2 = b' := by rw [Bool.eq_iff_iff, hb2, hb]
          rw [this]
          exact q6⟩)
        by_cases hB : Brk (lp ps) (Wp fl ps) (TL.tl fl) e c
        · refine s_if (b := true) (brk true ⟨fun _ => hB, fun _ => rfl⟩) (fun _ H6 e6 => ?_) (fun z => absurd z (by decide))
          have lw := at_least wp_ne wp_mem hf hfW wk.rch hpi (wq i j) cl hc (stp.mpr hB)
          refine s_ret (ev_is (ev_addS (a := mk r) (b := mk [c]) (ev_var rfl) (ev_var rfl) (by rw [mk_len, mk_len]; show _ + 1 ≤ _; omega)) (by rw [mk_app])) fun H7 e7 => ?_
          exact (k H7 (((e1.trans E5).trans e6).trans e7)).2 _ lw (by rw [List.length_append]; show _ + 1 ≤ _; omega)
        · exact s_if (b := false) (brk false ⟨fun z => (by cases z), fun z => absurd z hB⟩) (fun z => absurd z (by decide)) (fun _ H6 e6 => ⟨⟨_, _, rfl⟩, E5.trans e6, cl.one hpi hc hB⟩)
      · obtain ⟨⟨x5, x6, rfl⟩, e4, cl⟩ := h
        exact ⟨⟨_, _, _, _, _, rfl⟩, e4, cl.next⟩
    · obtain ⟨⟨x2, x3, x4, x5, x6, rfl⟩, e2, cl⟩ := h
      rw [rows.1] at cl
      refine s_ret (σ := [some (.str fl), some (.ref q), x2, x3, x4, x5, x6]) (v := .non) (D := { nx := fun _ H' => Q .non H', rt := Q }) ev_c fun H3 e3 => ?_
      exact (k H3 ((e1.trans e2).trans e3)).1 (wk.clean_none wp_ne wp_mem hf hfW cl)
end
end K10
namespace K10
open PySem L2 Evl Gr StX EnT ClX ClK RdX SrtT StS Fr
/-! ### verdicts: objects with one field -/
structure VCls (K : PySem.W.Frag) (C : Addr) (n : Str) : Prop where
  cls : Cls K C
  fld : NoAttr K C n
/-- an object of the class at C, its field n is v -/
def ValAt (C : Addr) (n : Str) (H : Hp) (o : Addr) (v : V) : Prop := ∃ dx, H o = some (.ins C dx [(n, v)])
theorem ValAt.mono {C : Addr} {n : Str} {H H' : Hp} {o : Addr} {v : V} (e : Ex H H') (h : ValAt C n H o v) : ValAt C n H' o v := by
  obtain ⟨dx, h⟩ := h
  exact ⟨dx, e _ _ h⟩
theorem val_ty {K : PySem.W.Frag} {C : Addr} {n : Str} {H : Hp} {o : Addr} {v : V} (G : VCls K C n) (I : FIsi K C) (h : ValAt C n H o v) : TyX K H (.ref o) (.ref C) := by
  obtain ⟨dx, h1⟩ := h
  exact .base (.ins h1 G.cls I.ca I.cn I.ct I.cm)
theorem ev_val {K : PySem.W.Frag} {C : Addr} {n : Str} {σ : L2.St} {H : Hp} {ta : TE} {o : Addr} {v : V} (G : VCls K C n) (ha : Ev ta σ H (.ref o)) (h : ValAt C n H o v) : Ev (tFld K ta n) σ H v := by
  obtain ⟨dx, h1⟩ := h
  refine ev_fld ha h1 G.cls G.fld ?_
  simp [List.lookup]
def spVI (C : Addr) (n : Str) : Sp := fun vs H Q _ => ∃ (o : Addr) (v : V) (dx : Addr), vs = [.ref o, v] ∧ H o = some (.ins C dx []) ∧ Q .non (upd H o (.ins C dx [(n, v)]))
def spVB (b : Bool) : Sp := fun vs H Q _ => ∃ o : Addr, vs = [.ref o] ∧ RetV (.bl b) H Q
def spVE (K : PySem.W.Frag) (C : Addr) (n : Str) : Sp := fun vs H Q _ => ∃ (o : Addr) (y : V), vs = [.ref o, y] ∧
  ((∃ (u : Addr) (v v' : V) (d d' : PyData), y = .ref u ∧ ValAt C n H o v ∧ ValAt C n H u v' ∧ Dp K H v d ∧ Dp K H v' d' ∧ SeqAt.shaped d = true ∧ SeqAt.shaped d' = true ∧ RetV (.bl (PyData.eqv d d')) H Q) ∨
   ∃ T : Value, TyX K H y T ∧ PySem.W.kitOne K T (.ref C) = some false ∧ RetV (.bl false) H Q)
section
variable {P : Program} {w : World} {K : PySem.W.Frag} {mg : Str → Option Value} {base : Heap}
/-! ### Right -/
abbrev sRi (i : Nat) : Stmt := inClass (top 33) i
theorem scRightI : FnScope ["self", "states"] ["self", "states"] (defScope (sRi 0)) := ⟨rfl, rfl, rfl, by decide +kernel, rfl, by decide +kernel, by decide +kernel⟩
theorem scRightB : FnScope ["self"] ["self"] (defScope (sRi 1)) := ⟨rfl, rfl, rfl, by decide +kernel, rfl, by decide +kernel, by decide +kernel⟩
theorem scRightE : FnScope ["self", "other"] ["self", "other"] (defScope (sRi 2)) := ⟨rfl, rfl, rfl, by decide +kernel, rfl, by decide +kernel, by decide +kernel⟩
theorem ok_RightI {C f : Addr} {fd : FuncData} (F : Fun K "__init__" "Right.__init__" (sRi 0) f fd) (G : VCls K C "states") : FnOk P w K mg base CX0 1 f fd ["self", "states"] (spVI C "states") := by
  refine F.ok scRightI (fun vs H Q E h => ?_) (fun cdv A outer s H vs Q E hr h => ?_)
  · obtain ⟨o, v, dx, rfl, _⟩ := h
    rfl
  · obtain ⟨o, v, dx, rfl, hO, k⟩ := h
    refine ⟨_, (pss_one (ps_fld (pv 0) (pv 1) (by rfl))), ?_⟩
    exact ⟨_, rfl, _, rfl, o, C, dx, [], rfl, hO, G.cls, G.fld, Nat.le_of_ble_eq_true rfl, k⟩
theorem ok_RightB {f : Addr} {fd : FuncData} (F : Fun K "__bool__" "Right.__bool__" (sRi 1) f fd) : FnOk P w K mg base CX0 1 f fd ["self"] (spVB true) := by
  refine F.ok scRightB (fun vs H Q E h => ?_) (fun cdv A outer s H vs Q E hr h => ?_)
  · obtain ⟨o, rfl, _⟩ := h
    rfl
  · obtain ⟨o, rfl, k⟩ := h
    refine ⟨_, (pss_one (ps_ret pe_bl)), ?_⟩
    exact s_ret ev_c k
theorem ok_RightE {C f : Addr} {fd : FuncData} (F : Fun K "__eq__" "Right.__eq__" (sRi 2) f fd) (g : mg "Right" = some (.ref C)) (G : VCls K C "states") (I : FIsi K C) (inst : mg "isinstance" = none) : FnOk P w K mg base CX0 1 f fd ["self", "other"] (spVE K C "states") := by
  refine F.ok scRightE (fun vs H Q E h => ?_) (fun cdv A outer s H vs Q E hr h => ?_)
  · obtain ⟨o, y, rfl, _⟩ := h
    rfl
  · obtain ⟨o, y, rfl, h⟩ := h
    refine ⟨_, (pss_one (ps_ret (pe_and (pe_callB call_isi (by rfl) inst (by decide +kernel) (pa_cons (pv 1) (pa_cons (pe_glob (v := .ref C) (by rfl) g (by rfl)) pa_nil))) (pe_one (pe_cmpR (op_eqD hr.units) (pe_fld (pv 0) rfl) (pe_fld (pv 1) rfl) (nomark _)))))), ?_⟩
    rcases h with ⟨u, v, v', d, d', rfl, hO, hU, hv, hv', sd, sd', k⟩ | ⟨T, ht, hk, k⟩
    · refine s_ret (ev_is (ev_andV (a := true) (ev_cb (ea_cons (ev_var rfl) (ea_cons ev_c ea_nil)) fun H1 e _ q => ⟨.ref u, .ref C, .ref C, .ref C, true, rfl, .own C, tyx_mono e (val_ty G I hU), I.own, q H1 (Ex.refl H1)⟩) fun _ =>
        ev_eqD (ed_of (ev_val (σ := [some (.ref o), some (.ref u)]) (ta := tVar 0) G (ev_var rfl) hO) fun H1 e => dp_up e d hv) (ed_of (ev_val (σ := [some (.ref o), some (.ref u)]) (ta := tVar 1) G (ev_var rfl) hU) fun H1 e => dp_up e d' hv') sd sd') ?_) k
      rw [Bool.true_and]
    · exact s_ret (ev_is (ev_andV (b := true) (a := false) (ev_cb (ea_cons (ev_var rfl) (ea_cons ev_c ea_nil)) fun H1 e _ q => ⟨y, .ref C, T, .ref C, false, rfl, .own C, tyx_mono e ht, hk, q H1 (Ex.refl H1)⟩) fun hb => absurd hb (by decide)) rfl) k
/-! ### Wrong -/
abbrev sWr (i : Nat) : Stmt := inClass (top 34) i
theorem scWrongI : FnScope ["self", "letter"] ["self", "letter"] (defScope (sWr 0)) := ⟨rfl, rfl, rfl, by decide +kernel, rfl, by decide +kernel, by decide +kernel⟩
theorem scWrongB : FnScope ["self"] ["self"] (defScope (sWr 1)) := ⟨rfl, rfl, rfl, by decide +kernel, rfl, by decide +kernel, by decide +kernel⟩
theorem scWrongE : FnScope ["self", "other"] ["self", "other"] (defScope (sWr 2)) := ⟨rfl, rfl, rfl, by decide +kernel, rfl, by decide +kernel, by decide +kernel⟩
theorem ok_WrongI {C f : Addr} {fd : FuncData} (F : Fun K "__init__" "Wrong.__init__" (sWr 0) f fd) (G : VCls K C "letter") : FnOk P w K mg base CX0 1 f fd ["self", "letter"] (spVI C "letter") := by
  refine F.ok scWrongI (fun vs H Q E h => ?_) (fun cdv A outer s H vs Q E hr h => ?_)
  · obtain ⟨o, v, dx, rfl, _⟩ := h
    rfl
  · obtain ⟨o, v, dx, rfl, hO, k⟩ := h
    refine ⟨_, (pss_one (ps_fld (pv 0) (pv 1) (by rfl))), ?_⟩
    exact ⟨_, rfl, _, rfl, o, C, dx, [], rfl, hO, G.cls, G.fld, Nat.le_of_ble_eq_true rfl, k⟩
theorem ok_WrongB {f : Addr} {fd : FuncData} (F : Fun K "__bool__" "Wrong.__bool__" (sWr 1) f fd) : FnOk P w K mg base CX0 1 f fd ["self"] (spVB false) := by
  refine F.ok scWrongB (fun vs H Q E h => ?_) (fun cdv A outer s H vs Q E hr h => ?_)
  · obtain ⟨o, rfl, _⟩ := h
    rfl
  · obtain ⟨o, rfl, k⟩ := h
    refine ⟨_, (pss_one (ps_ret pe_bl)), ?_⟩
    exact s_ret ev_c k
theorem ok_WrongE {C f : Addr} {fd : FuncData} (F : Fun K "__eq__" "Wrong.__eq__" (sWr 2) f fd) (g : mg "Wrong" = some (.ref C)) (G : VCls K C "letter") (I : FIsi K C) (inst : mg "isinstance" = none) : FnOk P w K mg base CX0 1 f fd ["self", "other"] (spVE K C "letter") := by
  refine F.ok scWrongE (fun vs H Q E h => ?_) (fun cdv A outer s H vs Q E hr h => ?_)
  · obtain ⟨o, y, rfl, _⟩ := h
    rfl
  · obtain ⟨o, y, rfl, h⟩ := h
    refine ⟨_, (pss_one (ps_ret (pe_and (pe_callB call_isi (by rfl) inst (by decide +kernel) (pa_cons (pv 1) (pa_cons (pe_glob (v := .ref C) (by rfl) g (by rfl)) pa_nil))) (pe_one (pe_cmpR (op_eqD hr.units) (pe_fld (pv 0) rfl) (pe_fld (pv 1) rfl) (nomark _)))))), ?_⟩
    rcases h with ⟨u, v, v', d, d', rfl, hO, hU, hv, hv', sd, sd', k⟩ | ⟨T, ht, hk, k⟩
    · refine s_ret (ev_is (ev_andV (a := true) (ev_cb (ea_cons (ev_var rfl) (ea_cons ev_c ea_nil)) fun H1 e _ q => ⟨.ref u, .ref C, .ref C, .ref C, true, rfl, .own C, tyx_mono e (val_ty G I hU), I.own, q H1 (Ex.refl H1)⟩) fun _ =>
        ev_eqD (ed_of (ev_val (σ := [some (.ref o), some (.ref u)]) (ta := tVar 0) G (ev_var rfl) hO) fun H1 e => dp_up e d hv) (ed_of (ev_val (σ := [some (.ref o), some (.ref u)]) (ta := tVar 1) G (ev_var rfl) hU) fun H1 e => dp_up e d' hv') sd sd') ?_) k
      rw [Bool.true_and]
    · exact s_ret (ev_is (ev_andV (b := true) (a := false) (ev_cb (ea_cons (ev_var rfl) (ea_cons ev_c ea_nil)) fun H1 e _ q => ⟨y, .ref C, T, .ref C, false, rfl, .own C, tyx_mono e ht, hk, q H1 (Ex.refl H1)⟩) fun hb => absurd hb (by decide)) rfl) k
end
end K10
namespace K10
open PySem L2 Evl Gr StX EnT ClX ClK RdX SrtT StS Fr LamX
abbrev sRtn : Stmt := top 35
abbrev sBks : Stmt := top 36
theorem init_val {C : Addr} {n : Str} {x dx : Addr} {v : V} {H1 : Hp} {Q : VK} {E : XK} (hx : H1 x = none) (hd : H1 dx = none) (hn : dx ≠ x) (k : ∀ H2, Ex H1 H2 → ValAt C n H2 x v → Q (.ref x) H2) :
    spVI C n [.ref x, v] (upd (upd H1 dx (.own x)) x (.ins C dx [])) (fun v H2 => v = .non ∧ Q (.ref x) H2) E := by
  refine ⟨x, v, dx, rfl, upd_same, rfl, k _ ?_ ⟨dx, upd_same⟩⟩
  exact Ex.mut ((Ex.new hd).trans (Ex.new (by rw [upd_ne hn.symm]; exact hx))) hx
theorem s_makeV {C : Addr} {n : Str} {σ : L2.St} {H : Hp} {t : TA} {v : V} {Q : VK} {E : XK} (h : EvA t σ H [v]) (k : ∀ H2 x, Ex H H2 → ValAt C n H2 x v → Q (.ref x) H2) : tMake C (spVI C n) [] E t σ H Q :=
  h H (Ex.refl H) _ fun H1 e1 x dx hx hd hn => init_val hx hd hn fun H2 e2 hv => k H2 x (e1.trans e2) hv
/-- a class of verdicts, made -/
structure GVal (P : Program) (w : World) (K : PySem.W.Frag) (mg : Str → Option Value) (base : Heap) (nm n : Str) (C fI : Addr) (fdI : FuncData) : Prop where
  g : mg nm = some (.ref C)
  m : Mk K C fI
  ok : FnOk P w K mg base CX0 1 fI fdI ["self", n] (spVI C n)
  b : Binds K fdI ["self", n] []
  v : VCls K C n
section
variable {P : Program} {w : World} {K : PySem.W.Frag} {mg : Str → Option Value} {base : Heap}
/-! ### rightness -/
/-- no rule: what isinstance says of it -/
def NoRule (K : PySem.W.Frag) (C : Addr) (H : Hp) (v : V) : Prop := ∃ T, TyX K H v T ∧ PySem.W.kitOne K T (.ref C) = some false
theorem NoRule.mono {K : PySem.W.Frag} {C : Addr} {H H' : Hp} {v : V} (e : Ex H H') (h : NoRule K C H v) : NoRule K C H' v := h.imp fun _ z => ⟨tyx_mono e z.1, z.2⟩
/-- the verdict on a rule -/
def Told (CR CW : Addr) (T : List (Addr × Str)) (f : Str) (ps : List Pr) (H : Hp) (Q : VK) : Prop := ∀ (H1 : Hp) (u : Addr), ExtN H H1 → Tabs T H1 →
  ((NoneW (lp ps) (TL.tl f) ∧ ∃ (p : Addr) (ol : List (L × L)) (ys : List Str), Wk (lp ps) (Wp f ps) ol ol.length ∧ NoPuts (lp ps) (ol.map Prod.fst) ∧ ys.Perm (ol.map fun p => mk p.1) ∧ ys.Pairwise SLn.Le ∧ H1 p = some (.tup (ys.map V.str)) ∧ ValAt CR "states" H1 u (.ref p)) ∨
   ∃ l, LeastW (lp ps) (TL.tl f) l ∧ l.length ≤ 45 ∧ ValAt CW "letter" H1 u (.str (mk l))) → Q (.ref u) H1
def spRtn (K : PySem.W.Frag) (C cB CR CW : Addr) (T : List (Addr × Str)) : Sp := fun vs H Q E => ∃ v, vs = [v] ∧ ((NoRule K C H v ∧ Out1 cB "part" (.str "rule") H E) ∨ ∃ (o : Addr) (f : Str) (ps : List Pr), v = .ref o ∧ RuleAt K C H o f ps ∧ Tabs T H ∧ Told CR CW T f ps H Q)
theorem scRtn : FnScope ["rule", "letter"] ["rule"] (defScope sRtn) := ⟨rfl, rfl, rfl, by decide +kernel, rfl, by decide +kernel, by decide +kernel⟩
/-- each rule is right or goes wrong after a least letter -/
theorem right_wrong {f : Str} {ps : List Pr} {ol : List (L × L)} (g : Good f ps) (wk : Wk (lp ps) (Wp f ps) ol ol.length) : NoneW (lp ps) (TL.tl f) ∨ ∃ l, LeastW (lp ps) (TL.tl f) l := by
  by_cases h : ∃ y, Sgs y ∧ Wr (lp ps) (TL.tl f) y
  · refine .inr ?_
    obtain ⟨y, h1, h2⟩ := h
    have key : ∀ (n : Nat) (y : L), Sgs y → Wr (lp ps) (TL.tl f) y → num y ≤ n → ∃ l, LeastW (lp ps) (TL.tl f) l := fun n => by
      induction n with
      | zero => exact fun y _ _ h => absurd h (by have := num_pos y; omega)
      | succ n ih =>
        intro y h1 h2 h3
        by_cases h : ∃ z, Sgs z ∧ Wr (lp ps) (TL.tl f) z ∧ num z ≤ n
        · obtain ⟨z, z1, z2, z3⟩ := h
          exact ih z z1 z2 z3
        · refine ⟨y, h1, h2, fun z z1 z2 => ?_⟩
          apply Classical.byContradiction
          intro lt
          exact h ⟨z, z1, z2, by omega⟩
    exact key _ y h1 h2 (Nat.le_refl _)
  · exact .inl fun y h1 h2 => h ⟨y, h1, h2⟩
theorem ok_Rtn {C cB fB cC CR CW fR fW mA f : Addr} {fd fdB fdR fdW dA : FuncData} {T : List (Addr × Str)} (F : Fun K "rightness" "rightness" sRtn f fd) (gC : mg "FrameRule" = some (.ref C)) (inst : mg "isinstance" = none) (G : FCls K C) (R : FIsi K C) (BR : GOne P w K mg base "BadRule" "part" cB fB fdB)
    (GR : GVal P w K mg base "Right" "states" CR fR fdR) (GW : GVal P w K mg base "Wrong" "letter" CW fW fdW) (hA : Meth K C "all_states" mA) (oA : FnOk P w K mg base (L2.CX P w) 5 mA dA ["self"] (spAll K C cC T)) (bA : Binds K dA ["self"] [])
    (GF : Gfn P w K mg base 4 "first_break" ["flag", "pairs"] (spFsb K)) : FnOk P w K mg base (L2.CX P w) 6 f fd ["rule"] (spRtn K C cB CR CW T) := by
  obtain ⟨fF, fdF, GF, kF, bF, gF⟩ := GF
  refine F.okX scRtn (fun vs H Q E h => ?_) (fun cdv A outer s H vs Q E hr h => ?_)
  · obtain ⟨v, rfl, _⟩ := h
    rfl
  · obtain ⟨v, rfl, h⟩ := h
    have r4 := hr.mono (show 4 ≤ 5 by decide)
    have r2 := hr.mono (show 2 ≤ 5 by decide)
    refine ⟨_, (pss_cons (ps_if (pt_not (pt_val (pe_callB call_isi (by rfl) inst (by decide +kernel) (pa_cons (pv 0) (pa_cons (pe_glob (v := .ref C) (by rfl) gC (by rfl)) pa_nil))))) (pss_one (ps_raise rfl (takes_of rfl rfl rfl rfl) (pmk_oex BR.ox BR.init BR.ty BR.ok r2 BR.b .nil pass0 (by rfl) BR.g (pa_cons pe_str pa_nil)))) pss_nil)
      (pss_cons (ps_set (i := 1) scRtn.nd rfl (.inl rfl) (pe_call GF r4 (by rfl) gF kF bF .nil pass0 (pa_cons (pe_fld (pv 0) rfl) (pa_cons (pe_fld (pv 0) rfl) pa_nil))))
      (pss_cons (ps_if (pt_cmpR op_isN (pv 1) pe_non (nomark _)) (pss_one (ps_ret (pe_make GR.m GR.ok r2 (by rfl) GR.g GR.b .nil pass0 (pa_cons (pe_meth0 (E := E) (pv 0) G.cls hA oA hr bA .nil (passes_call (takes_of rfl rfl rfl rfl) fun _ _ _ _ z => z)) pa_nil)))) pss_nil)
      (pss_one (ps_ret (pe_make GW.m GW.ok r2 (by rfl) GW.g GW.b .nil pass0 (pa_cons (pv 1) pa_nil))))))), ?_⟩
    rcases h with ⟨⟨Ty, h1, h2⟩, hE⟩ | ⟨o, fl, ps, rfl, hO, tabs, k⟩
    · exact q_when (b := true) (et_is (et_not (et_B (b := false) (ev_cb (ea_cons (ev_var rfl) (ea_cons ev_c ea_nil)) fun H1 e _ q => ⟨v, .ref C, Ty, .ref C, false, rfl, .own C, tyx_mono e h1, h2, q H1 (Ex.refl H1)⟩))) rfl) (fun _ H1 e1 => raise_one (ea_cons ev_c ea_nil) (hE.mono e1)) (fun z => absurd z (by decide))
    have g := hO.good
    have hf := f_ne g
    refine q_when (b := false) (et_is (et_not (et_B (ev_isF G R (ev_var rfl) hO))) rfl) (fun z => absurd z (by decide)) (fun _ H1 e1 => ?_)
    have hO1 := hO.mono e1
    obtain ⟨dx, q, xs, hi, hq, hp, _⟩ := id hO1
    refine q_call (ea_cons (ev_flag (ta := tVar 0) G (ev_var rfl) hO1) (ea_cons (ev_fld (ev_var rfl) hi G.cls G.pairs rfl) ea_nil)) fun H2 e2 => ⟨fl, q, xs, ps, rfl, ex_t e2 hq, hp.mono e2, g, fun H3 e3 => ?_⟩
    have E3 := (e1.trans e2).trans e3
    refine ⟨fun nw => ?_, fun l lw l45 => ?_⟩
    · show tSeq _ _ _ [some (.ref o), some .non] H3
      refine q_when (b := true) (et_is (et_test (ev_op (ev_var rfl) ev_c rv_isN)) (decide_eq_true rfl)) (fun _ H4 e4 => ?_) (fun z => absurd z (by decide))
      have E4 := E3.trans e4
      obtain ⟨dx4, q4, xs4, hi4, _⟩ := id (hO.mono E4)
      refine s_retR ⟨_, rfl, o, dx4, _, rfl, hi4, rfl, o, fl, ps, rfl, hO.mono E4, tabs_ex tabs E4, .inr ⟨nw.puts, .inr ⟨nw.flag hf, fun H5 p ol ys wk np pm up eN T5 h5 x dx hx hd hn => init_val hx hd hn fun H6 e6 hv => ?_⟩⟩⟩
      exact k H6 x ((ExtN.of E4).trans (eN.trans (ExtN.of e6))) (tabs_ex T5 e6) (.inl ⟨nw, p, ol, ys, wk, np, pm, up, e6 _ _ h5, hv⟩)
    · show tSeq _ _ _ [some (.ref o), some (.str (mk l))] H3
      refine q_when (b := false) (et_is (et_test (ev_op (ev_var rfl) ev_c rv_isN)) (decide_eq_false fun z => by cases z)) (fun z => absurd z (by decide)) (fun _ H4 e4 => ?_)
      refine s_retR (s_makeV (ea_cons (ev_var rfl) ea_nil) fun H5 x e5 hv => ?_)
      have E5 := (E3.trans e4).trans e5
      exact k H5 x (ExtN.of E5) (tabs_ex tabs E5) (.inr ⟨l, lw, l45, hv⟩)
/-! ### breaks -/
def spBks (K : PySem.W.Frag) (C : Addr) : Sp := fun vs H Q _ => ∃ (o : Addr) (f z : Str) (ps : List Pr), vs = [.ref o, .str z] ∧ RuleAt K C H o f ps ∧ sgB z 0 200 = true ∧ ∀ b : Bool, (b = true ↔ Wr (lp ps) (TL.tl f) (TL.tl z)) → RetV (.bl b) H Q
theorem scBks : FnScope ["rule", "letter", "frame"] ["rule", "letter"] (defScope sBks) := ⟨rfl, rfl, rfl, by decide +kernel, rfl, by decide +kernel, by decide +kernel⟩
theorem ok_Bks {C cL cC mF f : Addr} {fd dF : FuncData} (F : Fun K "breaks" "breaks" sBks f fd) (len : mg "len" = none) (G : FCls K C) (hF : Meth K C "frame" mF) (oF : FnOk P w K mg base (L2.CX P w) 5 mF dF ["self", "letter"] (spFrame K C cL cC)) (bF : Binds K dF ["self", "letter"] [])
    (gC : mg "Clashing" = some (.ref cC)) (hit : PySem.W.exmOne K (.ref cC) (.ref cC) = some true) : FnOk P w K mg base (L2.CX P w) 6 f fd ["rule", "letter"] (spBks K C) := by
  refine F.okX scBks (fun vs H Q E h => ?_) (fun cdv A outer s H vs Q E hr h => ?_)
  · obtain ⟨o, f, z, ps, rfl, _⟩ := h
    rfl
  · obtain ⟨o, fl, z, ps, rfl, hO, hz, k⟩ := h
    refine ⟨_, (pss_cons (ps_try_only (c := .ref cC) rfl rfl ⟨rfl, by decide, .inl gC⟩ (takes_of rfl rfl rfl rfl) (fun W pn xe tk _ => (pss_one (ps_set (i := 2) scBks.nd rfl (.inl rfl) (pe_meth (E := fun cls d G' => ∀ σ', W cls d σ' G') (pv 0) G.cls hF oF hr bF .nil (passes_call tk fun _ _ σ' _ z => z σ') (pa_cons (pv 1) pa_nil)))))
        (fun a oe cls d pn _ _ => (pss_one (ps_ret pe_bl))))
      (pss_one (ps_ret (pe_cmpR op_lt (pe_op op_add (pe_bm PySem.F.plainAttrs_str PySem.F.slot_str_find PySem.F.type_str_find mt_find (pv 2) (pa_cons (pe_fld (pv 0) rfl) pa_nil)) (pe_callB call_len (by rfl) len PySem.boot_len (pa_cons (pe_fld (pv 0) rfl) pa_nil))) (pe_callB call_len (by rfl) len PySem.boot_len (pa_cons (pv 2) pa_nil)) (nomark _))))), ?_⟩
    have g := hO.good
    have O := good_pok g
    have fl8 := sgB_iff.mp g.flag
    have lz := sgB_iff.mp hz
    rw [TL.len_tl] at lz
    obtain ⟨dx, q, xs, hi, _⟩ := id hO
    refine ⟨_, rfl, o, dx, _, rfl, hi, rfl, _, rfl, o, fl, ps, _, rfl, hO, .inr ⟨z, rfl, hz, ?_⟩⟩
    cases hb : bodyL (lp ps) [] (TL.tl z) with
    | none =>
      refine .inl ⟨rfl, fun d H1 hd e1 h1 σ' => ⟨true, hit, fun _ a ha => ?_, fun z => nomatch z⟩⟩
      exact s_ret (D := { nx := fun _ H' => Q .non H', rt := Q }) ev_c fun H2 e2 => k true ⟨fun _ t ht => (by rw [hb] at ht; cases ht), fun _ => rfl⟩ H2 (e1.trans e2)
    | some t =>
      refine .inr ⟨t, rfl, fun H1 e1 => ?_⟩
      dsimp only [gName, L2.start, List.map, List.set]
      have tl := body_len O hb
      simp only [List.length_nil] at tl
      have hO1 := hO.mono e1
      have fe : mk (TL.tl fl) = fl := (mk_eq rfl).symm
      have ff : mk t ++ fl = mk (t ++ TL.tl fl) := mk_app_r t fl
      refine s_ret (ev_op (ev_op (ev_find (a := mk t ++ fl) (ev_var rfl) (ev_flag (ta := tVar 0) G (ev_var rfl) hO1)) (ev_lenF G (ev_var rfl) hO1) rv_I0) (ev_cb (ea_cons (ev_var rfl) ea_nil) (rc_lenS (K := K) (z := mk t ++ fl) (by rw [ff, mk_len, List.length_append, ← TL.len_tl]; omega))) rv_I0) fun H2 e2 => k _ ?_ H2 (e1.trans e2)
      rw [decide_eq_true_iff, ff]
      have q := find_early t (TL.tl fl)
      rw [fe] at q
      have e3 : ((mk (t ++ TL.tl fl)).length : Int) = t.length + fl.length := by rw [mk_len, List.length_append, ← TL.len_tl]; omega
      rw [e3]
      constructor
      · intro lt t' ht'
        rw [hb] at ht'
        obtain rfl := Option.some.inj ht'
        exact q.mp (by omega)
      · intro h
        have := q.mpr (h t hb)
        omega
end
end K10
namespace K10
open PySem L2 Evl Gr StX EnT ClX ClK RdX SrtT StS Fr LamX
abbrev sShr : Stmt := top 37
/-- the states of a rule, in their order -/
def StsOf (f : Str) (ps : List Pr) (ys : List Str) : Prop := ∃ ol : List (L × L), Wk (lp ps) (Wp f ps) ol ol.length ∧ NoPuts (lp ps) (ol.map Prod.fst) ∧ ys.Perm (ol.map fun p => mk p.1) ∧ ys.Pairwise SLn.Le
/-- a row of texts as data -/
def tupD (ys : List Str) : PyData := .tuple (ys.map PyData.str)
theorem dp_strs {K : PySem.W.Frag} {H : Hp} : ∀ ys : List Str, DpAll K H (ys.map V.str) (ys.map PyData.str)
  | [] => .nil
  | y :: ys => .cons (.str y) (dp_strs ys)
theorem sts_low {f : Str} {ps : List Pr} {ys : List Str} (g : Good f ps) (h : StsOf f ps ys) : Low 1 (tupD ys) := by
  obtain ⟨ol, wk, _, pm, _⟩ := h
  refine low_tup fun d hd => ?_
  obtain ⟨y, hy, rfl⟩ := List.mem_map.mp hd
  obtain ⟨p, hp, rfl⟩ := List.mem_map.mp (pm.mem_iff.mp hy)
  exact low_str (sg_ok (sg_mk (wk.sgs (good_pok g) p hp)))
section
variable {P : Program} {w : World} {K : PySem.W.Frag} {mg : Str → Option Value} {base : Heap}
/-- b is what shows_right says of the paper y -/
def PapA (K : PySem.W.Frag) (CR CW : Addr) (f : Str) (ps : List Pr) (H : Hp) (y : V) (b : Bool) : Prop :=
  (∃ (u : Addr) (s : V) (d : PyData) (T : String) (tb : Bool), y = .ref u ∧ ValAt CR "states" H u s ∧ Dp K H s d ∧ SeqAt.shaped d = true ∧ TyX K H s (.type T) ∧ kitB T "tuple" = some tb ∧ (∀ ys, NoneW (lp ps) (TL.tl f) → StsOf f ps ys → b = (tb && PyData.eqv d (tupD ys))) ∧ (¬ NoneW (lp ps) (TL.tl f) → b = false)) ∨
  (∃ (u : Addr) (x : V), y = .ref u ∧ ValAt CW "letter" H u x ∧ ((SgV K H x 0 200 false ∧ b = false) ∨ ∃ z, x = .str z ∧ sgB z 0 200 = true ∧ (b = true ↔ Wr (lp ps) (TL.tl f) (TL.tl z)))) ∨
  (∃ T : Value, TyX K H y T ∧ PySem.W.kitOne K T (.ref CR) = some false ∧ PySem.W.kitOne K T (.ref CW) = some false ∧ b = false)
def spShr (K : PySem.W.Frag) (C cB CR CW : Addr) (T : List (Addr × Str)) : Sp := fun vs H Q E => ∃ v y, vs = [v, y] ∧ ((NoRule K C H v ∧ Out1 cB "part" (.str "rule") H E) ∨
  ∃ (o : Addr) (f : Str) (ps : List Pr) (b : Bool), v = .ref o ∧ RuleAt K C H o f ps ∧ (∀ H1, ExtN H H1 → RuleAt K C H1 o f ps) ∧ Tabs T H ∧ (∀ H1, ExtN H H1 → PapA K CR CW f ps H1 y b) ∧ ∀ H1, ExtN H H1 → Tabs T H1 → Q (.bl b) H1)
theorem scShr : FnScope ["rule", "value", "told"] ["rule", "value"] (defScope sShr) := ⟨rfl, rfl, rfl, by decide +kernel, rfl, by decide +kernel, by decide +kernel⟩
/-- isinstance of own classes -/
structure VKit (K : PySem.W.Frag) (CR CW : Addr) : Prop where
  r : FIsi K CR
  w : FIsi K CW
  rw_ : PySem.W.kitOne K (.ref CR) (.ref CW) = some false
  wr : PySem.W.kitOne K (.ref CW) (.ref CR) = some false
theorem ev_isK {σ : L2.St} {H : Hp} {ta : TE} {y : V} {T : Value} {D : Addr} {b : Bool} (ha : Ev ta σ H y) (h : TyX K H y T) (hk : PySem.W.kitOne K T (.ref D) = some b) : Ev (tCB (rIsi K) (tCons ta (tCons (tC (.ref D)) tNil))) σ H (.bl b) :=
  ev_cb (ea_cons ha (ea_cons ev_c ea_nil)) fun H1 e _ q => ⟨y, .ref D, T, .ref D, b, rfl, .own D, tyx_mono e h, hk, q H1 (Ex.refl H1)⟩
theorem ok_Shr {C cB CR CW f : Addr} {fd : FuncData} {T : List (Addr × Str)} (F : Fun K "shows_right" "shows_right" sShr f fd) (TT : GlbT mg) (W : GlbW mg) (gR : mg "Right" = some (.ref CR)) (gW : mg "Wrong" = some (.ref CW)) (VR : VCls K CR "states") (VW : VCls K CW "letter") (VK' : VKit K CR CW)
    (GRt : ∃ f fd, FnOk P w K mg base (L2.CX P w) 6 f fd ["rule"] (spRtn K C cB CR CW T) ∧ PySem.W.keepIn K (.ref f) = true ∧ Binds K fd ["rule"] [] ∧ mg "rightness" = some (.ref f))
    (GBk : ∃ f fd, FnOk P w K mg base (L2.CX P w) 6 f fd ["rule", "letter"] (spBks K C) ∧ PySem.W.keepIn K (.ref f) = true ∧ Binds K fd ["rule", "letter"] [] ∧ mg "breaks" = some (.ref f))
    (GL : Gfn P w K mg base 3 "is_letter" ["value"] (spLet K)) : FnOk P w K mg base (L2.CX P w) 7 f fd ["rule", "value"] (spShr K C cB CR CW T) := by
  obtain ⟨fT, fdT, GT, kT, bT, gT⟩ := GRt
  obtain ⟨fB, fdB, GB, kB, bB, gB⟩ := GBk
  obtain ⟨fL, fdL, GL, kL, bL, gL⟩ := GL
  refine F.okX scShr (fun vs H Q E h => ?_) (fun cdv A outer s H vs Q E hr h => ?_)
  · obtain ⟨v, y, rfl, _⟩ := h
    rfl
  · obtain ⟨v, y, rfl, h⟩ := h
    have r3 := hr.mono (show 3 ≤ 6 by decide)
    have hu : (A.deeper (PyProof.Rows.envOfC "shows_right" (defScope sShr) s.heap.objs.size f cdv)).units + 64 < cLine := by have := hr.un; omega
    refine ⟨_, (pss_cons (ps_set (i := 2) scShr.nd rfl (.inl rfl) (pe_call (E := E) GT hr (by rfl) gT kT bT .nil (passes_call (takes_of rfl rfl rfl rfl) fun _ _ _ _ z => z) (pa_cons (pv 0) pa_nil)))
      (pss_cons (ps_if (pt_val (pe_callB call_isi (by rfl) TT.inst (by decide +kernel) (pa_cons (pv 1) (pa_cons (pe_glob (v := .ref CR) (by rfl) gR (by rfl)) pa_nil))))
        (pss_one (ps_ret (pe_and (pe_callB call_isi (by rfl) TT.inst (by decide +kernel) (pa_cons (pv 2) (pa_cons (pe_glob (v := .ref CR) (by rfl) gR (by rfl)) pa_nil))) (pe_and (pe_callB call_isi (by rfl) TT.inst (by decide +kernel) (pa_cons (pe_fld (pv 1) rfl) (pa_cons (pe_bltn (v := .ty "tuple") (by rfl) W.tuple (by decide +kernel) rfl) pa_nil)))
            (pe_one (pe_cmpR (op_eqD hu) (pe_fld (pv 1) rfl) (pe_fld (pv 2) rfl) (nomark _))))))) pss_nil)
      (pss_one (ps_ret (pe_and (pe_callB call_isi (by rfl) TT.inst (by decide +kernel) (pa_cons (pv 1) (pa_cons (pe_glob (v := .ref CW) (by rfl) gW (by rfl)) pa_nil))) (pe_and (pe_call GL r3 (by rfl) gL kL bL .nil pass0 (pa_cons (pe_fld (pv 1) rfl) pa_nil))
            (pe_one (pe_call (E := E) GB hr (by rfl) gB kB bB .nil (passes_call (takes_of rfl rfl rfl rfl) fun _ _ _ _ z => z) (pa_cons (pv 0) (pa_cons (pe_fld (pv 1) rfl) pa_nil)))))))))), ?_⟩
    rcases h with ⟨h1, hE⟩ | ⟨o, fl, ps, b, rfl, hO, hON, tabs, pap, k⟩
    · exact q_call (ea_cons (ev_var rfl) ea_nil) fun H1 e1 => ⟨v, rfl, .inl ⟨h1.mono e1, hE.mono e1⟩⟩
    refine q_call (ea_cons (ev_var rfl) ea_nil) fun H1 e1 => ⟨_, rfl, .inr ⟨o, fl, ps, rfl, hO.mono e1, tabs_ex tabs e1, fun H2 t eN T2 told => ?_⟩⟩
    have EN : ExtN H H2 := (ExtN.of e1).trans eN
    show tSeq _ _ _ [some (.ref o), some y, some (.ref t)] H2
    have g := hO.good
    rcases pap H2 EN with ⟨u, st, d, Ty, tb, rfl, hv, hd, sd, ht, hk, k1, k2⟩ | ⟨u, x, rfl, hv, hx⟩ | ⟨Ty, ht, hk1, hk2, rfl⟩
    · refine q_when (b := true) (et_B (ev_isK (ev_var rfl) (val_ty VR VK'.r hv) VK'.r.own)) (fun _ H3 e3 => ?_) (fun z => absurd z (by decide))
      rcases told with ⟨nw, p, ol, ys, wk, np, pm, up, hp, tv⟩ | ⟨l, lw, l45, tv⟩
      · have so : StsOf fl ps ys := ⟨ol, wk, np, pm, up⟩
        have := k1 ys nw so
        subst this
        have hv3 := hv.mono e3
        have tv3 := tv.mono e3
        refine s_ret (ev_is (ev_andV (a := true) (ev_isK (ev_var rfl) (val_ty VR VK'.r tv3) VK'.r.own) fun _ => ev_andV (ev_cb (ea_cons (ev_val (ta := tVar 1) VR (ev_var rfl) hv3) (ea_cons ev_c ea_nil)) (rc_isi (tyx_mono e3 ht) hk)) fun _ =>
          ev_eqD (d := d) (e := tupD ys) (ed_of (ev_val (ta := tVar 1) VR (ev_var rfl) hv3) fun H4 e4 => dp_up (e3.trans e4) d hd) (ed_of (ev_val (ta := tVar 2) VR (ev_var rfl) tv3) fun H4 e4 => .tup (st_of ((e3.trans e4) _ _ hp)) (dp_strs ys)) sd (low_shaped (sts_low g so) (by decide))) ?_) fun H4 e4 => k H4 (EN.trans (ExtN.of (e3.trans e4))) (tabs_ex T2 (e3.trans e4))
        rw [Bool.true_and]
      · have := k2 (fun z => lw.not_none z)
        subst this
        exact s_ret (ev_is (ev_andV (a := false) (b := true) (ev_isK (ev_var rfl) (val_ty VW VK'.w (tv.mono e3)) VK'.wr) fun z => absurd z (by decide)) rfl) fun H4 e4 => k H4 (EN.trans (ExtN.of (e3.trans e4))) (tabs_ex T2 (e3.trans e4))
    · refine q_when (b := false) (et_B (ev_isK (ev_var rfl) (val_ty VW VK'.w hv) VK'.wr)) (fun z => absurd z (by decide)) (fun _ H3 e3 => ?_)
      have hv3 := hv.mono e3
      have fld : ∀ {H4 : Hp}, Ex H3 H4 → Ev (tFld K (tVar 1) "letter") [some (.ref o), some (.ref u), some (.ref t)] H4 x := fun e4 => ev_val (ta := tVar 1) VW (ev_var rfl) (hv3.mono e4)
      rcases hx with ⟨hs, rfl⟩ | ⟨z, rfl, hz, hb⟩
      · exact s_ret (ev_is (ev_andV (a := true) (ev_isK (ev_var rfl) (val_ty VW VK'.w hv3) VK'.w.own) fun _ => ev_andV (a := false) (b := true) (ev_let (fld (Ex.refl H3)) (hs.mono e3)) fun z => absurd z (by decide)) rfl) fun H4 e4 => k H4 (EN.trans (ExtN.of (e3.trans e4))) (tabs_ex T2 (e3.trans e4))
      · have sg : SgV K H3 (.str z) 0 200 true := by
          have := sgv_str (K := K) (H := H3) (z := z) (lo := 0) (hi := 200) (by have := sgB_iff.mp hz; omega)
          rwa [hz] at this
        have br : Ev (tCall (spBks K C) [] E (tCons (tVar 0) (tCons (tFld K (tVar 1) "letter") tNil))) [some (.ref o), some (.ref u), some (.ref t)] H3 (.bl b) := fun H4 e4 Q4 q4 =>
          (ea_cons (ev_var rfl) (ea_cons (fld (Ex.refl H3)) ea_nil)) H4 e4 _ fun H5 e5 => ⟨o, fl, z, ps, rfl, hON H5 (EN.trans (ExtN.of (e3.trans (e4.trans e5)))), hz, fun b2 hb2 => by
            have : b2 = b := by rw [Bool.eq_iff_iff, hb2, hb]
            rw [this]
            exact fun H6 e6 => q4 H6 (e5.trans e6)⟩
        refine s_ret (ev_is (ev_andV (a := true) (ev_isK (ev_var rfl) (val_ty VW VK'.w hv3) VK'.w.own) fun _ => ev_andV (a := true) (ev_let (fld (Ex.refl H3)) sg) fun _ => br) ?_) fun H4 e4 => k H4 (EN.trans (ExtN.of (e3.trans e4))) (tabs_ex T2 (e3.trans e4))
        rw [Bool.true_and, Bool.true_and]
    · refine q_when (b := false) (et_B (ev_isK (ev_var rfl) ht hk1)) (fun z => absurd z (by decide)) (fun _ H3 e3 => ?_)
      exact s_ret (ev_is (ev_andV (a := false) (b := true) (ev_isK (ev_var rfl) (tyx_mono e3 ht) hk2) fun z => absurd z (by decide)) rfl) fun H4 e4 => k H4 (EN.trans (ExtN.of (e3.trans e4))) (tabs_ex T2 (e3.trans e4))
end
end K10
namespace K10
open PySem L2 Evl Gr StX EnT ClX ClK RdX SrtT StS Fr
abbrev sIn2 : Stmt := top 50
abbrev sIsw : Stmt := top 48
abbrev sLng : Stmt := top 51
/-! ### rows of texts in order -/
def leT (a b : Str) : Bool := decide (a.cps.toList ≤ b.cps.toList)
theorem sortT_ok {ks : List Str} (nd : ks.Nodup) : (ks.mergeSort leT).Perm ks ∧ (ks.mergeSort leT).Pairwise StO.lt := by
  refine ⟨List.mergeSort_perm _ _, ?_⟩
  have h := List.pairwise_mergeSort (le := leT) (fun a b c h h' => decide_eq_true (List.le_trans (of_decide_eq_true h) (of_decide_eq_true h')))
    (fun a b => by
      unfold leT
      rw [Bool.or_eq_true, decide_eq_true_iff, decide_eq_true_iff]
      exact List.le_total _ _) ks
  have nd2 : (ks.mergeSort leT).Nodup := (List.mergeSort_perm ks leT).nodup_iff.mpr nd
  refine (h.and nd2).imp fun {a b} ⟨h1, h2⟩ => StO.lt_of_ne (fun z => ?_) h2
  exact List.not_lt.mpr (of_decide_eq_true h1) (StO.lt_iff.mp z)
/-- shorter ones first -/
def byLen (ys : List Str) (n : Nat) : List Str := (List.range n).flatMap fun m => ys.filter fun z => decide (z.length = m)
theorem byLen_succ (ys : List Str) (n : Nat) : byLen ys (n + 1) = byLen ys n ++ ys.filter fun z => decide (z.length = n) := by
  unfold byLen
  rw [List.range_succ, List.flatMap_append]
  simp
theorem byLen_mem {ys : List Str} {n : Nat} {z : Str} : z ∈ byLen ys n ↔ z ∈ ys ∧ z.length < n := by
  unfold byLen
  rw [List.mem_flatMap]
  constructor
  · rintro ⟨m, hm, hz⟩
    obtain ⟨h1, h2⟩ := List.mem_filter.mp hz
    have := of_decide_eq_true h2
    have := List.mem_range.mp hm
    exact ⟨h1, by omega⟩
  · rintro ⟨h1, h2⟩
    exact ⟨z.length, List.mem_range.mpr h2, List.mem_filter.mpr ⟨h1, decide_eq_true rfl⟩⟩
theorem byLen_le {ys : List Str} (up : ys.Pairwise StO.lt) : ∀ n, (byLen ys n).Pairwise SLn.Le ∧ (byLen ys n).Nodup
  | 0 => ⟨List.Pairwise.nil, List.nodup_nil⟩
  | n + 1 => by
    obtain ⟨h1, h2⟩ := byLen_le up n
    rw [byLen_succ]
    have f1 : (ys.filter fun z => decide (z.length = n)).Pairwise StO.lt := up.sublist List.filter_sublist
    refine ⟨List.pairwise_append.mpr ⟨h1, ?_, fun a ha b hb => ?_⟩, List.nodup_append.mpr ⟨h2, f1.imp fun {a b} h z => ?_, fun a ha b hb z => ?_⟩⟩
    · refine List.Pairwise.imp_of_mem (fun {a b} ha hb h => ?_) f1
      have la := of_decide_eq_true (List.mem_filter.mp ha).2
      have lb := of_decide_eq_true (List.mem_filter.mp hb).2
      exact .inr ⟨by omega, List.le_of_lt (StO.lt_iff.mp h)⟩
    · have la := (byLen_mem.mp ha).2
      have lb := of_decide_eq_true (List.mem_filter.mp hb).2
      exact .inl (by omega)
    · rw [z] at h
      exact StO.lt_irr b h
    · have la := (byLen_mem.mp ha).2
      have lb := of_decide_eq_true (List.mem_filter.mp hb).2
      rw [z] at la
      omega
theorem byLen_all {ys : List Str} (up : ys.Pairwise StO.lt) {n : Nat} (h : ∀ z ∈ ys, z.length < n) : (byLen ys n).Perm ys := by
  have nd : ys.Nodup := up.imp fun {a b} h z => by
    rw [z] at h
    exact StO.lt_irr b h
  refine (List.perm_ext_iff_of_nodup (byLen_le up n).2 nd).mpr fun z => ?_
  rw [byLen_mem]
  exact ⟨fun a => a.1, fun a => ⟨a, h z a⟩⟩
theorem byLen_len (ys : List Str) : ∀ n, (byLen ys n).length ≤ n * ys.length
  | 0 => Nat.zero_le _
  | n + 1 => by
    rw [byLen_succ, List.length_append, Nat.succ_mul]
    have := byLen_len ys n
    have := List.length_filter_le (fun z => decide (z.length = n)) ys
    omega
section
variable {K : PySem.W.Frag} {σ : L2.St} {H : Hp} {te tl ta tb ti to : TE}
theorem el_sorted {ks ys : List Str} (h : EvL tl σ H (ks.map V.str)) (hn : ks.length < 64) (nd : ks.Nodup) (pm : ys.Perm ks) (up : ys.Pairwise StO.lt) : EvL (tCB (rSortedS K) (tCons tl tNil)) σ H (ys.map V.str) := fun H1 e Q q =>
  h H1 e _ fun a H2 ha e2 h2 => ⟨a, ks, rfl, sq_of h2, hn, fun zs r pz srt hr => by
    have e3 : zs = ys := StO.one (StO.rows srt (pz.nodup_iff.mpr nd)) up fun z => by rw [pz.mem_iff, pm.mem_iff]
    rw [e3]
    exact q r _ (fresh_back e2 hr) (e2.trans (Ex.new hr)) upd_same⟩
theorem el_catP {p : Addr} {xs ys : List V} (ha : Ev ta σ H (.ref p)) (hp : H p = some (.lst xs)) (hb : EvL tb σ H ys) (hz : xs.length + ys.length ≤ 100000) : EvL (tOp rCat ta tb) σ H (xs ++ ys) := fun H1 e Q k =>
  ha H1 e _ fun H2 e2 => hb H2 (e.trans e2) _ fun r H3 _ e3 hr => ⟨p, r, xs, ys, rfl, rfl, (e.trans (e2.trans e3)) _ _ hp, hr, sz_of hz, fun a ha => k a _ (fresh_back (e2.trans e3) ha) ((e2.trans e3).trans (Ex.new ha)) (by rw [upd_same])⟩
end
section
variable {P : Program} {w : World} {K : PySem.W.Frag} {mg : Str → Option Value} {base : Heap}
/-! ### _law_is_wrong -/
abbrev nIsw : List Str := ["_law_plan_here", "_law_letter", "_law_body_here"]
def spIsw : Sp := fun vs H Q _ => ∃ (v : V) (z f : Str) (ps : List Pr), vs = [v, .str z] ∧ z.length ≤ 200 ∧ Sg z = true ∧ PlanAt H v f ps ∧ Good f ps ∧ ∀ b : Bool, (b = true ↔ Wr (lp ps) (TL.tl f) (TL.tl z)) → RetV (.bl b) H Q
theorem scIsw : FnScope nIsw ["_law_plan_here", "_law_letter"] (defScope sIsw) := ⟨rfl, rfl, rfl, by decide +kernel, rfl, by decide +kernel, by decide +kernel⟩
theorem ok_Isw {f : Addr} {fd : FuncData} (F : Fun K "_law_is_wrong" "_law_is_wrong" sIsw f fd) (len : mg "len" = none) (GB : Gfn P w K mg base 2 "_law_body" ["_law_plan_here", "_law_letter"] spLbo) : FnOk P w K mg base CX0 3 f fd ["_law_plan_here", "_law_letter"] spIsw := by
  obtain ⟨fB, fdB, GB, kB, bB, gB⟩ := GB
  refine F.ok scIsw (fun vs H Q E h => ?_) (fun cdv A outer s H vs Q E hr h => ?_)
  · obtain ⟨v, z, f, ps, rfl, _⟩ := h
    rfl
  · obtain ⟨v, z, fl, ps, rfl, hz, sg, hv, g, k⟩ := h
    refine ⟨_, (pss_cons (ps_set (i := 2) scIsw.nd rfl (.inl rfl) (pe_call GB hr (by rfl) gB kB bB .nil pass0 (pa_cons (pv 0) (pa_cons (pv 1) pa_nil))))
      (pss_one (ps_ret (pe_or (pe_cmpR op_isN (pv 2) pe_non (nomark _)) (pe_one (pe_cmpR op_lt (pe_bm PySem.F.plainAttrs_str PySem.F.slot_str_find PySem.F.type_str_find mt_find (pe_op op_add_str (pv 2) (pe_ix ix_tup (pv 0) pe_int (fun _ _ => rfl))) (pa_cons (pe_ix ix_tup (pv 0) pe_int (fun _ _ => rfl)) pa_nil)) (pe_callB call_len (by rfl) len PySem.boot_len (pa_cons (pv 2) pa_nil)) (nomark _))))))), ?_⟩
    have O := good_pok g
    have f8 := sgB_iff.mp g.flag
    obtain ⟨t, l, xs, rfl, ht, hl, hp⟩ := id hv
    refine q_asg (v := bodyV (bodyL (lp ps) [] (TL.tl z))) (ev_call (ea_cons (ev_var rfl) (ea_cons (ev_var rfl) ea_nil)) fun H1 e1 Q1 q1 E1 => ⟨_, z, fl, ps, rfl, hz, sg, hv.mono e1, g, q1⟩) fun H1 e1 => ?_
    cases hb : bodyL (lp ps) [] (TL.tl z) with
    | none =>
      have nn : bodyV (none : Option L) = V.non := rfl
      rw [nn]
      exact s_ret (ev_orV (a := true) (b := true) (ev_is (ev_op (ev_var rfl) ev_c rv_isN) (by rw [decide_eq_true rfl])) fun z => absurd z (by decide)) fun H2 e2 => k true ⟨fun _ t ht => (by rw [hb] at ht; cases ht), fun _ => rfl⟩ H2 (e1.trans e2)
    | some b =>
      have nn : bodyV (some b : Option L) = V.str (mk b) := rfl
      rw [nn]
      have bl := body_len O hb
      simp only [List.length_nil] at bl
      have zl : (TL.tl z).length ≤ 200 := by rw [← TL.len_tl]; exact hz
      have pl : Ev (tOp (rIxT K) (tVar 0) (tC (.int 0))) [some (.ref t), some (.str z), some (.str (mk b))] H1 (.str fl) := ev_op (ev_var (i := 0) rfl) ev_c (rv_ixT_ (st_of (e1 _ _ ht)) (i := 0) rfl)
      have ff : mk b ++ fl = mk (b ++ TL.tl fl) := mk_app_r b fl
      have fe : mk (TL.tl fl) = fl := (mk_eq rfl).symm
      have q := find_early b (TL.tl fl)
      rw [fe] at q
      refine s_ret (ev_is (ev_orV (a := false) (ev_is (ev_op (ev_var rfl) ev_c rv_isN) (by rw [decide_eq_false (fun z => by cases z)])) fun _ => ev_op (ev_find (ev_addS (a := mk b) (b := fl) (ev_var rfl) pl (by rw [mk_len]; omega)) pl) (ev_cb (ea_cons (ev_var rfl) ea_nil) (rc_lenS (K := K) (z := mk b) (by rw [mk_len]; omega))) rv_I0) (congrArg V.bl (Bool.false_or _))) fun H2 e2 => k _ ?_ H2 (e1.trans e2)
      rw [ff, mk_len, decide_eq_true_iff, q]
      constructor
      · intro h t' ht'
        rw [hb] at ht'
        obtain rfl := Option.some.inj ht'
        exact h
      · exact fun h => h b hb
abbrev rStrV : List V → Hp → VK → Prop := fun xs H Q => (∃ i, xs = [.int i] ∧ i.natAbs.log2 < 1920 ∧ Q (.str (toString i)) H) ∨ ∃ a, xs = [.str a] ∧ Q (.str a) H
/-! ### _law_in_order -/
abbrev nIn2 : List Str := ["_law_words", "_law_found_here", "_law_many", "_law_one", "_law_word"]
def spIn2 : Sp := fun vs H Q _ => ∃ (a : Addr) (ks : List Str), vs = [.ref a] ∧ H a = some (.lst (ks.map V.str)) ∧ ks.length < 64 ∧ ks.Nodup ∧ (∀ z ∈ ks, z.length < 9) ∧
  ∀ (p : Addr) (zs : List Str) H1, H p = none → Ex H H1 → H1 p = some (.lst (zs.map V.str)) → zs.Perm ks → zs.Pairwise SLn.Le → Q (.ref p) H1
theorem scIn2 : FnScope nIn2 ["_law_words"] (defScope sIn2) := ⟨rfl, rfl, rfl, by decide +kernel, rfl, by decide +kernel, by decide +kernel⟩
theorem ok_In2 {f : Addr} {fd : FuncData} (F : Fun K "_law_in_order" "_law_in_order" sIn2 f fd) (T : GlbT mg) (W : GlbW mg) : FnOk P w K mg base CX0 1 f fd ["_law_words"] spIn2 := by
  refine F.ok scIn2 (fun vs H Q E h => ?_) (fun cdv A outer s H vs Q E hr h => ?_)
  · obtain ⟨a, ks, rfl, _⟩ := h
    rfl
  · obtain ⟨a, ks, rfl, hd, h64, nd, h9, k⟩ := h
    refine ⟨_, (pss_cons (ps_set (i := 1) scIn2.nd rfl (.inl rfl) (pe_lst pa_nil))
      (pss_cons (ps_for PassesOwn.never rfl (pi_range1 (by rfl) W.range (pa_cons pe_int pa_nil)) (pg_name (i := 2) scIn2.nd rfl (.inr rfl))
        (pss_one (ps_set (i := 1) scIn2.nd rfl (.inl rfl) (pe_op op_cat (pv 1) (pe_lc (tt := tTest (tOp rEq (tCB (rLenV K) (tCons (tVar 3) tNil)) (tVar 2))) (own := [("_law_one", 3)]) (g := gName 3) rfl scIn2.nd (pi_list (pe_callB cr_sortedS (by rfl) W.sorted (by decide +kernel) (pa_cons (pe_lc (own := [("_law_word", 4)]) (g := gName 4) rfl scIn2.nd (pi_list (pv 0)) (blkOk_by (own := [("_law_word", 4)]) (N := nIn2) (sc := defScope sIn2) (by decide +kernel))
            (fun _ _ _ _ _ => pg_name (i := 4) scIn2.nd rfl (Or.inl rfl)) (fun _ _ _ _ _ => pts_nil) (fun _ _ _ _ _ => pe_callTy OwX.call_strV (by rfl) T.str (by decide +kernel) (pa_cons (pv 4) pa_nil))) pa_nil)))
          (blkOk_by (own := [("_law_one", 3)]) (N := nIn2) (sc := defScope sIn2) (by decide +kernel)) (fun _ _ _ _ _ => pg_name (i := 3) scIn2.nd rfl (Or.inl rfl)) (fun _ _ _ _ _ => pts_one (pt_cmpR op_eq (pe_callB call_len (by rfl) T.len PySem.boot_len (pa_cons (pv 3) pa_nil)) (pv 2) (nomark _))) (fun _ _ _ _ _ => pv 3))))))
      (pss_one (ps_ret (pv 1))))), ?_⟩
    obtain ⟨pm, up⟩ := sortT_ok nd
    generalize ks.mergeSort leT = ys at pm up
    have ysl : ys.length < 64 := by rw [pm.length_eq]; exact h64
    refine q_asgL (el_lst ea_nil (by show 0 ≤ 100000; decide)) fun l0 H1 h0 e1 hl0 => ?_
    refine q_forR1 (n := 9) (ea_cons ev_c ea_nil) (by decide) (fun i σ' H' => ∃ l, (∃ x2 : Option V, σ' = [some (.ref a), some (.ref l), x2, none, none]) ∧ Ex H H' ∧ H l = none ∧ H' l = some (.lst ((byLen ys i).map V.str))) (fun H2 e2 => ⟨l0, ⟨none, rfl⟩, e1.trans e2, h0, e2 _ _ hl0⟩) ?_ ?_
    · rintro i σ' H2 hi ⟨l, ⟨x2, rfl⟩, e2, hln, hl⟩
      have bl := byLen_len ys i
      have fl := List.length_filter_le (fun z => decide (z.length = i)) ys
      have b9 : i * ys.length ≤ 9 * 64 := Nat.mul_le_mul (by omega) (by omega)
      have words : EvL (tLc (iList K (tVar 0)) (gName 4) (fun σ H Q => Q true H) (tCB rStrV (tCons (tVar 4) tNil)) [4]) [some (.ref a), some (.ref l), some (.int (i : Nat)), none, none] H2 (ks.map V.str) := by
        have := el_mapL (K := K) (α := Str) V.str (l := ks) (a := a) (j := 4) (vs := [4]) (t := fun σ H Q => Q true H) (te := tCB rStrV (tCons (tVar 4) tNil)) (σ := [some (.ref a), some (.ref l), some (.int (i : Nat)), none, none]) (H := H2) (tl := tVar 0) (fun _ => true) V.str (ev_var rfl) (sq_of (e2 _ _ hd)) (by omega) (fun _ => rfl) (fun _ _ _ _ => et_none) (fun z _ H3 _ _ => ev_cb (ea_cons (ev_var rfl) ea_nil) fun H4 e4 Q q => .inr ⟨z, rfl, q H4 (Ex.refl H4)⟩)
        rwa [List.filter_eq_self.mpr (fun _ _ => rfl)] at this
      refine s_asgL (el_catP (ev_var rfl) hl (el_mapNL (K := K) (α := Str) V.str (l := ys) (j := 3) (vs := [3]) (t := tTest (tOp rEq (tCB (rLenV K) (tCons (tVar 3) tNil)) (tVar 2))) (te := tVar 3) (fun z => decide (z.length = i)) V.str
        (el_sorted (K := K) words h64 nd pm up) (by omega) (fun _ => rfl)
        (fun z hz H3 _ => et_is (et_test (ev_op (ev_cb (ea_cons (ev_var rfl) ea_nil) (rc_lenS (K := K) (z := z) (by have := h9 z (pm.mem_iff.mp hz); omega))) (ev_var rfl) (rv_eq rfl))) (by rw [vint_inj, decide_eq_decide]; omega)) (fun z _ H3 _ _ => ev_var rfl)) (by rw [List.length_map, List.length_map]; omega)) fun l' H3 hl' e3 h3 => ?_
      refine ⟨l', ⟨_, rfl⟩, e2.trans e3, fresh_back e2 hl', ?_⟩
      rw [h3, byLen_succ, List.map_append]
    · rintro σ' H2 ⟨l, ⟨x2, rfl⟩, e2, hln, hl⟩
      refine s_ret (v := .ref l) (ev_var rfl) fun H3 e3 => ?_
      exact k l (byLen ys 9) H3 hln (e2.trans e3) (e3 _ _ hl) ((byLen_all up fun z hz => h9 z (pm.mem_iff.mp hz)).trans pm) (byLen_le up 9).1
end
end K10
namespace K10
open PySem L2 Evl Gr StX EnT ClX ClK RdX SrtT StS Fr
abbrev sFnd : Stmt := top 52
/-- letters in the row -/
def lts (ol : List (L × L)) : List V := ol.map fun p => V.str (mk p.2)
theorem lts_snoc (ol : List (L × L)) (p : L × L) : lts (ol ++ [p]) = lts ol ++ [.str (mk p.2)] := by
  unfold lts
  rw [List.map_append]
  rfl
/-- the first n states go on with both signs -/
def NoP (ps : LP) (ol : List (L × L)) (n : Nat) : Prop := ∀ (j : Nat) p, j < n → ol[j]? = some p → ∀ c, Fr.Bit c → sendL ps p.1 c ≠ none
theorem nop_all {ps : LP} {ol : List (L × L)} (h : NoP ps ol ol.length) : NoPuts ps (ol.map Prod.fst) := fun e he c hc => by
  obtain ⟨p, hp, rfl⟩ := List.mem_map.mp he
  obtain ⟨j, hj⟩ := List.getElem?_of_mem hp
  exact h j p (List.getElem?_eq_some_iff.mp hj).1 hj c hc
theorem body_next {ps : LP} {W : List L} {r t e : L} {c : Nat} (hp : ∀ q ∈ ps, q.1 ∈ W) (h : Rch ps r t) (he : stOf W t = e) : bodyL ps [] (r ++ [c]) = (sendL ps e c).map (t ++ ·) := by
  rw [body_snoc, h.2]
  show (sendL ps t c).map _ = _
  rw [send_st hp, he]
section
variable {K : PySem.W.Frag} {σ : L2.St} {H : Hp} {te ta tb : TE}
theorem ev_neNilP {p : Addr} {zs : List Str} (hz : ∀ z ∈ zs, Sg z = true) (h : Ev te σ H (.ref p)) (hp : H p = some (.lst (zs.map V.str))) : Ev (tOp (rNeD K) te (tLst tNil)) σ H (.bl (!decide (zs = []))) := fun H1 e Q q =>
  h H1 e _ fun H2 e2 => ⟨by decide, fun l hl => ⟨.list (zs.map PyData.str), .list [], .lst (sq_of ((Ex.new hl) _ _ ((e.trans e2) _ _ hp))) (dps_strs zs), .lst (sq_of upd_same) .nil, shaped_strs hz, by decide +kernel, by
    rw [eqv_nil]
    have : decide (zs.map PyData.str = []) = decide (zs = []) := by
      cases zs <;> simp
    rw [this]
    exact q _ (e2.trans (Ex.new hl))⟩⟩
end
section
variable {K : PySem.W.Frag} {σ : L2.St} {H : Hp} {te : TE}
/-- a walk over a text, last of a suite -/
theorem s_forS {z : Str} {g : TG} {tu : TS} {D : Ends} (h : Ev te σ H (.str z)) (Pv : Nat → L2.St → Hp → Prop) (h0 : ∀ H1, Ex H H1 → Pv 0 σ H1)
    (hs : ∀ (i : Nat) σ' H' (lt : i < (TL.tl z).length), Pv i σ' H' → g (.str (mk [(TL.tl z)[i]])) σ' H' fun σ2 H2 => tu { D with nx := Pv (i + 1), ct := Pv (i + 1), bk := D.nx } σ2 H2) (hd : ∀ σ' H', Pv (TL.tl z).length σ' H' → D.nx σ' H') : tFor (iStr te) g tu D σ H :=
  h H (Ex.refl H) _ fun H1 e => ⟨z, rfl, for_it (D := D) walk_str Pv (h0 H1 e) (fun _ _ _ _ _ => trivial) (fun i x σ' H' H2 hi p y => by
    obtain ⟨rfl, c, hc, rfl⟩ := y
    have lt : i < (TL.tl z).length := hi
    have ec : (TL.tl z)[i] = c := by
      have : (TL.tl z)[i]? = some c := by rw [← hc]; exact Array.getElem?_toList
      rw [List.getElem?_eq_getElem lt] at this
      exact Option.some.inj this
    rw [mk_one, ← ec]
    exact hs i σ' _ lt p) hd⟩
end
theorem in_strs (z : Str) : ∀ zs : List Str, inV (.str z) (zs.map V.str) = decide (z ∈ zs)
  | [] => rfl
  | y :: ys => by
    have ih := in_strs z ys
    unfold inV at ih ⊢
    rw [List.map_cons, List.any_cons, ih, Bool.eq_iff_iff, Bool.or_eq_true, decide_eq_true_iff, decide_eq_true_iff, List.mem_cons]
    refine or_congr ?_ Iff.rfl
    show (y == z) = true ↔ z = y
    rw [beq_iff_eq]
    exact eq_comm
section
variable {K : PySem.W.Frag} {σ : L2.St} {H : Hp} {te ta ti to : TE}
theorem et_ninL {a : Addr} {zs : List Str} {z : Str} (hi : Ev ti σ H (.str z)) (ho : Ev to σ H (.ref a)) (hp : H a = some (.lst (zs.map V.str))) : EvT (tTest (tOp (rIn K true) ti to)) σ H (!decide (z ∈ zs)) :=
  et_test (ev_op hi ho fun H1 e Q q => ⟨a, _, rfl, .inl (sq_of (e _ _ hp)), rfl, List.all_eq_true.mpr (fun x hx => by obtain ⟨y, _, rfl⟩ := List.mem_map.mp hx; rfl), by
    rw [in_strs]
    exact q H1 (Ex.refl H1)⟩)
theorem el_listOf {a : Addr} {xs : List V} (h : Ev ta σ H (.ref a)) (hs : H a = some (.lst xs)) : EvL (tCB (fun xs H Q => ∃ p ys, xs = [V.ref p] ∧ (SqL K H p ys ∨ SqT K H p ys) ∧ ∀ l, H l = none → Q (.ref l) (upd H l (.lst ys))) (tCons ta tNil)) σ H xs := fun H1 e Q q =>
  h H1 e _ fun H2 e2 => ⟨a, xs, rfl, .inl (sq_of ((e.trans e2) _ _ hs)), fun l hl => q l _ (fresh_back e2 hl) (e2.trans (Ex.new hl)) upd_same⟩
theorem for_listV {i : Nat} {a : Addr} {xs : List V} {g : TG} {tb tz : TS} {D : Ends} (hi : σ[i]? = some (some (.ref a))) (hs : SqL K H a xs) (k : forB (Itl K a) g tb { D with nx := tz D } σ H) : tSeq (tFor (iList K (tVar i)) g tb) tz D σ H := ⟨_, hi, a, rfl, ⟨_, hs⟩, k⟩
end
section
variable {P : Program} {w : World} {K : PySem.W.Frag} {mg : Str → Option Value} {base : Heap}
/-! ### _law_found -/
abbrev nFnd : List Str := ["_law_plan_here", "_law_row", "_law_states", "_law_later", "_law_letter", "_law_sign", "_law_state_here"]
/-- what is found of a rule: its states, or the least letter after which it goes wrong -/
def FoundAt (f : Str) (ps : List Pr) (H : Hp) (p : Addr) : Prop := (NoneW (lp ps) (TL.tl f) ∧ ∃ ys, StsOf f ps ys ∧ H p = some (.tup (ys.map V.str))) ∨ ∃ l, LeastW (lp ps) (TL.tl f) l ∧ l.length ≤ 45 ∧ H p = some (.lst [.str (mk l)])
def spFnd : Sp := fun vs H Q _ => ∃ (v : V) (f : Str) (ps : List Pr), vs = [v] ∧ PlanAt H v f ps ∧ Good f ps ∧ ∀ (p : Addr) H1, H p = none → Ex H H1 → FoundAt f ps H1 p → Q (.ref p) H1
theorem scFnd : FnScope nFnd ["_law_plan_here"] (defScope sFnd) := ⟨rfl, rfl, rfl, by decide +kernel, rfl, by decide +kernel, by decide +kernel⟩
theorem ok_Fnd {f : Addr} {fd : FuncData} (F : Fun K "_law_found" "_law_found" sFnd f fd) (W : GlbW mg)
    (GW : Gfn P w K mg base 3 "_law_is_wrong" ["_law_plan_here", "_law_letter"] spIsw) (GB : Gfn P w K mg base 2 "_law_body" ["_law_plan_here", "_law_letter"] spLbo) (GO : Gfn P w K mg base 1 "_law_state" ["_law_plan_here", "_law_sent"] spLst) (GI : Gfn P w K mg base 1 "_law_in_order" ["_law_words"] spIn2) : FnOk P w K mg base CX0 4 f fd ["_law_plan_here"] spFnd := by
  obtain ⟨fW, fdW, GW, kW, bW, gW⟩ := GW
  obtain ⟨fB, fdB, GB, kB, bB, gB⟩ := GB
  obtain ⟨fO, fdO, GO, kO, bO, gO⟩ := GO
  obtain ⟨fI, fdI, GI, kI, bI, gI⟩ := GI
  refine F.ok scFnd (fun vs H Q E h => ?_) (fun cdv A outer s H vs Q E hr h => ?_)
  · obtain ⟨v, f, ps, rfl, _⟩ := h
    rfl
  · obtain ⟨v, fl, ps, rfl, hv, g, k⟩ := h
    have hu : (A.deeper (PyProof.Rows.envOfC "_law_found" (defScope sFnd) s.heap.objs.size f cdv)).units + 64 < cLine := by have := hr.un; omega
    have r1 := hr.mono (show 1 ≤ 3 by decide)
    have r2 := hr.mono (show 2 ≤ 3 by decide)
    refine ⟨_, (pss_cons (ps_par (i := 1) (j := 2) rfl scFnd.nd rfl rfl (by decide) rfl rfl (pa_cons (pe_lst (pa_cons pe_str pa_nil)) (pa_cons (pe_lst (pa_cons pe_str pa_nil)) pa_nil)) (by rfl))
      (pss_cons (ps_while PassesOwn.never (pt_cmpR (op_neD hu) (pv 1) (pe_lst pa_nil) (nomark _))
        (pss_cons (ps_set (i := 3) scFnd.nd rfl (.inl rfl) (pe_lst pa_nil))
      (pss_cons (ps_for PassesOwn.never rfl (pi_list (pv 1)) (pg_name (i := 4) scFnd.nd rfl (.inl rfl))
            (pss_one (ps_for PassesOwn.never rfl (pi_str pe_str) (pg_name (i := 5) scFnd.nd rfl (.inl rfl))
              (pss_cons (ps_if (pt_val (pe_call GW hr (by rfl) gW kW bW .nil pass0 (pa_cons (pv 0) (pa_cons (pe_op op_add_str (pv 4) (pv 5)) pa_nil)))) (pss_one (ps_ret (pe_lst (pa_cons (pe_op op_add_str (pv 4) (pv 5)) pa_nil)))) pss_nil)
      (pss_cons (ps_set (i := 6) scFnd.nd rfl (.inl rfl) (pe_call GO r1 (by rfl) gO kO bO .nil pass0 (pa_cons (pv 0) (pa_cons (pe_call GB r2 (by rfl) gB kB bB .nil pass0 (pa_cons (pv 0) (pa_cons (pe_op op_add_str (pv 4) (pv 5)) pa_nil))) pa_nil))))
      (pss_one (ps_if (pt_cmpR op_notIn_seq (pv 6) (pv 2) (by with_unfolding_all rfl))
                  (pss_cons (ps_expr (pe_bm PySem.F.plainAttrs_list PySem.F.slot_list_append PySem.F.type_list_append mt_append (pv 2) (pa_cons (pv 6) pa_nil)))
      (pss_one (ps_expr (pe_bm PySem.F.plainAttrs_list PySem.F.slot_list_append PySem.F.type_list_append mt_append (pv 3) (pa_cons (pe_op op_add_str (pv 4) (pv 5)) pa_nil))))) pss_nil)))))))
      (pss_one (ps_set (i := 1) scFnd.nd rfl (.inl rfl) (pe_callTy call_list_of (by rfl) W.list (by decide +kernel) (pa_cons (pv 3) pa_nil)))))))
      (pss_one (ps_ret (pe_tupleOf (by rfl) W.tuple (pe_call GI r1 (by rfl) gI kI bI .nil pass0 (pa_cons (pv 2) pa_nil))))))), ?_⟩
    have O := good_pok g
    have hf := f_ne g
    have hfW : TL.tl fl ∈ Wp fl ps := List.mem_cons_self
    have few5 : (Wp fl ps).length ≤ 5 := by
      unfold Wp watches lp
      rw [List.length_cons, List.length_map, List.length_map]
      have := g.many
      omega
    refine q_par (cons_i (lst_i (cons_i (c_i ⟨by show 1 ≤ sizeLine; decide, fun lr hlr => cons_i (lst_i (cons_i (c_i ⟨by show 1 ≤ sizeLine; decide, fun ls hls => ⟨_, _, rfl, ?_⟩⟩)))⟩))))
    have e1 : Ex H (upd H lr (.lst [V.str ""])) := Ex.new hlr
    have e2 : Ex H (upd (upd H lr (.lst [V.str ""])) ls (.lst [V.str ""])) := e1.trans (Ex.new hls)
    have nls : H ls = none := fresh_back e1 hls
    have h0r : (upd (upd H lr (.lst [V.str ""])) ls (.lst [V.str ""])) lr = some (.lst (lts [([], [])])) := by
      rw [(Ex.new hls) _ _ upd_same]
      show some (HO.lst [V.str ""]) = some (.lst [V.str (mk [])])
      rw [mk_nil]
    have h0s : (upd (upd H lr (.lst [V.str ""])) ls (.lst [V.str ""])) ls = some (.lst (sts [([], [])])) := by
      rw [upd_same]
      show some (HO.lst [V.str ""]) = some (.lst [V.str (mk [])])
      rw [mk_nil]
    have ne0 : lr ≠ ls := fun z => by rw [← z, upd_same] at hls; cases hls
    show tSeq _ _ _ [some v, some (.ref lr), some (.ref ls), none, none, none, none] (upd (upd H lr (.lst [V.str ""])) ls (.lst [V.str ""]))
    generalize upd (upd H lr (.lst [V.str ""])) ls (.lst [V.str ""]) = H2 at e2 h0r h0s ⊢
    refine q_while (fun m σ' H' => ∃ n ol lr, m = 46 - n ∧ n ≤ ol.length ∧ (∃ x3 x4 x5 x6 : Option V, σ' = [some v, some (.ref lr), some (.ref ls), x3, x4, x5, x6]) ∧ Wk (lp ps) (Wp fl ps) ol n ∧ Clean (lp ps) (Wp fl ps) (TL.tl fl) ol n 0 ∧ Ex H H' ∧ H lr = none ∧ lr ≠ ls ∧ H' ls = some (.lst (sts ol)) ∧ H' lr = some (.lst (lts (ol.drop n)))) 46
      ⟨0, [([], [])], lr, rfl, Nat.zero_le _, ⟨none, none, none, none, rfl⟩, wk_start, clean_start, e2, hlr, ne0, h0s, h0r⟩ ?_
    clear ne0 h0r h0s hlr e1 hls
    rintro m σ' H4 ⟨n, ol, lr, rfl, nle, ⟨x3, x4, x5, x6, rfl⟩, wk, cl, e4, nlr, ne, hs4, hr4⟩
    have ol45 : ol.length ≤ 45 := by
      have := wk.few wp_ne (wp_8 g)
      omega
    let zs : List Str := (ol.drop n).map fun p => mk p.2
    have zsE : zs.map V.str = lts (ol.drop n) := by
      show ((ol.drop n).map _).map _ = _
      rw [List.map_map]
      rfl
    have zsg : ∀ z ∈ zs, Sg z = true := fun z hz => by
      obtain ⟨p, hp, rfl⟩ := List.mem_map.mp hz
      obtain ⟨t, h1, _⟩ := wk.rch p (List.mem_of_mem_drop hp)
      exact sg_mk h1.1
    refine ⟨decide (n < ol.length), et_is (et_test (ev_neNilP (K := K) (zs := zs) zsg (ev_var rfl) (by rw [zsE]; exact hr4))) ?_, fun hb H5 e5 => ⟨fun σ2 H' => ∃ n' ol lr, n + 1 ≤ n' ∧ n' ≤ ol.length ∧ (∃ x3 x4 x5 x6 : Option V, σ2 = [some v, some (.ref lr), some (.ref ls), x3, x4, x5, x6]) ∧ Wk (lp ps) (Wp fl ps) ol n' ∧ Clean (lp ps) (Wp fl ps) (TL.tl fl) ol n' 0 ∧ Ex H H' ∧ H lr = none ∧ lr ≠ ls ∧ H' ls = some (.lst (sts ol)) ∧ H' lr = some (.lst (lts (ol.drop n'))),
      fun σ2 H' ⟨n', ol, lr, h1, h2, h3, h4, h5⟩ => ⟨46 - n', by have := h4.few wp_ne (wp_8 g); omega, n', ol, lr, rfl, h2, h3, h4, h5⟩, ?_⟩, fun hb H5 e5 => ?_⟩
    · rw [← decide_not, decide_eq_decide]
      show ¬ (ol.drop n).map _ = [] ↔ _
      rw [List.map_eq_nil_iff, List.drop_eq_nil_iff]
      omega
    · have lt : n < ol.length := of_decide_eq_true hb
      refine q_asgL (el_lst ea_nil (by show 0 ≤ 100000; decide)) fun lw H6 hlw e6 hw6 => ?_
      have E6 := (e4.trans e5).trans e6
      have nlw : H lw = none := fresh_back (e4.trans e5) hlw
      have hs6 := (e5.trans e6) _ _ hs4
      have hr6 := (e5.trans e6) _ _ hr4
      have lwls : lw ≠ ls := fun z => by rw [z, e5 _ _ hs4] at hlw; cases hlw
      have lwlr : lw ≠ lr := fun z => by rw [z, e5 _ _ hr4] at hlw; cases hlw
      have dl : (lts (ol.drop n)).length = ol.length - n := by unfold lts; rw [List.length_map, List.length_drop]
      refine for_listV (K := K) (i := 1) (a := lr) rfl (sq_of hr6) (for_it (n := (lts (ol.drop n)).length) (walk_list (K := K) (a := lr) (xs := lts (ol.drop n))) (fun j σ' H' => ∃ ex, (∃ x4 x5 x6 : Option V, σ' = [some v, some (.ref lr), some (.ref ls), some (.ref lw), x4, x5, x6]) ∧ Wk (lp ps) (Wp fl ps) (ol ++ ex) (n + j) ∧ Clean (lp ps) (Wp fl ps) (TL.tl fl) (ol ++ ex) (n + j) 0 ∧ Ex H H' ∧ H' ls = some (.lst (sts (ol ++ ex))) ∧ H' lr = some (.lst (lts (ol.drop n))) ∧ H' lw = some (.lst (lts ex)))
        ⟨[], ⟨_, _, _, rfl⟩, by rw [List.append_nil]; exact wk, by rw [List.append_nil]; exact cl, E6, by rw [List.append_nil]; exact hs6, hr6, hw6⟩ (fun _ _ H' _ h => by obtain ⟨_, _, _, _, _, _, h, _⟩ := h; exact sq_of h) (fun j x σ' H7' H7 hj h y => ?_) (fun σ' H7 h => ?_))
      · obtain ⟨rfl, hxj⟩ := y
        obtain ⟨ex, ⟨x4, x5, x6, rfl⟩, wk7, cl7, e7, hs7, hr7, hw7⟩ := h
        have jl : n + j < ol.length := by omega
        obtain ⟨⟨e, r⟩, hn⟩ : ∃ p, ol[n + j]? = some p := ⟨_, List.getElem?_eq_getElem jl⟩
        have hx : x = .str (mk r) := by
          unfold lts at hxj
          rw [List.getElem?_map, List.getElem?_drop, hn] at hxj
          exact (Option.some.inj hxj).symm
        subst hx
        have hn7 : (ol ++ ex)[n + j]? = some (e, r) := by rw [List.getElem?_append_left jl]; exact hn
        show tFor _ _ _ _ [some v, some (.ref lr), some (.ref ls), some (.ref lw), some (.str (mk r)), x5, x6] H7
        refine s_forS (z := "01") ev_c (fun i σ' H' => ∃ ex, (∃ x5 x6 : Option V, σ' = [some v, some (.ref lr), some (.ref ls), some (.ref lw), some (.str (mk r)), x5, x6]) ∧ Wki (lp ps) (Wp fl ps) (ol ++ ex) (n + j) e r i ∧ Clean (lp ps) (Wp fl ps) (TL.tl fl) (ol ++ ex) (n + j) i ∧ Ex H H' ∧ H' ls = some (.lst (sts (ol ++ ex))) ∧ H' lr = some (.lst (lts (ol.drop n))) ∧ H' lw = some (.lst (lts ex)))
          (fun H8 e8 => ⟨ex, ⟨_, _, rfl⟩, wk7.begin hn7, cl7, e7.trans e8, e8 _ _ hs7, e8 _ _ hr7, e8 _ _ hw7⟩) ?_ ?_
        · rintro i σ' H8 lt2 ⟨ex, ⟨y5, y6, rfl⟩, wi, cli, e8, hs8, hr8, hw8⟩
          have hc : [48, 49][i]? = some (TL.tl ("01" : Str))[i] := List.getElem?_eq_getElem lt2
          generalize (TL.tl ("01" : Str))[i] = c at hc
          have bc := bit2 hc
          have olx : (ol ++ ex).length ≤ 45 := by
            have := wi.wk.few wp_ne (wp_8 g)
            omega
          have rl : r.length < (ol ++ ex).length := wi.wk.short _ wi.mem
          obtain ⟨t0, ht0, _⟩ := wi.wk.rch _ wi.mem
          have ht0 : Rch (lp ps) r t0 := ht0
          have sgr : Sgs (r ++ [c]) := ht0.1.app fun d hd => by rw [List.mem_singleton.mp hd]; exact bc
          have rc : (r ++ [c]).length ≤ 45 := by rw [List.length_append]; show r.length + 1 ≤ 45; omega
          have add : ∀ {x6 : Option V} {Hx : Hp}, Ev (tOp rAddS (tVar 4) (tVar 5)) [some v, some (.ref lr), some (.ref ls), some (.ref lw), some (.str (mk r)), some (.str (mk [c])), x6] Hx (.str (mk (r ++ [c]))) := fun {x6 Hx} => ev_is (ev_addS (a := mk r) (b := mk [c]) (ev_var rfl) (ev_var rfl) (by rw [mk_len, mk_len]; show r.length + 1 ≤ _; omega)) (by rw [mk_app])
          have wrong : ∀ bb : Bool, (bb = true ↔ Wr (lp ps) (TL.tl fl) (r ++ [c])) → EvT (tB (tCall spIsw [] E0 (tCons (tVar 0) (tCons (tOp rAddS (tVar 4) (tVar 5)) tNil)))) [some v, some (.ref lr), some (.ref ls), some (.ref lw), some (.str (mk r)), some (.str (mk [c])), y6] H8 bb := fun bb hbb => et_B (ev_call (ea_cons (ev_var rfl) (ea_cons add ea_nil)) fun H9 e9 Q9 q9 E9 => ⟨v, mk (r ++ [c]), fl, ps, rfl, by rw [mk_len]; omega, sg_mk sgr, hv.mono (e8.trans e9), g, fun b2 hb2 => by
            have : b2 = bb := by rw [Bool.eq_iff_iff, hb2, hbb, tl_mk]
            rw [this]
            exact q9⟩)
          by_cases hB : Wr (lp ps) (TL.tl fl) (r ++ [c])
          · refine q_when (b := true) (wrong true ⟨fun _ => hB, fun _ => rfl⟩) (fun _ H9 e9 => ?_) (fun z => absurd z (by decide))
            have lw := at_least wp_ne wp_mem hf hfW wi.wk.rch wi.at_ wi.oi.q cli hc hB
            exact s_retR ((el_lst (ea_cons add ea_nil) (by show 1 ≤ 100000; decide)) H9 (Ex.refl H9) _ fun p Ha hp ea h => k p Ha (fresh_back (e8.trans e9) hp) ((e8.trans e9).trans ea) (.inr ⟨_, lw, rc, h⟩))
          · refine q_when (b := false) (wrong false ⟨fun z => (by cases z), fun z => absurd z hB⟩) (fun z => absurd z (by decide)) (fun _ H9 e9 => ?_)
            obtain ⟨nb, t, u, hbd, nf, hsu, hst⟩ := at_fine wp_ne wp_mem hf hfW wi.wk.rch wi.at_ wi.oi.q cli hc hB
            have E9 := e8.trans e9
            have tl := body_len O hbd
            simp only [List.length_nil] at tl
            have sgt : Sgs t := body_sgs O (fun c hc => by cases hc) sgr hbd
            have same : stOf (Wp fl ps) t = stOf (Wl fl ps) t := st_same hf nf
            refine q_asg (v := .str (mk (stOf (Wp fl ps) (e ++ u)))) (ev_is (ev_call (z := .str (mk (stOf (Wl fl ps) t))) (ea_cons (ev_var rfl) (ea_cons (x := .str (mk t)) (ev_is (ev_call (z := bodyV (bodyL (lp ps) [] (r ++ [c]))) (ea_cons (ev_var rfl) (ea_cons add ea_nil)) fun Ha ea Qa qa Ea => ⟨v, mk (r ++ [c]), fl, ps, rfl, by rw [mk_len]; omega, sg_mk sgr, hv.mono (E9.trans ea), g, qa⟩) (by rw [hbd]; rfl)) ea_nil)) fun Ha ea Qa qa Ea => ⟨v, mk t, fl, ps, rfl, by rw [mk_len]; omega, sg_mk sgt, hv.mono (E9.trans ea), g, qa⟩) (by rw [← same, hst])) fun Ha ea => ?_
            have Ea := E9.trans ea
            have up := e9.trans ea
            have hsa := up _ _ hs8
            have hra := up _ _ hr8
            have hwa := up _ _ hw8
            generalize ha : stOf (Wp fl ps) (e ++ u) = a
            have ltn : n + j < (ol ++ ex).length := (List.getElem?_eq_some_iff.mp wi.at_).1
            have stsE : sts (ol ++ ex) = ((ol ++ ex).map fun p => mk p.1).map V.str := by
              unfold sts
              rw [List.map_map]
              rfl
            have memE : mk a ∈ (ol ++ ex).map (fun p => mk p.1) ↔ a ∈ (ol ++ ex).map Prod.fst := by
              constructor
              · intro h
                obtain ⟨p, hp, e9⟩ := List.mem_map.mp h
                exact List.mem_map.mpr ⟨p, hp, mk_inj e9⟩
              · intro h
                obtain ⟨p, hp, e9⟩ := List.mem_map.mp h
                exact List.mem_map.mpr ⟨p, hp, by rw [e9]⟩
            refine s_when (b := !decide (a ∈ (ol ++ ex).map Prod.fst)) (et_is (et_ninL (K := K) (z := mk a) (zs := (ol ++ ex).map fun p => mk p.1) (ev_var rfl) (ev_var rfl) (by rw [← stsE]; exact hsa)) (by rw [decide_eq_decide.mpr memE])) (fun hb Hb eb => ?_) (fun hb Hb eb => ?_)
            · rw [Bool.not_eq_true', decide_eq_false_iff_not] at hb
              refine q_app (eb _ _ hsa) (ev_var rfl) (ev_var rfl) (by unfold sts; rw [List.length_map]; omega) fun Hc ec => ?_
              have hwd : (upd Hc ls (.lst (sts (ol ++ ex) ++ [.str (mk a)]))) lw = some (.lst (lts ex)) := by
                rw [upd_ne lwls]
                exact (eb.trans ec) _ _ hwa
              have hrd : (upd Hc ls (.lst (sts (ol ++ ex) ++ [.str (mk a)]))) lr = some (.lst (lts (ol.drop n))) := by
                rw [upd_ne ne]
                exact (eb.trans ec) _ _ hra
              have hsd : (upd Hc ls (.lst (sts (ol ++ ex) ++ [.str (mk a)]))) ls = some (.lst (sts (ol ++ ex) ++ [.str (mk a)])) := upd_same
              have Ed : Ex H (upd Hc ls (.lst (sts (ol ++ ex) ++ [.str (mk a)]))) := Ex.mut ((Ea.trans eb).trans ec) nls
              generalize upd Hc ls (.lst (sts (ol ++ ex) ++ [.str (mk a)])) = Hd at hwd hrd hsd Ed ⊢
              have exl : ex.length ≤ 45 := by rw [List.length_append] at olx; omega
              refine s_app hwd (ev_var rfl) add (by unfold lts; rw [List.length_map]; omega) fun Hf ef => ?_
              have nw := wi.new wp_ne wp_mem hc hsu (by rw [ha]; exact hb)
              rw [ha, List.append_assoc] at nw
              refine ⟨ex ++ [(a, r ++ [c])], ⟨_, _, rfl⟩, nw, ?_, Ex.mut (Ed.trans ef) nlw, ?_, ?_, ?_⟩
              · rw [← List.append_assoc]
                refine Clean.one (r := r) (cli.app ltn) ?_ hc nb
                rw [List.getElem?_append_left ltn]
                exact wi.at_
              · rw [upd_ne lwls.symm, ef _ _ hsd, ← List.append_assoc, sts_snoc]
              · rw [upd_ne lwlr.symm]
                exact ef _ _ hrd
              · rw [upd_same, lts_snoc]
            · rw [Bool.not_eq_false', decide_eq_true_iff] at hb
              exact ⟨ex, ⟨_, _, rfl⟩, wi.old hc hsu (by rw [ha]; exact hb), cli.one wi.at_ hc nb, Ea.trans eb, eb _ _ hsa, eb _ _ hra, eb _ _ hwa⟩
        · rintro σ' H8 ⟨ex, ⟨y5, y6, rfl⟩, wi, cli, e8, hs8, hr8, hw8⟩
          have two : (TL.tl ("01" : Str)).length = 2 := by decide +kernel
          rw [two] at wi cli
          exact ⟨ex, ⟨_, _, _, rfl⟩, wi.done, cli.next, e8, hs8, hr8, hw8⟩
      · obtain ⟨ex, ⟨x4, x5, x6, rfl⟩, wk7, cl7, e7, hs7, hr7, hw7⟩ := h
        rw [dl, show n + (ol.length - n) = ol.length by omega] at wk7 cl7
        refine s_asgL (el_listOf (K := K) (ev_var rfl) hw7) fun lr' H8 hl' e8 h8 => ?_
        refine ⟨ol.length, ol ++ ex, lr', lt, by rw [List.length_append]; omega, ⟨_, _, _, _, rfl⟩, wk7, cl7, e7.trans e8, fresh_back e7 hl', (fun z => by rw [z, hs7] at hl'; cases hl'), e8 _ _ hs7, ?_⟩
        rw [List.drop_left]
        exact h8
    · have : ¬ n < ol.length := of_decide_eq_false hb
      obtain rfl : n = ol.length := by omega
      have nw := wk.clean_none wp_ne wp_mem hf hfW cl
      have wf : Wlk (lp ps) (Wp fl ps) (ol.map Prod.fst) (ol.map Prod.fst).length := by
        have := wk.wlk
        rwa [show ol.length = (ol.map Prod.fst).length by rw [List.length_map]] at this
      have np : NoPuts (lp ps) (ol.map Prod.fst) := Classical.byContradiction fun z => nw.puts ((puts_is wk).mpr z)
      have ndk : (ol.map fun p => mk p.1).Nodup := by
        have e9 : (ol.map fun p => mk p.1) = (ol.map Prod.fst).map mk := by rw [List.map_map]; rfl
        rw [e9]
        have := wk.wlk.nd
        unfold List.Nodup at this ⊢
        rw [List.pairwise_map]
        exact this.imp fun n z => n (mk_inj z)
      have stsE : sts ol = (ol.map fun p => mk p.1).map V.str := by
        unfold sts
        rw [List.map_map]
        rfl
      refine s_retR ((ev_var (σ := [some v, some (.ref lr), some (.ref ls), x3, x4, x5, x6]) (i := 2) rfl) H5 (Ex.refl H5) _ fun H6 e6 => ⟨ls, ol.map fun p => mk p.1, rfl, by rw [← stsE]; exact (e5.trans e6) _ _ hs4, by rw [List.length_map]; omega, ndk, fun z hz => ?_, fun b zs H7 hb7 e7 h7 pm up => .inl ⟨b, _, rfl, sq_of h7, fun q hq => ?_⟩⟩)
      · obtain ⟨p, hp, rfl⟩ := List.mem_map.mp hz
        have := wk.len wp_ne (wp_8 g) p hp
        rw [mk_len]
        omega
      · have E7 := (e4.trans e5).trans (e6.trans e7)
        exact k q _ (fresh_back E7 hq) (E7.trans (Ex.new hq)) (.inl ⟨nw, zs, ⟨ol, wk, np, pm, up⟩, upd_same⟩)
end
end K10
namespace K10
open PySem L2 Evl Gr StX EnT ClX ClK RdX SrtT StS Fr
abbrev sTrd : Stmt := top 53
def vL (rs : List L) : List V := rs.map fun r => V.str (mk r)
def longer (rs : List L) : List L := rs.flatMap fun r => [r ++ [48], r ++ [49]]
/-- the letters of the numbers from a on -/
def RowN (a : Nat) (rs : List L) : Prop := ∀ (i : Nat) r, rs[i]? = some r → Sgs r ∧ num r = a + i
theorem longer_len : ∀ rs : List L, (longer rs).length = 2 * rs.length
  | [] => rfl
  | r :: rs => by
    show ((r ++ [48]) :: (r ++ [49]) :: longer rs).length = _
    rw [List.length_cons, List.length_cons, longer_len rs, List.length_cons]
    omega
theorem longer_row : ∀ {rs : List L} {a : Nat}, RowN a rs → RowN (2 * a) (longer rs)
  | [], a, _ => fun i r h => by
    simp [longer] at h
  | r :: rs, a, h => fun j x hj => by
    have h0 := h 0 r rfl
    have ht : RowN (a + 1) rs := fun i y hy => by
      have := h (i + 1) y hy
      exact ⟨this.1, by have := this.2; omega⟩
    have ih := longer_row ht
    have e : longer (r :: rs) = (r ++ [48]) :: (r ++ [49]) :: longer rs := rfl
    rw [e] at hj
    match j, hj with
    | 0, hj =>
      obtain rfl := Option.some.inj hj
      exact ⟨h0.1.app fun d hd => by rw [List.mem_singleton.mp hd]; exact .inl rfl, by rw [num_snoc]; have := h0.2; omega⟩
    | 1, hj =>
      obtain rfl := Option.some.inj hj
      exact ⟨h0.1.app fun d hd => by rw [List.mem_singleton.mp hd]; exact .inr rfl, by rw [num_snoc]; have := h0.2; omega⟩
    | j + 2, hj =>
      have := ih j x hj
      exact ⟨this.1, by have := this.2; omega⟩
section
variable {P : Program} {w : World} {K : PySem.W.Frag} {mg : Str → Option Value} {base : Heap}
/-! ### _law_longer -/
abbrev nLng : List Str := ["_law_row", "_law_found_here", "_law_letter"]
def spLng : Sp := fun vs H Q _ => ∃ (a : Addr) (rs : List L), vs = [.ref a] ∧ H a = some (.lst (vL rs)) ∧ rs.length ≤ 100 ∧ (∀ r ∈ rs, r.length ≤ 100) ∧ ∀ p H1, H p = none → Ex H H1 → H1 p = some (.lst (vL (longer rs))) → Q (.ref p) H1
theorem scLng : FnScope nLng ["_law_row"] (defScope sLng) := ⟨rfl, rfl, rfl, by decide +kernel, rfl, by decide +kernel, by decide +kernel⟩
theorem ok_Lng {f : Addr} {fd : FuncData} (F : Fun K "_law_longer" "_law_longer" sLng f fd) : FnOk P w K mg base CX0 1 f fd ["_law_row"] spLng := by
  refine F.ok scLng (fun vs H Q E h => ?_) (fun cdv A outer s H vs Q E hr h => ?_)
  · obtain ⟨a, rs, rfl, _⟩ := h
    rfl
  · obtain ⟨a, rs, rfl, ha, few, short, k⟩ := h
    refine ⟨_, (pss_cons (ps_set (i := 1) scLng.nd rfl (.inl rfl) (pe_lst pa_nil))
      (pss_cons (ps_for PassesOwn.never rfl (pi_list (pv 0)) (pg_name (i := 2) scLng.nd rfl (.inl rfl))
        (pss_one (ps_set (i := 1) scLng.nd rfl (.inl rfl) (pe_op op_cat (pv 1) (pe_lst (pa_cons (pe_op op_add_str (pv 2) pe_str) (pa_cons (pe_op op_add_str (pv 2) pe_str) pa_nil)))))))
      (pss_one (ps_ret (pv 1))))), ?_⟩
    refine q_asgL (el_lst ea_nil (by show 0 ≤ 100000; decide)) fun l0 H1 h0 e1 hl0 => ?_
    have vl : (vL rs).length = rs.length := List.length_map _
    refine for_listV (K := K) (i := 0) (a := a) rfl (sq_of (e1 _ _ ha)) (for_it (n := (vL rs).length) (walk_list (K := K) (a := a) (xs := vL rs)) (fun j σ' H' => ∃ l, (∃ x2 : Option V, σ' = [some (.ref a), some (.ref l), x2]) ∧ Ex H H' ∧ H l = none ∧ H' l = some (.lst (vL (longer (rs.take j)))))
      ⟨l0, ⟨_, rfl⟩, e1, h0, hl0⟩ (fun _ _ H' _ h => by obtain ⟨_, _, h, _⟩ := h; exact sq_of (h _ _ ha)) (fun j x σ' H2' H2 hj h y => ?_) (fun σ' H2 h => ?_))
    · obtain ⟨rfl, hxj⟩ := y
      obtain ⟨l, ⟨x2, rfl⟩, e2, hln, hl⟩ := h
      obtain ⟨r, hr⟩ : ∃ r, rs[j]? = some r := ⟨_, List.getElem?_eq_getElem (by omega)⟩
      have hx : x = .str (mk r) := by
        unfold vL at hxj
        rw [List.getElem?_map, hr] at hxj
        exact (Option.some.inj hxj).symm
      subst hx
      have r100 := short r (List.mem_of_getElem? hr)
      have lt := longer_len (rs.take j)
      have tk := List.length_take_le j rs
      have add : ∀ {c : Nat} {y : Str} {Hx : Hp}, y = mk [c] → Ev (tOp rAddS (tVar 2) (tC (.str y))) [some (.ref a), some (.ref l), some (.str (mk r))] Hx (.str (mk (r ++ [c]))) := fun {c y Hx} hy => ev_is (ev_addS (a := mk r) (b := y) (ev_var rfl) ev_c (by rw [hy, mk_len, mk_len]; show r.length + 1 ≤ _; omega)) (by rw [hy, mk_app])
      show tAsg _ _ _ [some (.ref a), some (.ref l), some (.str (mk r))] _
      refine s_asgL (el_catP (ev_var rfl) hl (el_lst (ea_cons (add (c := 48) (by decide +kernel)) (ea_cons (add (c := 49) (by decide +kernel)) ea_nil)) (by show 2 ≤ 100000; decide)) (by unfold vL; rw [List.length_map]; show _ + 2 ≤ _; omega)) fun l' H3 hl' e3 h3 => ?_
      refine ⟨l', ⟨_, rfl⟩, e2.trans e3, fresh_back e2 hl', ?_⟩
      rw [h3, take_snoc hr]
      unfold longer vL
      rw [List.flatMap_append, List.map_append]
      simp
    · obtain ⟨l, ⟨x2, rfl⟩, e2, hln, hl⟩ := h
      rw [vl, List.take_length] at hl
      refine s_ret (σ := [some (.ref a), some (.ref l), x2]) (v := .ref l) (D := { nx := fun _ H' => Q .non H', rt := Q }) (ev_var rfl) fun H3 e3 => ?_
      exact k l H3 hln (e2.trans e3) (e3 _ _ hl)
/-! ### _law_tried_right -/
abbrev nTrd : List Str := ["_law_plan_here", "_law_found_here", "_law_row", "_law_many", "_law_letter"]
def spTrd : Sp := fun vs H Q _ => ∃ (v : V) (p : Addr) (f : Str) (ps : List Pr), vs = [v, .ref p] ∧ PlanAt H v f ps ∧ Good f ps ∧ FoundAt f ps H p ∧ RetV (.bl true) H Q
theorem scTrd : FnScope nTrd ["_law_plan_here", "_law_found_here"] (defScope sTrd) := ⟨rfl, rfl, rfl, by decide +kernel, rfl, by decide +kernel, by decide +kernel⟩
theorem FoundAt.mono {f : Str} {ps : List Pr} {H H' : Hp} {p : Addr} (e : Ex H H') (h : FoundAt f ps H p) : FoundAt f ps H' p := by
  rcases h with ⟨a, ys, b, c⟩ | ⟨l, a, b, c⟩
  · exact .inl ⟨a, ys, b, e _ _ c⟩
  · exact .inr ⟨l, a, b, e _ _ c⟩
theorem kit_t2 : kitB "tuple" "tuple" = some true := by decide +kernel
theorem kit_lt : kitB "list" "tuple" = some false := by decide +kernel
theorem low_one {z : Str} (h : Sg z = true) : Low 1 (.list [.str z]) := by
  refine low_list fun d hd => ?_
  rw [List.mem_singleton.mp hd]
  exact low_str (sg_ok h)
theorem ok_Trd {f : Addr} {fd : FuncData} (F : Fun K "_law_tried_right" "_law_tried_right" sTrd f fd) (T : GlbT mg) (W : GlbW mg) (GW : Gfn P w K mg base 3 "_law_is_wrong" ["_law_plan_here", "_law_letter"] spIsw) (GL : Gfn P w K mg base 1 "_law_longer" ["_law_row"] spLng) :
    FnOk P w K mg base CX0 4 f fd ["_law_plan_here", "_law_found_here"] spTrd := by
  obtain ⟨fW, fdW, GW, kW, bW, gW⟩ := GW
  obtain ⟨fL, fdL, GL, kL, bL, gL⟩ := GL
  refine F.ok scTrd (fun vs H Q E h => ?_) (fun cdv A outer s H vs Q E hr h => ?_)
  · obtain ⟨v, p, f, ps, rfl, _⟩ := h
    rfl
  · obtain ⟨v, p, fl, ps, rfl, hv, g, hF, k⟩ := h
    have hu : (A.deeper (PyProof.Rows.envOfC "_law_tried_right" (defScope sTrd) s.heap.objs.size f cdv)).units + 64 < cLine := by have := hr.un; omega
    have r1 := hr.mono (show 1 ≤ 3 by decide)
    refine ⟨_, (pss_cons (ps_set (i := 2) scTrd.nd rfl (.inl rfl) (pe_lst (pa_cons pe_str pa_nil)))
      (pss_cons (ps_for PassesOwn.never rfl (pi_range1 (by rfl) W.range (pa_cons pe_int pa_nil)) (pg_name (i := 3) scTrd.nd rfl (.inl rfl))
        (pss_cons (ps_for PassesOwn.never rfl (pi_list (pv 2)) (pg_name (i := 4) scTrd.nd rfl (.inl rfl))
            (pss_one (ps_if (pt_val (pe_call GW hr (by rfl) gW kW bW .nil pass0 (pa_cons (pv 0) (pa_cons (pv 4) pa_nil)))) (pss_one (ps_ret (pe_cmpR (op_eqD hu) (pv 1) (pe_lst (pa_cons (pv 4) pa_nil)) (nomark _)))) pss_nil)))
      (pss_one (ps_set (i := 2) scTrd.nd rfl (.inl rfl) (pe_call GL r1 (by rfl) gL kL bL .nil pass0 (pa_cons (pv 2) pa_nil))))))
      (pss_one (ps_ret (pe_or (pe_callB call_isi (by rfl) T.inst (by decide +kernel) (pa_cons (pv 1) (pa_cons (pe_bltn (v := .ty "tuple") (by rfl) W.tuple (by decide +kernel) rfl) pa_nil))) (pe_one (pe_cmpR op_gt (pe_callB call_len (by rfl) T.len PySem.boot_len (pa_cons (pe_ix ix_list (pv 1) pe_int (fun _ _ => rfl)) pa_nil)) pe_int (nomark _)))))))), ?_⟩
    refine q_asgL (el_lst (ea_cons ev_c ea_nil) (by show 1 ≤ 100000; decide)) fun l0 H1 h0 e1 hl0 => ?_
    refine q_forR1 (n := 7) (ea_cons ev_c ea_nil) (by decide) (fun i σ' H' => ∃ l rs, (∃ x3 x4 : Option V, σ' = [some v, some (.ref p), some (.ref l), x3, x4]) ∧ Ex H H' ∧ H' l = some (.lst (vL rs)) ∧ RowN (2 ^ i) rs ∧ rs.length = 2 ^ i ∧ ∀ y, Sgs y → num y < 2 ^ i → ¬ Wr (lp ps) (TL.tl fl) y)
      (fun H2 e2 => ⟨l0, [[]], ⟨none, none, rfl⟩, e1.trans e2, ?_, fun i r h => ?_, rfl, fun y hy h => ?_⟩) ?_ ?_
    · rw [e2 _ _ hl0]
      show some (HO.lst [V.str ""]) = some (.lst [V.str (mk [])])
      rw [mk_nil]
    · cases i with
      | zero =>
        obtain rfl := Option.some.inj h
        exact ⟨fun c hc => (by cases hc), rfl⟩
      | succ i => simp at h
    · have := num_pos y
      rw [Nat.pow_zero] at h
      omega
    · rintro i σ' H2 hi ⟨l, rs, ⟨x3, x4, rfl⟩, e2, hl, row, len, fine⟩
      have i64 : 2 ^ i ≤ 2 ^ 6 := Nat.pow_le_pow_right (by decide) (by omega)
      have vl : (vL rs).length = rs.length := List.length_map _
      have r7 : ∀ r ∈ rs, Sgs r ∧ r.length ≤ 6 := fun r hr => by
        obtain ⟨j, hj⟩ := List.getElem?_of_mem hr
        have jl := (List.getElem?_eq_some_iff.mp hj).1
        obtain ⟨h1, h2⟩ := row j r hj
        refine ⟨h1, ?_⟩
        have := (num_len r h1).1
        apply Classical.byContradiction
        intro z
        have : 2 ^ 7 ≤ 2 ^ r.length := Nat.pow_le_pow_right (by decide) (by omega)
        omega
      show tSeq _ _ _ [some v, some (.ref p), some (.ref l), some (.int (i : Nat)), x4] H2
      refine for_listV (K := K) (i := 2) (a := l) rfl (sq_of hl) (for_it (n := (vL rs).length) (walk_list (K := K) (a := l) (xs := vL rs)) (fun j σ' H' => (∃ x4 : Option V, σ' = [some v, some (.ref p), some (.ref l), some (.int (i : Nat)), x4]) ∧ Ex H2 H' ∧ ∀ y, Sgs y → num y < 2 ^ i + j → ¬ Wr (lp ps) (TL.tl fl) y)
        ⟨⟨_, rfl⟩, Ex.refl H2, fine⟩ (fun _ _ H' _ h => sq_of (h.2.1 _ _ hl)) (fun j x σ' H3' H3 hj h y => ?_) (fun σ' H3 h => ?_))
      · obtain ⟨rfl, hxj⟩ := y
        obtain ⟨⟨x4, rfl⟩, e3, fine3⟩ := h
        obtain ⟨r, hr⟩ : ∃ r, rs[j]? = some r := ⟨_, List.getElem?_eq_getElem (by omega)⟩
        have hx : x = .str (mk r) := by
          unfold vL at hxj
          rw [List.getElem?_map, hr] at hxj
          exact (Option.some.inj hxj).symm
        subst hx
        obtain ⟨sgr, nr⟩ := row j r hr
        have rl := (r7 r (List.mem_of_getElem? hr)).2
        have E3 := e2.trans e3
        have wrong : ∀ bb : Bool, (bb = true ↔ Wr (lp ps) (TL.tl fl) r) → EvT (tB (tCall spIsw [] E0 (tCons (tVar 0) (tCons (tVar 4) tNil)))) [some v, some (.ref p), some (.ref l), some (.int (i : Nat)), some (.str (mk r))] H3 bb := fun bb hbb => et_B (ev_call (ea_cons (ev_var rfl) (ea_cons (ev_var rfl) ea_nil)) fun H9 e9 Q9 q9 E9 => ⟨v, mk r, fl, ps, rfl, by rw [mk_len]; omega, sg_mk sgr, hv.mono (E3.trans e9), g, fun b2 hb2 => by
          have : b2 = bb := by rw [Bool.eq_iff_iff, hb2, hbb, tl_mk]
          rw [this]
          exact q9⟩)
        show tIfS _ _ _ _ [some v, some (.ref p), some (.ref l), some (.int (i : Nat)), some (.str (mk r))] H3
        by_cases hB : Wr (lp ps) (TL.tl fl) r
        · refine s_if (b := true) (wrong true ⟨fun _ => hB, fun _ => rfl⟩) (fun _ H4 e4 => ?_) (fun z => absurd z (by decide))
          have lw : LeastW (lp ps) (TL.tl fl) r := ⟨sgr, hB, fun y hy z => by
            apply Classical.byContradiction
            intro lt
            exact fine3 y hy (by omega) z⟩
          have E4 := E3.trans e4
          rcases hF.mono E4 with ⟨nw, _⟩ | ⟨l2, lw2, _, hp⟩
          · exact absurd nw fun z => lw.not_none z
          · obtain rfl := lw.uniq lw2
            have sg1 := low_one (sg_mk sgr)
            refine s_ret (ev_is (ev_eqD (d := .list [.str (mk r)]) (e := .list [.str (mk r)]) (ed_of (ev_var (i := 1) rfl) fun H5 e5 => .lst (sq_of (e5 _ _ hp)) (.cons (.str _) .nil)) (ed_L (el_lst (ea_cons (ev_var rfl) ea_nil) (by show 1 ≤ 100000; decide)) fun H5 e5 => .cons (.str _) .nil) (low_shaped sg1 (by decide)) (low_shaped sg1 (by decide))) (by rw [low_self sg1])) fun H5 e5 => k H5 (E4.trans e5)
        · refine s_if (b := false) (wrong false ⟨fun z => (by cases z), fun z => absurd z hB⟩) (fun z => absurd z (by decide)) (fun _ H4 e4 => ⟨⟨_, rfl⟩, e3.trans e4, fun y hy lt z => ?_⟩)
          by_cases c : num y = num r
          · rw [num_inj hy sgr c] at z
            exact hB z
          · exact fine3 y hy (by omega) z
      · obtain ⟨⟨x4, rfl⟩, e3, fine3⟩ := h
        rw [vl, len] at fine3
        have hl3 := e3 _ _ hl
        dsimp only
        refine s_asgL (xs := vL (longer rs)) (fun H4 e4 Q4 q4 => (ea_cons (ev_var (σ := [some v, some (.ref p), some (.ref l), some (.int (i : Nat)), x4]) (i := 2) rfl) ea_nil) H4 e4 _ fun H5 e5 => ⟨l, rs, rfl, (e4.trans e5) _ _ hl3, by omega, fun r hr => by have := (r7 r hr).2; omega, fun b H6 hb6 e6 h6 => q4 b H6 (fresh_back e5 hb6) (e5.trans e6) h6⟩) fun l' H4 hl' e4 h4 => ?_
        have pw : 2 ^ (i + 1) = 2 * 2 ^ i := by rw [Nat.pow_succ]; omega
        exact ⟨l', longer rs, ⟨_, _, rfl⟩, (e2.trans e3).trans e4, h4, by rw [pw]; exact longer_row row, by rw [longer_len, pw, len], fun y hy lt => fine3 y hy (by omega)⟩
    · rintro σ' H2 ⟨l, rs, ⟨x3, x4, rfl⟩, e2, hl, row, len, fine⟩
      have fine : ∀ y, Sgs y → num y < 2 ^ 7 → ¬ Wr (lp ps) (TL.tl fl) y := fine
      rcases hF.mono e2 with ⟨nw, ys, so, hp⟩ | ⟨l2, lw2, l45, hp⟩
      · exact s_ret (ev_is (ev_orV (a := true) (b := true) (ev_cb (ea_cons (ev_var rfl) (ea_cons ev_c ea_nil)) (rc_isi (.base (.tup hp)) kit_t2)) fun z => absurd z (by decide)) rfl) fun H3 e3 => k H3 (e2.trans e3)
      · have l7 : 6 < l2.length := by
          apply Classical.byContradiction
          intro z
          have h1 := (num_len l2 lw2.1).2
          have : 2 ^ (l2.length + 1) ≤ 2 ^ 7 := Nat.pow_le_pow_right (by decide) (by omega)
          exact fine l2 lw2.1 (by omega) lw2.2.1
        refine s_ret (ev_is (ev_orV (a := false) (ev_cb (ea_cons (ev_var rfl) (ea_cons ev_c ea_nil)) (rc_isi (.base (.lst hp)) kit_lt)) fun _ => ev_op (ev_cb (ea_cons (ev_op (ev_var (i := 1) rfl) ev_c (rv_ixL (sq_of hp) (i := 0) rfl)) ea_nil) (rc_lenS (K := K) (z := mk l2) (by rw [mk_len]; omega))) ev_c rv_I0) ?_) fun H3 e3 => k H3 (e2.trans e3)
        rw [Bool.false_or, mk_len, decide_eq_true (by omega)]
end
end K10
/-! own classes: the truth of an object whose class has __bool__; != of objects of two classes -/
namespace OwB
open PySem PySem.Spec PyProof.Rows L2 StX OpX
section
variable {prog : Program} {w : World} {A : Around} {E : Value → Shared → Prop} {s : Shared} {K : PySem.W.Frag} {x y C D f : Addr} {ox oy : Obj} {od od' : Option Obj}
open Builtin in
theorem ne_two {Q : Value → Shared → Prop} (hu : A.units < cLine) (hu1 : A.in1.units < cLine) (X : K.In s.heap) (I : PySem.W.InstAt s.heap x ox C od) (J : PySem.W.InstAt s.heap y oy D od') (hn : PySem.W.subIn K (.ref D) (.ref C) = some false)
    (hne : PySem.W.findIn K (.ref C) "__ne__" = some (some (.builtin "object.__ne__"))) (hm : PySem.W.mroIn K C (.type "object") = some true) (hs : PySem.W.findIn K (.ref C) "__eq__" = some (some (.ref f))) (hf : PySem.W.isFn K (.ref f) = true)
    (h : wpAny (model prog w) A.in1 (call (.ref f) [.ref x, .ref y]) (fun r s' => ∃ c, r = .bool c ∧ Q (.bool (!c)) s') E s) : wpAny (model prog w) A (richCompare .NotEq (.ref x) (.ref y)) Q E s := by
  have word := turned (Q := fun v s' => Q v s' ∧ ∃ c, v = .bool c) hu1 X I hm hs hf (wpAny_mono h (fun r s' ⟨c, e, q⟩ => ⟨c, e, q, _, rfl⟩) fun _ _ z => z)
  have bnd : PySem.W.Looks (model prog w) s.heap (bindSpecial (.builtin "object.__ne__") (.ref x)) (.builtin "object.__ne__", [.ref x]) := PySem.W.Looks.of_pure (PySem.F.slot_object_ne.bind _)
  have asked : wpAny (model prog w) A (call (.builtin "object.__ne__") ([.ref x] ++ [.ref y]) >>= fun v => pure (some v)) (OpX.Told fun v s' => Q v s' ∧ ∃ c, v = .bool c) E s := wpAny_bind (wpAny_mono word (fun v s' q => wpAny_pure ⟨v, rfl, q⟩) fun _ _ z => z)
  have tried : wpAny (model prog w) A (tryCompare (.ref x) (cmpInfo .NotEq).2.1 (.ref y)) (OpX.Told Q) E s := by
    unfold tryCompare callSpecialIfBound? bindSpecialIfBound?
    refine wpAny_bind (wpAny_holding (wpAny_bind (wpAny_bind (wpAny_bind (I.type.here ((PySem.W.looks_findIn X hne).here (wpAny_bind (wpAny_askSetting (wpAny_ite ?_)))))))))
    split
    · refine wpAny_bind (bnd.here (wpAny_pure ?_))
      exact wpAny_mono asked (fun r s' ⟨v, e, q, c, ec⟩ => by
        subst e ec
        exact wpAny_pure ⟨_, rfl, q⟩) fun _ _ z => z
    · refine wpAny_tryCatch (wpAny_bind (bnd.here (wpAny_pure ?_)))
      exact wpAny_mono asked (fun r s' ⟨v, e, q, c, ec⟩ => by
        subst e ec
        exact wpAny_pure ⟨_, rfl, q⟩) fun _ _ z => z
  unfold richCompare
  rw [oneThing_ref]
  refine wpAny_holding (wpAny_bind (wpAny_cRoomFor hu (wpAny_bind (I.type.here (wpAny_bind (J.type.here ?_))))))
  by_cases hb : (Value.ref C != Value.ref D) = true
  · rw [if_pos hb]
    refine wpAny_bind ((PySem.W.looks_subIn X hn).here ?_)
    exact told_pure tried fun _ => rfl
  · rw [if_neg hb]
    exact wpAny_bind (wpAny_pure (told_pure tried fun _ => rfl))
end
section
variable {X : Cx} {CX : CXT} {n : Nat} {C g : Addr} {sp : Sp} {E : XK}
/-- the truth of x, x of the class at C, which has __bool__ -/
def rTruB (X : Cx) (C : Addr) (sp : Sp) (E : XK) : V → Hp → (Bool → Hp → Prop) → Prop := fun x H Q => ∃ a, x = .ref a ∧ InsC X H a C ∧ sp [.ref a] H (fun v H' => ∃ b, v = .bl b ∧ Q b H') E
theorem tru_bool (h : Has X.K C g "__bool__") (F : FnR X.prog X.w X.K X.mg X.base CX n g sp) (hr : Room n X.A) (hx : Passes CX X E) : TruR X (rTruB X C sp E) := by
  intro pins s σ H x v Q I rx hq
  obtain ⟨a, rfl, ha, q⟩ := hq
  cases (show v = Value.ref a from rx)
  obtain ⟨ox, od, J, _⟩ := insC_at I ha
  obtain ⟨m, hF⟩ := I.fr
  refine PySem.W.truthy_K hF I.ok.mod.kin J h.at_ h.fn (wpAny_mono (wpAny_call (run_fnR (us := [.ref a]) (vs := [.ref a]) F hr hx I (.cons rfl .nil) q)) (fun v s' back => ?_) fun _ _ z => z)
  obtain ⟨v', H', I', rv, b, eb, qb⟩ := back
  subst eb
  cases (show v = Value.bool b from rv)
  exact ⟨H', I', qb⟩
/-- x != y: x of the class at C, which has an own ==, y of one that is not below it -/
def rNeD (X : Cx) (C D : Addr) (sp : Sp) (E : XK) : R2 := fun x y H Q => ∃ a b, x = .ref a ∧ y = .ref b ∧ InsC X H a C ∧ InsC X H b D ∧ sp [.ref a, .ref b] H (fun v H' => ∃ c, v = .bl c ∧ Q (.bl (!c)) H') E
theorem op_neD {D : Addr} (h : Has X.K C g "__eq__") (hn : PySem.W.subIn X.K (.ref D) (.ref C) = some false) (hne : PySem.W.findIn X.K (.ref C) "__ne__" = some (some (.builtin "object.__ne__"))) (hm : PySem.W.mroIn X.K C (.type "object") = some true) (F : FnR X.prog X.w X.K X.mg X.base CX n g sp)
    (hr : Room (n + 1) X.A) (hx : Passes CX X E) : OpR X (compareOp .NotEq) (rNeD X C D sp E) := fun pins s σ H x y v u Q I rx ry ⟨a, b, ex, ey, ha, hb, q⟩ => by
  subst ex ey
  cases (show v = Value.ref a from rx)
  cases (show u = Value.ref b from ry)
  obtain ⟨ox, od, J, _⟩ := insC_at I ha
  obtain ⟨ox', od', J', _⟩ := insC_at I hb
  refine ne_two hr.units0 hr.in1.units0 I.kIn J J' hn hne hm h.at_ h.fn (wpAny_mono (wpAny_call (SlX.run_at (us := [.ref a, .ref b]) (ws := [.ref a, .ref b]) F hr.in1 I.env0.in1 hx I (.cons rfl (.cons rfl .nil)) q)) (fun r s' back => ?_) fun _ _ z => z)
  obtain ⟨_, H', I', rr, c, ec, qc⟩ := back
  subst ec
  cases (show r = Value.bool c from rr)
  exact ⟨c, rfl, .bl (!c), H', I', rfl, qc⟩
end
end OwB
/-! general: a dict against a text -/
namespace DsT
open PySem PySem.Spec PyProof.Rows L2 SeqAt MeetsSeq AutoSeq1
/-- the dict at l -/
abbrev DObj (dd : Option Addr) (es : Array DictEntry) (n : Nat) (sl : Array (Option Value)) : Obj := { cls := .type "dict", dict := dd, data := .dict es n, slots := sl }
theorem dict_no_str (l : Addr) (dd : Option Addr) (es : Array DictEntry) (n : Nat) (sl : Array (Option Value)) (b : Str) (u : Tok) :
    Meets (Builtin.«dict.__eq__» ⟨[.ref l, .str b u], []⟩) (fun _ R s => s.heap.get? l = some (DObj dd es n sl) ∧ R (.ok (.ret .notImplemented)) s) := by
  refine .of_wp fun prog w A R s hs => ?_
  obtain ⟨hp, gs, dr, tk, os⟩ := s
  obtain ⟨at_, go⟩ := hs
  have sub := F.sub_str_dict
  wp_walk using wpAny_loadPart' at_
  exact ⟨_, rfl, go⟩
theorem str_no_dict (l : Addr) (dd : Option Addr) (es : Array DictEntry) (n : Nat) (sl : Array (Option Value)) (b : Str) (u : Tok) :
    Meets (Builtin.«str.__eq__» ⟨[.str b u, .ref l], []⟩) (fun _ R s => s.heap.get? l = some (DObj dd es n sl) ∧ R (.ok (.ret .notImplemented)) s) := by
  refine .of_wp fun prog w A R s hs => ?_
  obtain ⟨hp, gs, dr, tk, os⟩ := s
  obtain ⟨at_, go⟩ := hs
  wp_walk using wpAny_loadPart' at_, wpAny_load at_
  exact ⟨_, rfl, go⟩
theorem rc_no {A : Around} {s : Shared} {l : Addr} {dd : Option Addr} {es : Array DictEntry} {n : Nat} {sl : Array (Option Value)} (b : Str) (u : Tok) (hl : s.heap.get? l = some (DObj dd es n sl)) (hu : A.units < cLine) : RcAt A s (.ref l) (.str b u) false := fun prog w E Q h =>
  rc_eq_decline_or (k := false) ⟨DObj dd es n sl, hl, rfl⟩ (typeIs_str s b u) (by decide) F.sub_str_dict F.slot_dict_eq F.slot_str_eq_refl
    (fun Q' q => call_meets F.slot_dict_eq ⟨_, hl, rfl⟩ F.entry_dict_eq (F.args_dict_eq_2 _ _) (dict_no_str l dd es n sl b u) ⟨hl, q⟩)
    (fun Q' q => call_meets F.slot_str_eq_refl (typeIs_str s b u) F.entry_str_eq (F.args_str_eq_2 _ _) (str_no_dict l dd es n sl b u) ⟨hl, q⟩) (fun Q' q => wpAny_of_eq (rfl : isSame (.ref l) (.str b u) = pure false) q) (.inr hu) h
section
variable {X : Cx}
def rEqDS : R2 := fun x y H Q => ∃ d kvs b, x = .ref d ∧ H d = some (.dK kvs) ∧ y = .str b ∧ Q (.bl false) H
/-- a dict == a text -/
theorem op_eqDS (hu : X.A.units < cLine) : OpR X (compareOp .Eq) rEqDS := by
  intro pins s σ H x y v u Q I rx ry h
  obtain ⟨d, kvs, b, rfl, hd, rfl, q⟩ := h
  cases rx
  obtain ⟨t, rfl⟩ := ry
  obtain ⟨_, _, vs, _, dd⟩ := dk_of I.hok hd
  obtain ⟨⟨cl, od, da, sl⟩, es, ep, ho, ex, hda, _⟩ := dd
  have hc : cl = .type "dict" := ex.1
  have hda : da = .dict es ep := hda
  subst hc hda
  exact rc_no b t ho hu X.prog X.w X.xe _ ⟨.bl false, H, I, rfl, q⟩
end
end DsT
namespace K10
open PySem L2 Evl Gr ClX OwX OpX StX LamX LamY EXC ClK RdX StS EqT EnT SrtT Fr
/-! ### _law_heard -/
abbrev sHd : Stmt := top 55
abbrev nHd : List Str := ["_law_ask", "_law_caught", "error"]
theorem scHd : FnScope nHd ["_law_ask"] (defScope sHd) := ⟨rfl, rfl, rfl, by decide +kernel, rfl, by decide +kernel, by decide +kernel⟩
/-- an error of the rule goes out -/
def HdE (cB : Addr) (H0 : Hp) (Q : VK) : XK := fun cls d H1 => ∃ dd, d = some dd ∧ cls = .ref cB ∧ H1 dd = some (.xd [("part", .str "rule")]) ∧ ∀ H2, Ex H0 H2 → Q (.str "rule") H2
def THd (cB : Addr) : (XK → Hp → VK → Prop) → Hp → VK → Prop := fun tl H Q => ∀ H1, Ex H H1 → tl (fun cls d H' => Ex H1 H' ∧ HdE cB H Q cls d H') H1 fun _ _ => False
structure HdK (K : PySem.W.Frag) (mg : Str → Option Value) (B cB : Addr) : Prop where
  gP : mg "PostError" = some (.ref B)
  gB : mg "BadRule" = some (.ref cB)
  inst : mg "isinstance" = none
  hit : PySem.W.exmOne K (.ref cB) (.ref B) = some true
  kit : PySem.W.kitOne K (.ref cB) (.ref cB) = some true
  xc : XcC K cB
  fb : PySem.W.findIn K (.ref cB) "part" = some none
/-- what is asked of less holds of more -/
theorem pe_weak {X : Cx} {e : Expr} {te : TE} (he : PE X e te) : PE X e (fun σ H Q => ∃ R : VK, (∀ v H1, R v H1 → Q v H1) ∧ te σ H R) :=
  ⟨fun pins s σ H Q I ⟨R, hr, h⟩ => thn (he.run pins s σ H R I h) fun v s1 ⟨x, H1, I1, r1, q⟩ => ⟨x, H1, I1, r1, hr _ _ q⟩⟩
theorem heard_gives {X : Cx} {q : Str} {g : Addr} {cdg : Value} {B cB : Addr} {k : Nat} (hr : Room k X.A) (T : HdK X.K X.mg B cB) : GivesS X nHd "_law_heard" (defScope sHd) g cdg (defBody sHd) "_law_ask" q (THd cB) := by
  intro f c' s H Q tl act hc h
  refine ⟨_, (pss_cons (ps_set (i := 1) scHd.nd rfl (.inl rfl) pe_non)
      (pss_cons (ps_try_held (X := (cxOf C8.CX0 X.prog X.w X.K X.mg X.base nHd "_law_heard" (defScope sHd) g cdg X.A X.stack s H C8.E0).nox) (c := .ref B) (i := 2)
      (tb := fun W D σ H => σ[0]? = some (some (.ref f)) ∧ H c' = some (CodeO c' q) ∧ ∃ E : XK, (∀ cls d G', E cls d G' → W cls d σ G') ∧ ∃ R : VK, (∀ v H1, R v H1 → D.nx σ H1) ∧ tl E H R)
      rfl rfl rfl scHd.nd rfl rfl ⟨rfl, by decide, .inl T.gP⟩ (fun W pn xe tk _ => ?_) (fun a oe cls d pn _ _ => (pss_one (ps_set (i := 1) scHd.nd rfl (.inl rfl) (pv 2)))))
      (pss_cons (ps_if (pt_cmpR op_isN (pv 1) pe_non (nomark _)) (pss_one (ps_ret pe_non)) pss_nil)
      (pss_one (ps_ret (pe_ifExp (pt_val (pe_callB call_xc (by rfl) T.inst (by decide +kernel) (pa_cons (pv 1) (pa_cons (pe_glob (v := .ref cB) (by rfl) T.gB (by rfl)) pa_nil)))) (pe_xcF (pv 1)) pe_str)))))), ?_⟩
  · refine ⟨fun pins s' σ H D I h' => ?_⟩
    obtain ⟨h1, h2, E, h3, R, h4, h5⟩ := h'
    have hp := act W pn xe ⟨353, 8, 353, 16⟩ ⟨353, 8, 353, 18⟩ tk
    have hq := pss_one (ps_expr (pos := ⟨353, 8, 353, 18⟩) (pe_weak hp))
    exact hq.run pins s' σ H D I ⟨R, h4, h1, h2, E, h3, h5⟩
  · refine q_asg (v := .non) ev_c fun H1 e1 => ?_
    refine ⟨rfl, e1 _ _ hc, fun cls d H' => Ex H1 H' ∧ HdE cB H Q cls d H', fun cls d H2 hE => ?_, fun _ _ => False, fun _ _ z => z.elim, h _ e1⟩
    obtain ⟨e2, dd, rfl, rfl, hd, kk⟩ := hE
    refine ⟨T.hit, fun a ha => ?_⟩
    have e3 := Ex.new (o := ExC (.ref cB) (some dd) a) ha
    refine ⟨_, rfl, ?_⟩
    dsimp only [gName, List.set]
    have ha3 : (upd H2 a (ExC (.ref cB) (some dd) a)) a = some (ExC (.ref cB) (some dd) a) := upd_same
    have hd3 := e3 _ _ hd
    generalize upd H2 a (ExC (.ref cB) (some dd) a) = H3 at e3 ha3 hd3 ⊢
    refine q_when (b := false) (et_is (et_test (ev_op (ev_var rfl) ev_c rv_isN)) (decide_eq_false fun z => by cases z)) (fun z => absurd z (by decide)) (fun _ H4 e4 => ?_)
    refine s_ret (v := .str "rule") (ev_if (b := true) (et_B (ev_cb (ea_cons (ev_var rfl) (ea_cons ev_c ea_nil)) (rc_xc (e4 _ _ ha3) (e4 _ _ hd3) T.xc T.kit))) (fun _ => ev_xcF (ev_var rfl) (e4 _ _ ha3) (e4 _ _ hd3) T.xc T.fb rfl) fun z => absurd z (by decide)) fun H5 e5 => ?_
    exact kk H5 (e1.trans (e2.trans (e3.trans (e4.trans e5))))
/-- _law_heard(lambda: body) -/
theorem pe_heard {X : Cx} {T : List (Addr × Str)} {scope : Scope} {params : Arguments} {body : Expr} {c Pc fH B cB : Addr} {fdH : FuncData} {t : XK → TE} {p lpos pos : PySem.Pos}
    (hg : Gl X "_law_heard") (gH : X.mg "_law_heard" = some (.ref fH)) (FH : Fun X.K "_law_heard" "_law_heard" sHd fH fdH) (bH : Binds X.K fdH ["_law_ask"] []) (HK : HdK X.K X.mg B cB)
    (TB : TabB X.base X.mg c Pc) (hcode : X.env.code = .ref c) (hT : (Pc, X.env.qual ++ nm) ∈ T) (hu : ∀ p ∈ T, p.1 = Pc → p.2 = X.env.qual ++ nm) (hr : Room 10 X.A) (L : LamS X.env.scope scope) (hdef : defaultsOf params X.env = ([], []))
    (hbind : ∀ (q : Str) (cl : List (Str × Addr)) (pm cv ctv : Value), bindArgs (PySem.W.kla_fn nm q params body scope cl pm cv ctv) ⟨[], []⟩ = pure [])
    (hbody : ∀ (A : Around) (outer : List Env) (s : Shared) (H : Hp) (E : XK) (f c' : Addr), Room 8 (A.deeper (lamEnv X scope s.heap.objs.size f c')) → PE (lamCx X A outer s H E scope f c') body (t E)) :
    PE X (.Call (.Name "_law_heard" p) [.Lambda params body scope lpos] [] pos) (tLam T (THd cB) t) := by
  obtain ⟨ocH, odH, kVH, docH, pmH, anH, cdH, ctH, oslH, rfl, lkH, hcH⟩ := FH.ex
  exact pe_lamcallS (T := T) (TT := THd cB) (k := 8) (N := nHd) (a := "_law_ask") hg gH FH.kp lkH hcH bH scHd rfl (.inl rfl) (heard_gives hr HK) TB hcode hT hu hr L hdef hbind hbody
end K10
namespace L2
open PySem PySem.Spec PyProof.Rows LamX
theorem sql_extN {K : PySem.W.Frag} {H H' : Hp} {a : Addr} {xs : List V} (e : ExtN H H') (h : SqL K H a xs) : SqL K H' a xs := by
  rcases h with (h | ⟨w, h⟩) | h
  · exact .inl (.inl (e _ _ h fun _ z => by cases z))
  · exact .inl (.inr ⟨w, e _ _ h fun _ z => by cases z⟩)
  · exact .inr h
theorem sqt_extN {K : PySem.W.Frag} {H H' : Hp} {a : Addr} {xs : List V} (e : ExtN H H') (h : SqT K H a xs) : SqT K H' a xs := by
  rcases h with (h | ⟨w, h⟩) | h
  · exact .inl (.inl (e _ _ h fun _ z => by cases z))
  · exact .inl (.inr ⟨w, e _ _ h fun _ z => by cases z⟩)
  · exact .inr h
mutual
theorem dp_extN {K : PySem.W.Frag} {H H' : Hp} (e : ExtN H H') : ∀ (d : PyData) {v : V}, Dp K H v d → Dp K H' v d
  | .none, _, .non => .non
  | .bool _, _, .bl b => .bl b
  | .int _, _, .int i => .int i
  | .str _, _, .str x => .str x
  | .list ds, _, .lst h a => .lst (sql_extN e h) (dps_extN e ds a)
  | .tuple ds, _, .tup h a => .tup (sqt_extN e h) (dps_extN e ds a)
theorem dps_extN {K : PySem.W.Frag} {H H' : Hp} (e : ExtN H H') : ∀ (ds : List PyData) {vs : List V}, DpAll K H vs ds → DpAll K H' vs ds
  | [], _, .nil => .nil
  | d :: ds, _, .cons h a => .cons (dp_extN e d h) (dps_extN e ds a)
end
end L2
namespace K10
open PySem L2 Evl Gr StX EnT ClX ClK RdX SrtT StS Fr LamX
theorem ValAt.extN {C : Addr} {n : Str} {H H' : Hp} {o : Addr} {v : V} (e : ExtN H H') (h : ValAt C n H o v) : ValAt C n H' o v := by
  obtain ⟨dx, h⟩ := h
  exact ⟨dx, e _ _ h fun _ z => by cases z⟩
theorem RuleAt.extN {K : PySem.W.Frag} {C o : Addr} {H H' : Hp} {f : Str} {ps : List Pr} (k : ExtN H H') (h : RuleAt K C H o f ps) : RuleAt K C H' o f ps := by
  obtain ⟨dx, q, vs, h1, h2, h3, h4⟩ := h
  exact ⟨dx, q, vs, k _ _ h1 (fun _ z => by cases z), sqt_extN k h2, h3.to (fun t p e => k _ _ e (fun _ z => by cases z)), h4⟩
/-- a field of a paper: its data and its type -/
inductive FldV (K : PySem.W.Frag) (H : Hp) : V → PyData → String → Prop
  | non : FldV K H .non .none "NoneType"
  | int (i : Int) : FldV K H (.int i) (.int i) "int"
  | str (z : Str) : FldV K H (.str z) (.str z) "str"
  | lst {a : Addr} {xs : List V} {ds : List PyData} (h : H a = some (.lst xs)) (hd : DpAll K H xs ds) : FldV K H (.ref a) (.list ds) "list"
  | tup {a : Addr} {xs : List V} {ds : List PyData} (h : H a = some (.tup xs)) (hd : DpAll K H xs ds) : FldV K H (.ref a) (.tuple ds) "tuple"
section
variable {K : PySem.W.Frag} {H H' : Hp} {v : V} {d : PyData} {T : String}
theorem FldV.extN (e : ExtN H H') : FldV K H v d T → FldV K H' v d T
  | .non => .non
  | .int i => .int i
  | .str z => .str z
  | .lst h hd => .lst (e _ _ h fun _ z => by cases z) (dps_extN e _ hd)
  | .tup h hd => .tup (e _ _ h fun _ z => by cases z) (dps_extN e _ hd)
theorem FldV.dp : FldV K H v d T → Dp K H v d
  | .non => .non
  | .int i => .int i
  | .str z => .str z
  | .lst h hd => .lst (sq_of h) hd
  | .tup h hd => .tup (st_of h) hd
theorem FldV.ty : FldV K H v d T → TyX K H v (.type T)
  | .non => .base .non
  | .int i => .base (.int i)
  | .str z => .base (.str z)
  | .lst h _ => .base (.lst h)
  | .tup h _ => .base (.tup h)
theorem kit_any : ∀ T ∈ (["NoneType", "int", "str", "list"] : List String), kitB T "tuple" = some false := by decide +kernel
end
/-- what shows_right says of a paper Right(..) whose field is told -/
theorem pap_right {K : PySem.W.Frag} {CR CW u : Addr} {f : Str} {ps : List Pr} {H : Hp} {v : V} {d : PyData} {T : String} {tb b : Bool} {n : Nat} (hv : ValAt CR "states" H u v) (hf : FldV K H v d T) (hd : Low n d) (hn : n ≤ 64) (hk : kitB T "tuple" = some tb)
    (h1 : ∀ ys, NoneW (lp ps) (TL.tl f) → StsOf f ps ys → b = (tb && PyData.eqv d (tupD ys))) (h2 : ¬ NoneW (lp ps) (TL.tl f) → b = false) : ∀ H1, ExtN H H1 → PapA K CR CW f ps H1 (.ref u) b := fun H1 e =>
  .inl ⟨u, v, d, T, tb, rfl, hv.extN e, (hf.extN e).dp, low_shaped hd hn, (hf.extN e).ty, hk, h1, h2⟩
end K10
/-! t[::-1] of a tuple -/
namespace TpX
open PySem PySem.Spec PyProof.Rows L2
theorem back_places (n : Nat) : Builtin.Slice.slicePlaces ((n : Int) - 1) (-1) (-1) = n := by
  unfold Builtin.Slice.slicePlaces
  rw [if_neg (by decide)]
  by_cases h : (n : Int) - 1 > -1
  · rw [if_pos h]
    have : (-(-1) : Int) = 1 := by decide
    rw [this, Int.ediv_one]
    omega
  · rw [if_neg h]
    omega
theorem all_some {α β : Type} {f : α → Option β} {g : α → β} : ∀ {l : List α}, (∀ a ∈ l, f a = some (g a)) → l.filterMap f = l.map g
  | [], _ => rfl
  | a :: l, h => by rw [List.filterMap_cons, h a List.mem_cons_self, List.map_cons, all_some fun b hb => h b (List.mem_cons_of_mem _ hb)]
theorem back_pick (xs : Array Value) : ((List.range xs.size).filterMap fun (m : Nat) => xs[(((xs.size : Int) - 1) + (m : Int) * (-1)).toNat]?).toArray = xs.toList.reverse.toArray := by
  refine congrArg List.toArray ?_
  have one : ∀ m ∈ List.range xs.size, xs[(((xs.size : Int) - 1) + (m : Int) * (-1)).toNat]? = some ((xs.toList.reverse[m]?).getD .none) := fun m hm => by
    have lt := List.mem_range.mp hm
    have e1 : (((xs.size : Int) - 1) + (m : Int) * (-1)).toNat = xs.size - 1 - m := by omega
    have l1 : m < xs.toList.reverse.length := by rw [List.length_reverse, Array.length_toList]; exact lt
    rw [e1, Array.getElem?_eq_getElem (by omega), List.getElem?_eq_getElem l1, List.getElem_reverse]
    simp
  have two : (List.range xs.size).filterMap (fun (m : Nat) => xs[(((xs.size : Int) - 1) + (m : Int) * (-1)).toNat]?) = (List.range xs.size).map fun m => (xs.toList.reverse[m]?).getD .none := by
    exact all_some one
  rw [two]
  apply List.ext_getElem
  · rw [List.length_map, List.length_range, List.length_reverse, Array.length_toList]
  · intro i h1 h2
    rw [List.getElem_map, List.getElem_range, List.getElem?_eq_getElem h2]
    rfl
section
variable {prog : Program} {w : World} {A : Around} {E : Value → Shared → Prop} {s : Shared}
theorem back_parts {sl : Addr} {u : Tok} {n : Nat} {Q : Int × Int × Nat → Shared → Prop} (hs : s.heap.IsSliceOf sl .none .none (.int (-1) u)) (h : Q ((n : Int) - 1, -1, n) s) : wpAny (model prog w) A (Builtin.Slice.sliceApplied (.ref sl) (pure (n : Int))) Q E s := by
  obtain ⟨os, at_, _, fields⟩ := id hs
  unfold Builtin.Slice.sliceApplied Builtin.Slice.sliceFields
  have part0 : ∀ {R : Option Int → Shared → Prop}, R none s → wpAny (model prog w) A (Builtin.Slice.slicePartIndex .none) R E s := fun r => HT.slicePart_ .none r
  have part1 : ∀ {R : Option Int → Shared → Prop}, R (some (-1)) s → wpAny (model prog w) A (Builtin.Slice.slicePartIndex (.int (-1) u)) R E s := fun r => HT.slicePart_ (.int _ _) r
  refine wpAny_bind (wpAny_bind (wpAny_field at_ fields (x := .none) rfl (wpAny_bind (wpAny_field at_ fields (x := .none) rfl (wpAny_bind (wpAny_field at_ fields (x := .int (-1) u) rfl (wpAny_pure ?_)))))))
  apply wpAny_bind
  apply part1
  show wpAny _ _ (if ((-1 : Int) == 0) = true then _ else _) _ _ s
  rw [if_neg (by decide)]
  apply wpAny_bind
  apply part0
  apply wpAny_bind
  apply part0
  apply wpAny_bind
  apply wpAny_pure
  have adj : Builtin.Slice.sliceAdjust none none (-1) (n : Int) = ((n : Int) - 1, -1) := rfl
  show wpAny _ _ (match Builtin.Slice.sliceAdjust none none (-1) (n : Int) with | (lo, hi) => pure (lo, (-1 : Int), Builtin.Slice.slicePlaces lo hi (-1))) _ _ s
  rw [adj]
  show wpAny _ _ (pure ((n : Int) - 1, (-1 : Int), Builtin.Slice.slicePlaces ((n : Int) - 1) (-1) (-1))) _ _ s
  rw [back_places]
  exact wpAny_pure h
theorem back_item {t sl : Addr} {items : Array Value} {u : Tok} {Q : Value → Shared → Prop} (ht : IsTup s.heap t items) (hs : s.heap.IsSliceOf sl .none .none (.int (-1) u)) (few : items.size ≤ sizeLine)
    (h : Q (.ref s.heap.objs.size) { s with heap := s.heap.push { cls := .type "tuple", data := .seq items.toList.reverse.toArray } }) : wpAny (model prog w) A (getItem (.ref t) (.ref sl)) Q E s := by
  have fits : sizeOk (.seq items.toList.reverse.toArray) := by
    show items.toList.reverse.toArray.size ≤ sizeLine
    rw [List.size_toArray, List.length_reverse, Array.length_toList]
    exact few
  have kind : s.TypeIs (.ref sl) "slice" := by
    obtain ⟨os, at_, c, _⟩ := hs
    exact ⟨os, at_, c⟩
  unfold getItem
  try with_reducible refine wpAny_holding ?_
  first | refine wpAny_bind (wpAny_pure ?_) | skip
  apply wpAny_bind
  refine wpAny_sequenceKey ht.typeIs (by decide) ?_
  apply wpAny_bind
  refine wpAny_callSpecial?_slot (name := Str.ofString "__getitem__") ht.typeIs PyProof.Rows.slot_tuple_getitem (wpAny_call_entry PyProof.Rows.slot_tuple_getitem ht.typeIs entry_tuple_getitem ?_ (args_tuple_getitem _ _))
  show wpAny _ _ (Builtin.Tuple.tupleItemsOf (.ref t) >>= _) _ _ s
  apply wpAny_bind
  refine tupleItemsOf_ ht ?_
  apply wpAny_bind
  refine wpAny_typeOf kind ?_
  rw [if_pos (by decide)]
  apply wpAny_bind
  refine back_parts hs ?_
  have other : ((((items.size : Int) - 1) == 0 && (-1 : Int) == 1 && items.size == items.size) = true) = False := by simp
  show wpAny _ _ (if (((items.size : Int) - 1) == 0 && (-1 : Int) == 1 && items.size == items.size) = true then _ else _) _ _ s
  rw [if_neg (by rw [other]; exact id), back_pick]
  first
    | exact wpAny_bind (m := Builtin.Tuple.tupleExact _) (wpAny_newObj_type (wpAny_pure ⟨_, rfl, wpAny_pure h⟩) fits)
    | exact wpAny_bind (m := Builtin.Tuple.tupleExact _) (wpAny_newObj_type (wpAny_bind (wpAny_pure (wpAny_pure ⟨_, rfl, wpAny_pure h⟩))) fits)
    | exact wpAny_bind (wpAny_bind (m := Builtin.Tuple.tupleExact _) (wpAny_newObj_type (wpAny_pure (wpAny_pure ⟨_, rfl, wpAny_pure h⟩)) fits))
end
section
variable {X : Cx} {e : Expr} {te : TE} {k : Nat} {p1 p2 p3 pos : Pos}
/-- -1, as a part of a slice -/
abbrev lessOne (k : Nat) (p1 p2 : Pos) : Expr := .UnaryOp .USub (.Constant (.int 1) k p1) p2
theorem part_less : PO X (some (lessOne k p1 p2)) (tPart (tUn (rU fun i => .int (-i)) (tC (.int 1)))) := po_some (pe_un un_neg pe_int)
/-- t[::-1] -/
def tRevT (K : PySem.W.Frag) (te : TE) : TE := fun σ H Q => te σ H fun x H1 => ∃ a xs, x = .ref a ∧ SqT K H1 a xs ∧ ∀ p, H1 p = none → Q (.ref p) (upd H1 p (.tup xs.reverse))
theorem pe_revT (he : PE X e te) : PE X (.Subscript e (.Slice none none (some (lessOne k p1 p2)) p3) pos) (tRevT X.K te) := by
  constructor
  intro pins s σ H Q I h
  apply Subscript_
  refine thn (he.run pins s σ H _ I h) fun v s1 ⟨x, H1, I1, rx, a, xs, ex, hx, q⟩ => ?_
  subst ex
  cases (show v = Value.ref a from rx)
  apply wpAny_Slice
  refine thn (po_none.run pins s1 σ H1 (fun o G => o = none ∧ G = H1) I1 ⟨rfl, rfl⟩) fun v1 s2 ⟨o1, G1, I2, w1, z1, y1⟩ => ?_
  subst z1 y1
  cases w1
  refine thn (po_none.run pins s2 σ G1 (fun o G => o = none ∧ G = G1) I2 ⟨rfl, rfl⟩) fun v2 s3 ⟨o2, G2, I3, w2, z2, y2⟩ => ?_
  subst z2 y2
  cases w2
  refine thn (part_less.run pins s3 σ G2 (fun o G => o = some (-1) ∧ G = G2) I3 ⟨1, rfl, -1, rfl, rfl, rfl⟩) fun v3 s4 ⟨o3, G3, I4, w3, z3, y3⟩ => ?_
  subst z3 y3
  cases w3 with
  | int _ u =>
    let sl : Obj := { cls := .type "slice", data := .fields #[.none, .none, .int (-1) u] }
    have J : Inv X pins σ G3 { s4 with heap := s4.heap.push sl } := I4.kept (t' := s4.toks) fun b ob y => Heap.get?_push_of_some _ y
    obtain ⟨its, r, ht, few⟩ := J.tuple hx
    have len := r.length
    show wpAny (model X.prog X.w) X.A (subscriptTail e (.Slice none none (some (lessOne k p1 p2)) p3) (.ref a) (.ref s4.heap.objs.size)) (EP X pins σ Q) X.xe { s4 with heap := s4.heap.push sl }
    refine tail_any (ops := [.ref a, .ref s4.heap.objs.size]) ht.typeIs PyProof.Rows.slot_tuple_getitem.lookup ?_ (by with_unfolding_all rfl)
    refine back_item ht (Heap.IsSliceOf.new _ .none .none (.int (-1) u)) (by rw [List.size_toArray]; omega) ?_
    refine ⟨.ref _, _, J.laid (t' := s4.toks) (o := .tup xs.reverse) (fun b ob y => Heap.get?_push_of_some _ y) (Nat.le_refl _) ?_, rfl, q _ (J.hok.fresh (Nat.le_refl _))⟩
    exact ⟨by rw [List.length_reverse]; exact few, _, r.reverse, IsTup.new _ _⟩
end
end TpX
/-! t * 0 of a tuple that is not empty -/
namespace TpX
open PySem PySem.Spec PyProof.Rows L2
theorem zero_mul (l : Addr) (items : Array Value) (n : Nat) (dd : Option Addr) (sl : Array (Option Value)) (u : Tok) (full : items.isEmpty = false) : Meets (Builtin.«tuple.__mul__» ⟨[.ref l, .int 0 u], []⟩) (fun _ R s => s.heap.get? l = some { cls := .type "tuple", dict := dd, data := .seq items n, slots := sl } ∧
    R (.ok (.ret (Value.ref s.heap.objs.size))) { s with heap := s.heap.push { cls := Value.type "tuple", data := Data.seq #[] } }) := Meets.of_wp fun prog w A R s hh => by
  rcases s with ⟨hp, gs, ds, tk, sys⟩
  rcases hh with ⟨at_, goal⟩
  have f1 := AutoSeq1.idx_int
  have c0 : (decide ((0 : Int) < -(2 ^ 63)) || decide ((0 : Int) ≥ 2 ^ 63)) = false := by decide
  have c1 : (items.isEmpty || (0 : Int) == 1) = false := by rw [full]; rfl
  have c2 : (decide ((0 : Int) ≤ 0) || items.isEmpty) = true := by rw [full]; rfl
  have fits : sizeOk (Data.seq #[]) := Nat.zero_le _
  wp_walk using wpAny_loadPart' at_
  repeat (first
    | (refine wpAny_ite_false (decide_eq_false (by rw [c0]; exact Bool.false_ne_true)) ?_; wp_walk using wpAny_loadPart' at_)
    | (refine wpAny_ite_false (decide_eq_false (by rw [c1]; exact Bool.false_ne_true)) ?_; wp_walk using wpAny_loadPart' at_)
    | (refine wpAny_ite_true (decide_eq_true c2) ?_; wp_walk using wpAny_loadPart' at_))
  exact ⟨_, rfl, goal⟩
def rNaught (K : PySem.W.Frag) : R2 := fun x y H Q => ∃ l xs, x = .ref l ∧ y = .int 0 ∧ SqT K H l xs ∧ xs ≠ [] ∧ ∀ p, H p = none → Q (.ref p) (upd H p (.tup []))
section
variable {X : Cx}
theorem op_naught : OpR X (binaryOp .Mult) (rNaught X.K) := by
  intro pins s σ H x y v u Q I rx ry hq
  obtain ⟨l, xs, rfl, rfl, hT, ne, q⟩ := hq
  cases (show v = Value.ref l from rx)
  obtain ⟨t, e⟩ := (show ∃ t, u = Value.int 0 t from ry)
  subst e
  obtain ⟨its, r, ⟨⟨cls, dd, data, sl⟩, ho, hc, n, hd⟩, hs⟩ := I.tuple hT
  simp only at hc hd
  subst hc hd
  have kind : s.TypeIs (.ref l) "tuple" := ⟨_, ho, rfl⟩
  have full : its.toArray.isEmpty = false := by
    cases its with
    | nil => cases r; exact absurd rfl ne
    | cons a b => simp
  refine wpAny_binaryOp_repeat_ref (T := "tuple") (U := "int") (by decide) kind (fun s' => typeIs_int s' 0 t) noFill_tuple_mul F.fills_int_mul F.slot_int_rmul repeat_tuple F.slot_int_index.lookup
    (call_meets F.slot_int_rmul (typeIs_int s 0 t) F.entry_int_rmul (F.args_int_rmul_2 _ _) (int_rmul_tuple 0 t l its.toArray n dd sl) ⟨ho, rfl, kind, call_meets F.slot_tuple_mul kind F.entry_tuple_mul (F.args_tuple_mul_2 _ _) (zero_mul l its.toArray n dd sl t full) ⟨ho, ?_⟩⟩)
  refine ⟨.ref s.heap.objs.size, _, I.laid (t' := s.toks) (o := .tup []) (fun b ob y => Heap.get?_push_of_some _ y) (Nat.le_refl _) ?_, rfl, q _ (I.hok.fresh (Nat.le_refl _))⟩
  exact ⟨Nat.zero_le _, [], .nil, IsTup.new _ _⟩
end
end TpX
/-! bool(an own object whose class has __bool__) -/
namespace OwB
open PySem PySem.Spec PyProof.Rows L2 StX OpX
section
variable {prog : Program} {w : World} {A : Around} {E : Value → Shared → Prop} {s : Shared} {K : PySem.W.Frag} {x C f L : Addr} {ox : Obj} {od : Option Obj} {h₀ : Heap} {m : Str → Option Value}
theorem made_bool {Q : Value → Shared → Prop} (tr : wpAny (model prog w) A.in1.in1 (truthy (.ref x)) (fun b s' => Q (.bool b) s') E s) : wpAny (model prog w) A (call (.type "bool") [.ref x]) Q E s := by
  refine callType_codes (T := "bool") (Bi := Builtin.«object.__init__») (Q₁ := fun r s₁ => ∃ b, r = .bool b ∧ Q r s₁) PySem.F.called_bool (PySem.F.typeCall_bool_1 _) PySem.F.entry_object_init ?_ ?_
  · apply codeAny_of_tree
    show wpAny _ A.in1.in1 (do checkBuiltinCall "bool.__new__" ⟨[.type "bool", .ref x], []⟩; again (.builtin "bool.__new__" ⟨[.type "bool", .ref x], []⟩)) _ _ s
    apply wpAny_bind
    refine wpAny_of_eq (PySem.F.newCall_bool_1 _) (wpAny_pure ⟨plainId_quiet (by decide +kernel) _, codeAny_builtin PySem.F.entry_bool_new ?_⟩)
    rw [Around.under_plainId (by decide +kernel) _]
    have f1 := F.conv_sub_bool
    obtain ⟨hp, g, d, tk, os⟩ := s
    repeat (any_goals (first | assumption | (with_reducible refine wpAny_mono tr (fun b s' q => ?_) (fun _ _ z => z)) | wp_step))
    exact ⟨b, rfl, q⟩
  · rintro obj s₁ ⟨b, rfl, q⟩
    exact ⟨PySem.typeIs_bool _ _, PySem.F.args_object_init_2 _ _, object_init_meets PySem.F.called_bool.init.lookup PySem.F.called_bool.made (by decide) prog w A.in1 _ s₁ ⟨PySem.typeIs_bool _ _, rfl, q⟩⟩
end
section
variable {X : Cx} {CX : CXT} {n : Nat} {C g : Addr} {sp : Sp} {E : XK}
/-- bool(x), x of the class at C, which has __bool__ -/
theorem call_boolO (h : Has X.K C g "__bool__") (F : FnR X.prog X.w X.K X.mg X.base CX n g sp) (hr : Room (n + 2) X.A) (hx : Passes CX X E) :
    CallR X (.type "bool") (fun xs H Q => ∃ a, xs = [.ref a] ∧ InsC X H a C ∧ sp [.ref a] H (fun v H' => ∃ b, v = .bl b ∧ Q (.bl b) H') E) := by
  intro pins s σ H xs us Q I r hq
  obtain ⟨a, rfl, ha, q⟩ := hq
  obtain ⟨u, rfl, ru⟩ := vals1 r
  cases (show u = Value.ref a from ru)
  obtain ⟨ox, od, J, _⟩ := insC_at I ha
  obtain ⟨m, hF⟩ := I.fr
  refine made_bool (PySem.W.truthy_K hF I.ok.mod.kin J h.at_ h.fn (wpAny_mono (wpAny_call (SlX.run_at (us := [.ref a]) (ws := [.ref a]) F hr.in1.in1 I.env0.in1.in1 hx I (.cons rfl .nil) q)) (fun v s' back => ?_) fun _ _ z => z))
  obtain ⟨v', H', I', rv, b, eb, qb⟩ := back
  subst eb
  cases (show v = Value.bool b from rv)
  exact ⟨.bl b, H', I', rfl, qb⟩
end
end OwB
namespace K10
open PySem L2 Evl Gr StX EnT ClX ClK RdX SrtT StS Fr LamX
/-- a comprehension that keeps nothing, where tables may grow -/
theorem lc_none {K : PySem.W.Frag} {T : List (Addr × Str)} {σ : L2.St} {H : Hp} {i j : Nat} {vs : List Nat} {a : Addr} {xs : List V} {t : TT} {te : TE} {Q : VK} (hi : σ[i]? = some (some (.ref a))) (ha : H a = some (.lst xs)) (tabs : Tabs T H) (hw : ∀ x, wipe ((wipe σ vs).set j (some x)) vs = wipe σ vs)
    (ht : ∀ x ∈ xs, ∀ H1, ExtN H H1 → Tabs T H1 → ∀ R : Bool → Hp → Prop, (∀ H2, ExtN H1 H2 → Tabs T H2 → R false H2) → t ((wipe σ vs).set j (some x)) H1 R)
    (k : ∀ D H2, H D = none → ExtN H H2 → Tabs T H2 → H2 D = some (.lst []) → Q (.ref D) H2) : tLc (iList K (tVar i)) (gName j) t te vs σ H Q :=
  ⟨_, hi, a, rfl, ⟨xs, sq_of ha⟩, fun D hD => lc_it (n := xs.length) (walk_list (K := K) (a := a) (xs := xs)) (fun _ H' => ExtN H H' ∧ Tabs T H' ∧ H' D = some (.lst [])) ⟨ExtN.of (Ex.new hD), tabs.ext (Ex.new hD), upd_same⟩ (fun _ H' _ h => sq_of (h.1 _ _ ha (fun _ z => by cases z))) (fun n x H' H'' hn h y => by
    obtain ⟨rfl, hx⟩ := y
    refine ⟨hw x, ht x (List.mem_of_getElem? hx) _ h.1 h.2.1 _ fun H2 e T2 => ?_⟩
    rw [if_neg Bool.false_ne_true]
    exact ⟨h.1.trans e, T2, e _ _ h.2.2 (fun _ z => by cases z)⟩) (fun H' h => k D H' hD h.1 h.2.1 h.2.2)⟩
end K10
namespace K10
open PySem L2 Evl Gr StX EnT ClX ClK RdX SrtT StS Fr LamX
theorem nd_mk {o : List (L × L)} (h : (o.map Prod.fst).Nodup) : (o.map fun p => mk p.1).Nodup := by
  have e : (o.map fun p => mk p.1) = (o.map Prod.fst).map mk := by rw [List.map_map]; rfl
  rw [e]
  unfold List.Nodup
  rw [List.pairwise_map]
  exact h.imp fun n z => n (mk_inj z)
theorem wlk_all {f : Str} {ps : List Pr} {o : List (L × L)} (w : Wk (lp ps) (Wp f ps) o o.length) : Wlk (lp ps) (Wp f ps) (o.map Prod.fst) (o.map Prod.fst).length := by
  have := w.wlk
  rwa [show o.length = (o.map Prod.fst).length by rw [List.length_map]] at this
/-- the states of a rule stand in one order alone -/
theorem sts_one {f : Str} {ps : List Pr} {ys zs : List Str} (h : StsOf f ps ys) (h' : StsOf f ps zs) : ys = zs := by
  obtain ⟨o, w, np, pm, up⟩ := h
  obtain ⟨o', w', np', pm', up'⟩ := h'
  have same : (o.map fun p => mk p.1).Perm (o'.map fun p => mk p.1) := by
    refine (List.perm_ext_iff_of_nodup (nd_mk w.wlk.nd) (nd_mk w'.wlk.nd)).mpr fun z => ?_
    have one : ∀ o : List (L × L), z ∈ (o.map fun p => mk p.1) ↔ TL.tl z ∈ o.map Prod.fst := fun o => by
      constructor
      · intro h
        obtain ⟨p, hp, rfl⟩ := List.mem_map.mp h
        exact List.mem_map.mpr ⟨p, hp, rfl⟩
      · intro h
        obtain ⟨p, hp, e⟩ := List.mem_map.mp h
        exact List.mem_map.mpr ⟨p, hp, by rw [e]⟩
    rw [one, one, (wlk_all w).mem wp_ne wp_mem np, (wlk_all w').mem wp_ne wp_mem np']
  exact SLn.row_one up up' ((pm.trans same).trans pm'.symm)
end K10
namespace K10
open PySem L2 Evl Gr StX EnT ClX ClK RdX SrtT StS Fr LamX
/-- a paper: a Right whose field is told, a Wrong whose field is no letter, or no verdict -/
def Paper (K : PySem.W.Frag) (CR CW : Addr) (H : Hp) (y : V) : Prop :=
  (∃ (u : Addr) (v : V) (d : PyData) (T : String) (tb : Bool), y = .ref u ∧ ValAt CR "states" H u v ∧ FldV K H v d T ∧ Low 2 d ∧ kitB T "tuple" = some tb) ∨
  (∃ (u : Addr) (v : V), y = .ref u ∧ ValAt CW "letter" H u v ∧ ∀ H1, ExtN H H1 → SgV K H1 v 0 200 false) ∨
  (∀ H1, ExtN H H1 → ∃ T : Value, TyX K H1 y T ∧ PySem.W.kitOne K T (.ref CR) = some false ∧ PySem.W.kitOne K T (.ref CW) = some false)
theorem Paper.extN {K : PySem.W.Frag} {CR CW : Addr} {H H' : Hp} {y : V} (e : ExtN H H') (h : Paper K CR CW H y) : Paper K CR CW H' y := by
  rcases h with ⟨u, v, d, T, tb, h1, h2, h3, h4, h5⟩ | ⟨u, v, h1, h2, h3⟩ | h
  · exact .inl ⟨u, v, d, T, tb, h1, h2.extN e, h3.extN e, h4, h5⟩
  · exact .inr (.inl ⟨u, v, h1, h2.extN e, fun H1 e1 => h3 H1 (e.trans e1)⟩)
  · exact .inr (.inr fun H1 e1 => h H1 (e.trans e1))
/-- what shows_right says of a paper: yes only of the states themselves -/
theorem paper_said {K : PySem.W.Frag} {CR CW : Addr} {f : Str} {ps : List Pr} {H : Hp} {y : V} (h : Paper K CR CW H y) : ∃ b : Bool, (∀ H1, ExtN H H1 → PapA K CR CW f ps H1 y b) ∧
    (b = true → NoneW (lp ps) (TL.tl f) ∧ ∃ (u : Addr) (v : V) (d : PyData) (T : String), y = .ref u ∧ ValAt CR "states" H u v ∧ FldV K H v d T ∧ Low 2 d ∧ ∀ ys, StsOf f ps ys → PyData.eqv d (tupD ys) = true) := by
  rcases h with ⟨u, v, d, T, tb, rfl, hv, hf, hd, hk⟩ | ⟨u, v, rfl, hv, hs⟩ | h
  · by_cases c : NoneW (lp ps) (TL.tl f) ∧ ∀ ys, StsOf f ps ys → (tb && PyData.eqv d (tupD ys)) = true
    · refine ⟨true, pap_right hv hf hd (by decide) hk (fun ys nw so => (c.2 ys so).symm) (fun z => absurd c.1 z), fun _ => ⟨c.1, u, v, d, T, rfl, hv, hf, hd, fun ys so => ?_⟩⟩
      have := c.2 ys so
      rw [Bool.and_eq_true] at this
      exact this.2
    · refine ⟨false, pap_right hv hf hd (by decide) hk (fun ys nw so => ?_) (fun _ => rfl), fun z => by cases z⟩
      cases e : (tb && PyData.eqv d (tupD ys)) with
      | false => rfl
      | true =>
        refine absurd ⟨nw, fun zs so' => ?_⟩ c
        rw [sts_one so' so]
        exact e
  · exact ⟨false, fun H1 e => .inr (.inl ⟨u, v, rfl, hv.extN e, .inl ⟨hs H1 e, rfl⟩⟩), fun z => by cases z⟩
  · exact ⟨false, fun H1 e => by
      obtain ⟨T, h1, h2, h3⟩ := h H1 e
      exact .inr (.inr ⟨T, h1, h2, h3, rfl⟩), fun z => by cases z⟩
end K10
namespace K10
open PySem L2 Evl Gr OwX OpX OwB StX EnT ClX ClK RdX SrtT StS Fr LamX
/-- gives an object of the class at C whose field n is told: its value and data -/
def EvV (K : PySem.W.Frag) (C : Addr) (n : Str) (te : TE) (σ : L2.St) (H : Hp) (d : PyData) : Prop := ∀ H1, Ex H H1 → ∀ Q : VK, (∀ u v T H2, Ex H1 H2 → ValAt C n H2 u v → FldV K H2 v d T → Q (.ref u) H2) → te σ H1 Q
theorem FldV.mono {K : PySem.W.Frag} {H H' : Hp} {v : V} {d : PyData} {T : String} (e : Ex H H') (h : FldV K H v d T) : FldV K H' v d T := h.extN (ExtN.of e)
theorem val_insC {X : Cx} {C : Addr} {n : Str} {H : Hp} {u : Addr} {v : V} (h : ValAt C n H u v) : InsC X H u C := by
  obtain ⟨dx, h⟩ := h
  exact .inr ⟨dx, _, h⟩
section
variable {X : Cx} {σ : L2.St} {H : Hp} {ta tb te : TE} {C D : Addr} {n m : Str} {d d' : PyData} {E : XK} {i : Nat}
theorem evv_var {u : Addr} {v : V} {T : String} (hi : σ[i]? = some (some (.ref u))) (h : ValAt C n H u v) (f : FldV X.K H v d T) : EvV X.K C n (tVar i) σ H d := fun H1 e Q q => ⟨_, hi, q u v T H1 (Ex.refl H1) (h.mono e) (f.mono e)⟩
/-- a new one -/
theorem evv_make {v : V} {T : String} (h : Ev te σ H v) (f : FldV X.K H v d T) : EvV X.K C n (tMake C (spVI C n) [] E (tCons te tNil)) σ H d := fun H1 e Q q =>
  (ea_cons h ea_nil) H1 e _ fun H2 e2 x dx hx hd hn => init_val hx hd hn fun H3 e3 hv => q x v T H3 (e2.trans e3) hv (f.mono (e.trans (e2.trans e3)))
/-- one of a new tuple or list -/
theorem evv_makeU {xs : List V} {ds : List PyData} (h : EvU te σ H xs) (hd : ∀ H1, Ex H H1 → DpAll X.K H1 xs ds) : EvV X.K C n (tMake C (spVI C n) [] E (tCons te tNil)) σ H (.tuple ds) := fun H1 e Q q =>
  h H1 e _ fun a H2 _ e2 h2 x dx hx hdx hn => init_val hx hdx hn fun H3 e3 hv => q x (.ref a) "tuple" H3 (e2.trans e3) hv (.tup (e3 _ _ h2) (hd H3 (e.trans (e2.trans e3))))
theorem evv_makeL {xs : List V} {ds : List PyData} (h : EvL te σ H xs) (hd : ∀ H1, Ex H H1 → DpAll X.K H1 xs ds) : EvV X.K C n (tMake C (spVI C n) [] E (tCons te tNil)) σ H (.list ds) := fun H1 e Q q =>
  h H1 e _ fun a H2 _ e2 h2 x dx hx hdx hn => init_val hx hdx hn fun H3 e3 hv => q x (.ref a) "list" H3 (e2.trans e3) hv (.lst (e3 _ _ h2) (hd H3 (e.trans (e2.trans e3))))
theorem ev_neV (ha : EvV X.K C n ta σ H d) (hb : EvV X.K C n tb σ H d') (sd : SeqAt.shaped d = true) (sd' : SeqAt.shaped d' = true) : Ev (tOp (rNeO X C (spVE X.K C n) E) ta tb) σ H (.bl (!PyData.eqv d d')) := fun H1 e Q q =>
  ha H1 e _ fun o v T H2 e2 ho fo => hb H2 (e.trans e2) _ fun u v' T' H3 e3 hu fu => ⟨o, u, rfl, rfl, val_insC (ho.mono e3), val_insC hu, o, .ref u, rfl, .inl ⟨u, v, v', d, d', rfl, ho.mono e3, hu, (fo.mono e3).dp, fu.dp, sd, sd', fun H4 e4 => ⟨_, rfl, q H4 ((e2.trans e3).trans e4)⟩⟩⟩
theorem ev_eqV (nf : PySem.W.notFirst X.K C (.ref C) = true) (ha : EvV X.K C n ta σ H d) (hb : EvV X.K C n tb σ H d') (sd : SeqAt.shaped d = true) (sd' : SeqAt.shaped d' = true) : Ev (tOp (rEqO X C (spVE X.K C n) E) ta tb) σ H (.bl (PyData.eqv d d')) := fun H1 e Q q =>
  ha H1 e _ fun o v T H2 e2 ho fo => hb H2 (e.trans e2) _ fun u v' T' H3 e3 hu fu => ⟨o, u, C, rfl, rfl, val_insC (ho.mono e3), val_insC hu, nf, o, .ref u, rfl, .inl ⟨u, v, v', d, d', rfl, ho.mono e3, hu, (fo.mono e3).dp, fu.dp, sd, sd', fun H4 e4 => q H4 ((e2.trans e3).trans e4)⟩⟩
/-- objects of two classes differ -/
theorem ev_neW (VD : VCls X.K D m) (I : FIsi X.K D) (hk : PySem.W.kitOne X.K (.ref D) (.ref C) = some false) (ha : EvV X.K C n ta σ H d) (hb : EvV X.K D m tb σ H d') : Ev (tOp (rNeD X C D (spVE X.K C n) E) ta tb) σ H (.bl true) := fun H1 e Q q =>
  ha H1 e _ fun o v T H2 e2 ho fo => hb H2 (e.trans e2) _ fun u v' T' H3 e3 hu fu => ⟨o, u, rfl, rfl, val_insC (ho.mono e3), val_insC hu, o, .ref u, rfl, .inr ⟨.ref D, val_ty VD I hu, hk, fun H4 e4 => ⟨_, rfl, q H4 ((e2.trans e3).trans e4)⟩⟩⟩
/-- the truth of one -/
theorem et_val {b : Bool} (ha : EvV X.K C n ta σ H d) : EvT (fun σ H Q => ta σ H fun x H' => rTruB X C (spVB b) E x H' Q) σ H b := fun H1 e Q q =>
  ha H1 e _ fun o v T H2 e2 ho _ => ⟨o, rfl, val_insC ho, o, rfl, fun H3 e3 => ⟨b, rfl, q H3 (e2.trans e3)⟩⟩
end
end K10
namespace K10
open PySem L2 Evl Gr OwX OpX OwB StX EnT ClX ClK RdX SrtT StS Fr LamX
abbrev rNotBl : R2 := fun x y H Q => ∃ a b, x = .bl a ∧ y = .bl b ∧ Q (.bl (!decide (a = b))) H
theorem and_call {sp : Sp} {E : XK} {t : TA} {vs : List V} {σ : L2.St} {H : Hp} {tB : TT} {R : Bool → Hp → Prop} (ha : EvA t σ H vs)
    (k : ∀ H1, Ex H H1 → sp (vs ++ []) H1 (fun x H2 => ∃ a b : Bool, x = .bl a ∧ V.bl false = .bl b ∧ ∃ c : Bool, V.bl (!decide (a = b)) = .bl c ∧ if c = true then tB σ H2 R else R false H2) E) : tAnd (tTest (tOp rNotBl (tCall sp [] E t) (tC (.bl false)))) tB σ H R :=
  ha H (Ex.refl H) _ k
/-- a paper is not kept: it is not shown right, or it is the states themselves -/
theorem paper_out {X : Cx} {T : List (Addr × Str)} {C cB CR CW o : Addr} {f : Str} {ps : List Pr} {σ : L2.St} {H : Hp} {i j : Nat} {y : V} {tb : TE} {E E' : XK} {R : Bool → Hp → Prop} (hi : σ[i]? = some (some (.ref o))) (hj : σ[j]? = some (some y)) (hO : RuleAt X.K C H o f ps) (g : Good f ps) (tabs : Tabs T H)
    (hp : Paper X.K CR CW H y) (hb : NoneW (lp ps) (TL.tl f) → ∀ H2, ExtN H H2 → ∃ ys, StsOf f ps ys ∧ EvV X.K CR "states" tb σ H2 (tupD ys)) (k : ∀ H2, ExtN H H2 → Tabs T H2 → R false H2) :
    tAnd (tTest (tOp rNotBl (tCall (spShr X.K C cB CR CW T) [] E (tCons (tVar i) (tCons (tVar j) tNil))) (tC (.bl false)))) (tTest (tOp (rNeO X CR (spVE X.K CR "states") E') (tVar j) tb)) σ H R := by
  obtain ⟨b, h1, h2⟩ := paper_said (f := f) (ps := ps) hp
  refine and_call (ea_cons (ev_var hi) (ea_cons (ev_var hj) ea_nil)) fun H1 e1 => ⟨_, _, rfl, .inr ⟨o, f, ps, b, rfl, hO.mono e1, fun H2 e2 => hO.extN ((ExtN.of e1).trans e2), tabs.ext e1, fun H2 e2 => h1 H2 ((ExtN.of e1).trans e2), fun H2 e2 T2 => ?_⟩⟩
  have E2 := (ExtN.of e1).trans e2
  refine ⟨b, false, rfl, rfl, ?_⟩
  refine ⟨_, rfl, ?_⟩
  cases b with
  | false => exact k H2 E2 T2
  | true =>
    obtain ⟨nw, u, v, d, Ty, rfl, hv, fv, low, same⟩ := h2 rfl
    obtain ⟨ys, so, evb⟩ := hb nw H2 E2
    have ne := ev_neV (E := E') (X := X) (evv_var hj (hv.extN E2) (fv.extN E2)) evb (low_shaped low (by decide)) (low_shaped (sts_low g so) (by decide))
    refine ne H2 (Ex.refl H2) _ fun H3 e3 => ⟨_, rfl, ?_⟩
    rw [same ys so]
    exact k H3 (E2.trans (ExtN.of e3)) (T2.ext e3)
end K10
namespace K10
open PySem L2 Evl Gr OwX OpX OwB StX EnT ClX ClK RdX SrtT StS Fr LamX
/-! ### rows of which something holds -/
def EvOne (R : Hp → V → Prop) (te : TE) (σ : L2.St) (H : Hp) : Prop := ∀ H1, Ex H H1 → ∀ Q : VK, (∀ x H2, Ex H1 H2 → R H2 x → Q x H2) → te σ H1 Q
def EvAll (R : Hp → V → Prop) (n : Nat) (ta : TA) (σ : L2.St) (H : Hp) : Prop := ∀ H1, Ex H H1 → ∀ Q : List V → Hp → Prop, (∀ xs H2, Ex H1 H2 → xs.length = n → (∀ x ∈ xs, R H2 x) → Q xs H2) → ta σ H1 Q
def UpR (R : Hp → V → Prop) : Prop := ∀ H H' x, Ex H H' → R H x → R H' x
section
variable {R : Hp → V → Prop} {σ : L2.St} {H : Hp} {te : TE} {ta : TA} {n : Nat}
theorem all_nil : EvAll R 0 tNil σ H := fun H1 _ Q q => q [] H1 (Ex.refl H1) rfl fun x h => by cases h
theorem all_cons (up : UpR R) (h : EvOne R te σ H) (hr : EvAll R n ta σ H) : EvAll R (n + 1) (tCons te ta) σ H := fun H1 e Q q =>
  h H1 e _ fun x H2 e2 rx => hr H2 (e.trans e2) _ fun xs H3 e3 len all => q (x :: xs) H3 (e2.trans e3) (by rw [List.length_cons, len]) fun y hy => by
    rcases List.mem_cons.mp hy with rfl | hy
    · exact up _ _ _ e3 rx
    · exact all y hy
theorem one_v {v : V} (h : Ev te σ H v) (r : ∀ H1, Ex H H1 → R H1 v) : EvOne R te σ H := fun H1 e Q q => h H1 e _ fun H2 e2 => q v H2 e2 (r H2 (e.trans e2))
end
theorem fld_kit {K : PySem.W.Frag} {H : Hp} {v : V} {d : PyData} {T : String} (h : FldV K H v d T) : ∃ tb, kitB T "tuple" = some tb := by
  cases h with
  | non => exact ⟨_, kit_any _ (by decide)⟩
  | int i => exact ⟨_, kit_any _ (by decide)⟩
  | str z => exact ⟨_, kit_any _ (by decide)⟩
  | lst _ _ => exact ⟨_, kit_any _ (by decide)⟩
  | tup _ _ => exact ⟨_, kit_t2⟩
section
variable {K : PySem.W.Frag} {CR CW : Addr} {σ : L2.St} {H : Hp} {te : TE} {d : PyData} {n : Nat}
theorem paper_up : UpR (Paper K CR CW) := fun _ _ _ e h => h.extN (ExtN.of e)
theorem low_le {m : Nat} (h : Low m d) (l : m ≤ n) : Low n d := ⟨h.1, Nat.le_trans h.2 l⟩
/-- a Right made of what is told -/
theorem one_right (h : EvV K CR "states" te σ H d) (hd : Low 2 d) : EvOne (Paper K CR CW) te σ H := fun H1 e Q q => h H1 e _ fun u v T H2 e2 hv hf => by
  obtain ⟨tb, hk⟩ := fld_kit hf
  exact q _ H2 e2 (.inl ⟨u, v, d, T, tb, rfl, hv, hf, hd, hk⟩)
/-- a row of papers, a new list -/
theorem el_papers {t : TA} {Q : VK} (h : EvAll (Paper K CR CW) n t σ H) (hn : n ≤ 1000) (k : ∀ p xs H2, H p = none → Ex H H2 → H2 p = some (.lst xs) → xs.length = n → (∀ x ∈ xs, Paper K CR CW H2 x) → Q (.ref p) H2) : tLst t σ H Q :=
  h H (Ex.refl H) _ fun xs H1 e1 len all => ⟨by rw [len]; exact sz_of (by omega), fun p hp => k p xs _ (fresh_back e1 hp) (e1.trans (Ex.new hp)) upd_same len fun x hx => paper_up _ _ _ (Ex.new hp) (all x hx)⟩
end
end K10
namespace L2
open PySem PySem.Spec PyProof.Rows
def rReprB : List V → Hp → VK → Prop := fun xs H Q => ∃ b : Bool, xs = [.bl b] ∧ Q (.str (if b then "True" else "False")) H
theorem call_reprB {X : Cx} : CallR X (.builtin "repr") rReprB := by
  intro pins s σ H xs us Q I r h
  obtain ⟨b, rfl, q⟩ := h
  obtain ⟨u, rfl, ru⟩ := vals1 r
  cases ru
  exact PySem.P.repr_of_bool ⟨.str _, H, I.tok _, ⟨_, rfl⟩, q⟩
section
variable {X : Cx} {CX : CXT} {E : XK} {k : Nat} {f : Addr} {fd : FuncData} {ps ks : List Str} {sp : Sp} {x : Str} {p pos : Pos} {kws : List Keyword} {tk : TA} {g : List Value → List Value → List Value} {gV : List V → List V → List V}
/-- f(k = v, ..), keywords alone, errors go out -/
theorem pe_callKx (F : FnOk X.prog X.w X.K X.mg X.base CX k f fd ps sp) (hr : Room k X.A) (hg : Gl X x) (hm : X.mg x = some (.ref f)) (hk : PySem.W.keepIn X.K (.ref f) = true) (hx : Passes CX X E) (hb : KBn X.K fd ps 0 ks g gV) (hkw : PK X kws tk)
    (hall : (backToKw pos (keywordEach kws X.env)).all (·.1.isSome) = true := by rfl) (hks : (backToKw pos (keywordEach kws X.env)).filterMap (·.1) = ks := by rfl) (hdb : (x == ("__debug__" : Str)) = false := by decide)
    (hpl : ((backTo pos (starEach [] X.env)).any (·.1) || (backToKw pos (keywordEach kws X.env)).any (·.1.isNone)) = false := by rfl) :
    PE X (.Call (.Name x p) [] kws pos) (tCallN 0 ks.length sp gV E tNil tk) := by
  refine ⟨fun pins s σ H Q I h => ?_⟩
  refine wpAny_Call_Name_kw (ld_glob I hg hm ?_ hdb)
  refine PySem.W.callWith_KW0 (h₀ := X.base) I.ok.mod.kin hk hall ?_ hpl
  refine thn (hkw.run pos pins s σ H _ I h) fun ws s2 ⟨zs, H2, I2, rz, l1, l2, q2⟩ => ⟨I2.kIn, ?_⟩
  rw [hks]
  exact run_fnN (us := []) (vs := []) F hr hb hx I2 .nil rz rfl l2 q2
end
end L2
namespace K10
open PySem L2 Evl Gr OwX OpX OwB StX EnT ClX ClK RdX SrtT StS Fr LamX TpX
theorem nil_i {σ : L2.St} {H : Hp} {Q : List V → Hp → Prop} (h : Q [] H) : tNil σ H Q := h
theorem iteFf {P Q : Prop} (h : Q) : (if false = true then P else Q) := h
theorem q_ifE {σ : L2.St} {H : Hp} {t : TT} {tu tz : TS} {D : Ends} (h : t σ H fun b H1 => if b = true then tu { D with nx := tz D } σ H1 else tz D σ H1) : tSeq (tIfS t tu tNext) tz D σ H := h
/-! ### tuples, new or not -/
def EvX (te : TE) (σ : L2.St) (H : Hp) (xs : List V) : Prop := ∀ H1, Ex H H1 → ∀ Q : VK, (∀ p H2, Ex H1 H2 → H2 p = some (.tup xs) → Q (.ref p) H2) → te σ H1 Q
section
variable {K : PySem.W.Frag} {σ : L2.St} {H : Hp} {te ta tb : TE} {tl th : TO} {xs ys : List V} {lo hi : Option Int} {i : Nat} {a : Addr}
theorem ex_var (hi : σ[i]? = some (some (.ref a))) (h : H a = some (.tup xs)) : EvX (tVar i) σ H xs := fun H1 e Q q => ⟨_, hi, q a H1 (Ex.refl H1) (e _ _ h)⟩
theorem ex_u (h : EvU te σ H xs) : EvX te σ H xs := fun H1 e Q q => h H1 e _ fun p H2 _ e2 h2 => q p H2 e2 h2
theorem ex_cat (h1 : EvX ta σ H xs) (h2 : EvX tb σ H ys) (hz : xs.length + ys.length ≤ 100000) : EvX (tOp (rCatA K) ta tb) σ H (xs ++ ys) := fun H1 e Q q =>
  h1 H1 e _ fun p H2 e2 hp => h2 H2 (e.trans e2) _ fun r H3 e3 hr =>
    ⟨p, r, xs, ys, rfl, rfl, st_of (e3 _ _ hp), st_of hr, sz_of hz, fun z => q r H3 (e2.trans e3) (by rw [z]; exact hr), fun _ z => q p H3 (e2.trans e3) (by rw [z, List.append_nil]; exact e3 _ _ hp),
      fun _ _ b hb => q b _ ((e2.trans e3).trans (Ex.new hb)) upd_same⟩
theorem ex_cut (h : EvX te σ H xs) (h1 : EvO tl σ H lo) (h2 : EvO th σ H hi) : EvX (tSl (rSlA K) te tl th) σ H (cutV xs lo hi) := fun H1 e Q q =>
  h H1 e _ fun a H2 e2 ha => h1 H2 (e.trans e2) _ fun H3 e3 => h2 H3 ((e.trans e2).trans e3) _ fun H4 e4 =>
    ⟨a, xs, rfl, st_of ((e3.trans e4) _ _ ha), fun z => q a H4 ((e2.trans e3).trans e4) (by rw [cutV_all (n := 0) z.1 z.2]; exact (e3.trans e4) _ _ ha),
      fun _ p hp => q p _ (((e2.trans e3).trans e4).trans (Ex.new hp)) upd_same⟩
theorem ex_rev (h : EvX te σ H xs) : EvX (tRevT K te) σ H xs.reverse := fun H1 e Q q => h H1 e _ fun a H2 e2 ha => ⟨a, xs, rfl, st_of ha, fun p hp => q p _ (e2.trans (Ex.new hp)) upd_same⟩
/-- t * 1, t * 0 -/
abbrev rTimes (K : PySem.W.Frag) : R2 := fun x y H Q => rOnce K x y H Q ∨ rNaught K x y H Q
theorem op_times {X : Cx} : OpR X (binaryOp .Mult) (rTimes X.K) := op_once.or op_naught
theorem ex_times {b : Bool} (h : EvX ta σ H xs) (hb : Ev tb σ H (.int (if b then 1 else 0))) (ne : xs ≠ []) : EvX (tOp (rTimes K) ta tb) σ H (if b then xs else []) := fun H1 e Q q =>
  h H1 e _ fun p H2 e2 hp => hb H2 (e.trans e2) _ fun H3 e3 => by
    cases b with
    | true => exact .inl ⟨p, xs, rfl, rfl, st_of (e3 _ _ hp), q p H3 (e2.trans e3) (e3 _ _ hp)⟩
    | false => exact .inr ⟨p, xs, rfl, rfl, st_of (e3 _ _ hp), ne, fun r hr => q r _ ((e2.trans e3).trans (Ex.new hr)) upd_same⟩
theorem ev_ixX {j : Int} {v : V} (h : EvX te σ H xs) (hj : atI xs j = some v) (hb : Ev tb σ H (.int j)) : Ev (tOp (rIxT K) te tb) σ H v := fun H1 e Q q =>
  h H1 e _ fun p H2 e2 hp => hb H2 (e.trans e2) _ fun H3 e3 => ⟨p, xs, j, v, rfl, rfl, st_of (e3 _ _ hp), hj, q H3 (e2.trans e3)⟩
theorem ev_lenX (h : EvX te σ H xs) : Ev (tCB (fun xs H Q => ∃ p ys, xs = [V.ref p] ∧ (SqL K H p ys ∨ SqT K H p ys) ∧ Q (.int ys.length) H) (tCons te tNil)) σ H (.int (xs.length : Int)) := fun H1 e Q q =>
  h H1 e _ fun p H2 e2 hp => ⟨p, xs, rfl, .inr (st_of hp), q H2 e2⟩
theorem el_ofX (h : EvX te σ H xs) : EvL (tCB (fun xs H Q => ∃ p ys, xs = [V.ref p] ∧ (SqL K H p ys ∨ SqT K H p ys) ∧ ∀ l, H l = none → Q (.ref l) (upd H l (.lst ys))) (tCons te tNil)) σ H xs := fun H1 e Q q =>
  h H1 e _ fun p H2 e2 hp => ⟨p, xs, rfl, .inr (st_of hp), fun l hl => q l _ (fresh_back e2 hl) (e2.trans (Ex.new hl)) upd_same⟩
theorem ev_int1 {b : Bool} (h : Ev te σ H (.bl b)) : Ev (tCB (fun xs H Q => (∃ i, xs = [V.int i] ∧ Q (.int i) H) ∨ ∃ k, xs = [V.bl k] ∧ Q (.int (if k then 1 else 0)) H) (tCons te tNil)) σ H (.int (if b then 1 else 0)) := fun H1 e Q q =>
  h H1 e _ fun H2 e2 => .inr ⟨b, rfl, q H2 e2⟩
end
/-! ### plain things: none, numbers, texts -/
def PlainV (x : V) : Prop := x = .non ∨ (∃ i, x = .int i) ∨ ∃ z, x = .str z ∧ PyData.strOk z = true
def dataOf : V → PyData
  | .int i => .int i
  | .str z => .str z
  | _ => .none
theorem plain_dp {K : PySem.W.Frag} {H : Hp} {x : V} (h : PlainV x) : Dp K H x (dataOf x) := by
  rcases h with rfl | ⟨i, rfl⟩ | ⟨z, rfl, _⟩
  · exact .non
  · exact .int i
  · exact .str z
theorem plain_low {x : V} (h : PlainV x) : Low 0 (dataOf x) := by
  rcases h with rfl | ⟨i, rfl⟩ | ⟨z, rfl, hz⟩
  · exact low_non
  · exact low_int i
  · exact low_str hz
theorem plain_dps {K : PySem.W.Frag} {H : Hp} : ∀ {xs : List V}, (∀ x ∈ xs, PlainV x) → DpAll K H xs (xs.map dataOf)
  | [], _ => .nil
  | x :: xs, h => .cons (plain_dp (h x List.mem_cons_self)) (plain_dps fun y hy => h y (List.mem_cons_of_mem _ hy))
theorem plain_lows {xs : List V} (h : ∀ x ∈ xs, PlainV x) : ∀ d ∈ xs.map dataOf, Low 0 d := fun d hd => by
  obtain ⟨x, hx, rfl⟩ := List.mem_map.mp hd
  exact plain_low (h x hx)
theorem plain_strs {ys : List Str} (h : ∀ z ∈ ys, PyData.strOk z = true) : ∀ x ∈ ys.map V.str, PlainV x := fun x hx => by
  obtain ⟨z, hz, rfl⟩ := List.mem_map.mp hx
  exact .inr (.inr ⟨z, rfl, h z hz⟩)
theorem plain_app {xs ys : List V} (h : ∀ x ∈ xs, PlainV x) (h' : ∀ x ∈ ys, PlainV x) : ∀ x ∈ xs ++ ys, PlainV x := fun x hx => (List.mem_append.mp hx).elim (h x) (h' x)
theorem plain_cut {xs : List V} {lo hi : Option Int} (h : ∀ x ∈ xs, PlainV x) : ∀ x ∈ cutV xs lo hi, PlainV x := fun x hx => h x (List.mem_of_mem_drop (List.mem_of_mem_take hx))
theorem plain_rev {xs : List V} (h : ∀ x ∈ xs, PlainV x) : ∀ x ∈ xs.reverse, PlainV x := fun x hx => h x (List.mem_reverse.mp hx)
theorem plain_one {x : V} (h : PlainV x) : ∀ y ∈ [x], PlainV y := fun y hy => by rw [List.mem_singleton.mp hy]; exact h
theorem cut_len (xs : List V) (lo hi : Option Int) : (cutV xs lo hi).length ≤ xs.length := by
  unfold cutV
  rw [List.length_take, List.length_drop]
  omega
/-! ### papers that are made -/
section
variable {K : PySem.W.Frag} {CR CW : Addr} {σ : L2.St} {H : Hp} {te : TE} {E : XK} {xs : List V} {i : Nat}
theorem one_made {d : PyData} {T : String} {n : Nat} (hd : Low 2 d) (hk : ∃ tb, kitB T "tuple" = some tb) (h : ∀ H1, Ex H H1 → ∀ Q : VK, (∀ v H2, Ex H1 H2 → FldV K H2 v d T → Q v H2) → te σ H1 Q) : EvOne (Paper K CR CW) (tMake CR (spVI CR "states") [] E (tCons te tNil)) σ H := fun H1 e Q q =>
  h H1 e _ fun v H2 e2 hv x dx hx hdx hn => init_val hx hdx hn fun H3 e3 ho => by
    obtain ⟨tb, hk⟩ := hk
    exact q _ H3 (e2.trans e3) (.inl ⟨x, v, d, T, tb, rfl, ho, hv.mono e3, hd, hk⟩)
theorem one_X (h : EvX te σ H xs) (p : ∀ x ∈ xs, PlainV x) : EvOne (Paper K CR CW) (tMake CR (spVI CR "states") [] E (tCons te tNil)) σ H :=
  one_made (n := 0) (d := .tuple (xs.map dataOf)) (T := "tuple") (low_le (low_tup (plain_lows p)) (by decide)) ⟨_, kit_t2⟩ fun H1 e Q q => h H1 e _ fun a H2 e2 h2 => q _ H2 e2 (.tup h2 (plain_dps p))
theorem one_Ls (h : EvL te σ H xs) (p : ∀ x ∈ xs, PlainV x) : EvOne (Paper K CR CW) (tMake CR (spVI CR "states") [] E (tCons te tNil)) σ H :=
  one_made (n := 0) (d := .list (xs.map dataOf)) (T := "list") (low_le (low_list (plain_lows p)) (by decide)) ⟨_, kit_lt⟩ fun H1 e Q q => h H1 e _ fun a H2 _ e2 h2 => q _ H2 e2 (.lst h2 (plain_dps p))
/-- a list of papers and some more -/
theorem cat_papers {t : TA} {n : Nat} {a : Addr} {Q : VK} (hi : σ[i]? = some (some (.ref a))) (ha : H a = some (.lst xs)) (all : ∀ x ∈ xs, Paper K CR CW H x) (h : EvAll (Paper K CR CW) n t σ H) (hn : n ≤ 1000) (hx : xs.length ≤ 1000)
    (k : ∀ p ys H2, H p = none → Ex H H2 → H2 p = some (.lst ys) → ys.length = xs.length + n → (∀ x ∈ ys, Paper K CR CW H2 x) → Q (.ref p) H2) : tOp rCat (tVar i) (tLst t) σ H Q :=
  ⟨_, hi, el_papers h hn fun r zs H2 _ e2 h2 len allz => ⟨a, r, xs, zs, rfl, rfl, e2 _ _ ha, h2, sz_of (by omega), fun p hp => k p (xs ++ zs) _ (fresh_back e2 hp) (e2.trans (Ex.new hp)) upd_same (by rw [List.length_append, len]) fun x hx => by
    refine paper_up _ _ _ (Ex.new hp) ?_
    rcases List.mem_append.mp hx with z | z
    · exact paper_up _ _ _ e2 (all x z)
    · exact allz x z⟩⟩
end
/-! ### odd things: no letters -/
def oddZ : List Str := ["2", Txt.mul "0" 201]
theorem mul_5 : MulOk "0" 201 := by unfold MulOk; decide +kernel
def OddA (p : Addr) (H : Hp) (x : V) : Prop := x = .non ∨ x = .int 0 ∨ (∃ z, z ∈ oddZ ∧ x = .str z) ∨ (∃ a, x = .ref a ∧ H a = some (.lst [.str "0"]) ∧ a ≠ p) ∨ ∃ a, x = .ref a ∧ H a = some (.tup [.str "1"]) ∧ a ≠ p
section
variable {K : PySem.W.Frag} {p : Addr} {H H' : Hp} {x : V}
theorem odda_to (k : ∀ a o, H a = some o → a ≠ p → (∀ ps, o ≠ .tbl ps) → H' a = some o) (h : OddA p H x) : OddA p H' x := by
  rcases h with h | h | h | ⟨a, h1, h2, h3⟩ | ⟨a, h1, h2, h3⟩
  · exact .inl h
  · exact .inr (.inl h)
  · exact .inr (.inr (.inl h))
  · exact .inr (.inr (.inr (.inl ⟨a, h1, k _ _ h2 h3 (fun _ z => by cases z), h3⟩)))
  · exact .inr (.inr (.inr (.inr ⟨a, h1, k _ _ h2 h3 (fun _ z => by cases z), h3⟩)))
theorem odda_up : UpR (OddA p) := fun H H' x e h => odda_to (fun _ _ q _ _ => e _ _ q) h
theorem odda_still (k : Still p H H') (h : OddA p H x) : OddA p H' x := odda_to (fun a o q n t => k a o q n t) h
theorem odda_ext (k : ExtN H H') (h : OddA p H x) : OddA p H' x := odda_to (fun a o q n t => k a o q t) h
theorem oddZ_no : ∀ z ∈ oddZ, sgB z 0 200 = false ∧ z.length ≤ 300 ∧ PyData.strOk z = true := by
  have : oddZ.all (fun z => !sgB z 0 200 && decide (z.length ≤ 300) && PyData.strOk z) = true := by decide +kernel
  intro z hz
  have := List.all_eq_true.mp this z hz
  rw [Bool.and_eq_true, Bool.and_eq_true, Bool.not_eq_true', decide_eq_true_iff] at this
  exact ⟨this.1.1, this.1.2, this.2⟩
theorem odda_no (h : OddA p H x) : SgV K H x 0 200 false := by
  rcases h with rfl | rfl | ⟨z, hz, rfl⟩ | ⟨a, rfl, h3, _⟩ | ⟨a, rfl, h3, _⟩
  · exact sgv_not (T := "NoneType") (.base .non) (by decide +kernel)
  · exact sgv_not (T := "int") (.base (.int 0)) (by decide +kernel)
  · have b := oddZ_no z hz
    have := sgv_str (K := K) (H := H) (z := z) (lo := 0) (hi := 200) (by omega)
    rwa [b.1] at this
  · exact sgv_not (T := "list") (.base (.lst h3)) (by decide +kernel)
  · exact sgv_not (T := "tuple") (.base (.tup h3)) (by decide +kernel)
theorem odda_fld (h : OddA p H x) : ∃ d T, FldV K H x d T ∧ Low 2 d ∧ ∃ tb, kitB T "tuple" = some tb := by
  have o0 : PyData.strOk "0" = true := by decide +kernel
  have o1 : PyData.strOk "1" = true := by decide +kernel
  rcases h with rfl | rfl | ⟨z, hz, rfl⟩ | ⟨a, rfl, h3, _⟩ | ⟨a, rfl, h3, _⟩
  · exact ⟨_, _, .non, low_le low_non (by decide), _, kit_any _ (by decide)⟩
  · exact ⟨_, _, .int 0, low_le (low_int 0) (by decide), _, kit_any _ (by decide)⟩
  · exact ⟨_, _, .str z, low_le (low_str (oddZ_no z hz).2.2) (by decide), _, kit_any _ (by decide)⟩
  · exact ⟨_, _, .lst h3 (.cons (.str _) .nil), low_le (low_list (n := 0) fun d hd => by rw [List.mem_singleton.mp hd]; exact low_str o0) (by decide), _, kit_any _ (by decide)⟩
  · exact ⟨_, _, .tup h3 (.cons (.str _) .nil), low_le (low_tup (n := 0) fun d hd => by rw [List.mem_singleton.mp hd]; exact low_str o1) (by decide), _, kit_t2⟩
end
section
variable {R : Hp → V → Prop} {σ : L2.St} {H : Hp} {te : TE} {xs : List V}
theorem one_tup (h : EvU te σ H xs) (r : ∀ a H1 H2, Ex H H1 → H1 a = none → H2 a = some (.tup xs) → R H2 (.ref a)) : EvOne R te σ H := fun H1 e Q q => h H1 e _ fun a H2 ha e2 h2 => q _ H2 e2 (r a H1 H2 e ha h2)
theorem one_L (h : EvL te σ H xs) (r : ∀ a H1 H2, Ex H H1 → H1 a = none → H2 a = some (.lst xs) → R H2 (.ref a)) : EvOne R te σ H := fun H1 e Q q => h H1 e _ fun a H2 ha e2 h2 => q _ H2 e2 (r a H1 H2 e ha h2)
end
/-- a pick of a display -/
theorem r_pickR {R : Hp → V → Prop} (up : UpR R) {p l : Addr} {cells : List Int} {m n i : Nat} {σ : L2.St} {H : Hp} {ta : TA} {Q : VK} (hi : σ[i]? = some (some (.ref p))) (hP : PenAt H p l cells m) (hm : m ≤ 50000) (h63 : cells.length ≤ 63) (h : EvAll R n ta σ H) (n0 : 0 < n) (n1 : n ≤ 1000)
    (k : ∀ x H1 H2, Ex H H1 → R H1 x → PenAt H1 p l cells m → PenAt H2 p l cells (m + 1) → Keep p H1 H2 → Q x H2) : tCall spPick [] E0 (tCons (tVar i) (tCons (tLst ta) tNil)) σ H Q :=
  ⟨_, hi, h H (Ex.refl H) _ fun xs H1 e1 len all => ⟨by rw [len]; exact sz_of (by omega), fun a ha => by
    have e2 := Ex.new (o := .lst xs) ha
    have hP2 := hP.mono (e1.trans e2) (Nat.le_refl m)
    refine ⟨p, l, a, cells, m, xs, rfl, hP2, hm, h63, upd_same, fun z => ?_, by omega, by omega, fun t x H3 hx hP3 k3 => ?_⟩
    · exact pen_there (hP.mono e1 (Nat.le_refl m)) (z ▸ ha)
    · exact k x _ H3 (e1.trans e2) (up _ _ _ e2 (all x (List.mem_of_getElem? hx))) hP2 hP3 k3⟩⟩
/-- the odd ones, as they are shown -/
theorem all_odd {p l : Addr} {cells : List Int} {m : Nat} {σ : L2.St} {H : Hp} (hP : PenAt H p l cells m) : EvAll (OddA p) 6 (tCons (tC .non) (tCons (tC (.int 0)) (tCons (tC (.str "2")) (tCons (tLst (tCons (tC (.str "0")) tNil)) (tCons (tTup (tCons (tC (.str "1")) tNil)) (tCons (tOp (fun x y H Q => ∃ a i, x = .str a ∧ y = .int i ∧ MulOk a i ∧ Q (.str (Txt.mul a i)) H) (tC (.str "0")) (tC (.int 201))) tNil)))))) σ H :=
  have np : ∀ {a : Addr} {H1 : Hp}, Ex H H1 → H1 a = none → a ≠ p := fun e h z => pen_there (hP.mono e (Nat.le_refl m)) (z ▸ h)
  all_cons odda_up (one_v ev_c fun _ _ => .inl rfl) (all_cons odda_up (one_v ev_c fun _ _ => .inr (.inl rfl)) (all_cons odda_up (one_v ev_c fun _ _ => .inr (.inr (.inl ⟨_, by unfold oddZ; simp, rfl⟩)))
    (all_cons odda_up (one_L (el_lst (ea_cons ev_c ea_nil) (by show 1 ≤ 100000; decide)) fun a H1 H2 e h0 h2 => .inr (.inr (.inr (.inl ⟨a, rfl, h2, np e h0⟩))))
      (all_cons odda_up (one_tup (eu_tup (ea_cons ev_c ea_nil) (by show 1 ≤ 100000; decide)) fun a H1 H2 e h0 h2 => .inr (.inr (.inr (.inr ⟨a, rfl, h2, np e h0⟩))))
        (all_cons odda_up (one_v (ev_mulS ev_c ev_c mul_5) fun _ _ => .inr (.inr (.inl ⟨_, by unfold oddZ; simp, rfl⟩))) all_nil)))))
end K10
namespace K10
open PySem L2 Evl Gr OwX OpX OwB StX EnT ClX ClK RdX SrtT StS Fr LamX TpX
abbrev sPap : Stmt := top 54
abbrev nPap : List Str := ["_law_pen_here", "_law_plan_here", "_law_rule_here", "_law_found_here", "_law_letter", "_law_odd", "_law_some", "_law_turn", "_law_paper"]
theorem scPap : FnScope nPap ["_law_pen_here", "_law_plan_here", "_law_rule_here", "_law_found_here"] (defScope sPap) := ⟨rfl, rfl, rfl, by decide +kernel, rfl, by decide +kernel, by decide +kernel⟩
theorem FoundAt.still {f : Str} {ps : List Pr} {p l q : Addr} {cells : List Int} {m : Nat} {H H' : Hp} (hP : PenAt H p l cells m) (k : Still p H H') (h : FoundAt f ps H q) : FoundAt f ps H' q := by
  rcases h with ⟨a, ys, b, c⟩ | ⟨l, a, b, c⟩
  · exact .inl ⟨a, ys, b, still_tup hP k c⟩
  · refine .inr ⟨l, a, b, still_lst k c fun z => ?_⟩
    obtain ⟨_, _, h1, _⟩ := hP
    rw [z, h1] at c
    cases c
/-- the joint of an if's two ways -/
theorem q_join {t : TT} {tu tz : TS} {D : Ends} {σ : L2.St} {H : Hp} (Iv : L2.St → Hp → Prop) (k : ∀ σ' H', Iv σ' H' → tz D σ' H') (h : ∀ D' : Ends, (∀ σ' H', Iv σ' H' → D'.nx σ' H') → tIfS t tu tNext D' σ H) : tSeq (tIfS t tu tNext) tz D σ H := h { D with nx := tz D } k
theorem s_ifE {c : TT} {tu : TS} {D : Ends} {σ : L2.St} {H : Hp} (h : c σ H fun b H1 => if b = true then tu D σ H1 else D.nx σ H1) : tIfS c tu tNext D σ H := h
theorem s_asgR {σ : L2.St} {H : Hp} {te : TE} {i : Nat} {D : Ends} (h : te σ H fun x H1 => D.nx (σ.set i (some x)) H1) : tAsg te (gName i) D σ H := h
/-- == and != of the objects of one class of verdicts -/
structure VEq (P : Program) (w : World) (K : PySem.W.Frag) (mg : Str → Option Value) (base : Heap) (C : Addr) (n : Str) (gE : Addr) : Prop where
  has : Has K C gE "__eq__"
  ne : PySem.W.findIn K (.ref C) "__ne__" = some (some (.builtin "object.__ne__"))
  mro : PySem.W.mroIn K C (.type "object") = some true
  F : FnR P w K mg base CX0 1 gE (spVE K C n)
/-- what is no verdict -/
def OKit (K : PySem.W.Frag) (CR CW : Addr) : Prop := ∀ T ∈ (["tuple", "list", "bool"] : List String), PySem.W.kitOne K (.type T) (.ref CR) = some false ∧ PySem.W.kitOne K (.type T) (.ref CW) = some false
section
variable {K : PySem.W.Frag} {CR CW p l q : Addr} {σ : L2.St} {H : Hp} {E : XK} {i : Nat} {x : V} {f : Str} {ps : List Pr}
theorem one_wrong (hi : σ[i]? = some (some x)) (ox : OddA p H x) : EvOne (Paper K CR CW) (tMake CW (spVI CW "letter") [] E (tCons (tVar i) tNil)) σ H := fun H1 e Q k =>
  ⟨_, hi, fun y dx hx hdx hn => init_val hx hdx hn fun H3 e3 ho => k _ H3 e3 (.inr (.inl ⟨y, x, rfl, ho, fun H4 e4 => odda_no (odda_ext (((ExtN.of e).trans (ExtN.of e3)).trans e4) ox)⟩))⟩
theorem one_odd (hi : σ[i]? = some (some x)) (ox : OddA p H x) : EvOne (Paper K CR CW) (tMake CR (spVI CR "states") [] E (tCons (tVar i) tNil)) σ H := by
  obtain ⟨d, T, h1, h2, h3⟩ := odda_fld (K := K) ox
  exact one_made (n := 0) h2 h3 fun H1 e Q k => ⟨_, hi, k _ H1 (Ex.refl H1) (h1.mono e)⟩
theorem one_found (kit : OKit K CR CW) (hi : σ[i]? = some (some (.ref q))) (h : FoundAt f ps H q) : EvOne (Paper K CR CW) (tVar i) σ H := by
  rcases h with ⟨_, ys, _, c⟩ | ⟨l, _, _, c⟩
  · have := kit "tuple" (by decide)
    exact one_v (ev_var hi) fun H1 e => .inr (.inr fun H2 e2 => ⟨_, .base (.tup (e2 _ _ (e _ _ c) fun _ z => by cases z)), this.1, this.2⟩)
  · have := kit "list" (by decide)
    exact one_v (ev_var hi) fun H1 e => .inr (.inr fun H2 e2 => ⟨_, .base (.lst (e2 _ _ (e _ _ c) fun _ z => by cases z)), this.1, this.2⟩)
theorem one_true (kit : OKit K CR CW) : EvOne (Paper K CR CW) (tC (.bl true)) σ H := one_v ev_c fun H1 e => .inr (.inr fun H2 e2 => ⟨_, .base (.bl true), (kit "bool" (by decide)).1, (kit "bool" (by decide)).2⟩)
theorem one_nest : EvOne (Paper K CR CW) (tMake CR (spVI CR "states") [] E (tCons (tTup (tCons (tC (.str "")) (tCons (tTup (tCons (tC (.str "")) tNil)) tNil))) tNil)) σ H := by
  have o : PyData.strOk "" = true := by decide +kernel
  have l1 : Low 1 (.tuple [.str ""]) := low_tup (n := 0) fun d hd => by rw [List.mem_singleton.mp hd]; exact low_str o
  have l2 : Low 2 (.tuple [.str "", .tuple [.str ""]]) := low_tup (n := 1) fun d hd => by
    simp only [List.mem_cons, List.not_mem_nil, or_false] at hd
    rcases hd with rfl | rfl
    · exact low_le (low_str o) (by decide)
    · exact l1
  refine one_made (n := 0) (T := "tuple") l2 ⟨_, kit_t2⟩ fun H1 e Q k => ?_
  refine tup_i (cons_i (c_i (cons_i ((eu_tup (vs := [.str ""]) (ea_cons ev_c ea_nil) (by show 1 ≤ 100000; decide)) H1 e _ fun r H2 _ e2 h2 => nil_i ⟨by show 2 ≤ sizeLine; decide, fun t ht => ?_⟩))))
  exact k _ _ (e2.trans (Ex.new ht)) (.tup upd_same (.cons (.str _) (.cons (.tup (st_of (Ex.new ht _ _ h2)) (.cons (.str _) .nil)) .nil)))
/-- what rightness tells is shown right -/
theorem told_pap {u : Addr} (g : Good f ps) (told : (NoneW (lp ps) (TL.tl f) ∧ ∃ (p : Addr) (ol : List (L × L)) (ys : List Str), Wk (lp ps) (Wp f ps) ol ol.length ∧ NoPuts (lp ps) (ol.map Prod.fst) ∧ ys.Perm (ol.map fun p => mk p.1) ∧ ys.Pairwise SLn.Le ∧ H p = some (.tup (ys.map V.str)) ∧ ValAt CR "states" H u (.ref p)) ∨
   ∃ l, LeastW (lp ps) (TL.tl f) l ∧ l.length ≤ 45 ∧ ValAt CW "letter" H u (.str (mk l))) : ∀ H1, ExtN H H1 → PapA K CR CW f ps H1 (.ref u) true := by
  rcases told with ⟨nw, p, ol, ys, wk, np, pm, up, hp, tv⟩ | ⟨l, lw, l45, tv⟩
  · have so : StsOf f ps ys := ⟨ol, wk, np, pm, up⟩
    refine pap_right tv (FldV.tup hp (dp_strs ys)) (sts_low g so) (by decide) kit_t2 (fun zs _ so' => ?_) (fun z => absurd nw z)
    rw [sts_one so' so]
    show true = (true && PyData.eqv (tupD ys) (tupD ys))
    rw [low_self (sts_low g so)]
    rfl
  · exact fun H1 e => .inr (.inl ⟨u, _, rfl, tv.extN e, .inr ⟨mk l, rfl, sgB_iff.mpr ⟨sg_mk lw.1, by omega, by rw [mk_len]; omega⟩, by rw [tl_mk]; exact ⟨fun _ => lw.2.1, fun _ => rfl⟩⟩⟩)
theorem sts_ok {ys : List Str} (g : Good f ps) (h : StsOf f ps ys) : ∀ z ∈ ys, PyData.strOk z = true := fun z hz => by
  obtain ⟨ol, wk, _, pm, _⟩ := h
  obtain ⟨p, hp, rfl⟩ := List.mem_map.mp (pm.mem_iff.mp hz)
  exact sg_ok (sg_mk (wk.sgs (good_pok g) p hp))
theorem sts_ne {ys : List Str} (h : StsOf f ps ys) : ys ≠ [] := fun z => by
  obtain ⟨ol, wk, _, pm, _⟩ := h
  have m := wk.wlk.nil
  obtain ⟨p, hp, _⟩ := List.mem_map.mp m
  have := pm.mem_iff.mpr (List.mem_map.mpr ⟨p, hp, rfl⟩)
  rw [z] at this
  cases this
theorem sts_few {ys : List Str} (g : Good f ps) (h : StsOf f ps ys) : ys.length ≤ 45 := by
  obtain ⟨ol, wk, _, pm, _⟩ := h
  rw [pm.length_eq, List.length_map]
  have := wk.few wp_ne (wp_8 g)
  have l5 : (Wp f ps).length ≤ 5 := by
    unfold Wp watches lp
    rw [List.length_cons, List.length_map, List.length_map]
    have := g.many
    omega
  omega
end
end K10
namespace K10
open PySem L2 Evl Gr OwX OpX OwB StX EnT ClX ClK RdX SrtT StS Fr LamX TpX
theorem nf_a : NoFld "all_states" := fun _ _ => rfl
theorem kit_tl : kitB "tuple" "list" = some false := by decide +kernel
theorem kit_ll : kitB "list" "list" = some true := by decide +kernel
theorem last_at {xs : List V} (h : xs ≠ []) : ∃ v ∈ xs, atI xs (-1) = some v := by
  have l0 : 0 < xs.length := List.length_pos_iff.mpr h
  refine ⟨xs[xs.length - 1], List.getElem_mem _, ?_⟩
  unfold atI ixN
  rw [if_neg (by omega), if_pos (by omega)]
  have : (-1 + ((xs.length : Nat) : Int)).toNat = xs.length - 1 := by omega
  rw [Option.bind_some, this, List.getElem?_eq_getElem (by omega)]
section
variable {P : Program} {w : World} {K : PySem.W.Frag} {mg : Str → Option Value} {base : Heap}
/-! ### _law_papers_right -/
def spPap (K : PySem.W.Frag) (C : Addr) (T : List (Addr × Str)) : Sp := fun vs H Q _ => ∃ (v : V) (o q : Addr) (f : Str) (ps : List Pr) (p l : Addr) (cells : List Int) (m : Nat), vs = [.ref p, v, .ref o, .ref q] ∧ PlanAt H v f ps ∧ RuleAt K C H o f ps ∧ FoundAt f ps H q ∧
  PenAt H p l cells m ∧ m + 12 ≤ 50000 ∧ cells.length ≤ 63 ∧ Tabs T H ∧ ∀ H', Aft p l cells (m + 12) T H H' → Q (.bl true) H'
abbrev tIsT (K : PySem.W.Frag) (t : String) : TT := tB (tCB (rIsi K) (tCons (tVar 3) (tCons (tC (.ty t)) tNil)))
theorem ok_Pap {f cB CR CW C fR fW mA fD gE : Addr} {fd fdR fdW dA fdD : FuncData} {cC : Addr} {T : List (Addr × Str)} (F : Fun K "_law_papers_right" "_law_papers_right" sPap f fd) (TT : GlbT mg) (S : GlbS mg) (W : GlbW mg) (rp : mg "repr" = none) (GC : FCls K C)
    (hA : Meth K C "all_states" mA) (oA : FnOk P w K mg base (L2.CX P w) 5 mA dA ["self"] (spAll K C cC T)) (bA : Binds K dA ["self"] [])
    (GR : GVal P w K mg base "Right" "states" CR fR fdR) (GW : GVal P w K mg base "Wrong" "letter" CW fW fdW) (VE : VEq P w K mg base CR "states" gE) (kit : OKit K CR CW)
    (GS : ∃ f fd, FnOk P w K mg base (L2.CX P w) 7 f fd ["rule", "value"] (spShr K C cB CR CW T) ∧ PySem.W.keepIn K (.ref f) = true ∧ Binds K fd ["rule", "value"] [] ∧ mg "shows_right" = some (.ref f) ∧ KBn K fd ["rule", "value"] 0 ["rule", "value"] (fun us ws => us ++ ws) (fun vs zs => vs ++ zs))
    (GRt : ∃ f fd, FnOk P w K mg base (L2.CX P w) 6 f fd ["rule"] (spRtn K C cB CR CW T) ∧ PySem.W.keepIn K (.ref f) = true ∧ Binds K fd ["rule"] [] ∧ mg "rightness" = some (.ref f))
    (GD : FnOk P w K mg base CX0 1 fD fdD ["_law_pen_here", "_law_many"] spDraw) (kD : PySem.W.keepIn K (.ref fD) = true) (bD : Binds K fdD ["_law_pen_here", "_law_many"] []) (gD : mg "_law_draw" = some (.ref fD))
    (GP : Gfn P w K mg base 2 "_law_pick" ["_law_pen_here", "_law_some"] spPickS) (GQ : Gfn P w K mg base 2 "_law_pick" ["_law_pen_here", "_law_some"] spPick) (GI : Gfn P w K mg base 3 "_law_is_wrong" ["_law_plan_here", "_law_letter"] spIsw) :
    FnOk P w K mg base CX0 8 f fd ["_law_pen_here", "_law_plan_here", "_law_rule_here", "_law_found_here"] (spPap K C T) := by
  obtain ⟨fP, fdP, GP, kP, bP, gP⟩ := GP
  obtain ⟨fQ, fdQ, GQ, kQ, bQ, gQ⟩ := GQ
  obtain ⟨fI, fdI, GI, kI, bI, gI⟩ := GI
  obtain ⟨fS, fdS, GS, kS, bS, gS, nS⟩ := GS
  obtain ⟨fT, fdT, GT, kT, bT, gT⟩ := GRt
  refine F.ok scPap (fun vs H Q E h => ?_) (fun cdv A outer s H vs Q E hr h => ?_)
  · obtain ⟨v, o, q, f, ps, p, l, cells, m, rfl, _⟩ := h
    rfl
  · obtain ⟨v, o, q, fl, ps, p, l, cells, m, rfl, hv, hO, hF, hP, hm, h63, tabs, k⟩ := h
    have hu : (A.deeper (PyProof.Rows.envOfC "_law_papers_right" (defScope sPap) s.heap.objs.size f cdv)).units + 64 < cLine := by have := hr.un; omega
    have r1 := hr.mono (show 1 ≤ 7 by decide)
    have r2 := hr.mono (show 2 ≤ 7 by decide)
    have r3 := hr.mono (show 3 ≤ 7 by decide)
    have r5 := hr.mono (show 5 ≤ 7 by decide)
    have r6 := hr.mono (show 6 ≤ 7 by decide)
    refine ⟨_, (pss_cons (ps_set (i := 4) scPap.nd rfl (.inl rfl) (pe_join pe_str (pe_lc (own := [("_law_turn", 7)]) (g := gName 7) rfl scPap.nd (pi_range1 (by rfl) S.range (pa_cons (pe_call GD r1 (by rfl) gD kD bD .nil pass0 (pa_cons (pv 0) (pa_cons pe_int pa_nil))) pa_nil)) (blkOk_by (own := [("_law_turn", 7)]) (N := nPap) (sc := defScope sPap) (by decide +kernel))
        (fun _ _ _ _ _ => pg_name (i := 7) scPap.nd rfl (Or.inl rfl)) (fun _ _ _ _ _ => pts_nil) (fun _ _ _ _ _ => pe_call GP r2 (by rfl) gP kP bP .nil pass0 (pa_cons (pv 0) (pa_cons pe_str pa_nil))))))
      (pss_cons (ps_if (pt_cmpR op_ne (pe_callB call_reprB (by rfl) rp (by decide +kernel) (pa_cons (pe_call (E := E0) GS hr (by rfl) gS kS bS .nil (passN rfl rfl) (pa_cons (pv 2) (pa_cons (pe_make (E := E0) GW.m GW.ok r2 (by rfl) GW.g GW.b .nil pass0 (pa_cons (pv 4) pa_nil)) pa_nil))) pa_nil)) (pe_callB call_reprB (by rfl) rp (by decide +kernel) (pa_cons (pe_call GI r3 (by rfl) gI kI bI .nil pass0 (pa_cons (pv 1) (pa_cons (pv 4) pa_nil))) pa_nil)) (nomark _)) (pss_one (ps_ret pe_bl)) pss_nil)
      (pss_cons (ps_if (pt_cmpR op_notBl (pe_callKx (E := E0) GS hr (by rfl) gS kS (passN rfl rfl) nS (pk_cons (pv 2) (pk_cons (pe_call (E := E0) GT r6 (by rfl) gT kT bT .nil (passN rfl rfl) (pa_cons (pv 2) pa_nil)) pk_nil))) pe_bl (nomark _)) (pss_one (ps_ret pe_bl)) pss_nil)
      (pss_cons (ps_set (i := 5) scPap.nd rfl (.inl rfl) (pe_call GQ r2 (by rfl) gQ kQ bQ .nil pass0 (pa_cons (pv 0) (pa_cons (pe_lst (pa_cons pe_non (pa_cons pe_int (pa_cons pe_str (pa_cons (pe_lst (pa_cons pe_str pa_nil)) (pa_cons (pe_tup (pa_cons pe_str pa_nil)) (pa_cons (pe_op op_mulS pe_str pe_int) pa_nil))))))) pa_nil))))
      (pss_cons (ps_set (i := 6) scPap.nd rfl (.inl rfl) (pe_lst (pa_cons (pe_make (E := E0) GW.m GW.ok r2 (by rfl) GW.g GW.b .nil pass0 (pa_cons (pv 5) pa_nil)) (pa_cons (pe_make (E := E0) GR.m GR.ok r2 (by rfl) GR.g GR.b .nil pass0 (pa_cons (pv 5) pa_nil)) (pa_cons (pe_make (E := E0) GR.m GR.ok r2 (by rfl) GR.g GR.b .nil pass0 (pa_cons (pe_tup pa_nil) pa_nil)) (pa_cons (pv 3) (pa_cons pe_bl (pa_cons (pe_make (E := E0) GR.m GR.ok r2 (by rfl) GR.g GR.b .nil pass0 (pa_cons (pe_lst (pa_cons pe_str (pa_cons pe_str pa_nil))) pa_nil)) (pa_cons (pe_make (E := E0) GR.m GR.ok r2 (by rfl) GR.g GR.b .nil pass0 (pa_cons (pe_tup (pa_cons pe_non (pa_cons pe_str pa_nil))) pa_nil)) (pa_cons (pe_make (E := E0) GR.m GR.ok r2 (by rfl) GR.g GR.b .nil pass0 (pa_cons (pe_tup (pa_cons pe_str (pa_cons pe_int pa_nil))) pa_nil)) (pa_cons (pe_make (E := E0) GR.m GR.ok r2 (by rfl) GR.g GR.b .nil pass0 (pa_cons (pe_tup (pa_cons pe_str (pa_cons (pe_tup (pa_cons pe_str pa_nil)) pa_nil))) pa_nil)) pa_nil)))))))))))
      (pss_cons (ps_if (pt_val (pe_callB call_isi (by rfl) TT.inst (by decide +kernel) (pa_cons (pv 3) (pa_cons (pe_bltn (v := .ty "list") (by rfl) W.list (by decide +kernel) rfl) pa_nil))))
        (pss_one (ps_set (i := 6) scPap.nd rfl (.inl rfl) (pe_op op_cat (pv 6) (pe_lst (pa_cons (pe_make (E := E0) GR.m GR.ok r2 (by rfl) GR.g GR.b .nil pass0 (pa_cons (pe_tup (pa_cons pe_str pa_nil)) pa_nil)) (pa_cons (pe_make (E := E0) GR.m GR.ok r2 (by rfl) GR.g GR.b .nil pass0 (pa_cons (pe_tup (pa_cons pe_str (pa_cons pe_str pa_nil))) pa_nil)) (pa_cons (pe_make (E := E0) GR.m GR.ok r2 (by rfl) GR.g GR.b .nil pass0 (pa_cons (pe_tup (pa_cons pe_str (pa_cons pe_str pa_nil))) pa_nil)) pa_nil))))))) pss_nil)
      (pss_cons (ps_if (pt_val (pe_callB call_isi (by rfl) TT.inst (by decide +kernel) (pa_cons (pv 3) (pa_cons (pe_bltn (v := .ty "tuple") (by rfl) W.tuple (by decide +kernel) rfl) pa_nil))))
        (pss_cons (ps_set (i := 6) scPap.nd rfl (.inl rfl) (pe_op op_cat (pv 6) (pe_lst (pa_cons (pe_make (E := E0) GR.m GR.ok r2 (by rfl) GR.g GR.b .nil pass0 (pa_cons (pe_op op_catA (pv 3) (pe_tup (pa_cons pe_str pa_nil))) pa_nil)) (pa_cons (pe_make (E := E0) GR.m GR.ok r2 (by rfl) GR.g GR.b .nil pass0 (pa_cons (pe_slice sl_tupA (pv 3) po_none (po_some (pe_un un_neg pe_int))) pa_nil)) (pa_cons (pe_make (E := E0) GR.m GR.ok r2 (by rfl) GR.g GR.b .nil pass0 (pa_cons (pe_revT (pv 3)) pa_nil)) (pa_cons (pe_make (E := E0) GR.m GR.ok r2 (by rfl) GR.g GR.b .nil pass0 (pa_cons (pe_callTy call_list_of (by rfl) W.list (by decide +kernel) (pa_cons (pv 3) pa_nil)) pa_nil)) (pa_cons (pe_make (E := E0) GR.m GR.ok r2 (by rfl) GR.g GR.b .nil pass0 (pa_cons (pe_op op_catA (pv 3) (pe_tup (pa_cons (pe_ix ix_tup (pv 3) (pe_un un_neg pe_int) (fun _ _ => rfl)) pa_nil))) pa_nil)) pa_nil))))))))
      (pss_cons (ps_set (i := 6) scPap.nd rfl (.inl rfl) (pe_op op_cat (pv 6) (pe_lst (pa_cons (pe_make (E := E0) GR.m GR.ok r2 (by rfl) GR.g GR.b .nil pass0 (pa_cons (pe_op op_catA (pv 3) (pe_tup (pa_cons pe_non pa_nil))) pa_nil)) (pa_cons (pe_make (E := E0) GR.m GR.ok r2 (by rfl) GR.g GR.b .nil pass0 (pa_cons (pe_op op_catA (pe_op op_catA (pe_slice sl_tupA (pv 3) po_none (po_some pe_int)) (pe_revT (pe_slice sl_tupA (pv 3) (po_some pe_int) po_none)))
              (pe_op op_times (pe_tup (pa_cons pe_str pa_nil)) (pe_callTy call_int1 (by rfl) W.int (by decide +kernel) (pa_cons (pe_cmpR op_lt (pe_callB call_len_seq (by rfl) W.len PySem.boot_len (pa_cons (pv 3) pa_nil)) pe_int (nomark _)) pa_nil)))) pa_nil)) pa_nil)))))
      (pss_one (ps_if (PW.pt (pw_or (pt_cmpR op_notBl (pe_call (E := E0) GS hr (by rfl) gS kS bS .nil (passN rfl rfl) (pa_cons (pv 2) (pa_cons (pe_make (E := E0) GR.m GR.ok r2 (by rfl) GR.g GR.b .nil pass0 (pa_cons (pv 3) pa_nil)) pa_nil))) pe_bl (nomark _))
              (pw_or1 (pt_cmpR (op_neD hu) (pe_meth0 (E := E0) (pv 2) GC.cls hA oA r5 bA .nil (passN rfl rfl)) (pv 3) (nomark _))))) (pss_one (ps_ret pe_bl)) pss_nil)))) pss_nil)
      (pss_one (ps_ret (pe_cmpR (op_eqD hu) (pe_lc (te := tVar 8) (tt := tAnd (tTest (tOp rNotBl (tCall (spShr K C cB CR CW T) [] E0 (tCons (tVar 2) (tCons (tVar 8) tNil))) (tC (.bl false)))) (tTest (tOp (rNeO (cxOf CX0 P w K mg base nPap "_law_papers_right" (defScope sPap) f cdv A outer s H E).nox CR (spVE K CR "states") E0) (tVar 8) (tMake CR (spVI CR "states") [] E0 (tCons (tIf (tIsT K "tuple") (tVar 3) (tC .non)) tNil)))))
          (own := [("_law_paper", 8)]) (g := gName 8) rfl scPap.nd (pi_list (pv 6)) (blkOk_by (own := [("_law_paper", 8)]) (N := nPap) (sc := defScope sPap) (by decide +kernel)) (fun _ _ _ _ _ => pg_name (i := 8) scPap.nd rfl (Or.inl rfl))
          (fun _ _ _ _ _ => pts_one (PW.pt (pw_and (pt_cmpR op_notBl (pe_call (E := E0) GS hr (by rfl) gS kS bS .nil (passN rfl rfl) (pa_cons (pv 2) (pa_cons (pv 8) pa_nil))) pe_bl (nomark _)) (pw_and1 (pt_cmpR (show OpR _ _ (rNeO (cxOf CX0 P w K mg base nPap "_law_papers_right" (defScope sPap) f cdv A outer s H E).nox CR (spVE K CR "states") E0) from op_neO VE.has VE.ne VE.mro VE.F r2 pass0) (pv 8)
              (pe_make (E := E0) GR.m GR.ok r2 (by rfl) GR.g GR.b .nil pass0 (pa_cons (pe_ifExp (pt_val (pe_callB call_isi (by rfl) TT.inst (by decide +kernel) (pa_cons (pv 3) (pa_cons (pe_bltn (v := .ty "tuple") (by rfl) W.tuple (by decide +kernel) rfl) pa_nil)))) (pv 3) pe_non) pa_nil)) (nomark _))))))
          (fun _ _ _ _ _ => pv 8)) (pe_lst pa_nil) (nomark _))))))))))), ?_⟩
    have g := hO.good
    have OK := good_pok g
    refine q_asgR ⟨⟨_, rfl⟩, ?_⟩
    refine (w_draw (H := H) (i := 0) (σ := [some (.ref p), some v, some (.ref o), some (.ref q), none, none, none, none, none]) (many := 9) rfl (fun _ _ => ev_c) (by decide) (by decide) h63) m H (Keep.of_ex (Ex.refl H)) hP (by omega) _ fun y H6 hy hP6 k6 => ?_
    obtain ⟨n, rfl, hn⟩ := hy
    refine ⟨(n : Int), rfl, by omega, by omega, fun Dl hD => ?_⟩
    have hDp : Dl ≠ p := fun z => by
      obtain ⟨_, _, q, _⟩ := hP6
      rw [z, q] at hD
      cases hD
    have hDl : Dl ≠ l := fun z => by
      obtain ⟨_, _, _, q, _⟩ := hP6
      rw [z, q] at hD
      cases hD
    have hDH : H Dl = none := by
      cases c : H Dl with
      | none => rfl
      | some u =>
        rw [k6 _ _ c hDp] at hD
        cases hD
    refine lc_range (lo := 0) (n := (n : Int).toNat) (fun i H' => ∃ zs : List Str, H' Dl = some (.lst (zs.map V.str)) ∧ zs.length = i ∧ (∀ z ∈ zs, K10.Bit z) ∧ PenAt H' p l cells (m + 1 + i) ∧ Keep p H H') ⟨[], upd_same, rfl, fun y hy => absurd hy (by simp), hP6.upd' hDp hDl, k6.mut hDH⟩ (fun i H' hi q => ⟨rfl, ?_⟩) (fun H' q => ?_)
    · obtain ⟨zs, hg, hlen, hb, hP7, k7⟩ := q
      rw [Int.toNat_natCast] at hi
      refine ⟨_, rfl, p, l, cells, m + 1 + i, "01", rfl, hP7, by omega, h63, by decide +kernel, by decide +kernel, fun c H8 hc hP8 k8 => ?_⟩
      have bit : K10.Bit ⟨#[c]⟩ := by
        have e3 : ("01" : Str).cps.toList = [48, 49] := by decide +kernel
        rw [e3] at hc
        simp only [List.mem_cons, List.not_mem_nil, or_false] at hc
        rcases hc with rfl | rfl
        · exact .inl (by decide +kernel)
        · exact .inr (by decide +kernel)
      refine ⟨zs.map V.str, k8 _ _ hg hDp, sz_lt (by rw [List.length_map]; omega), zs ++ [⟨#[c]⟩], by rw [upd_same, List.map_append]; rfl, by rw [List.length_append, hlen]; rfl, fun y hy => ?_, (hP8.upd' hDp hDl).le (by omega), (k7.trans k8).mut hDH⟩
      rcases List.mem_append.mp hy with z | z
      · exact hb y z
      · rw [List.mem_singleton.mp z]
        exact bit
    obtain ⟨zs, hg, hlen, hb, hP7, k7⟩ := q
    rw [Int.toNat_natCast] at hlen hP7
    obtain ⟨j1, j2⟩ := join_bits hb
    have sz : (zs.map (·.length)).sum ≤ 1 * (zs.map (·.length)).length := sum_most fun x hx => by
      obtain ⟨z, hz, rfl⟩ := List.mem_map.mp hx
      rcases hb z hz with rfl | rfl <;> decide +kernel
    rw [List.length_map] at sz
    refine ⟨mt, Dl, zs, rfl, rfl, .inl (sq_of hg), ?_, ?_⟩
    · have : mt.length = 0 := by decide +kernel
      rw [this]
      omega
    have j2 := j2.trans hlen
    generalize Txt.join mt zs = z at j1 j2 ⊢
    have A7 : Aft p l cells (m + 10) T H H' := ⟨still_keep k7, hP7.le (by omega), tabs_keep tabs hP k7⟩
    have sz200 : sgB z 0 200 = true := sgB_iff.mpr ⟨j1, by omega, by omega⟩
    show tSeq _ _ _ [some (.ref p), some v, some (.ref o), some (.ref q), some (.str z), none, none, none, none] H'
    obtain ⟨bW, hbW⟩ : ∃ b : Bool, (b = true ↔ Wr (lp ps) (TL.tl fl) (TL.tl z)) := by
      by_cases hW : Wr (lp ps) (TL.tl fl) (TL.tl z)
      · exact ⟨true, fun _ => hW, fun _ => rfl⟩
      · exact ⟨false, fun z => (by cases z), fun z => absurd z hW⟩
    refine q_ifE (op_i (cb_i (cons_i (call_i (cons_i ⟨_, rfl, cons_i (s_makeV (ea_cons (ev_var rfl) ea_nil) fun H8 u e8 hu8 => nil_i ?_)⟩)))))
    have A8 := A7.ex e8
    refine ⟨_, _, rfl, .inr ⟨o, fl, ps, bW, rfl, hO.still hP A8.st, fun H9 e9 => (hO.still hP A8.st).extN e9, A8.tabs, fun H9 e9 => .inr (.inl ⟨u, .str z, rfl, hu8.extN e9, .inr ⟨z, rfl, sz200, hbW⟩⟩), fun H9 e9 T9 => ?_⟩⟩
    have A9 : Aft p l cells (m + 10) T H H9 := A8.trans (aft_of A8.pen e9 T9 (Ex.refl H9))
    refine nil_i ⟨bW, rfl, ?_⟩
    refine cb_i (cons_i (call_i (cons_i ⟨_, rfl, cons_i ⟨_, rfl, nil_i ?_⟩⟩)))
    refine ⟨v, z, fl, ps, rfl, by omega, j1, hv.still hP A9.st, g, fun b2 hb2 => ?_⟩
    obtain rfl : b2 = bW := by rw [Bool.eq_iff_iff, hb2, hbW]
    intro Ha ea
    refine nil_i ⟨b2, rfl, rfl, _, rfl, ?_⟩
    have same : (!decide (V.str (if b2 = true then "True" else "False") = V.str (if b2 = true then "True" else "False"))) = false := by rw [decide_eq_true rfl]; rfl
    rw [same]
    refine iteFf ?_
    have Aa := A9.ex ea
    have hOa := hO.still hP Aa.st
    refine q_ifE (op_i (nil_i (cons_i ⟨_, rfl, cons_i (call_i (cons_i ⟨_, rfl, nil_i ?_⟩))⟩)))
    refine ⟨_, rfl, .inr ⟨o, fl, ps, rfl, hOa, Aa.tabs, fun Hb u eb Tb told => ?_⟩⟩
    have Ab : Aft p l cells (m + 10) T H Hb := Aa.trans (aft_of Aa.pen eb Tb (Ex.refl Hb))
    refine nil_i ⟨rfl, rfl, _, _, rfl, .inr ⟨o, fl, ps, true, rfl, hO.still hP Ab.st, fun H9 e9 => (hO.still hP Ab.st).extN e9, Tb, told_pap g told, fun Hc ec Tc => ?_⟩⟩
    have Ac : Aft p l cells (m + 10) T H Hc := Ab.trans (aft_of Ab.pen ec Tc (Ex.refl Hc))
    refine c_i ⟨true, true, rfl, rfl, _, rfl, iteFf ?_⟩
    refine q_asgR (r_pickR odda_up rfl Ac.pen (by omega) h63 (all_odd Ac.pen) (by decide) (by decide) fun x H1 H2 e1 ox hP1 hP2 k2 => ?_)
    have A2 : Aft p l cells (m + 11) T H H2 := ⟨Ac.st.trans ((still_ex e1).trans (still_keep k2)), hP2, tabs_keep (Ac.tabs.ext e1) hP1 k2⟩
    have ox2 := odda_still (still_keep k2) ox
    have hF2 := hF.still hP A2.st
    show tSeq _ _ _ [some (.ref p), some v, some (.ref o), some (.ref q), some (.str z), some x, none, none, none] H2
    have s0 : PlainV (.str "") := .inr (.inr ⟨_, rfl, by decide +kernel⟩)
    have s1 : PlainV (.str "0") := .inr (.inr ⟨_, rfl, by decide +kernel⟩)
    have s2 : PlainV (.str "1") := .inr (.inr ⟨_, rfl, by decide +kernel⟩)
    have s3 : PlainV (.str "x") := .inr (.inr ⟨_, rfl, by decide +kernel⟩)
    have two : ∀ {a b : V}, PlainV a → PlainV b → ∀ y ∈ [a, b], PlainV y := fun ha hb y hy => by
      simp only [List.mem_cons, List.not_mem_nil, or_false] at hy
      rcases hy with rfl | rfl
      · exact ha
      · exact hb
    refine q_asgR (el_papers (K := K) (CR := CR) (CW := CW) (all_cons paper_up (one_wrong rfl ox2) (all_cons paper_up (one_odd rfl ox2) (all_cons paper_up (one_X (xs := []) (ex_u (eu_tup ea_nil (by show 0 ≤ 100000; decide))) (fun y hy => by cases hy)) (all_cons paper_up (one_found kit rfl hF2) (all_cons paper_up (one_true kit)
      (all_cons paper_up (one_Ls (el_lst (ea_cons ev_c (ea_cons ev_c ea_nil)) (by show 2 ≤ 100000; decide)) (two s0 s1)) (all_cons paper_up (one_X (ex_u (eu_tup (ea_cons ev_c (ea_cons ev_c ea_nil)) (by show 2 ≤ 100000; decide))) (two (.inl rfl) s0)) (all_cons paper_up (one_X (ex_u (eu_tup (ea_cons ev_c (ea_cons ev_c ea_nil)) (by show 2 ≤ 100000; decide))) (two s0 (.inr (.inl ⟨0, rfl⟩))))
        (all_cons paper_up one_nest all_nil))))))))) (by decide) fun pl xs H3 _ e3 h3 len all => ?_)
    have A3 := A2.ex e3
    refine q_join (fun σ' H' => ∃ a xs, σ' = [some (.ref p), some v, some (.ref o), some (.ref q), some (.str z), some x, some (.ref a), none, none] ∧ Aft p l cells (m + 11) T H H' ∧ H' a = some (.lst xs) ∧ xs.length ≤ 20 ∧ ∀ y ∈ xs, Paper K CR CW H' y) ?_ ?_
    rotate_left
    · intro D' kD'
      rcases hF.still hP A3.st with ⟨nw, ys, so, hq⟩ | ⟨ll, lw, l45, hq⟩
      · refine s_if (b := false) (et_B (ev_cb (ea_cons (ev_var rfl) (ea_cons ev_c ea_nil)) (rc_isi (.base (.tup hq)) kit_tl))) (fun z => absurd z (by decide)) (fun _ H4 e4 => ?_)
        exact kD' _ _ ⟨pl, xs, rfl, A3.ex e4, e4 _ _ h3, by omega, fun y hy => paper_up _ _ _ e4 (all y hy)⟩
      · refine s_if (b := true) (et_B (ev_cb (ea_cons (ev_var rfl) (ea_cons ev_c ea_nil)) (rc_isi (.base (.lst hq)) kit_ll))) (fun _ H4 e4 => ?_) (fun z => absurd z (by decide))
        refine s_asgR (cat_papers (K := K) (CR := CR) (CW := CW) rfl (e4 _ _ h3) (fun y hy => paper_up _ _ _ e4 (all y hy)) (all_cons paper_up (one_X (ex_u (eu_tup (ea_cons ev_c ea_nil) (by show 1 ≤ 100000; decide))) (plain_one s0)) (all_cons paper_up (one_X (ex_u (eu_tup (ea_cons ev_c (ea_cons ev_c ea_nil)) (by show 2 ≤ 100000; decide))) (two s0 s1)) (all_cons paper_up (one_X (ex_u (eu_tup (ea_cons ev_c (ea_cons ev_c ea_nil)) (by show 2 ≤ 100000; decide))) (two s0 s2)) all_nil))) (by decide) (by omega) fun a zs H5 _ e5 h5 l5 all5 => ?_)
        exact kD' _ _ ⟨a, zs, rfl, (A3.ex e4).ex e5, h5, by omega, all5⟩
    rintro σ' H4 ⟨a4, xs4, rfl, A4, h4, l4, all4⟩
    refine q_join (fun σ' H' => ∃ a xs, σ' = [some (.ref p), some v, some (.ref o), some (.ref q), some (.str z), some x, some (.ref a), none, none] ∧ Aft p l cells (m + 11) T H H' ∧ H' a = some (.lst xs) ∧ ∀ y ∈ xs, Paper K CR CW H' y) ?_ ?_
    rotate_left
    · intro D' kD'
      rcases hF.still hP A4.st with ⟨nw, ys, so, hq⟩ | ⟨ll, lw, l45, hq⟩
      rotate_left
      · refine s_if (b := false) (et_B (ev_cb (ea_cons (ev_var rfl) (ea_cons ev_c ea_nil)) (rc_isi (.base (.lst hq)) kit_lt))) (fun z => absurd z (by decide)) (fun _ H5 e5 => ?_)
        exact kD' _ _ ⟨a4, xs4, rfl, A4.ex e5, e5 _ _ h4, fun y hy => paper_up _ _ _ e5 (all4 y hy)⟩
      refine s_if (b := true) (et_B (ev_cb (ea_cons (ev_var rfl) (ea_cons ev_c ea_nil)) (rc_isi (.base (.tup hq)) kit_t2))) (fun _ H5 e5 => ?_) (fun z => absurd z (by decide))
      have pls := plain_strs (sts_ok g so)
      have few := sts_few g so
      have ml : (ys.map V.str).length = ys.length := List.length_map _
      obtain ⟨lv, lm, lat⟩ := last_at (xs := ys.map V.str) (by rw [Ne, List.map_eq_nil_iff]; exact sts_ne so)
      have hq5 := e5 _ _ hq
      refine q_asgR (cat_papers (K := K) (CR := CR) (CW := CW) rfl (e5 _ _ h4) (fun y hy => paper_up _ _ _ e5 (all4 y hy)) (all_cons paper_up (one_X (ex_cat (ex_var rfl hq5) (ex_u (eu_tup (ea_cons ev_c ea_nil) (by show 1 ≤ 100000; decide))) (by rw [ml]; show _ + 1 ≤ _; omega)) (plain_app pls (plain_one s3)))
        (all_cons paper_up (one_X (ex_cut (ex_var rfl hq5) eo_none (eo_some (i := -1) (ev_un ev_c ru_neg))) (plain_cut pls)) (all_cons paper_up (one_X (ex_rev (ex_var rfl hq5)) (plain_rev pls)) (all_cons paper_up (one_Ls (el_ofX (ex_var rfl hq5)) pls)
          (all_cons paper_up (one_X (ex_cat (ex_var rfl hq5) (ex_u (eu_tup (ea_cons (ev_ixX (j := -1) (ex_var rfl hq5) lat (ev_un ev_c ru_neg)) ea_nil) (by show 1 ≤ 100000; decide))) (by rw [ml]; show _ + 1 ≤ _; omega)) (plain_app pls (plain_one (pls _ lm)))) all_nil))))) (by decide) (by omega) fun a6 xs6 H6 _ e6 h6 l6 all6 => ?_)
      have hq6 := e6 _ _ hq5
      have tl : (if decide ((ys.map V.str).length < 3) = true then [V.str ""] else []).length ≤ 1 := by split <;> decide
      have c1 := cut_len (ys.map V.str) none (some 1)
      have c2 := cut_len (ys.map V.str) (some 1) none
      refine q_asgR (cat_papers (K := K) (CR := CR) (CW := CW) (n := 2) rfl h6 all6 (all_cons paper_up (one_X (ex_cat (ex_var rfl hq6) (ex_u (eu_tup (ea_cons ev_c ea_nil) (by show 1 ≤ 100000; decide))) (by rw [ml]; show _ + 1 ≤ _; omega)) (plain_app pls (plain_one (.inl rfl))))
        (all_cons paper_up (one_X (ex_cat (ex_cat (ex_cut (ex_var rfl hq6) eo_none (eo_some (i := 1) ev_c)) (ex_rev (ex_cut (ex_var rfl hq6) (eo_some (i := 1) ev_c) eo_none)) (by rw [List.length_reverse]; omega)) (ex_times (b := decide ((ys.map V.str).length < 3)) (xs := [V.str ""]) (ex_u (eu_tup (ea_cons ev_c ea_nil) (by show 1 ≤ 100000; decide))) (ev_int1 (ev_is (ev_op (ev_lenX (ex_var rfl hq6)) ev_c rv_I0) (congrArg V.bl (by rw [decide_eq_decide]; omega)))) (by simp)) (by rw [List.length_append, List.length_reverse]; omega)) (plain_app (plain_app (plain_cut pls) (plain_rev (plain_cut pls))) (fun y hy => by
          split at hy
          · exact plain_one s0 y hy
          · cases hy))) all_nil)) (by decide) (by omega) fun a7 xs7 H7 _ e7 h7 l7 all7 => ?_)
      have A7' := A4.ex (e5.trans (e6.trans e7))
      have hq7 := e7 _ _ hq6
      refine s_ifE (op_i (call_i (cons_i ⟨_, rfl, cons_i (s_makeV (ea_cons (ev_var rfl) ea_nil) fun H8 u e8 hu8 => nil_i ?_)⟩)))
      have A8' := A7'.ex e8
      have lowY := sts_low g so
      refine ⟨_, _, rfl, .inr ⟨o, fl, ps, true, rfl, hO.still hP A8'.st, fun H9 e9 => (hO.still hP A8'.st).extN e9, A8'.tabs, pap_right hu8 (FldV.tup (e8 _ _ hq7) (dp_strs ys)) lowY (by decide) kit_t2 (fun zs _ so' => ?_) (fun z => absurd nw z), fun H9 e9 T9 => c_i ⟨true, true, rfl, rfl, _, rfl, iteFf ?_⟩⟩⟩
      · rw [sts_one so' so]
        show true = (true && PyData.eqv (tupD ys) (tupD ys))
        rw [low_self lowY]
        rfl
      have A9' : Aft p l cells (m + 11) T H H9 := A8'.trans (aft_of A8'.pen e9 T9 (Ex.refl H9))
      have hO9 := hO.still hP A9'.st
      obtain ⟨dx, qq, vs, hO9', _⟩ := id hO9
      refine op_i ⟨_, rfl, o, dx, _, rfl, hO9', nf_a _ _, o, fl, ps, rfl, hO9, T9, .inr ⟨nw.puts, .inr ⟨nw.flag (f_ne g), fun Ha t olp ys' wkp npp pmp upp eN Ta ht => ?_⟩⟩⟩
      have so' : StsOf fl ps ys' := ⟨olp, wkp, npp, pmp, upp⟩
      obtain rfl := sts_one so' so
      have Aa' : Aft p l cells (m + 11) T H Ha := A9'.trans (aft_of A9'.pen eN Ta (Ex.refl Ha))
      have up8 : ExtN H7 Ha := ((ExtN.of e8).trans e9).trans eN
      have hqa := up8 _ _ hq7 (fun _ z => by cases z)
      refine ⟨_, rfl, tupD ys', tupD ys', .tup (st_of ht) (dp_strs _), .tup (st_of hqa) (dp_strs _), low_shaped lowY (by decide), low_shaped lowY (by decide), _, rfl, ?_⟩
      rw [low_self lowY]
      refine iteFf (kD' _ _ ⟨a7, xs7, rfl, Aa', up8 _ _ h7 (fun _ z => by cases z), fun y hy => (all7 y hy).extN up8⟩)
    rintro σ' H5 ⟨a5, xs5, rfl, A5, h5, all5⟩
    have hO5 := hO.still hP A5.st
    have hF5 := hF.still hP A5.st
    refine s_retR (op_i (lc_none (K := K) (T := T) rfl h5 A5.tabs (fun _ => rfl) (fun y hy H1 e1 T1 R kR => paper_out (X := (cxOf CX0 P w K mg base nPap "_law_papers_right" (defScope sPap) f cdv A outer s H E).nox) (f := fl) (ps := ps) (o := o) (y := y) (i := 2) (j := 8) rfl rfl (hO5.extN e1) g T1 ((all5 y hy).extN e1) (fun nw H2 e2 => ?_) kR) fun Dl H6 _ e6 T6 h6 => ?_))
    · rcases hF5 with ⟨_, ys, so, hq⟩ | ⟨ll, lw, _, _⟩
      · have hq2 := (e1.trans e2) _ _ hq (fun _ z => by cases z)
        exact ⟨ys, so, evv_make (T := "tuple") (ev_if (b := true) (et_B (ev_cb (ea_cons (ev_var rfl) (ea_cons ev_c ea_nil)) (rc_isi (.base (.tup hq2)) kit_t2))) (fun _ => ev_var rfl) fun z => absurd z (by decide)) (.tup hq2 (dp_strs ys))⟩
      · exact absurd nw fun z => lw.not_none z
    · refine (el_lst ea_nil (by show 0 ≤ 100000; decide)) H6 (Ex.refl H6) _ fun r H7 _ e7 h7 => ⟨.list [], .list [], .lst (sq_of (e7 _ _ h6)) .nil, .lst (sq_of h7) .nil, rfl, rfl, ?_⟩
      have e0 : PyData.eqv (.list []) (.list []) = true := by decide +kernel
      rw [e0]
      exact k H7 ((A5.trans (aft_of A5.pen e6 T6 (Ex.refl H6))).ex e7 |> fun z => ⟨z.st, z.pen.le (by omega), z.tabs⟩)
end
end K10
/-! pure: rules that are told: right ones with their walk, wrong ones with their least letter -/
namespace Fr
section
variable {ps : LP} {W : List L} {ol : List (L × L)} {f l t y : L}
def earlyB (f t : L) : Bool := (List.range t.length).any fun i => f.isPrefixOf ((t ++ f).drop i)
theorem early_iff : earlyB f t = true ↔ Early f t := by
  unfold earlyB Early
  rw [List.any_eq_true]
  constructor
  · rintro ⟨i, h1, h2⟩
    exact ⟨i, List.mem_range.mp h1, List.isPrefixOf_iff_prefix.mp h2⟩
  · rintro ⟨i, h1, h2⟩
    exact ⟨i, List.mem_range.mpr h1, List.isPrefixOf_iff_prefix.mpr h2⟩
def wrB (ps : LP) (f y : L) : Bool := match bodyL ps [] y with
  | none => true
  | some t => earlyB f t
theorem wr_iff : wrB ps f y = true ↔ Wr ps f y := by
  unfold wrB Wr
  cases h : bodyL ps [] y with
  | none => exact ⟨fun _ t z => (by cases z), fun _ => rfl⟩
  | some t => exact early_iff.trans ⟨fun h t' e => by cases e; exact h, fun h => h t rfl⟩
def bitsB (y : L) : Bool := y.all fun c => decide (c = 48 ∨ c = 49)
theorem bits_ok (h : bitsB y = true) : Sgs y := fun c hc => of_decide_eq_true (List.all_eq_true.mp h c hc)
/-- ls: the letters below l -/
def leastB (ps : LP) (f l : L) (ls : List L) : Bool := bitsB l && wrB ps f l && ls.all (fun z => bitsB z && !wrB ps f z) && (List.range (num l)).all fun m => decide (m = 0) || ls.any fun z => decide (num z = m)
theorem least_ok {ls : List L} (h : leastB ps f l ls = true) : LeastW ps f l := by
  unfold leastB at h
  simp only [Bool.and_eq_true, List.all_eq_true, Bool.or_eq_true, decide_eq_true_iff, List.any_eq_true, Bool.not_eq_true', List.mem_range] at h
  obtain ⟨⟨⟨h1, h2⟩, h3⟩, h4⟩ := h
  refine ⟨bits_ok h1, wr_iff.mp h2, fun y hy wy => ?_⟩
  apply Classical.byContradiction
  intro lt
  rcases h4 (num y) (by omega) with z | ⟨z, hz, e⟩
  · have := num_pos y
    omega
  · obtain ⟨a, b⟩ := h3 z hz
    have : y = z := num_inj hy (bits_ok a) e.symm
    subst this
    rw [wr_iff.mpr wy] at b
    cases b
/-- a right rule with its walk -/
def rightB (ps : LP) (W : List L) (f : L) (ol : List (L × L)) : Bool :=
  decide ((ol.map Prod.fst).Nodup) && decide (([], []) ∈ ol) && decide ((ol.map fun p => num p.2).Pairwise (· < ·)) &&
  ol.all (fun p => bitsB p.2 && (match bodyL ps [] p.2 with | none => false | some t => decide (stOf W t = p.1)) && decide (p.2.length < ol.length)) &&
  ol.all (fun p => [0, 1].all fun k => match sendL ps p.1 (48 + k) with | none => false | some u => ol.any (fun q => decide (q.1 = stOf W (p.1 ++ u)) && decide (num q.2 ≤ 2 * num p.2 + k)) && !decide (f <:+: p.1 ++ u) && !earlyB f (stOf W (p.1 ++ u)))
theorem right_ok (h : rightB ps W f ol = true) (hW : W ≠ []) (hp : ∀ q ∈ ps, q.1 ∈ W) (hf : f ≠ []) (hfW : f ∈ W) : Wk ps W ol ol.length ∧ NoPuts ps (ol.map Prod.fst) ∧ NoneW ps f := by
  unfold rightB at h
  simp only [Bool.and_eq_true, decide_eq_true_iff, List.all_eq_true] at h
  obtain ⟨⟨⟨⟨nd, nil⟩, srt⟩, h3⟩, h4⟩ := h
  have rch : ∀ p ∈ ol, ∃ t, Rch ps p.2 t ∧ stOf W t = p.1 := fun p hp => by
    obtain ⟨⟨a, b⟩, _⟩ := h3 p hp
    cases hb : bodyL ps [] p.2 with
    | none => rw [hb] at b; cases b
    | some t =>
      rw [hb] at b
      exact ⟨t, ⟨bits_ok a, hb⟩, of_decide_eq_true b⟩
  have step : ∀ p ∈ ol, ∀ k, k < 2 → ∃ u, sendL ps p.1 (48 + k) = some u ∧ (∃ r2, (stOf W (p.1 ++ u), r2) ∈ ol ∧ num r2 ≤ 2 * num p.2 + k) ∧ ¬ f <:+: p.1 ++ u ∧ ¬ Early f (stOf W (p.1 ++ u)) := fun p hp k hk => by
    have k01 : k ∈ [0, 1] := by
      rcases (show k = 0 ∨ k = 1 by omega) with rfl | rfl <;> simp
    have := h4 p hp k k01
    cases hs : sendL ps p.1 (48 + k) with
    | none => rw [hs] at this; cases this
    | some u =>
      rw [hs] at this
      simp only [Bool.and_eq_true, List.any_eq_true, decide_eq_true_iff, Bool.not_eq_true', decide_eq_false_iff_not] at this
      obtain ⟨⟨⟨q, hq, e, le⟩, n1⟩, n2⟩ := this
      refine ⟨u, rfl, ⟨q.2, by rw [← e]; exact hq, le⟩, n1, fun z => ?_⟩
      rw [early_iff.mpr z] at n2
      cases n2
  have bitk : ∀ c, Bit c → ∃ k, k < 2 ∧ c = 48 + k := fun c hc => by
    rcases hc with rfl | rfl
    · exact ⟨0, by decide, rfl⟩
    · exact ⟨1, by decide, rfl⟩
  have wlk : Wlk ps W (ol.map Prod.fst) ol.length := ⟨nd, List.mem_map.mpr ⟨_, nil, rfl⟩, fun e he => by
    obtain ⟨p, hp, rfl⟩ := List.mem_map.mp he
    obtain ⟨t, h1, h2⟩ := rch p hp
    exact ⟨p.2, t, h1, h2⟩, fun i e _ he c hc u hu => by
    obtain ⟨p, hp, rfl⟩ := List.mem_map.mp (List.mem_of_getElem? he)
    obtain ⟨k, hk, rfl⟩ := bitk c hc
    obtain ⟨v, h1, ⟨r2, h2, _⟩, _⟩ := step p hp k hk
    rw [hu] at h1
    cases h1
    exact List.mem_map.mpr ⟨_, h2, rfl⟩⟩
  have np : NoPuts ps (ol.map Prod.fst) := fun e he c hc z => by
    obtain ⟨p, hp, rfl⟩ := List.mem_map.mp he
    obtain ⟨k, hk, rfl⟩ := bitk c hc
    obtain ⟨v, h1, _⟩ := step p hp k hk
    rw [z] at h1
    cases h1
  have wo : Wo ps W ol ol.length 0 := ⟨fun a b p q lt ha hb => by
    have e1 : (ol.map fun p => num p.2)[a]? = some (num p.2) := by rw [List.getElem?_map, ha]; rfl
    have e2 : (ol.map fun p => num p.2)[b]? = some (num q.2) := by rw [List.getElem?_map, hb]; rfl
    obtain ⟨la, ea⟩ := List.getElem?_eq_some_iff.mp e1
    obtain ⟨lb, eb⟩ := List.getElem?_eq_some_iff.mp e2
    have := List.pairwise_iff_getElem.mp srt a b la lb lt
    rwa [ea, eb] at this, fun q hq => by
    have := (List.getElem?_eq_some_iff.mp hq).1
    omega, fun j p hj k c hk _ u hu => by
    obtain ⟨rfl, k2⟩ := at2 hk
    obtain ⟨v, h1, h2, _⟩ := step p (List.mem_of_getElem? hj) k k2
    rw [hu] at h1
    cases h1
    exact h2, nil⟩
  have wk : Wk ps W ol ol.length := ⟨⟨wlk, rch, fun p hp => (h3 p hp).2⟩, wo⟩
  refine ⟨wk, np, wk.clean_none hW hp hf hfW fun j p hj k c hk _ br => ?_⟩
  obtain ⟨rfl, k2⟩ := at2 hk
  obtain ⟨v, h1, _, n1, n2⟩ := step p (List.mem_of_getElem? hj) k k2
  rcases br v h1 with z | z
  · exact n1 z
  · exact n2 z
end
end Fr
namespace K10
open PySem L2 Evl Gr OwX OpX OwB StX EnT ClX ClK RdX SrtT StS Fr LamX TpX
/-! ### what the law asks, where tables may grow -/
/-- the verdict on a rule, as it stands -/
def TV (CR CW : Addr) (f : Str) (ps : List Pr) (H : Hp) (u : Addr) : Prop := (NoneW (lp ps) (TL.tl f) ∧ ∃ (p : Addr) (ys : List Str), StsOf f ps ys ∧ H p = some (.tup (ys.map V.str)) ∧ ValAt CR "states" H u (.ref p)) ∨ ∃ l, LeastW (lp ps) (TL.tl f) l ∧ l.length ≤ 45 ∧ ValAt CW "letter" H u (.str (mk l))
theorem TV.extN {CR CW u : Addr} {f : Str} {ps : List Pr} {H H' : Hp} (e : ExtN H H') (h : TV CR CW f ps H u) : TV CR CW f ps H' u := by
  rcases h with ⟨a, p, ys, b, c, d⟩ | ⟨l, a, b, c⟩
  · exact .inl ⟨a, p, ys, b, e _ _ c (fun _ z => by cases z), d.extN e⟩
  · exact .inr ⟨l, a, b, c.extN e⟩
section
variable {K : PySem.W.Frag} {C cB CR CW o : Addr} {T : List (Addr × Str)} {σ : L2.St} {H : Hp} {Q : VK} {E E' : XK} {f z : Str} {ps : List Pr} {ta tb : TE} {ys zs : List Str} {b : Bool}
theorem ask_told (h : Ev ta σ H (.ref o)) (hO : RuleAt K C H o f ps) (tabs : Tabs T H) (k : ∀ H1 u, ExtN H H1 → Tabs T H1 → TV CR CW f ps H1 u → Q (.ref u) H1) : tCall (spRtn K C cB CR CW T) [] E (tCons ta tNil) σ H Q :=
  h H (Ex.refl H) _ fun H1 e1 => ⟨_, rfl, .inr ⟨o, f, ps, rfl, hO.mono e1, tabs.ext e1, fun H2 u eN T2 told => k H2 u ((ExtN.of e1).trans eN) T2 (by
    rcases told with ⟨nw, p, ol, ys, wk, np, pm, up, hp, tv⟩ | ⟨l, lw, l45, tv⟩
    · exact .inl ⟨nw, p, ys, ⟨ol, wk, np, pm, up⟩, hp, tv⟩
    · exact .inr ⟨l, lw, l45, tv⟩)⟩⟩
theorem ask_toldK {g : List V → List V → List V} (hg : g [] [.ref o] = [.ref o]) (h : Ev ta σ H (.ref o)) (hO : RuleAt K C H o f ps) (tabs : Tabs T H) (k : ∀ H1 u, ExtN H H1 → Tabs T H1 → TV CR CW f ps H1 u → Q (.ref u) H1) : tCallN 0 1 (spRtn K C cB CR CW T) g E tNil (tCons ta tNil) σ H Q :=
  h H (Ex.refl H) _ fun H1 e1 => ⟨rfl, rfl, by
    rw [hg]
    exact ⟨_, rfl, .inr ⟨o, f, ps, rfl, hO.mono e1, tabs.ext e1, fun H2 u eN T2 told => k H2 u ((ExtN.of e1).trans eN) T2 (by
    rcases told with ⟨nw, p, ol, ys, wk, np, pm, up, hp, tv⟩ | ⟨l, lw, l45, tv⟩
    · exact .inl ⟨nw, p, ys, ⟨ol, wk, np, pm, up⟩, hp, tv⟩
    · exact .inr ⟨l, lw, l45, tv⟩)⟩⟩⟩
/-- a Right of told texts, shown -/
theorem ask_shows (h : Ev ta σ H (.ref o)) (hO : RuleAt K C H o f ps) (g : Good f ps) (tabs : Tabs T H) (ht : ∀ H1, Ex H H1 → EvX tb σ H1 (zs.map V.str)) (oz : ∀ z ∈ zs, PyData.strOk z = true) (h1 : ∀ ys, NoneW (lp ps) (TL.tl f) → StsOf f ps ys → b = PyData.eqv (tupD zs) (tupD ys)) (h2 : ¬ NoneW (lp ps) (TL.tl f) → b = false)
    (k : ∀ H1, ExtN H H1 → Tabs T H1 → Q (.bl b) H1) : tCall (spShr K C cB CR CW T) [] E (tCons ta (tCons (tMake CR (spVI CR "states") [] E' (tCons tb tNil)) tNil)) σ H Q :=
  h H (Ex.refl H) _ fun H1 e1 => ht H1 e1 H1 (Ex.refl H1) _ fun p H2 e2 hp x dx hx hd hn => by
    refine init_val (Q := fun x H1 => spShr K C cB CR CW T [.ref o, x] H1 Q E) (v := .ref p) hx hd hn fun H3 e3 hv => ?_
    have E3 := e1.trans (e2.trans e3)
    have low : Low 1 (tupD zs) := low_tup fun d hd => by
      obtain ⟨z, hz, rfl⟩ := List.mem_map.mp hd
      exact low_str (oz z hz)
    exact ⟨_, _, rfl, .inr ⟨o, f, ps, b, rfl, hO.mono E3, fun H4 e4 => (hO.mono E3).extN e4, tabs.ext E3, pap_right hv (FldV.tup (e3 _ _ hp) (dp_strs zs)) low (by decide) kit_t2 (fun ys nw so => by rw [h1 ys nw so]; rfl) h2, fun H4 e4 T4 => k H4 ((ExtN.of E3).trans e4) T4⟩⟩
end
/-! ### a comprehension all of whose answers are yes -/
theorem tabs_updL {T : List (Addr × Str)} {H : Hp} {D : Addr} {xs : List V} {o : HO} (h : Tabs T H) (hD : H D = some (.lst xs)) : Tabs T (upd H D o) := fun q hq => by
  obtain ⟨ps, h1, h2, h3⟩ := h q hq
  refine ⟨ps, by rw [upd_ne (fun z => by rw [z, hD] at h1; cases h1)]; exact h1, h2, fun pos cv hc => ?_⟩
  obtain ⟨c, e1, e2⟩ := h3 pos cv hc
  exact ⟨c, e1, by rw [upd_ne (fun z => by rw [z, hD] at e2; unfold CodeO at e2; cases e2)]; exact e2⟩
theorem extN_updL {H H' : Hp} {D : Addr} {o : HO} (e : ExtN H H') (h : H D = none) : ExtN H (upd H' D o) := fun a u ha n => by
  rw [upd_ne (ne_of_none ha h)]
  exact e a u ha n
theorem lc_true {K : PySem.W.Frag} {T : List (Addr × Str)} {σ : L2.St} {H : Hp} {vs : List Nat} {g : TG} {te tl : TE} {Q : VK} {n : Nat} (R : Hp → V → Prop) (hl : ∀ Q : VK, (∀ a xs H1, Ex H H1 → H1 a = some (.lst xs) → xs.length = n → (∀ x ∈ xs, R H1 x) → Q (.ref a) H1) → tl σ H Q) (tabs : Tabs T H)
    (hR : ∀ H1 H2 x, ExtN H1 H2 → R H1 x → R H2 x) (hn : n ≤ 1000)
    (step : ∀ x H1, ExtN H H1 → Tabs T H1 → R H1 x → ∀ Q : VK, (∀ H2, ExtN H1 H2 → Tabs T H2 → Q (.bl true) H2) → g x (wipe σ vs) H1 fun σ2 H2 => wipe σ2 vs = wipe σ vs ∧ te σ2 H2 Q)
    (k : ∀ D H2, ExtN H H2 → Tabs T H2 → H2 D = some (.lst (List.replicate n (.bl true))) → Q (.ref D) H2) : tLc (iList K tl) g (fun σ H Q => Q true H) te vs σ H Q :=
  hl _ fun a xs H1 e1 ha len all => ⟨a, rfl, ⟨xs, sq_of ha⟩, fun D hD => lc_it (g := g) (tt := fun σ H Q => Q true H) (te := te) (vs := vs) (σ := σ) (n := xs.length) (walk_list (K := K) (a := a) (xs := xs)) (fun i H' => ExtN H1 H' ∧ Tabs T H' ∧ H' D = some (.lst (List.replicate i (.bl true)))) ⟨ExtN.of (Ex.new hD), tabs.ext (e1.trans (Ex.new hD)), upd_same⟩ (fun _ H' _ h => sq_of (h.1 _ _ ha (fun _ z => by cases z)))
    (fun i x H' H'' hi h y => by
      obtain ⟨rfl, hx⟩ := y
      obtain ⟨h1, h2, h3⟩ := h
      exact step x _ ((ExtN.of e1).trans h1) h2 (hR _ _ _ h1 (all x (List.mem_of_getElem? hx))) (fun y H4 => ∃ acc, H4 D = some (.lst acc) ∧ acc.length < sizeLine ∧ ExtN H1 (upd H4 D (.lst (acc ++ [y]))) ∧ Tabs T (upd H4 D (.lst (acc ++ [y]))) ∧ (upd H4 D (.lst (acc ++ [y]))) D = some (.lst (List.replicate (i + 1) (.bl true)))) fun H2 e2 T2 => by
        have hD2 := e2 _ _ h3 (fun _ z => by cases z)
        refine ⟨_, hD2, sz_lt (by rw [List.length_replicate]; omega), extN_updL (h1.trans e2) hD, tabs_updL T2 hD2, ?_⟩
        rw [upd_same, List.replicate_succ'])
    (fun H' h => k D H' ((ExtN.of e1).trans h.1) h.2.1 (by rw [← len]; exact h.2.2))⟩
/-! ### odd things: no rules -/
def OddR (p : Addr) (H : Hp) (x : V) : Prop := x = .non ∨ x = .int 0 ∨ (∃ z, x = .str z) ∨ (∃ a xs, x = .ref a ∧ H a = some (.lst xs) ∧ a ≠ p) ∨ (∃ a xs, x = .ref a ∧ H a = some (.tup xs) ∧ a ≠ p) ∨ ∃ a, x = .ref a ∧ H a = some (.dK []) ∧ a ≠ p
def NKit (K : PySem.W.Frag) (C : Addr) : Prop := ∀ T ∈ (["NoneType", "int", "str", "list", "tuple", "dict"] : List String), PySem.W.kitOne K (.type T) (.ref C) = some false
section
variable {K : PySem.W.Frag} {C p l o : Addr} {H H' : Hp} {x : V} {σ : L2.St} {cells : List Int} {m i : Nat}
theorem oddr_to (k : ∀ a o, H a = some o → a ≠ p → (∀ ps, o ≠ .tbl ps) → H' a = some o) (h : OddR p H x) : OddR p H' x := by
  rcases h with h | h | h | ⟨a, xs, h1, h2, h3⟩ | ⟨a, xs, h1, h2, h3⟩ | ⟨a, h1, h2, h3⟩
  · exact .inl h
  · exact .inr (.inl h)
  · exact .inr (.inr (.inl h))
  · exact .inr (.inr (.inr (.inl ⟨a, xs, h1, k _ _ h2 h3 (fun _ z => by cases z), h3⟩)))
  · exact .inr (.inr (.inr (.inr (.inl ⟨a, xs, h1, k _ _ h2 h3 (fun _ z => by cases z), h3⟩))))
  · exact .inr (.inr (.inr (.inr (.inr ⟨a, h1, k _ _ h2 h3 (fun _ z => by cases z), h3⟩))))
theorem oddr_up : UpR (OddR p) := fun H H' x e h => oddr_to (fun _ _ q _ _ => e _ _ q) h
theorem oddr_still (k : Still p H H') (h : OddR p H x) : OddR p H' x := oddr_to (fun a o q n t => k a o q n t) h
theorem oddr_ext (k : ExtN H H') (h : OddR p H x) : OddR p H' x := oddr_to (fun a o q n t => k a o q t) h
theorem oddr_no (nk : NKit K C) (h : OddR p H x) : NoRule K C H x := by
  rcases h with rfl | rfl | ⟨z, rfl⟩ | ⟨a, xs, rfl, h2, _⟩ | ⟨a, xs, rfl, h2, _⟩ | ⟨a, rfl, h2, _⟩
  · exact ⟨_, .base .non, nk "NoneType" (by decide)⟩
  · exact ⟨_, .base (.int 0), nk "int" (by decide)⟩
  · exact ⟨_, .base (.str z), nk "str" (by decide)⟩
  · exact ⟨_, .base (.lst h2), nk "list" (by decide)⟩
  · exact ⟨_, .base (.tup h2), nk "tuple" (by decide)⟩
  · exact ⟨_, .base (.dK h2), nk "dict" (by decide)⟩
theorem all_oddr (hP : PenAt H p l cells m) (hi : σ[i]? = some (some (.ref o))) : EvAll (OddR p) 6 (tCons (tC .non) (tCons (tC (.int 0)) (tCons (tC (.str "011 : 01 0")) (tCons (tTup (tCons (tC (.str "011")) (tCons (tTup (tCons (tC (.str "01")) (tCons (tC (.str "0")) tNil))) tNil))) (tCons (tLst (tCons (tVar i) tNil)) (tCons tDNewK tNil)))))) σ H :=
  have np : ∀ {a : Addr} {H1 : Hp}, Ex H H1 → H1 a = none → a ≠ p := fun e h z => pen_there (hP.mono e (Nat.le_refl m)) (z ▸ h)
  all_cons oddr_up (one_v ev_c fun _ _ => .inl rfl) (all_cons oddr_up (one_v ev_c fun _ _ => .inr (.inl rfl)) (all_cons oddr_up (one_v ev_c fun _ _ => .inr (.inr (.inl ⟨_, rfl⟩)))
    (all_cons oddr_up (fun H1 e Q k => tup_i (cons_i (c_i (cons_i ((eu_tup (vs := [.str "01", .str "0"]) (ea_cons ev_c (ea_cons ev_c ea_nil)) (by show 2 ≤ 100000; decide)) H1 e _ fun r H2 _ e2 h2 => nil_i ⟨by show 2 ≤ sizeLine; decide, fun t ht => k _ _ (e2.trans (Ex.new ht)) (.inr (.inr (.inr (.inr (.inl ⟨t, _, rfl, upd_same, np (e.trans e2) ht⟩)))))⟩)))))
      (all_cons oddr_up (one_L (el_lst (ea_cons (ev_var hi) ea_nil) (by show 1 ≤ 100000; decide)) fun a H1 H2 e h0 h2 => .inr (.inr (.inr (.inl ⟨a, _, rfl, h2, np e h0⟩))))
        (all_cons oddr_up (fun H1 e Q k => fun r hr => k _ _ (Ex.new hr) (.inr (.inr (.inr (.inr (.inr ⟨r, rfl, upd_same, np e hr⟩)))))) all_nil)))))
end
/-! ### what is heard -/
theorem lam_rule {T : List (Addr × Str)} {cB p l : Addr} {cells : List Int} {n : Nat} {σ : L2.St} {H : Hp} {tt : XK → TE} {Qt : Bool → Hp → Prop} (hP : PenAt H p l cells n) (tabs : Tabs T H) (hm : ∀ (E : XK) H2 (Q2 : VK), ExtN H H2 → Out1 cB "part" (.str "rule") H2 E → tt E σ H2 Q2)
    (k : ∀ H3, Aft p l cells n T H H3 → Qt false H3) : tTest (tOp rNe (tLam T (THd cB) tt) (tC (.str "rule"))) σ H Qt :=
  op_i ⟨tabs, fun H1 x1 T1 H2 e2 => hm _ H2 _ (x1.trans (ExtN.of e2)) fun d H' _ e3 hd => ⟨e3, d, rfl, rfl, hd, fun H4 e4 => c_i ⟨rfl, _, rfl, k H4 (aft_of hP x1 T1 e4)⟩⟩⟩
end K10
namespace K10
open PySem L2 Evl Gr OwX OpX OwB StX EnT ClX ClK RdX SrtT StS StM Fr LamX LamY TpX
/-! ### rules that are told -/
theorem good_by {f : Str} {ps : List Pr} (h1 : sgB f 2 8 = true) (h2 : ps.all (fun p => sgB p.1 1 8 && sgB p.2 1 1) = true) (h3 : ps.length ≤ 4) (h4 : ps.Pairwise fun p q => ltB p.1 q.1 = true) : Good f ps := ⟨h1, fun p hp => by
  have := List.all_eq_true.mp h2 p hp
  simpa [PairOk] using this, h3, h4⟩
abbrev qA : List Pr := [("11", "0")]
abbrev qB : List Pr := [("0", "0")]
abbrev qD : List Pr := [("011111", "0")]
abbrev yD : List Str := ["", "0", "01", "011", "0111", "01111"]
abbrev zD : List Str := ["", "01", "0", "011", "0111", "01111"]
abbrev oD : List (L × L) := yD.map fun z => (TL.tl z, TL.tl z)
theorem g_A : Good "111" qA := good_by (by decide +kernel) (by decide +kernel) (by decide) (by decide +kernel)
theorem g_B : Good "000" qB := good_by (by decide +kernel) (by decide +kernel) (by decide) (by decide +kernel)
theorem g_C : Good "01" [] := good_by (by decide +kernel) (by decide +kernel) (by decide) (by decide +kernel)
theorem g_D : Good "0111111" qD := good_by (by decide +kernel) (by decide +kernel) (by decide) (by decide +kernel)
theorem lw_A : LeastW (lp qA) (TL.tl "111") (TL.tl "1") := least_ok (ls := [[], [48]]) (by decide +kernel)
theorem lw_B : LeastW (lp qB) (TL.tl "000") (TL.tl "0") := least_ok (ls := [[]]) (by decide +kernel)
theorem lw_C : LeastW (lp []) (TL.tl "01") (TL.tl "01") := least_ok (ls := [[], [48], [49], [48, 48]]) (by decide +kernel)
theorem k_D : Wk (lp qD) (Wp "0111111" qD) oD oD.length ∧ NoPuts (lp qD) (oD.map Prod.fst) ∧ NoneW (lp qD) (TL.tl "0111111") := right_ok (by decide +kernel) wp_ne wp_mem (f_ne g_D) List.mem_cons_self
theorem le_dec {a b : Str} (h : (decide (a.length < b.length) || (decide (a.length = b.length) && decide (a.cps.toList ≤ b.cps.toList))) = true) : SLn.Le a b := by
  rw [Bool.or_eq_true, Bool.and_eq_true, decide_eq_true_iff, decide_eq_true_iff, decide_eq_true_iff] at h
  exact h
theorem so_D : StsOf "0111111" qD yD := by
  refine ⟨oD, k_D.1, k_D.2.1, ?_, ?_⟩
  · have : (oD.map fun p => mk p.1) = yD := by decide +kernel
    rw [this]
  · have : yD.Pairwise (fun a b => (decide (a.length < b.length) || (decide (a.length = b.length) && decide (a.cps.toList ≤ b.cps.toList))) = true) := by decide +kernel
    exact this.imp fun h => le_dec h
theorem ne_D : PyData.eqv (tupD zD) (tupD yD) = false := by decide +kernel
theorem not_A : ¬ NoneW (lp qA) (TL.tl "111") := fun z => lw_A.not_none z
theorem not_C : ¬ NoneW (lp []) (TL.tl "01") := fun z => lw_C.not_none z
theorem ok_D : ∀ z ∈ yD, PyData.strOk z = true := by decide +kernel
theorem ok_Z : ∀ z ∈ zD, PyData.strOk z = true := by decide +kernel
section
variable {K : PySem.W.Frag} {C p l cR cM : Addr} {σ : L2.St} {H : Hp} {E : XK} {ta : TA} {f : Str} {ps qs : List Pr}
/-- a rule that is made of a flag and pairs as they are passed -/
theorem eru_make (h : EvPp ta σ H ps) (g : Good f qs) (pm : ps.Perm qs) : EvRu K C (tMakeR C (spInitA K C cR cM) E (tCons (tC (.str f)) ta)) σ H f qs := fun H1 e Q q =>
  cons_i (c_i (h H1 e _ fun xs H2 e2 hx o dx ho hd hn => init_told ho hd hn (by
    have := g.many
    have := pm.length_eq
    rw [hx.len]
    omega) (made_ok g hx pm fun qs' g' pm' => by
      obtain rfl := good_one g' g (pm'.trans pm)
      exact fun o H3 e3 r => q o H3 (e2.trans e3) r)))
/-- a wrong rule and its least letter, in a tuple -/
def WrAt (K : PySem.W.Frag) (C : Addr) (H : Hp) (x : V) : Prop := ∃ (t o : Addr) (f z : Str) (ps : List Pr), x = .ref t ∧ H t = some (.tup [.ref o, .str z]) ∧ RuleAt K C H o f ps ∧ LeastW (lp ps) (TL.tl f) (TL.tl z)
theorem wrat_ext {H1 H2 : Hp} {x : V} (e : ExtN H1 H2) (h : WrAt K C H1 x) : WrAt K C H2 x := by
  obtain ⟨t, o, f, z, ps, h1, h2, h3, h4⟩ := h
  exact ⟨t, o, f, z, ps, h1, e _ _ h2 (fun _ z => by cases z), h3.extN e, h4⟩
theorem one_wr {te : TE} {z : Str} {o : Addr} (h : Ev te σ H (.ref o)) (hO : RuleAt K C H o f ps) (lw : LeastW (lp ps) (TL.tl f) (TL.tl z)) : EvOne (WrAt K C) (tTup (tCons te (tCons (tC (.str z)) tNil))) σ H := fun H1 e Q q =>
  (eu_tup (ea_cons h (ea_cons ev_c ea_nil)) (by show 2 ≤ 100000; decide)) H1 e _ fun t H2 _ e2 h2 => q _ H2 e2 ⟨t, o, f, z, ps, rfl, h2, hO.mono (e.trans e2), lw⟩
end
theorem q_ifR {σ : L2.St} {H : Hp} {t : TT} {tu tz : TS} {D : Ends} (h : t σ H fun b H1 => if b = true then tu { D with nx := tz D } σ H1 else tz D σ H1) : tSeq (tIfS t tu tNext) tz D σ H := h
theorem if_i {t : TT} {ta tb : TE} {σ : L2.St} {H : Hp} {Q : VK} (h : t σ H fun b H1 => if b = true then ta σ H1 Q else tb σ H1 Q) : tIf t ta tb σ H Q := h
theorem iteTt {P Q : Prop} (h : P) : (if true = true then P else Q) := h
theorem q_skip {σ : L2.St} {H : Hp} {t : TT} {tu tz : TS} {D : Ends} (h : EvT t σ H false) (k : ∀ H1, Ex H H1 → tz D σ H1) : tSeq (tIfS t tu tNext) tz D σ H := q_when (b := false) h (fun z => absurd z (by decide)) fun _ => k
theorem lst_all {R : Hp → V → Prop} {n : Nat} {t : TA} {σ : L2.St} {H : Hp} {Q : VK} (up : UpR R) (h : EvAll R n t σ H) (hn : n ≤ 1000) (k : ∀ a xs H1, Ex H H1 → H1 a = some (.lst xs) → xs.length = n → (∀ x ∈ xs, R H1 x) → Q (.ref a) H1) : tLst t σ H Q :=
  h H (Ex.refl H) _ fun xs H1 e1 len all => ⟨by rw [len]; exact sz_of (by omega), fun a ha => k a xs _ (e1.trans (Ex.new ha)) upd_same len fun x hx => up _ _ _ (Ex.new ha) (all x hx)⟩
section
variable {K : PySem.W.Frag} {C cB CR CW o : Addr} {T : List (Addr × Str)} {σ : L2.St} {H : Hp} {Q : VK} {E : XK} {f n : Str} {ps : List Pr} {i : Nat} {te : TE} {g : List V → List V → List V} {xs : List V} {ds : List PyData} {d : PyData}
theorem told_two {c : Prop} [Decidable c] (hg : g [] [.ref o] = [.ref o]) (hi : σ[i]? = some (some (.ref o))) (hO : RuleAt K C H o f ps) (tabs : Tabs T H) (k : ∀ H1 u, ExtN H H1 → Tabs T H1 → TV CR CW f ps H1 u → Q (.ref u) H1) :
    if c then tCall (spRtn K C cB CR CW T) [] E (tCons (tVar i) tNil) σ H Q else tCallN 0 1 (spRtn K C cB CR CW T) g E tNil (tCons (tVar i) tNil) σ H Q := by
  split
  · exact ask_told (ev_var hi) hO tabs k
  · exact ask_toldK hg (ev_var hi) hO tabs k
theorem evv_makeKU (hg : ∀ x v : V, g [x] [v] = [x, v]) (h : EvU te σ H xs) (hd : ∀ H1, Ex H H1 → DpAll K H1 xs ds) : EvV K C n (tMakeK C 0 1 (spVI C n) g E tNil (tCons te tNil)) σ H (.tuple ds) := fun H1 e Q q =>
  h H1 e _ fun a H2 _ e2 h2 => ⟨rfl, rfl, fun x dx hx hdx hn => by
    rw [hg]
    exact init_val hx hdx hn fun H3 e3 hv => q x (.ref a) "tuple" H3 (e2.trans e3) hv (.tup (e3 _ _ h2) (hd H3 (e.trans (e2.trans e3))))⟩
theorem evv_makeKv {v : V} {Ty : String} (hg : ∀ x v : V, g [x] [v] = [x, v]) (h : Ev te σ H v) (fv : FldV K H v d Ty) : EvV K C n (tMakeK C 0 1 (spVI C n) g E tNil (tCons te tNil)) σ H d := fun H1 e Q q =>
  h H1 e _ fun H2 e2 => ⟨rfl, rfl, fun x dx hx hdx hn => by
    rw [hg]
    exact init_val hx hdx hn fun H3 e3 hv => q x v Ty H3 (e2.trans e3) hv (fv.mono (e.trans (e2.trans e3)))⟩
theorem ev_boolV {X : Cx} {b : Bool} (h : EvV K C n te σ H d) : Ev (tCB (fun xs H Q => ∃ a, xs = [.ref a] ∧ InsC X H a C ∧ spVB b [.ref a] H (fun v H' => ∃ b, v = .bl b ∧ Q (.bl b) H') E) (tCons te tNil)) σ H (.bl b) := fun H1 e Q q =>
  h H1 e _ fun o v T H2 e2 ho _ => ⟨o, rfl, val_insC ho, o, rfl, fun H3 e3 => ⟨b, rfl, q H3 (e2.trans e3)⟩⟩
theorem ix_is {a : Addr} {j : Int} {v : V} (hi : σ[i]? = some (some (.ref a))) (ha : H a = some (.lst xs)) (hj : atI xs j = some v) : Ev (tOp (rIxL K) (tVar i) (tC (.int j))) σ H v := ev_op (ev_var hi) ev_c (rv_ixL (sq_of ha) hj)
end
section
variable {P : Program} {w : World} {K : PySem.W.Frag} {mg : Str → Option Value} {base : Heap}
abbrev sLaw : Stmt := top 56
abbrev nLaw : List Str := ["_law_script", "_law_pen_here", "_law_lap", "_law_plan_here", "_law_rule_here", "_law_found_here", "_law_told", "_law_odd", "_law_some", "_law_states", "_law_one", "_law_letter"]
abbrev qLaw : Str := ("law" : Str) ++ ".<locals>." ++ "<lambda>"
theorem scLaw : FnScope nLaw ["_law_script"] (defScope sLaw) := ⟨rfl, rfl, rfl, by decide +kernel, rfl, by decide +kernel, by decide +kernel⟩
def spLaw (K : PySem.W.Frag) (T : List (Addr × Str)) : Sp := fun vs H Q _ => ∃ (a : Addr) (ns : List Int), vs = [.ref a] ∧ SqL K H a (ns.map V.int) ∧ ns.length ≤ 63 ∧ Tabs T H ∧ ∀ H', Q (.bl true) H'
/-- verdicts, as the law asks them -/
structure VLaw (P : Program) (w : World) (K : PySem.W.Frag) (mg : Str → Option Value) (base : Heap) (CR CW CV gRE gWE gRB gWB : Addr) (fdR fdW : FuncData) : Prop where
  er : VEq P w K mg base CR "states" gRE
  ew : VEq P w K mg base CW "letter" gWE
  br : Has K CR gRB "__bool__"
  bw : Has K CW gWB "__bool__"
  fr : FnR P w K mg base CX0 1 gRB (spVB true)
  fw : FnR P w K mg base CX0 1 gWB (spVB false)
  kr : KBn K fdR ["self", "states"] 1 ["states"] (fun us ws => us ++ ws) (fun vs zs => vs ++ zs)
  kw : KBn K fdW ["self", "letter"] 1 ["letter"] (fun us ws => us ++ ws) (fun vs zs => vs ++ zs)
  gv : mg "Verdict" = some (.ref CV)
  rv : PySem.W.kitOne K (.ref CR) (.ref CV) = some true
  wv : PySem.W.kitOne K (.ref CW) (.ref CV) = some true
  sub : PySem.W.subIn K (.ref CR) (.ref CW) = some false
  nr : PySem.W.notFirst K CR (.ref CR) = true
  nw : PySem.W.notFirst K CW (.ref CW) = true
abbrev lawX (P : Program) (w : World) (K : PySem.W.Frag) (mg : Str → Option Value) (base : Heap) (f c : Addr) (A : Around) (outer : List Env) (s : Shared) (H : Hp) (E : XK) : Cx := (cxOf CX0 P w K mg base nLaw "law" (defScope sLaw) f (.ref c) A outer s H E).nox
theorem ok_Law {f fH fI B cB cM CR CW CV C c Pc fR fW gRE gWE gRB gWB fD : Addr} {mc : Value} {fd fdH fdR fdW fdD : FuncData} {T : List (Addr × Str)} (F : FunC K "law" "law" sLaw f fd c) (TB : TabB base mg c Pc) (hT : (Pc, qLaw) ∈ T) (hu : ∀ p ∈ T, p.1 = Pc → p.2 = qLaw)
    (N : FName K mg C mc) (TT : GlbT mg) (S : GlbS mg) (W : GlbW mg) (HK : HdK K mg B cB) (FH : Fun K "_law_heard" "_law_heard" sHd fH fdH) (bH : Binds K fdH ["_law_ask"] []) (gH : mg "_law_heard" = some (.ref fH)) (G : FCls K C) (M : Mk K C fI) (FI : FnR P w K mg base (L2.CX P w) 4 fI (spInitA K C cB cM)) (nk : NKit K C)
    (GR : GVal P w K mg base "Right" "states" CR fR fdR) (GW : GVal P w K mg base "Wrong" "letter" CW fW fdW) (VL : VLaw P w K mg base CR CW CV gRE gWE gRB gWB fdR fdW) (VK' : VKit K CR CW)
    (GPe : Gfn P w K mg base 1 "_law_pen" ["_law_script"] (spPen K)) (GPl : Gfn P w K mg base 4 "_law_plan" ["_law_pen_here"] spPlan) (GRu : Gfn P w K mg base 7 "_law_rule" ["_law_plan_here"] (spLru K C)) (GFn : Gfn P w K mg base 4 "_law_found" ["_law_plan_here"] spFnd)
    (GTr : Gfn P w K mg base 4 "_law_tried_right" ["_law_plan_here", "_law_found_here"] spTrd) (GPa : Gfn P w K mg base 8 "_law_papers_right" ["_law_pen_here", "_law_plan_here", "_law_rule_here", "_law_found_here"] (spPap K C T))
    (GD : FnOk P w K mg base CX0 1 fD fdD ["_law_pen_here", "_law_many"] spDraw) (kD : PySem.W.keepIn K (.ref fD) = true) (bD : Binds K fdD ["_law_pen_here", "_law_many"] []) (gD : mg "_law_draw" = some (.ref fD)) (GQ : Gfn P w K mg base 2 "_law_pick" ["_law_pen_here", "_law_some"] spPick)
    (GS : ∃ f fd, FnOk P w K mg base (L2.CX P w) 7 f fd ["rule", "value"] (spShr K C cB CR CW T) ∧ PySem.W.keepIn K (.ref f) = true ∧ Binds K fd ["rule", "value"] [] ∧ mg "shows_right" = some (.ref f) ∧ KBn K fd ["rule", "value"] 0 ["rule", "value"] (fun us ws => us ++ ws) (fun vs zs => vs ++ zs))
    (GRt : ∃ f fd, FnOk P w K mg base (L2.CX P w) 6 f fd ["rule"] (spRtn K C cB CR CW T) ∧ PySem.W.keepIn K (.ref f) = true ∧ Binds K fd ["rule"] [] ∧ mg "rightness" = some (.ref f) ∧ KBn K fd ["rule"] 0 ["rule"] (fun us ws => us ++ ws) (fun vs zs => vs ++ zs)) :
    FnG P w K mg base 11 f fd ["_law_script"] (spLaw K T) := by
  obtain ⟨f1, fd1, G1, k1, b1, g1⟩ := GPe
  obtain ⟨f2, fd2, G2, k2, b2, g2⟩ := GPl
  obtain ⟨f4, fd4, G4, k4, b4, g4⟩ := GRu
  obtain ⟨f5, fd5, G5, k5, b5, g5⟩ := GFn
  obtain ⟨f6, fd6, G6, k6, b6, g6⟩ := GTr
  obtain ⟨f7, fd7, G7, k7, b7, g7⟩ := GPa
  obtain ⟨fQ, fdQ, GQ, kQ, bQ, gQ⟩ := GQ
  obtain ⟨fS, fdS, GS, kS, bS, gS, nS⟩ := GS
  obtain ⟨fT, fdT, GT, kT, bT, gT, nT⟩ := GRt
  refine F.okG scLaw (fun vs H Q E h => ?_) (fun A outer s H vs Q E gd hr h => ?_)
  · obtain ⟨a, ns, rfl, _⟩ := h
    rfl
  · obtain ⟨a, ns, rfl, hS, h63, tabs, k⟩ := h
    have r1 := hr.mono (show 1 ≤ 10 by decide)
    have r2 := hr.mono (show 2 ≤ 10 by decide)
    have r4 := hr.mono (show 4 ≤ 10 by decide)
    have r5 := hr.mono (show 5 ≤ 10 by decide)
    have r6 := hr.mono (show 6 ≤ 10 by decide)
    have r7 := hr.mono (show 7 ≤ 10 by decide)
    have r8 := hr.mono (show 8 ≤ 10 by decide)
    have r3 := hr.mono (show 3 ≤ 10 by decide)
    refine ⟨_, (pss_cons (ps_set (i := 1) scLaw.nd rfl (.inl rfl) (pe_call G1 r1 (by rfl) g1 k1 b1 .nil pass0 (pa_cons (pv 0) pa_nil)))
      (pss_cons (ps_for PassesOwn.never rfl (pi_range1 (by rfl) S.range (pa_cons pe_int pa_nil)) (pg_name (i := 2) scLaw.nd rfl (.inl rfl))
        (pss_cons (ps_set (i := 3) scLaw.nd rfl (.inl rfl) (pe_call G2 r4 (by rfl) g2 k2 b2 .nil pass0 (pa_cons (pv 1) pa_nil)))
      (pss_cons (ps_par (i := 4) (j := 5) rfl scLaw.nd rfl rfl (by decide) rfl rfl (pa_cons (pe_call G4 r7 (by rfl) g4 k4 b4 .nil pass0 (pa_cons (pv 3) pa_nil)) (pa_cons (pe_call G5 r4 (by rfl) g5 k5 b5 .nil pass0 (pa_cons (pv 3) pa_nil)) pa_nil)) (by rfl))
      (pss_cons (ps_set (i := 6) scLaw.nd rfl (.inr rfl) (pe_ifExp (pt_cmpR op_eq (pe_call GD r1 (by rfl) gD kD bD .nil pass0 (pa_cons (pv 1) (pa_cons pe_int pa_nil))) pe_int (nomark _)) (pe_call (E := E0) GT r6 (by rfl) gT kT bT .nil (passN rfl rfl) (pa_cons (pv 4) pa_nil)) (pe_callKx (E := E0) GT r6 (by rfl) gT kT (passN rfl rfl) nT (pk_cons (pv 4) pk_nil))))
      (pss_cons (ps_if (pt_not (pt_val (pe_callB call_isi (by rfl) TT.inst (by decide +kernel) (pa_cons (pv 6) (pa_cons (pe_glob (v := .ref CV) (by rfl) VL.gv (by rfl)) pa_nil))))) (pss_one (ps_ret pe_bl)) pss_nil)
      (pss_cons (ps_if (PW.pt (pw_or (PW.pt (pw_and (pt_val (pe_callB call_isi (by rfl) TT.inst (by decide +kernel) (pa_cons (pv 5) (pa_cons (pe_bltn (v := .ty "tuple") (by rfl) W.tuple (by decide +kernel) rfl) pa_nil)))) (pw_and1 (PW.pt (pw_or (pt_cmpR (op_neO (E := E0) VL.er.has VL.er.ne VL.er.mro VL.er.F r2 pass0) (pv 6) (pe_make (E := E0) GR.m GR.ok r2 (by rfl) GR.g GR.b .nil pass0 (pa_cons (pv 5) pa_nil)) (nomark _)) (pw_or1 (pt_not (pt_truthR (pv 6) (tru_bool (E := E0) VL.br VL.fr r1 pass0) (fun _ => rfl)))))))))
              (pw_or1 (PW.pt (pw_and (pt_val (pe_callB call_isi (by rfl) TT.inst (by decide +kernel) (pa_cons (pv 5) (pa_cons (pe_bltn (v := .ty "list") (by rfl) W.list (by decide +kernel) rfl) pa_nil)))) (pw_and1 (PW.pt (pw_or (pt_cmpR (op_neO (E := E0) VL.ew.has VL.ew.ne VL.ew.mro VL.ew.F r2 pass0) (pv 6) (pe_make (E := E0) GW.m GW.ok r2 (by rfl) GW.g GW.b .nil pass0 (pa_cons (pe_ix ix_list (pv 5) pe_int (fun _ _ => rfl)) pa_nil)) (nomark _)) (pw_or1 (pt_truthR (pv 6) (tru_bool (E := E0) VL.bw VL.fw r1 pass0) (fun _ => rfl))))))))))) (pss_one (ps_ret pe_bl)) pss_nil)
      (pss_cons (ps_if (PW.pt (pw_or (pt_not (pt_val (pe_call G6 r4 (by rfl) g6 k6 b6 .nil pass0 (pa_cons (pv 3) (pa_cons (pv 5) pa_nil))))) (pw_or1 (pt_not (pt_val (pe_call G7 r8 (by rfl) g7 k7 b7 .nil pass0 (pa_cons (pv 1) (pa_cons (pv 3) (pa_cons (pv 4) (pa_cons (pv 5) pa_nil)))))))))) (pss_one (ps_ret pe_bl)) pss_nil)
      (pss_cons (ps_set (i := 7) scLaw.nd rfl (.inr rfl) (pe_call GQ r2 (by rfl) gQ kQ bQ .nil pass0 (pa_cons (pv 1) (pa_cons (pe_lst (pa_cons pe_non (pa_cons pe_int (pa_cons pe_str (pa_cons (pe_tup (pa_cons pe_str (pa_cons (pe_tup (pa_cons pe_str (pa_cons pe_str pa_nil))) pa_nil))) (pa_cons (pe_lst (pa_cons (pv 4) pa_nil)) (pa_cons pe_dnewK pa_nil))))))) pa_nil))))
      (pss_cons (ps_if (pt_cmpR op_ne (pe_heard (X := lawX P w K mg base f c A outer s H E) (T := T) (t := fun E2 => tCall (spRtn K C cB CR CW T) [] E2 (tCons (tVar 7) tNil)) (by rfl) gH FH bH HK TB rfl hT hu hr (lamS_by (sc := defScope sLaw) (by decide +kernel)) rfl (fun _ _ _ _ _ => rfl)
              (fun A2 outer2 s2 H2 E2 f2 c2 hr2 => pe_call (E := E2) GT (hr2.mono (show 6 ≤ 8 by decide)) (by rfl) gT kT bT .nil (passes_call (takes_of rfl rfl rfl rfl) fun _ _ _ _ z => z) (pa_cons (pv 7) pa_nil))) pe_str (nomark _)) (pss_one (ps_ret pe_bl)) pss_nil)
      (pss_one (ps_if (pt_cmpR op_ne (pe_heard (X := lawX P w K mg base f c A outer s H E) (T := T) (t := fun E2 => tCall (spShr K C cB CR CW T) [] E2 (tCons (tVar 7) (tCons (tVar 6) tNil))) (by rfl) gH FH bH HK TB rfl hT hu hr (lamS_by (sc := defScope sLaw) (by decide +kernel)) rfl (fun _ _ _ _ _ => rfl)
              (fun A2 outer2 s2 H2 E2 f2 c2 hr2 => pe_call (E := E2) GS (hr2.mono (show 7 ≤ 8 by decide)) (by rfl) gS kS bS .nil (passes_call (takes_of rfl rfl rfl rfl) fun _ _ _ _ z => z) (pa_cons (pv 7) (pa_cons (pv 6) pa_nil)))) pe_str (nomark _)) (pss_one (ps_ret pe_bl)) pss_nil)))))))))))
      (pss_cons (ps_set (i := 8) scLaw.nd rfl (.inl rfl) (pe_lst (pa_cons (pe_makeR (E := E0) M FI r5 (by rfl) N.g (passN rfl rfl) (pa_cons pe_str (pa_cons (pe_tup (pa_cons pe_str (pa_cons pe_str pa_nil))) pa_nil))) (pa_cons (pe_makeR (E := E0) M FI r5 (by rfl) N.g (passN rfl rfl) (pa_cons pe_str (pa_cons (pe_tup (pa_cons pe_str (pa_cons pe_str pa_nil))) pa_nil))) (pa_cons (pe_makeR (E := E0) M FI r5 (by rfl) N.g (passN rfl rfl) (pa_cons pe_str pa_nil)) (pa_cons (pe_makeR (E := E0) M FI r5 (by rfl) N.g (passN rfl rfl) (pa_cons pe_str (pa_cons (pe_tup (pa_cons pe_str (pa_cons pe_str pa_nil))) pa_nil))) pa_nil))))))
      (pss_cons (ps_if (pt_cmpR (op_neD hr.units) (pe_lc (te := tOp (rEqO (lawX P w K mg base f c A outer s H E) CW (spVE K CW "letter") E0) (tCall (spRtn K C cB CR CW T) [] E0 (tCons (tVar 10) tNil)) (tMake CW (spVI CW "letter") [] E0 (tCons (tVar 11) tNil))) (tt := fun σ H Q => Q true H) (own := [("_law_one", 10), ("_law_letter", 11)]) (g := gTup K 2 (gCons (gName 10) (gCons (gName 11) gNil))) rfl scLaw.nd
            (pi_list (pe_lst (pa_cons (pe_tup (pa_cons (pe_ix ix_list (pv 8) pe_int (fun _ _ => rfl)) (pa_cons pe_str pa_nil))) (pa_cons (pe_tup (pa_cons (pe_ix ix_list (pv 8) pe_int (fun _ _ => rfl)) (pa_cons pe_str pa_nil))) (pa_cons (pe_tup (pa_cons (pe_ix ix_list (pv 8) pe_int (fun _ _ => rfl)) (pa_cons pe_str pa_nil))) pa_nil))))) (blkOk_by (own := [("_law_one", 10), ("_law_letter", 11)]) (N := nLaw) (sc := defScope sLaw) (by decide +kernel))
            (fun _ _ _ _ _ => pg_tup rfl (pgs_cons (pg_name (i := 10) scLaw.nd rfl (Or.inl rfl)) (pgs_cons (pg_name (i := 11) scLaw.nd rfl (Or.inl rfl)) pgs_nil))) (fun _ _ _ _ _ => pts_nil)
            (fun _ _ _ _ _ => pe_cmpR (show OpR _ _ (rEqO (lawX P w K mg base f c A outer s H E) CW (spVE K CW "letter") E0) from op_eqO (fun _ _ => rfl) VL.ew.has VL.ew.F r1 pass0) (pe_call (E := E0) GT r6 (by rfl) gT kT bT .nil (passN rfl rfl) (pa_cons (pv 10) pa_nil)) (pe_make (E := E0) GW.m GW.ok r2 (by rfl) GW.g GW.b .nil pass0 (pa_cons (pv 11) pa_nil)) (nomark _))) (pe_lst (pa_cons pe_bl (pa_cons pe_bl (pa_cons pe_bl pa_nil)))) (nomark _)) (pss_one (ps_ret pe_bl)) pss_nil)
      (pss_cons (ps_if (PW.pt (pw_or (pt_cmpR op_notBl (pe_call (E := E0) GS r7 (by rfl) gS kS bS .nil (passN rfl rfl) (pa_cons (pe_ix ix_list (pv 8) pe_int (fun _ _ => rfl)) (pa_cons (pe_make (E := E0) GR.m GR.ok r2 (by rfl) GR.g GR.b .nil pass0 (pa_cons (pe_tup (pa_cons pe_str (pa_cons pe_str pa_nil))) pa_nil)) pa_nil))) pe_bl (nomark _))
          (pw_or1 (pt_cmpR op_notBl (pe_call (E := E0) GS r7 (by rfl) gS kS bS .nil (passN rfl rfl) (pa_cons (pe_ix ix_list (pv 8) pe_int (fun _ _ => rfl)) (pa_cons (pe_make (E := E0) GR.m GR.ok r2 (by rfl) GR.g GR.b .nil pass0 (pa_cons (pe_tup (pa_cons pe_str (pa_cons pe_str pa_nil))) pa_nil)) pa_nil))) pe_bl (nomark _))))) (pss_one (ps_ret pe_bl)) pss_nil)
      (pss_cons (ps_set (i := 9) scLaw.nd rfl (.inl rfl) (pe_tup (pa_cons pe_str (pa_cons pe_str (pa_cons pe_str (pa_cons pe_str (pa_cons pe_str (pa_cons pe_str pa_nil))))))))
      (pss_cons (ps_if (PW.pt (pw_or (pt_cmpR op_notBl (pe_call (E := E0) GS r7 (by rfl) gS kS bS .nil (passN rfl rfl) (pa_cons (pe_ix ix_list (pv 8) pe_int (fun _ _ => rfl)) (pa_cons (pe_make (E := E0) GR.m GR.ok r2 (by rfl) GR.g GR.b .nil pass0 (pa_cons (pe_tup (pa_cons pe_str (pa_cons pe_str (pa_cons pe_str (pa_cons pe_str (pa_cons pe_str (pa_cons pe_str pa_nil))))))) pa_nil)) pa_nil))) pe_bl (nomark _))
          (pw_or1 (pt_cmpR op_notBl (pe_call (E := E0) GS r7 (by rfl) gS kS bS .nil (passN rfl rfl) (pa_cons (pe_ix ix_list (pv 8) pe_int (fun _ _ => rfl)) (pa_cons (pe_make (E := E0) GR.m GR.ok r2 (by rfl) GR.g GR.b .nil pass0 (pa_cons (pv 9) pa_nil)) pa_nil))) pe_bl (nomark _))))) (pss_one (ps_ret pe_bl)) pss_nil)
      (pss_one (ps_ret (pe_and (pe_cmpR (op_eqO (E := E0) (fun _ _ => rfl) VL.er.has VL.er.F r1 pass0) (pe_call (E := E0) GT r6 (by rfl) gT kT bT .nil (passN rfl rfl) (pa_cons (pe_ix ix_list (pv 8) pe_int (fun _ _ => rfl)) pa_nil)) (pe_make (E := E0) GR.m GR.ok r2 (by rfl) GR.g GR.b .nil pass0 (pa_cons (pv 9) pa_nil)) (nomark _))
        (pe_and (pe_cmpR (op_eqO (E := E0) (fun _ _ => rfl) VL.er.has VL.er.F r1 pass0) (pe_makeK0 (E := E0) GR.m GR.ok r2 (by rfl) GR.g VL.kr pass0 (pk_cons (pe_tup pa_nil) pk_nil)) (pe_make (E := E0) GR.m GR.ok r2 (by rfl) GR.g GR.b .nil pass0 (pa_cons (pe_tup pa_nil) pa_nil)) (nomark _))
          (pe_and (pe_cmpR (OwB.op_neD (E := E0) VL.ew.has VL.sub VL.ew.ne VL.ew.mro VL.ew.F r2 pass0) (pe_makeK0 (E := E0) GW.m GW.ok r2 (by rfl) GW.g VL.kw pass0 (pk_cons pe_non pk_nil)) (pe_make (E := E0) GR.m GR.ok r2 (by rfl) GR.g GR.b .nil pass0 (pa_cons pe_non pa_nil)) (nomark _))
            (pe_one (pe_callTy (call_boolO (E := E0) VL.br VL.fr r3 pass0) (by rfl) TT.bool (by decide +kernel) (pa_cons (pe_make (E := E0) GR.m GR.ok r2 (by rfl) GR.g GR.b .nil pass0 (pa_cons pe_non pa_nil)) pa_nil))))))))))))))), ?_⟩
    refine ⟨_, rfl, a, ns, rfl, hS, h63, fun p l H1 hp0 _ e1 hP => ?_⟩
    have T1 := tabs.ext e1
    refine q_forR1 (ea_cons ev_c ea_nil) (by decide) (fun i σ' H' => (∃ x2 x3 x4 x5 x6 x7 : Option V, σ' = [some (.ref a), some (.ref p), x2, x3, x4, x5, x6, x7, none, none, none, none]) ∧ PenAt H' p l ns (120 * i) ∧ Tabs T H') (fun H2 e2 => ⟨⟨none, none, none, none, none, none, rfl⟩, hP.mono e2 (Nat.le_refl _), T1.ext e2⟩) ?_ ?_
    · rintro i σ' H2 hi ⟨⟨x2, x3, x4, x5, x6, x7, rfl⟩, hP2, T2⟩
      refine q_asgR ⟨_, rfl, p, l, ns, 120 * i, rfl, hP2, by omega, h63, fun v fl ps H3 pl hv hP3 k3 => ?_⟩
      have T3 := tabs_keep T2 hP2 k3
      have g := pl.good
      refine q_par (cons_i ⟨_, rfl, v, fl, ps, rfl, hv, g, fun o H4 e4 r4' => cons_i ⟨_, rfl, v, fl, ps, rfl, hv.mono e4, g, fun q H5 hq e5 hF => nil_i ⟨_, _, rfl, ?_⟩⟩⟩)
      show tSeq _ _ _ [some (.ref a), some (.ref p), some (.int (i : Int)), some v, some (.ref o), some (.ref q), x6, x7, none, none, none, none] H5
      have E5 := e4.trans e5
      have hP5 := hP3.mono E5 (Nat.le_refl _)
      have T5 := T3.ext E5
      have hO5 := r4'.mono e5
      have hv5 := hv.mono E5
      refine q_asgR (if_i (op_i ((w_draw (i := 1) (many := 2) rfl (fun _ _ => ev_c) (by decide) (by decide) h63) (120 * i + 100) H5 (Keep.of_ex (Ex.refl H5)) hP5 (by omega) _ fun y H6 hy hP6 k6 => ?_)))
      obtain ⟨n, rfl, hn⟩ := hy
      have T6 := tabs_keep T5 hP5 k6
      refine c_i ⟨rfl, _, rfl, told_two (K := K) (C := C) (T := T) (CR := CR) (CW := CW) (f := fl) (ps := ps) rfl rfl (hO5.still hP5 (still_keep k6)) T6 fun H7 u e7 T7 tv => ?_⟩
      have s7 : Still p H5 H7 := (still_keep k6).trans (still_ext e7)
      have hP7 := pen_ext hP6 e7
      have hv7 := hv5.still hP5 s7
      have hO7 := hO5.still hP5 s7
      have hF7 := hF.still hP5 s7
      show tSeq _ _ _ [some (.ref a), some (.ref p), some (.int (i : Int)), some v, some (.ref o), some (.ref q), some (.ref u), x7, none, none, none, none] H7
      refine q_skip ?_ fun H8 e8 => ?_
      · rcases tv with ⟨_, _, _, _, _, hv⟩ | ⟨_, _, _, hv⟩
        · exact et_is (et_not (et_B (ev_isK (ev_var rfl) (val_ty GR.v VK'.r hv) VL.rv))) rfl
        · exact et_is (et_not (et_B (ev_isK (ev_var rfl) (val_ty GW.v VK'.w hv) VL.wv))) rfl
      have tv8 := tv.extN (ExtN.of e8)
      have hF8 := hF7.mono e8
      refine q_skip ?_ fun H9 e9 => ?_
      · rcases tv8 with ⟨nw, pt, ys, so, hpt, hv⟩ | ⟨l1, lw, _, hv⟩
        · rcases hF8 with ⟨_, ys', so', hq'⟩ | ⟨l2, lw2, _, _⟩
          · obtain rfl := sts_one so' so
            have lowY := sts_low g so
            refine et_is (et_or (et_and (et_B (ev_cb (ea_cons (ev_var rfl) (ea_cons ev_c ea_nil)) (rc_isi (.base (.tup hq')) kit_t2))) fun _ => et_or (et_test (ev_neV (C := CR) (n := "states") (E := E0) (d := tupD ys') (d' := tupD ys') (evv_var rfl hv (.tup hpt (dp_strs ys'))) (evv_make (ev_var rfl) (.tup hq' (dp_strs ys'))) (low_shaped lowY (by decide)) (low_shaped lowY (by decide)))) fun _ => et_not (et_val (b := true) (evv_var rfl hv (.tup hpt (dp_strs ys'))))) fun _ => et_and (b := false) (et_B (ev_cb (ea_cons (ev_var rfl) (ea_cons ev_c ea_nil)) (rc_isi (.base (.tup hq')) kit_tl))) fun z => absurd z (by decide)) ?_
            rw [low_self lowY]
            rfl
          · exact absurd nw fun z => lw2.not_none z
        · rcases hF8 with ⟨nw, _⟩ | ⟨l2, lw2, _, hq'⟩
          · exact absurd nw fun z => lw.not_none z
          · obtain rfl := lw.uniq lw2
            have lowL : Low 0 (.str (mk l1)) := low_str (sg_ok (sg_mk lw.1))
            refine et_is (et_or (et_and (b := false) (et_B (ev_cb (ea_cons (ev_var rfl) (ea_cons ev_c ea_nil)) (rc_isi (.base (.lst hq')) kit_lt))) fun z => absurd z (by decide)) fun _ => et_and (et_B (ev_cb (ea_cons (ev_var rfl) (ea_cons ev_c ea_nil)) (rc_isi (.base (.lst hq')) kit_ll))) fun _ => et_or (et_test (ev_neV (C := CW) (n := "letter") (E := E0) (d := .str (mk l1)) (d' := .str (mk l1)) (evv_var rfl hv (.str _)) (evv_make (ix_is rfl hq' rfl) (.str _)) (low_shaped lowL (by decide)) (low_shaped lowL (by decide)))) fun _ => et_val (b := false) (evv_var rfl hv (.str _))) ?_
            rw [low_self lowL]
            rfl
      have e79 := e8.trans e9
      have hP9 := hP7.mono e79 (Nat.le_refl _)
      refine q_ifR ⟨_, rfl, _, rfl, v, q, fl, ps, rfl, hv7.mono e79, g, hF7.mono e79, fun Ha ea => ⟨true, rfl, iteFf ?_⟩⟩
      have e7a := e79.trans ea
      have hPa := hP9.mono ea (Nat.le_refl _)
      refine ⟨_, rfl, _, rfl, _, rfl, _, rfl, v, o, q, fl, ps, p, l, ns, 120 * i + 101, rfl, hv7.mono e7a, hO7.mono e7a, hF7.mono e7a, hPa, by omega, h63, T7.ext e7a, fun Hb Ab => ⟨true, rfl, iteFf ?_⟩⟩
      refine q_asgR (r_pickR oddr_up rfl Ab.pen (by omega) h63 (all_oddr Ab.pen rfl) (by decide) (by decide) fun x Hc Hd ec ox hPc hPd kd => ?_)
      have oxd := oddr_still (still_keep kd) ox
      have Td := tabs_keep (Ab.tabs.ext ec) hPc kd
      refine q_ifR (lam_rule hPd Td (fun E4 H4 Q4 x4 out => ⟨_, rfl, x, rfl, .inl ⟨oddr_no nk (oddr_ext x4 oxd), out⟩⟩) fun He Ae => iteFf ?_)
      refine s_ifE (lam_rule Ae.pen Ae.tabs (fun E4 H4 Q4 x4 out => ⟨_, rfl, _, rfl, x, .ref u, rfl, .inl ⟨oddr_no nk (oddr_ext x4 (oddr_still Ae.st oxd)), out⟩⟩) fun Hf Af => iteFf ?_)
      exact ⟨⟨_, _, _, _, _, _, rfl⟩, Af.pen.le (by omega), Af.tabs⟩
    · rintro σ' H2 ⟨⟨x2, x3, x4, x5, x6, x7, rfl⟩, hP2, T2⟩
      refine q_asgR (lst_i (cons_i ((eru_make (C := C) (cR := cB) (cM := cM) (E := E0) (show EvPp _ [some (.ref a), some (.ref p), x2, x3, x4, x5, x6, x7, none, none, none, none] H2 [("11", "0")] from epp_cons (ep_tup ev_c ev_c) epp_nil) g_A (List.Perm.refl _)) H2 (Ex.refl H2) _ fun oA H3 e3 rA =>
        cons_i ((eru_make (C := C) (cR := cB) (cM := cM) (E := E0) (show EvPp _ [some (.ref a), some (.ref p), x2, x3, x4, x5, x6, x7, none, none, none, none] H3 [("0", "0")] from epp_cons (ep_tup ev_c ev_c) epp_nil) g_B (List.Perm.refl _)) H3 (Ex.refl H3) _ fun oB H4 e4 rB =>
          cons_i ((eru_make (C := C) (cR := cB) (cM := cM) (E := E0) (show EvPp _ [some (.ref a), some (.ref p), x2, x3, x4, x5, x6, x7, none, none, none, none] H4 [] from epp_nil) g_C (List.Perm.refl _)) H4 (Ex.refl H4) _ fun oC H5 e5 rC =>
            cons_i ((eru_make (C := C) (cR := cB) (cM := cM) (E := E0) (show EvPp _ [some (.ref a), some (.ref p), x2, x3, x4, x5, x6, x7, none, none, none, none] H5 [("011111", "0")] from epp_cons (ep_tup ev_c ev_c) epp_nil) g_D (List.Perm.refl _)) H5 (Ex.refl H5) _ fun oD' H6 e6 rD =>
              nil_i ⟨by show 4 ≤ sizeLine; decide, fun ls hl => ?_⟩))))))
      have e7 : Ex H6 (upd H6 ls (.lst [.ref oA, .ref oB, .ref oC, .ref oD'])) := Ex.new hl
      have hs7 : (upd H6 ls (.lst [.ref oA, .ref oB, .ref oC, .ref oD'])) ls = some (.lst [.ref oA, .ref oB, .ref oC, .ref oD']) := upd_same
      have rA7 := rA.mono (e4.trans (e5.trans (e6.trans e7)))
      have rB7 := rB.mono (e5.trans (e6.trans e7))
      have rC7 := rC.mono (e6.trans e7)
      have rD7 := rD.mono e7
      have T7 := T2.ext (e3.trans (e4.trans (e5.trans (e6.trans e7))))
      show tSeq _ _ _ [some (.ref a), some (.ref p), x2, x3, x4, x5, x6, x7, some (.ref ls), none, none, none] (upd H6 ls (.lst [.ref oA, .ref oB, .ref oC, .ref oD']))
      generalize upd H6 ls (.lst [.ref oA, .ref oB, .ref oC, .ref oD']) = H7 at hs7 rA7 rB7 rC7 rD7 T7 ⊢
      have up : UpR (WrAt K C) := fun _ _ _ e h => wrat_ext (ExtN.of e) h
      refine q_ifR (op_i (lc_true (K := K) (T := T) (n := 3) (WrAt K C) (fun Q2 q2 => lst_all up (all_cons up (one_wr (ix_is rfl hs7 rfl) rA7 lw_A) (all_cons up (one_wr (ix_is rfl hs7 rfl) rB7 lw_B) (all_cons up (one_wr (ix_is rfl hs7 rfl) rC7 lw_C) all_nil))) (by decide) fun a xs H1 e1 h1 len all => q2 a xs H1 e1 h1 len all) T7 (fun _ _ _ e h => wrat_ext e h) (by decide) (fun x H1 e1 T1 wr Q2 q2 => ?_) fun Dl H8 e8 T8 h8 => ?_))
      · obtain ⟨t, o, f1, z, ps, rfl, ht, hO, lw⟩ := wr
        refine ⟨t, _, rfl, st_of ht, rfl, _, _, rfl, _, _, rfl, rfl, rfl, op_i (ask_told (ev_var rfl) hO T1 fun H3 u e3 T3 tv => ?_)⟩
        rcases tv with ⟨nw, _⟩ | ⟨l2, lw2, _, hv⟩
        · exact absurd nw fun z => lw.not_none z
        obtain rfl := lw2.uniq lw
        have mz : mk (TL.tl z) = z := (mk_eq rfl).symm
        rw [mz] at hv
        have lowZ : Low 0 (.str z) := low_str (sg_ok (sgs_iff.mpr lw.1))
        refine s_makeV (ea_cons (ev_var rfl) ea_nil) fun H4 x4 e4 hx4 => ?_
        refine ⟨u, x4, CW, rfl, rfl, val_insC (hv.mono e4), val_insC hx4, VL.nw, u, .ref x4, rfl, .inl ⟨x4, _, _, .str z, .str z, rfl, hv.mono e4, hx4, .str _, .str _, low_shaped lowZ (by decide), low_shaped lowZ (by decide), fun H5 e5 => ?_⟩⟩
        rw [low_self lowZ]
        exact q2 H5 (e3.trans (ExtN.of (e4.trans e5))) (T3.ext (e4.trans e5))
      have tru3 : PyData.eqv (.list [.bool true, .bool true, .bool true]) (.list [.bool true, .bool true, .bool true]) = true := by decide +kernel
      have d3 : ∀ H9 : Hp, DpAll K H9 [.bl true, .bl true, .bl true] [.bool true, .bool true, .bool true] := fun _ => .cons (.bl _) (.cons (.bl _) (.cons (.bl _) .nil))
      refine (el_lst (σ := [some (.ref a), some (.ref p), x2, x3, x4, x5, x6, x7, some (.ref ls), none, none, none]) (vs := [.bl true, .bl true, .bl true]) (ea_cons ev_c (ea_cons ev_c (ea_cons ev_c ea_nil))) (by show 3 ≤ 100000; decide)) H8 (Ex.refl H8) _ fun r H9 _ e9 h9 => ⟨.list [.bool true, .bool true, .bool true], .list [.bool true, .bool true, .bool true], .lst (sq_of (e9 _ _ h8)) (d3 _), .lst (sq_of h9) (d3 _), by decide +kernel, by decide +kernel, _, rfl, ?_⟩
      rw [tru3]
      refine iteFf ?_
      have E9 := e8.trans (ExtN.of e9)
      have T9 := T8.ext e9
      have hs9 := E9 _ _ hs7 (fun _ z => by cases z)
      have rA9 := rA7.extN E9
      have rC9 := rC7.extN E9
      have rD9 := rD7.extN E9
      have two : ∀ z ∈ (["", "1"] : List Str), PyData.strOk z = true := by decide +kernel
      have two' : ∀ z ∈ (["", "0"] : List Str), PyData.strOk z = true := by decide +kernel
      refine q_ifR (op_i (ask_shows (zs := ["", "1"]) (b := false) (ix_is rfl hs9 rfl) rA9 g_A T9 (fun H1 e1 => ex_u (eu_tup (ea_cons ev_c (ea_cons ev_c ea_nil)) (by show 2 ≤ 100000; decide))) two (fun ys nw _ => absurd nw not_A) (fun _ => rfl) fun Ha ea Ta => c_i ⟨false, false, rfl, rfl, _, rfl, iteFf ?_⟩))
      have hsa := ea _ _ hs9 (fun _ z => by cases z)
      refine op_i (ask_shows (zs := ["", "0"]) (b := false) (ix_is rfl hsa rfl) (rC9.extN ea) g_C Ta (fun H1 e1 => ex_u (eu_tup (ea_cons ev_c (ea_cons ev_c ea_nil)) (by show 2 ≤ 100000; decide))) two' (fun ys nw _ => absurd nw not_C) (fun _ => rfl) fun Hb eb Tb => c_i ⟨false, false, rfl, rfl, _, rfl, iteFf ?_⟩)
      have hsb := eb _ _ hsa (fun _ z => by cases z)
      have rDb := rD9.extN (ea.trans eb)
      refine q_asgU (xs := yD.map V.str) (eu_tup (ea_cons ev_c (ea_cons ev_c (ea_cons ev_c (ea_cons ev_c (ea_cons ev_c (ea_cons ev_c ea_nil)))))) (by show 6 ≤ 100000; decide)) fun st Hc _ ec hc => ?_
      have hsc := ec _ _ hsb
      have rDc := rDb.mono ec
      have Tc := Tb.ext ec
      show tSeq _ _ _ [some (.ref a), some (.ref p), x2, x3, x4, x5, x6, x7, some (.ref ls), some (.ref st), none, none] Hc
      have lowY := sts_low g_D so_D
      refine q_ifR (op_i (ask_shows (zs := zD) (b := false) (ix_is rfl hsc rfl) rDc g_D Tc (fun H1 e1 => ex_u (eu_tup (ea_cons ev_c (ea_cons ev_c (ea_cons ev_c (ea_cons ev_c (ea_cons ev_c (ea_cons ev_c ea_nil)))))) (by show 6 ≤ 100000; decide))) ok_Z (fun ys nw so => by rw [sts_one so so_D, ne_D]) (fun z => absurd k_D.2.2 z) fun Hd ed Td => c_i ⟨false, false, rfl, rfl, _, rfl, iteFf ?_⟩))
      have hsd := ed _ _ hsc (fun _ z => by cases z)
      have hcd := ed _ _ hc (fun _ z => by cases z)
      refine op_i (ask_shows (zs := yD) (b := true) (ix_is rfl hsd rfl) (rDc.extN ed) g_D Td (fun H1 e1 => ex_var rfl (e1 _ _ hcd)) ok_D (fun ys nw so => by rw [sts_one so so_D, low_self lowY]) (fun z => absurd k_D.2.2 z) fun He ee Te => c_i ⟨true, true, rfl, rfl, _, rfl, iteFf ?_⟩)
      have hse := ee _ _ hsd (fun _ z => by cases z)
      have hce := ee _ _ hcd (fun _ z => by cases z)
      refine s_retR (op_i (ask_told (ix_is rfl hse rfl) (rDc.extN (ed.trans ee)) Te fun Hf u ef Tf tv => ?_))
      rcases tv with ⟨_, pt, ys, so, hpt, hv⟩ | ⟨l2, lw2, _, _⟩
      rotate_left
      · exact absurd k_D.2.2 fun z => lw2.not_none z
      obtain rfl := sts_one so so_D
      have hcf := ef _ _ hce (fun _ z => by cases z)
      refine s_makeV (ea_cons (ev_var rfl) ea_nil) fun Hg x4 eg hx4 => ?_
      refine ⟨u, x4, CR, rfl, rfl, val_insC (hv.mono eg), val_insC hx4, VL.nr, u, .ref x4, rfl, .inl ⟨x4, _, _, tupD yD, tupD yD, rfl, hv.mono eg, hx4, .tup (st_of (eg _ _ hpt)) (dp_strs yD), .tup (st_of (eg _ _ hcf)) (dp_strs yD), low_shaped lowY (by decide), low_shaped lowY (by decide), fun Hh eh => ?_⟩⟩
      rw [low_self lowY]
      refine ⟨true, rfl, iteTt ?_⟩
      have sh0 : SeqAt.shaped (.tuple []) = true := by decide +kernel
      have eq0 : PyData.eqv (.tuple []) (.tuple []) = true := by decide +kernel
      refine (ev_andV (a := PyData.eqv (.tuple []) (.tuple [])) (ev_eqV (C := CR) (n := "states") (E := E0) VL.nr (evv_makeKU (fun _ _ => rfl) (eu_tup ea_nil (by show 0 ≤ 100000; decide)) fun _ _ => .nil) (evv_makeU (eu_tup ea_nil (by show 0 ≤ 100000; decide)) fun _ _ => .nil) sh0 sh0) fun _ => ev_andV (ev_neW (C := CW) (D := CR) (n := "letter") (m := "states") (d := .none) (d' := .none) (E := E0) GR.v VK'.r VK'.rw_ (evv_makeKv (fun _ _ => rfl) ev_c .non) (evv_make ev_c .non)) fun _ => ev_boolV (b := true) (evv_make (X := lawX P w K mg base f c A outer s H E) ev_c .non)) Hh (Ex.refl Hh) _ fun Hi ei => ?_
      rw [eq0]
      exact k Hi
end
end K10
namespace K10
open PySem L2 Evl Gr ClX OwX OpX OwB StX LamX LamY EXC ClK RdX StS EqT EnT SrtT StM Fr
/-- a def of the text named x, its full name y, where it stands -/
structure FQ (K : PySem.W.Frag) (x y : Str) (st : Stmt) (f : Addr) : Prop where
  l : ∃ (oc : Value) (od : Option Addr) (kV doc pm : Value) (an : Option Addr) (cdv ct : Value) (osl : Array (Option Value)),
    K.lookup f = some ⟨oc, od, .func (PySem.W.fnOf x y (defArgs st) (defBody st) (defScope st) .none kV doc pm an cdv ct), osl⟩ ∧ PySem.W.codeIn K cdv y = true
  k : PySem.W.keepIn K (.ref f) = true
theorem FQ.fn {K : PySem.W.Frag} {x y : Str} {st : Stmt} {f : Addr} (h : FQ K x y st f) : ∃ fd, Fun K x y st f fd := by
  obtain ⟨oc, od, kV, doc, pm, an, cdv, ct, osl, h1, h2⟩ := h.l
  exact ⟨_, fun_mk h1 h2 h.k⟩
/-- .. with its code object at c, the table of which is at P -/
structure FC (K : PySem.W.Frag) (x : Str) (st : Stmt) (f c P : Addr) : Prop where
  l : ∃ (oc : Value) (od : Option Addr) (kV doc pm : Value) (an : Option Addr) (ct : Value) (osl : Array (Option Value)),
    K.lookup f = some ⟨oc, od, .func (PySem.W.fnOf x x (defArgs st) (defBody st) (defScope st) .none kV doc pm an (.ref c) ct), osl⟩ ∧ PySem.W.codeIn K (.ref c) x = true
  k : PySem.W.keepIn K (.ref f) = true
  t : ∃ (e : Value) (dd : Option Addr) (vs : Array Value) (sl : Array (Option Value)), K.lookup c = some ⟨e, dd, .fields vs, sl⟩ ∧ vs[11]? = some (.ref P)
theorem FC.fn {K : PySem.W.Frag} {x : Str} {st : Stmt} {f c P : Addr} (h : FC K x st f c P) : ∃ (kV doc pm : Value) (an : Option Addr) (ct : Value), FunC K x x st f (PySem.W.fnOf x x (defArgs st) (defBody st) (defScope st) .none kV doc pm an (.ref c) ct) c := by
  obtain ⟨oc, od, kV, doc, pm, an, ct, osl, h1, h2⟩ := h.l
  exact ⟨kV, doc, pm, an, ct, ⟨oc, od, kV, doc, pm, an, ct, osl, rfl, h1, h2⟩, h.k⟩
theorem FC.tab {K : PySem.W.Frag} {x : Str} {st : Stmt} {f c P : Addr} (h : FC K x st f c P) (a : PySem.W.nsIn K mainGlobals x = some (some (.ref f))) : PySem.W.tabIn K x = some (c, P) := by
  obtain ⟨oc, od, kV, doc, pm, an, ct, osl, h1, h2⟩ := h.l
  obtain ⟨e, dd, vs, sl, h3, h4⟩ := h.t
  unfold PySem.W.tabIn
  rw [a]
  show (match K.lookup f with
    | some ⟨_, _, .func fd, _⟩ => _
    | _ => none) = _
  rw [h1]
  show (match K.lookup c with
    | some ⟨_, _, .fields vs, _⟩ => _
    | _ => none) = _
  rw [h3]
  show (match (vs[11]? : Option Value) with
    | some (.ref P) => some (c, P)
    | _ => none) = _
  rw [h4]
theorem noTab {K : PySem.W.Frag} {h : Heap} {P : Addr} (X : K.In h) (n : PySem.W.noTabs K = true) (e : h.get? P = some { cls := .none, data := .fields #[] }) : K.lookup P = none := by
  cases z : K.lookup P with
  | none => rfl
  | some o =>
    have e2 := X _ _ z
    rw [e] at e2
    cases e2
    have h2 := List.all_eq_true.mp n (P, _) (PySem.W.mem_of_lookupK z)
    exact absurd (show false = true from h2) Bool.false_ne_true
theorem kit_self {K : PySem.W.Frag} {C : Addr} : PySem.W.kitOne K (.ref C) (.ref C) = some true := by
  unfold PySem.W.kitOne
  rw [if_pos (by simp)]
theorem uniq_of {T : List (Addr × Str)} : (T.map Prod.fst).Nodup → ∀ {P : Addr} {x : Str}, (P, x) ∈ T → ∀ p ∈ T, p.1 = P → p.2 = x := by
  induction T with
  | nil => exact fun _ P x h => absurd h (by simp)
  | cons t T ih =>
    intro nd P x h p hp e
    rw [List.map_cons, List.nodup_cons] at nd
    rcases List.mem_cons.mp h with h | h <;> rcases List.mem_cons.mp hp with hp | hp
    · rw [hp, ← h]
    · exact absurd (List.mem_map.mpr ⟨p, hp, e.trans (congrArg Prod.fst h)⟩) nd.1
    · exact absurd (List.mem_map.mpr ⟨(P, x), h, (e.symm.trans (congrArg Prod.fst hp) : P = t.1)⟩) nd.1
    · exact ih nd.2 h p hp e
theorem kit_of_ty {K : PySem.W.Frag} {C : Addr} {t : String} (h : PySem.W.subIn K (.type t) (.ref C) = some false) (c : (PySem.W.clsIn K C).isSome = true) (ty : PySem.W.typeIn K (.ref C) = some (.type "type")) : PySem.W.kitOne K (.type t) (.ref C) = some false := by
  unfold PySem.W.kitOne PySem.W.kitCls
  rw [if_neg (by simp)]
  show (if ((PySem.W.clsIn K C).isSome && PySem.W.typeIn K (.ref C) == some (.type "type")) = true then PySem.W.subIn K (.type t) (.ref C) else none) = some false
  rw [if_pos (by rw [c, ty]; rfl)]
  exact h
theorem is_of {K : PySem.W.Frag} {C : Addr} (h : PySem.W.hasDictIn K C = true) : (PySem.W.clsIn K C).isSome = true := by
  obtain ⟨cd, hc, _⟩ := PySem.W.any_some h
  rw [hc]
  rfl
theorem kit_own {K : PySem.W.Frag} {A D : Addr} {b : Bool} (ne : A ≠ D) (h : PySem.W.subIn K (.ref A) (.ref D) = some b) (c : (PySem.W.clsIn K D).isSome = true) (ty : PySem.W.typeIn K (.ref D) = some (.type "type")) : PySem.W.kitOne K (.ref A) (.ref D) = some b := by
  unfold PySem.W.kitOne PySem.W.kitCls
  have e : (Value.ref A == Value.ref D) = false := by rw [eq_ref, decide_eq_false ne]
  rw [e, if_neg Bool.false_ne_true]
  show (if ((PySem.W.clsIn K D).isSome && PySem.W.typeIn K (.ref D) == some (.type "type")) = true then PySem.W.subIn K (.ref A) (.ref D) else none) = some b
  rw [if_pos (by rw [c, ty]; rfl)]
  exact h
theorem all_mk {l : PySem.W.OpenLaw} {w : World} {K : PySem.W.Frag} {h : Heap} {mg : Str → Option Value} {fa fSg fSw fLe fPb fSb fSo fWk fMo fIb fFb fWo fIp fCa fRn fBk fSh fPe fDr fPi fPl fGg fRt fRu fLp fBo fIw fLs fLi fLg fLf fLt fPa fHd fIo cIo PIo fLa cLa PLa mIn mBd mFr mAl mRd C pRd B CR CW CV mrI mrB mrE mwI mwB mwE cL fL cR fR cT fT cC fC cM fM : Addr} {mc : Value} (X : K.In h) (G : h.Ns mainGlobals mg) (hfa : mg "law" = some (.ref fa)) (hTab : ∀ x, x ∈ (["in_order", "law"] : List Str) → ∀ c P, PySem.W.tabIn K x = some (c, P) → PySem.W.CodeHd h c P ∧ h.get? P = some { cls := .none, data := .fields #[] })
    (aSg : PySem.W.nsIn K mainGlobals "is_signs" = some (some (.ref fSg)))
    (hSg : FQ K "is_signs" "is_signs" (top 3) fSg)
    (aSw : PySem.W.nsIn K mainGlobals "is_signs_within" = some (some (.ref fSw)))
    (hSw : FQ K "is_signs_within" "is_signs_within" (top 4) fSw)
    (aLe : PySem.W.nsIn K mainGlobals "is_letter" = some (some (.ref fLe)))
    (hLe : FQ K "is_letter" "is_letter" (top 5) fLe)
    (aPb : PySem.W.nsIn K mainGlobals "put_behind" = some (some (.ref fPb)))
    (hPb : FQ K "put_behind" "put_behind" (top 15) fPb)
    (aSb : PySem.W.nsIn K mainGlobals "sent_behind" = some (some (.ref fSb)))
    (hSb : FQ K "sent_behind" "sent_behind" (top 16) fSb)
    (aSo : PySem.W.nsIn K mainGlobals "state_of" = some (some (.ref fSo)))
    (hSo : FQ K "state_of" "state_of" (top 17) fSo)
    (aWk : PySem.W.nsIn K mainGlobals "walked" = some (some (.ref fWk)))
    (hWk : FQ K "walked" "walked" (top 18) fWk)
    (aMo : PySem.W.nsIn K mainGlobals "moves_of" = some (some (.ref fMo)))
    (hMo : FQ K "moves_of" "moves_of" (top 19) fMo)
    (aIb : PySem.W.nsIn K mainGlobals "is_breaking" = some (some (.ref fIb)))
    (hIb : FQ K "is_breaking" "is_breaking" (top 21) fIb)
    (aFb : PySem.W.nsIn K mainGlobals "first_break" = some (some (.ref fFb)))
    (hFb : FQ K "first_break" "first_break" (top 22) fFb)
    (aWo : PySem.W.nsIn K mainGlobals "words_of" = some (some (.ref fWo)))
    (hWo : FQ K "words_of" "words_of" (top 26) fWo)
    (aIp : PySem.W.nsIn K mainGlobals "is_pair" = some (some (.ref fIp)))
    (hIp : FQ K "is_pair" "is_pair" (top 29) fIp)
    (aCa : PySem.W.nsIn K mainGlobals "can_stand" = some (some (.ref fCa)))
    (hCa : FQ K "can_stand" "can_stand" (top 30) fCa)
    (aRn : PySem.W.nsIn K mainGlobals "rightness" = some (some (.ref fRn)))
    (hRn : FQ K "rightness" "rightness" (top 35) fRn)
    (aBk : PySem.W.nsIn K mainGlobals "breaks" = some (some (.ref fBk)))
    (hBk : FQ K "breaks" "breaks" (top 36) fBk)
    (aSh : PySem.W.nsIn K mainGlobals "shows_right" = some (some (.ref fSh)))
    (hSh : FQ K "shows_right" "shows_right" (top 37) fSh)
    (aPe : PySem.W.nsIn K mainGlobals "_law_pen" = some (some (.ref fPe)))
    (hPe : FQ K "_law_pen" "_law_pen" (top 39) fPe)
    (aDr : PySem.W.nsIn K mainGlobals "_law_draw" = some (some (.ref fDr)))
    (hDr : FQ K "_law_draw" "_law_draw" (top 40) fDr)
    (aPi : PySem.W.nsIn K mainGlobals "_law_pick" = some (some (.ref fPi)))
    (hPi : FQ K "_law_pick" "_law_pick" (top 41) fPi)
    (aPl : PySem.W.nsIn K mainGlobals "_law_plan" = some (some (.ref fPl)))
    (hPl : FQ K "_law_plan" "_law_plan" (top 42) fPl)
    (aGg : PySem.W.nsIn K mainGlobals "_law_signs" = some (some (.ref fGg)))
    (hGg : FQ K "_law_signs" "_law_signs" (top 43) fGg)
    (aRt : PySem.W.nsIn K mainGlobals "_law_rule_text" = some (some (.ref fRt)))
    (hRt : FQ K "_law_rule_text" "_law_rule_text" (top 44) fRt)
    (aRu : PySem.W.nsIn K mainGlobals "_law_rule" = some (some (.ref fRu)))
    (hRu : FQ K "_law_rule" "_law_rule" (top 45) fRu)
    (aLp : PySem.W.nsIn K mainGlobals "_law_put" = some (some (.ref fLp)))
    (hLp : FQ K "_law_put" "_law_put" (top 46) fLp)
    (aBo : PySem.W.nsIn K mainGlobals "_law_body" = some (some (.ref fBo)))
    (hBo : FQ K "_law_body" "_law_body" (top 47) fBo)
    (aIw : PySem.W.nsIn K mainGlobals "_law_is_wrong" = some (some (.ref fIw)))
    (hIw : FQ K "_law_is_wrong" "_law_is_wrong" (top 48) fIw)
    (aLs : PySem.W.nsIn K mainGlobals "_law_state" = some (some (.ref fLs)))
    (hLs : FQ K "_law_state" "_law_state" (top 49) fLs)
    (aLi : PySem.W.nsIn K mainGlobals "_law_in_order" = some (some (.ref fLi)))
    (hLi : FQ K "_law_in_order" "_law_in_order" (top 50) fLi)
    (aLg : PySem.W.nsIn K mainGlobals "_law_longer" = some (some (.ref fLg)))
    (hLg : FQ K "_law_longer" "_law_longer" (top 51) fLg)
    (aLf : PySem.W.nsIn K mainGlobals "_law_found" = some (some (.ref fLf)))
    (hLf : FQ K "_law_found" "_law_found" (top 52) fLf)
    (aLt : PySem.W.nsIn K mainGlobals "_law_tried_right" = some (some (.ref fLt)))
    (hLt : FQ K "_law_tried_right" "_law_tried_right" (top 53) fLt)
    (aPa : PySem.W.nsIn K mainGlobals "_law_papers_right" = some (some (.ref fPa)))
    (hPa : FQ K "_law_papers_right" "_law_papers_right" (top 54) fPa)
    (aHd : PySem.W.nsIn K mainGlobals "_law_heard" = some (some (.ref fHd)))
    (hHd : FQ K "_law_heard" "_law_heard" (top 55) fHd)
    (aIo : PySem.W.nsIn K mainGlobals "in_order" = some (some (.ref fIo)))
    (hIo : FC K "in_order" (top 20) fIo cIo PIo)
    (aLa : PySem.W.nsIn K mainGlobals "law" = some (some (.ref fLa)))
    (hLa : FC K "law" (top 56) fLa cLa PLa)
    (nPP : ([PIo, PLa] : List Addr).Nodup)
    (hNT : PySem.W.noTabs K = true)
    (aC : PySem.W.nsIn K mainGlobals "FrameRule" = some (some (.ref C)))
    (rd : PySem.W.readsIn K C mc = true)
    (ga : PySem.W.specialIn K (.ref C) "__getattribute__" = some (some (.builtin "type.__getattribute__")))
    (cls : Cls K C)
    (nfl : NoAttr K C "flag")
    (npa : NoAttr K C "pairs")
    (makes : PySem.W.makesIn K C = true)
    (kC : PySem.W.keepIn K (.ref C) = true)
    (ica : PySem.W.findIn K (.ref C) "__class__" = some (some (.builtin "object.__class__")))
    (icm : PySem.W.mroIn K C (.type "object") = some true)
    (tyC : PySem.W.typeIn K (.ref C) = some (.type "type"))
    (noNoneType : PySem.W.subIn K (.type "NoneType") (.ref C) = some false)
    (noint : PySem.W.subIn K (.type "int") (.ref C) = some false)
    (nostr : PySem.W.subIn K (.type "str") (.ref C) = some false)
    (nolist : PySem.W.subIn K (.type "list") (.ref C) = some false)
    (notuple : PySem.W.subIn K (.type "tuple") (.ref C) = some false)
    (nodict : PySem.W.subIn K (.type "dict") (.ref C) = some false)
    (tRd : CMet K C mc "read" pRd mRd)
    (aIn : PySem.W.findIn K (.ref C) "__init__" = some (some (.ref mIn)))
    (tIn : PySem.W.isFn K (.ref mIn) = true)
    (hIn : FQ K "__init__" "FrameRule.__init__" (sFr 0) mIn)
    (aBd : PySem.W.findIn K (.ref C) "body" = some (some (.ref mBd)))
    (tBd : PySem.W.isFn K (.ref mBd) = true)
    (hBd : FQ K "body" "FrameRule.body" (sFr 2) mBd)
    (aFr : PySem.W.findIn K (.ref C) "frame" = some (some (.ref mFr)))
    (tFr : PySem.W.isFn K (.ref mFr) = true)
    (hFr : FQ K "frame" "FrameRule.frame" (sFr 3) mFr)
    (aAl : PySem.W.findIn K (.ref C) "all_states" = some (some (.ref mAl)))
    (tAl : PySem.W.isFn K (.ref mAl) = true)
    (hAl : FQ K "all_states" "FrameRule.all_states" (sFr 6) mAl)
    (hRd : FQ K "read" "FrameRule.read" (sFr 10) mRd)
    (aV : PySem.W.nsIn K mainGlobals "Verdict" = some (some (.ref CV)))
    (hdV : PySem.W.hasDictIn K CV = true)
    (tyV : PySem.W.typeIn K (.ref CV) = some (.type "type"))
    (ar : PySem.W.nsIn K mainGlobals "Right" = some (some (.ref CR)))
    (clsr : Cls K CR)
    (nfr : NoAttr K CR "states")
    (mkr : PySem.W.makesIn K CR = true)
    (kpr : PySem.W.keepIn K (.ref CR) = true)
    (car : PySem.W.findIn K (.ref CR) "__class__" = some (some (.builtin "object.__class__")))
    (cmr : PySem.W.mroIn K CR (.type "object") = some true)
    (tyr : PySem.W.typeIn K (.ref CR) = some (.type "type"))
    (ner : PySem.W.findIn K (.ref CR) "__ne__" = some (some (.builtin "object.__ne__")))
    (fir : PySem.W.notFirst K CR (.ref CR) = true)
    (svr : PySem.W.subIn K (.ref CR) (.ref CV) = some true)
    (nvr : CR ≠ CV)
    (nrtuple : PySem.W.subIn K (.type "tuple") (.ref CR) = some false)
    (nrlist : PySem.W.subIn K (.type "list") (.ref CR) = some false)
    (nrbool : PySem.W.subIn K (.type "bool") (.ref CR) = some false)
    (arI : PySem.W.findIn K (.ref CR) "__init__" = some (some (.ref mrI)))
    (trI : PySem.W.isFn K (.ref mrI) = true)
    (hrI : FQ K "__init__" "Right.__init__" (sRi 0) mrI)
    (arB : PySem.W.findIn K (.ref CR) "__bool__" = some (some (.ref mrB)))
    (trB : PySem.W.isFn K (.ref mrB) = true)
    (hrB : FQ K "__bool__" "Right.__bool__" (sRi 1) mrB)
    (arE : PySem.W.findIn K (.ref CR) "__eq__" = some (some (.ref mrE)))
    (trE : PySem.W.isFn K (.ref mrE) = true)
    (hrE : FQ K "__eq__" "Right.__eq__" (sRi 2) mrE)
    (aw : PySem.W.nsIn K mainGlobals "Wrong" = some (some (.ref CW)))
    (clsw : Cls K CW)
    (nfw : NoAttr K CW "letter")
    (mkw : PySem.W.makesIn K CW = true)
    (kpw : PySem.W.keepIn K (.ref CW) = true)
    (caw : PySem.W.findIn K (.ref CW) "__class__" = some (some (.builtin "object.__class__")))
    (cmw : PySem.W.mroIn K CW (.type "object") = some true)
    (tyw : PySem.W.typeIn K (.ref CW) = some (.type "type"))
    (new : PySem.W.findIn K (.ref CW) "__ne__" = some (some (.builtin "object.__ne__")))
    (fiw : PySem.W.notFirst K CW (.ref CW) = true)
    (svw : PySem.W.subIn K (.ref CW) (.ref CV) = some true)
    (nvw : CW ≠ CV)
    (nwtuple : PySem.W.subIn K (.type "tuple") (.ref CW) = some false)
    (nwlist : PySem.W.subIn K (.type "list") (.ref CW) = some false)
    (nwbool : PySem.W.subIn K (.type "bool") (.ref CW) = some false)
    (awI : PySem.W.findIn K (.ref CW) "__init__" = some (some (.ref mwI)))
    (twI : PySem.W.isFn K (.ref mwI) = true)
    (hwI : FQ K "__init__" "Wrong.__init__" (sWr 0) mwI)
    (awB : PySem.W.findIn K (.ref CW) "__bool__" = some (some (.ref mwB)))
    (twB : PySem.W.isFn K (.ref mwB) = true)
    (hwB : FQ K "__bool__" "Wrong.__bool__" (sWr 1) mwB)
    (awE : PySem.W.findIn K (.ref CW) "__eq__" = some (some (.ref mwE)))
    (twE : PySem.W.isFn K (.ref mwE) = true)
    (hwE : FQ K "__eq__" "Wrong.__eq__" (sWr 2) mwE)
    (srw : PySem.W.subIn K (.ref CR) (.ref CW) = some false)
    (swr : PySem.W.subIn K (.ref CW) (.ref CR) = some false)
    (nrw : CR ≠ CW)
    (cs : PySem.W.specialIn K (.builtin "object.__class__") "__get__" = some (some (.builtin "getset_descriptor.__get__")))
    (ct : PySem.W.takesIn K (.builtin "object.__class__") = some true)
    (gB : PySem.W.nsIn K mainGlobals "PostError" = some (some (.ref B)))
    (bB : PySem.W.subIn K (.ref B) (.type "BaseException") = some true)
    (dB : PySem.W.hasDictIn K B = true)
    (tyB : PySem.W.typeIn K (.ref B) = some (.type "type"))
    (xL : CF K "BadLetter" "BadLetter.__init__" (sCls 8) cL fL B)
    (xL0 : PySem.W.findIn K (.ref cL) "value" = some none)
    (xR : CF K "BadRule" "BadRule.__init__" (sCls 9) cR fR B)
    (xR0 : PySem.W.findIn K (.ref cR) "part" = some none)
    (xT : CF K "BadText" "BadText.__init__" (sCls 10) cT fT B)
    (xT0 : PySem.W.findIn K (.ref cT) "line" = some none)
    (xT1 : PySem.W.findIn K (.ref cT) "word" = some none)
    (xC : CF K "Clashing" "Clashing.__init__" (sCls 11) cC fC B)
    (xC0 : PySem.W.findIn K (.ref cC) "part" = some none)
    (xM : CF K "TooMany" "TooMany.__init__" (sCls 12) cM fM B)
    (xM0 : PySem.W.findIn K (.ref cM) "what" = some none)
    (xM1 : PySem.W.findIn K (.ref cM) "most" = some none)
    (zm : ∃ t, PySem.W.nsIn K mainGlobals "MOST_PAIRS" = some (some (.int 4 t)))
    (z8 : ∃ t, PySem.W.nsIn K mainGlobals "MOST_WORD_SIGNS" = some (some (.int 8 t)))
    (zl : ∃ t, PySem.W.nsIn K mainGlobals "MOST_LETTER_SIGNS" = some (some (.int 200 t)))
    (z_isinstance : PySem.W.nsIn K mainGlobals "isinstance" = some (none))
    (z_int : PySem.W.nsIn K mainGlobals "int" = some (none))
    (z_bool : PySem.W.nsIn K mainGlobals "bool" = some (none))
    (z_str : PySem.W.nsIn K mainGlobals "str" = some (none))
    (z_len : PySem.W.nsIn K mainGlobals "len" = some (none))
    (z_abs : PySem.W.nsIn K mainGlobals "abs" = some (none))
    (z_list : PySem.W.nsIn K mainGlobals "list" = some (none))
    (z_range : PySem.W.nsIn K mainGlobals "range" = some (none))
    (z_tuple : PySem.W.nsIn K mainGlobals "tuple" = some (none))
    (z_divmod : PySem.W.nsIn K mainGlobals "divmod" = some (none))
    (z_enumerate : PySem.W.nsIn K mainGlobals "enumerate" = some (none))
    (z_set : PySem.W.nsIn K mainGlobals "set" = some (none))
    (z_sorted : PySem.W.nsIn K mainGlobals "sorted" = some (none))
    (z_max : PySem.W.nsIn K mainGlobals "max" = some (none))
    (z_repr : PySem.W.nsIn K mainGlobals "repr" = some (none))
    (z_any : PySem.W.nsIn K mainGlobals "any" = some (none))
    (z_zip : PySem.W.nsIn K mainGlobals "zip" = some (none))
    : LawAtG l w K 11 63 "_law_script" mg fa h := by
  have eLa := hfa.symm.trans (PySem.W.mg_of X G aLa)
  cases eLa
  have gSg := PySem.W.mg_of X G aSg
  obtain ⟨dSg, FSg⟩ := hSg.fn
  have bSg : Binds K dSg ["value"] [] := FSg.binds fun _ _ _ _ _ _ us hl => match us, hl with | [_], _ => rfl
  have gSw := PySem.W.mg_of X G aSw
  obtain ⟨dSw, FSw⟩ := hSw.fn
  have bSw : Binds K dSw ["value", "least", "most"] [] := FSw.binds fun _ _ _ _ _ _ us hl => match us, hl with | [_, _, _], _ => rfl
  have gLe := PySem.W.mg_of X G aLe
  obtain ⟨dLe, FLe⟩ := hLe.fn
  have bLe : Binds K dLe ["value"] [] := FLe.binds fun _ _ _ _ _ _ us hl => match us, hl with | [_], _ => rfl
  have gPb := PySem.W.mg_of X G aPb
  obtain ⟨dPb, FPb⟩ := hPb.fn
  have bPb : Binds K dPb ["signs", "pairs"] [] := FPb.binds fun _ _ _ _ _ _ us hl => match us, hl with | [_, _], _ => rfl
  have gSb := PySem.W.mg_of X G aSb
  obtain ⟨dSb, FSb⟩ := hSb.fn
  have bSb : Binds K dSb ["signs", "sign", "pairs"] [] := FSb.binds fun _ _ _ _ _ _ us hl => match us, hl with | [_, _, _], _ => rfl
  have gSo := PySem.W.mg_of X G aSo
  obtain ⟨dSo, FSo⟩ := hSo.fn
  have bSo : Binds K dSo ["signs", "flag", "pairs"] [] := FSo.binds fun _ _ _ _ _ _ us hl => match us, hl with | [_, _, _], _ => rfl
  have gWk := PySem.W.mg_of X G aWk
  obtain ⟨dWk, FWk⟩ := hWk.fn
  have bWk : Binds K dWk ["flag", "pairs"] [] := FWk.binds fun _ _ _ _ _ _ us hl => match us, hl with | [_, _], _ => rfl
  have gMo := PySem.W.mg_of X G aMo
  obtain ⟨dMo, FMo⟩ := hMo.fn
  have bMo : Binds K dMo ["flag", "pairs"] [] := FMo.binds fun _ _ _ _ _ _ us hl => match us, hl with | [_, _], _ => rfl
  have gIb := PySem.W.mg_of X G aIb
  obtain ⟨dIb, FIb⟩ := hIb.fn
  have bIb : Binds K dIb ["flag", "state", "move"] [] := FIb.binds fun _ _ _ _ _ _ us hl => match us, hl with | [_, _, _], _ => rfl
  have gFb := PySem.W.mg_of X G aFb
  obtain ⟨dFb, FFb⟩ := hFb.fn
  have bFb : Binds K dFb ["flag", "pairs"] [] := FFb.binds fun _ _ _ _ _ _ us hl => match us, hl with | [_, _], _ => rfl
  have gWo := PySem.W.mg_of X G aWo
  obtain ⟨dWo, FWo⟩ := hWo.fn
  have bWo : Binds K dWo ["text"] [] := FWo.binds fun _ _ _ _ _ _ us hl => match us, hl with | [_], _ => rfl
  have gIp := PySem.W.mg_of X G aIp
  obtain ⟨dIp, FIp⟩ := hIp.fn
  have bIp : Binds K dIp ["value"] [] := FIp.binds fun _ _ _ _ _ _ us hl => match us, hl with | [_], _ => rfl
  have gCa := PySem.W.mg_of X G aCa
  obtain ⟨dCa, FCa⟩ := hCa.fn
  have bCa : Binds K dCa ["words", "at"] [] := FCa.binds fun _ _ _ _ _ _ us hl => match us, hl with | [_, _], _ => rfl
  have gRn := PySem.W.mg_of X G aRn
  obtain ⟨dRn, FRn⟩ := hRn.fn
  have bRn : Binds K dRn ["rule"] [] := FRn.binds fun _ _ _ _ _ _ us hl => match us, hl with | [_], _ => rfl
  have gBk := PySem.W.mg_of X G aBk
  obtain ⟨dBk, FBk⟩ := hBk.fn
  have bBk : Binds K dBk ["rule", "letter"] [] := FBk.binds fun _ _ _ _ _ _ us hl => match us, hl with | [_, _], _ => rfl
  have gSh := PySem.W.mg_of X G aSh
  obtain ⟨dSh, FSh⟩ := hSh.fn
  have bSh : Binds K dSh ["rule", "value"] [] := FSh.binds fun _ _ _ _ _ _ us hl => match us, hl with | [_, _], _ => rfl
  have gPe := PySem.W.mg_of X G aPe
  obtain ⟨dPe, FPe⟩ := hPe.fn
  have bPe : Binds K dPe ["_law_script"] [] := FPe.binds fun _ _ _ _ _ _ us hl => match us, hl with | [_], _ => rfl
  have gDr := PySem.W.mg_of X G aDr
  obtain ⟨dDr, FDr⟩ := hDr.fn
  have bDr : Binds K dDr ["_law_pen_here", "_law_many"] [] := FDr.binds fun _ _ _ _ _ _ us hl => match us, hl with | [_, _], _ => rfl
  have gPi := PySem.W.mg_of X G aPi
  obtain ⟨dPi, FPi⟩ := hPi.fn
  have bPi : Binds K dPi ["_law_pen_here", "_law_some"] [] := FPi.binds fun _ _ _ _ _ _ us hl => match us, hl with | [_, _], _ => rfl
  have gPl := PySem.W.mg_of X G aPl
  obtain ⟨dPl, FPl⟩ := hPl.fn
  have bPl : Binds K dPl ["_law_pen_here"] [] := FPl.binds fun _ _ _ _ _ _ us hl => match us, hl with | [_], _ => rfl
  have gGg := PySem.W.mg_of X G aGg
  obtain ⟨dGg, FGg⟩ := hGg.fn
  have bGg : Binds K dGg ["_law_pen_here", "_law_many"] [] := FGg.binds fun _ _ _ _ _ _ us hl => match us, hl with | [_, _], _ => rfl
  have gRt := PySem.W.mg_of X G aRt
  obtain ⟨dRt, FRt⟩ := hRt.fn
  have bRt : Binds K dRt ["_law_plan_here"] [] := FRt.binds fun _ _ _ _ _ _ us hl => match us, hl with | [_], _ => rfl
  have gRu := PySem.W.mg_of X G aRu
  obtain ⟨dRu, FRu⟩ := hRu.fn
  have bRu : Binds K dRu ["_law_plan_here"] [] := FRu.binds fun _ _ _ _ _ _ us hl => match us, hl with | [_], _ => rfl
  have gLp := PySem.W.mg_of X G aLp
  obtain ⟨dLp, FLp⟩ := hLp.fn
  have bLp : Binds K dLp ["_law_plan_here", "_law_sent"] [] := FLp.binds fun _ _ _ _ _ _ us hl => match us, hl with | [_, _], _ => rfl
  have gBo := PySem.W.mg_of X G aBo
  obtain ⟨dBo, FBo⟩ := hBo.fn
  have bBo : Binds K dBo ["_law_plan_here", "_law_letter"] [] := FBo.binds fun _ _ _ _ _ _ us hl => match us, hl with | [_, _], _ => rfl
  have gIw := PySem.W.mg_of X G aIw
  obtain ⟨dIw, FIw⟩ := hIw.fn
  have bIw : Binds K dIw ["_law_plan_here", "_law_letter"] [] := FIw.binds fun _ _ _ _ _ _ us hl => match us, hl with | [_, _], _ => rfl
  have gLs := PySem.W.mg_of X G aLs
  obtain ⟨dLs, FLs⟩ := hLs.fn
  have bLs : Binds K dLs ["_law_plan_here", "_law_sent"] [] := FLs.binds fun _ _ _ _ _ _ us hl => match us, hl with | [_, _], _ => rfl
  have gLi := PySem.W.mg_of X G aLi
  obtain ⟨dLi, FLi⟩ := hLi.fn
  have bLi : Binds K dLi ["_law_words"] [] := FLi.binds fun _ _ _ _ _ _ us hl => match us, hl with | [_], _ => rfl
  have gLg := PySem.W.mg_of X G aLg
  obtain ⟨dLg, FLg⟩ := hLg.fn
  have bLg : Binds K dLg ["_law_row"] [] := FLg.binds fun _ _ _ _ _ _ us hl => match us, hl with | [_], _ => rfl
  have gLf := PySem.W.mg_of X G aLf
  obtain ⟨dLf, FLf⟩ := hLf.fn
  have bLf : Binds K dLf ["_law_plan_here"] [] := FLf.binds fun _ _ _ _ _ _ us hl => match us, hl with | [_], _ => rfl
  have gLt := PySem.W.mg_of X G aLt
  obtain ⟨dLt, FLt⟩ := hLt.fn
  have bLt : Binds K dLt ["_law_plan_here", "_law_found_here"] [] := FLt.binds fun _ _ _ _ _ _ us hl => match us, hl with | [_, _], _ => rfl
  have gPa := PySem.W.mg_of X G aPa
  obtain ⟨dPa, FPa⟩ := hPa.fn
  have bPa : Binds K dPa ["_law_pen_here", "_law_plan_here", "_law_rule_here", "_law_found_here"] [] := FPa.binds fun _ _ _ _ _ _ us hl => match us, hl with | [_, _, _, _], _ => rfl
  have gHd := PySem.W.mg_of X G aHd
  obtain ⟨dHd, FHd⟩ := hHd.fn
  have bHd : Binds K dHd ["_law_ask"] [] := FHd.binds fun _ _ _ _ _ _ us hl => match us, hl with | [_], _ => rfl
  have gIo := PySem.W.mg_of X G aIo
  obtain ⟨kVIo, docIo, pmIo, anIo, ctIo, FIo⟩ := hIo.fn
  obtain ⟨CIo, EIo⟩ := hTab "in_order" (by decide) _ _ (hIo.tab aIo)
  have bIo : Binds K _ ["states"] [] := FIo.fn.binds fun _ _ _ _ _ _ us hl => match us, hl with | [_], _ => rfl
  have gLa := PySem.W.mg_of X G aLa
  obtain ⟨kVLa, docLa, pmLa, anLa, ctLa, FLa⟩ := hLa.fn
  obtain ⟨CLa, ELa⟩ := hTab "law" (by decide) _ _ (hLa.tab aLa)
  obtain ⟨eIn, MIn⟩ := hIn.fn
  obtain ⟨eBd, MBd⟩ := hBd.fn
  have cBd : Binds K eBd ["self", "letter"] [] := MBd.binds fun _ _ _ _ _ _ us hl => match us, hl with | [_, _], _ => rfl
  obtain ⟨eFr, MFr⟩ := hFr.fn
  have cFr : Binds K eFr ["self", "letter"] [] := MFr.binds fun _ _ _ _ _ _ us hl => match us, hl with | [_, _], _ => rfl
  obtain ⟨eAl, MAl⟩ := hAl.fn
  have cAl : Binds K eAl ["self"] [] := MAl.binds fun _ _ _ _ _ _ us hl => match us, hl with | [_], _ => rfl
  obtain ⟨eRd, MRd⟩ := hRd.fn
  have cRd : Binds K eRd ["cls", "text"] [] := MRd.binds fun _ _ _ _ _ _ us hl => match us, hl with | [_, _], _ => rfl
  have gr := PySem.W.mg_of X G ar
  obtain ⟨erI, MrI⟩ := hrI.fn
  have crI : Binds K erI ["self", "states"] [] := MrI.binds fun _ _ _ _ _ _ us hl => match us, hl with | [_, _], _ => rfl
  obtain ⟨erB, MrB⟩ := hrB.fn
  have crB : Binds K erB ["self"] [] := MrB.binds fun _ _ _ _ _ _ us hl => match us, hl with | [_], _ => rfl
  obtain ⟨erE, MrE⟩ := hrE.fn
  have crE : Binds K erE ["self", "other"] [] := MrE.binds fun _ _ _ _ _ _ us hl => match us, hl with | [_, _], _ => rfl
  have kr : KBn K erI ["self", "states"] 1 ["states"] (fun us ws => us ++ ws) (fun vs zs => vs ++ zs) := MrI.kb 1 (fun us ws => us ++ ws) (fun r s => r.append s) fun _ _ _ _ _ _ us ws l1 l2 => match us, l1, ws, l2 with | [_], _, [_], _ => rfl
  have gw := PySem.W.mg_of X G aw
  obtain ⟨ewI, MwI⟩ := hwI.fn
  have cwI : Binds K ewI ["self", "letter"] [] := MwI.binds fun _ _ _ _ _ _ us hl => match us, hl with | [_, _], _ => rfl
  obtain ⟨ewB, MwB⟩ := hwB.fn
  have cwB : Binds K ewB ["self"] [] := MwB.binds fun _ _ _ _ _ _ us hl => match us, hl with | [_], _ => rfl
  obtain ⟨ewE, MwE⟩ := hwE.fn
  have cwE : Binds K ewE ["self", "other"] [] := MwE.binds fun _ _ _ _ _ _ us hl => match us, hl with | [_, _], _ => rfl
  have kw : KBn K ewI ["self", "letter"] 1 ["letter"] (fun us ws => us ++ ws) (fun vs zs => vs ++ zs) := MwI.kb 1 (fun us ws => us ++ ws) (fun r s => r.append s) fun _ _ _ _ _ _ us ws l1 l2 => match us, l1, ws, l2 with | [_], _, [_], _ => rfl
  have kRn : KBn K dRn ["rule"] 0 ["rule"] (fun us ws => us ++ ws) (fun vs zs => vs ++ zs) := FRn.kb 0 (fun us ws => us ++ ws) (fun r s => r.append s) fun _ _ _ _ _ _ us ws l1 l2 => match us, l1, ws, l2 with | [], _, [_], _ => rfl
  have kSh : KBn K dSh ["rule", "value"] 0 ["rule", "value"] (fun us ws => us ++ ws) (fun vs zs => vs ++ zs) := FSh.kb 0 (fun us ws => us ++ ws) (fun r s => r.append s) fun _ _ _ _ _ _ us ws l1 l2 => match us, l1, ws, l2 with | [], _, [_, _], _ => rfl
  obtain ⟨dL, FL⟩ := xL.fn
  have bL : Binds K dL ["self", "value"] [] := FL.binds fun _ _ _ _ _ _ us hl => match us, hl with | [_, _], _ => rfl
  obtain ⟨dR, FR⟩ := xR.fn
  have bR : Binds K dR ["self", "part"] [] := FR.binds fun _ _ _ _ _ _ us hl => match us, hl with | [_, _], _ => rfl
  obtain ⟨dT, FT⟩ := xT.fn
  have bT : Binds K dT ["self", "line", "word"] [] := FT.binds fun _ _ _ _ _ _ us hl => match us, hl with | [_, _, _], _ => rfl
  obtain ⟨dC, FC⟩ := xC.fn
  have bC : Binds K dC ["self", "part"] [] := FC.binds fun _ _ _ _ _ _ us hl => match us, hl with | [_, _], _ => rfl
  obtain ⟨dM, FM⟩ := xM.fn
  have bM : Binds K dM ["self", "what", "most"] [] := FM.binds fun _ _ _ _ _ _ us hl => match us, hl with | [_, _, _], _ => rfl
  have m_isinstance := PySem.W.mg_none_of X G z_isinstance
  have m_int := PySem.W.mg_none_of X G z_int
  have m_bool := PySem.W.mg_none_of X G z_bool
  have m_str := PySem.W.mg_none_of X G z_str
  have m_len := PySem.W.mg_none_of X G z_len
  have m_abs := PySem.W.mg_none_of X G z_abs
  have m_list := PySem.W.mg_none_of X G z_list
  have m_range := PySem.W.mg_none_of X G z_range
  have m_tuple := PySem.W.mg_none_of X G z_tuple
  have m_divmod := PySem.W.mg_none_of X G z_divmod
  have m_enumerate := PySem.W.mg_none_of X G z_enumerate
  have m_set := PySem.W.mg_none_of X G z_set
  have m_sorted := PySem.W.mg_none_of X G z_sorted
  have m_max := PySem.W.mg_none_of X G z_max
  have m_repr := PySem.W.mg_none_of X G z_repr
  have m_any := PySem.W.mg_none_of X G z_any
  have m_zip := PySem.W.mg_none_of X G z_zip
  have TT : GlbT mg := ⟨m_isinstance, m_int, m_bool, m_str, m_len⟩
  have TS : GlbS mg := ⟨m_len, m_range, m_tuple, m_list⟩
  have TG : Glb mg := ⟨m_int, m_abs, m_len, m_list⟩
  have TD : GlbD mg := ⟨zm.imp fun _ e => PySem.W.mg_of X G e, m_divmod⟩
  have TI : GlbI mg := ⟨m_enumerate, m_set, m_sorted⟩
  have TW : GlbW mg := ⟨m_any, m_len, m_int, m_list, m_tuple, m_sorted, m_range, m_str, m_isinstance⟩
  have TP : GlbP mg := ⟨z8.imp fun _ e => PySem.W.mg_of X G e, m_max⟩
  have N : FName K mg C mc := ⟨PySem.W.mg_of X G aC, ⟨rd, ga⟩⟩
  have GC : FCls K C := ⟨cls, nfl, npa⟩
  have M : Mk K C mIn := ⟨makes, aIn, tIn, kC⟩
  have CGK : CG K := ⟨cs, ct⟩
  have IC : FIsi K C := ⟨ica, cs, ct, icm, kit_self⟩
  have isC := is_of cls.hd
  have isr := is_of clsr.hd
  have isw := is_of clsw.hd
  have isV := is_of hdV
  have NK : NKit K C := fun T hT => by
    simp only [List.mem_cons, List.not_mem_nil, or_false] at hT
    rcases hT with rfl | rfl | rfl | rfl | rfl | rfl
    · exact kit_of_ty noNoneType isC tyC
    · exact kit_of_ty noint isC tyC
    · exact kit_of_ty nostr isC tyC
    · exact kit_of_ty nolist isC tyC
    · exact kit_of_ty notuple isC tyC
    · exact kit_of_ty nodict isC tyC
  have OK : OKit K CR CW := fun T hT => by
    simp only [List.mem_cons, List.not_mem_nil, or_false] at hT
    rcases hT with rfl | rfl | rfl
    · exact ⟨kit_of_ty nrtuple isr tyr, kit_of_ty nwtuple isw tyw⟩
    · exact ⟨kit_of_ty nrlist isr tyr, kit_of_ty nwlist isw tyw⟩
    · exact ⟨kit_of_ty nrbool isr tyr, kit_of_ty nwbool isw tyw⟩
  have IR : FIsi K CR := ⟨car, cs, ct, cmr, kit_self⟩
  have IW : FIsi K CW := ⟨caw, cs, ct, cmw, kit_self⟩
  have VK' : VKit K CR CW := ⟨IR, IW, kit_own nrw srw isw tyw, kit_own nrw.symm swr isr tyr⟩
  have HK : HdK K mg B cR := ⟨PySem.W.mg_of X G gB, PySem.W.mg_of X G xR.b.aC, m_isinstance, xR.b.caught bB dB tyB, kit_self, xR.b.xc CGK, xR0⟩
  have hitC : PySem.W.exmOne K (.ref cC) (.ref cC) = some true := PySem.W.exm_ref ((xC.b.mro _).trans (by rfl)) xC.b.hd xC.b.tC ((xC.b.mro _).trans (by simp))
  refine ⟨PySem.W.fnOf "law" "law" (defArgs sLaw) (defBody sLaw) (defScope sLaw) .none kVLa docLa pmLa anLa (.ref cLa) ctLa, [(cIo, PIo), (cLa, PLa)], spLaw K [(PIo, qIno), (PLa, qLaw)], ?_, ?_, ?_, fun s v => .of_eq rfl, ?_, fun base _ _ TB => ?_⟩
  · intro p hp
    simp only [List.mem_cons, List.not_mem_nil, or_false] at hp
    rcases hp with rfl | rfl
    · exact EIo
    · exact ELa
  · intro p hp
    simp only [List.mem_cons, List.not_mem_nil, or_false] at hp
    rcases hp with rfl | rfl
    · exact noTab X hNT EIo
    · exact noTab X hNT ELa
  · intro p hp
    simp only [List.mem_cons, List.not_mem_nil, or_false] at hp
    rcases hp with rfl | rfl
    · exact CIo
    · exact CLa
  · intro H a ns hl hH hS
    refine ⟨a, ns, rfl, hS, hl, fun p hp => ?_, fun _ => rfl⟩
    simp only [List.mem_cons, List.not_mem_nil, or_false] at hp
    rcases hp with rfl | rfl
    · exact .nil (hH _ (List.mem_cons_self ..))
    · exact .nil (hH _ (List.mem_cons_of_mem _ (List.mem_cons_self ..)))
  have ND : (([(PIo, qIno), (PLa, qLaw)] : List (Addr × Str)).map Prod.fst).Nodup := nPP
  have TBIo := TB (cIo, PIo) (List.mem_cons_self ..)
  have iIo : (PIo, qIno) ∈ ([(PIo, qIno), (PLa, qLaw)] : List (Addr × Str)) := (List.mem_cons_self ..)
  have TBLa := TB (cLa, PLa) (List.mem_cons_of_mem _ (List.mem_cons_self ..))
  have iLa : (PLa, qLaw) ∈ ([(PIo, qIno), (PLa, qLaw)] : List (Addr × Str)) := (List.mem_cons_of_mem _ (List.mem_cons_self ..))
  have BL : GOne l.prog w K mg base "BadLetter" "value" cL fL dL := ⟨xL.b.ox, xL.a1, xL.t1, ok_I1 xL FL ⟨rfl, rfl, rfl, by decide +kernel, rfl, by decide +kernel, by decide +kernel⟩ rfl rfl rfl (by decide +kernel) (by decide +kernel) xL0, bL, PySem.W.mg_of X G xL.b.aC⟩
  have BR : GOne l.prog w K mg base "BadRule" "part" cR fR dR := ⟨xR.b.ox, xR.a1, xR.t1, ok_I1 xR FR ⟨rfl, rfl, rfl, by decide +kernel, rfl, by decide +kernel, by decide +kernel⟩ rfl rfl rfl (by decide +kernel) (by decide +kernel) xR0, bR, PySem.W.mg_of X G xR.b.aC⟩
  have BT : GTwo l.prog w K mg base "BadText" "line" "word" cT fT dT := ⟨xT.b.ox, xT.a1, xT.t1, ok_I2 xT FT ⟨rfl, rfl, rfl, by decide +kernel, rfl, by decide +kernel, by decide +kernel⟩ rfl rfl rfl rfl (by decide +kernel) (by decide +kernel) (by decide +kernel) (by decide +kernel) xT0 xT1, bT, PySem.W.mg_of X G xT.b.aC⟩
  have BC : GOne l.prog w K mg base "Clashing" "part" cC fC dC := ⟨xC.b.ox, xC.a1, xC.t1, ok_I1 xC FC ⟨rfl, rfl, rfl, by decide +kernel, rfl, by decide +kernel, by decide +kernel⟩ rfl rfl rfl (by decide +kernel) (by decide +kernel) xC0, bC, PySem.W.mg_of X G xC.b.aC⟩
  have BM : GTwo l.prog w K mg base "TooMany" "what" "most" cM fM dM := ⟨xM.b.ox, xM.a1, xM.t1, ok_I2 xM FM ⟨rfl, rfl, rfl, by decide +kernel, rfl, by decide +kernel, by decide +kernel⟩ rfl rfl rfl rfl (by decide +kernel) (by decide +kernel) (by decide +kernel) (by decide +kernel) xM0 xM1, bM, PySem.W.mg_of X G xM.b.aC⟩
  have GR : GVal l.prog w K mg base "Right" "states" CR mrI erI := ⟨gr, ⟨mkr, arI, trI, kpr⟩, ok_RightI MrI ⟨clsr, nfr⟩, crI, ⟨clsr, nfr⟩⟩
  have orE : FnOk l.prog w K mg base CX0 1 mrE erE ["self", "other"] (spVE K CR "states") := ok_RightE MrE gr ⟨clsr, nfr⟩ IR m_isinstance
  have ER : VEq l.prog w K mg base CR "states" mrE := ⟨⟨arE, trE⟩, ner, cmr, fnR0 orE crE⟩
  have orB : FnOk l.prog w K mg base CX0 1 mrB erB ["self"] (spVB true) := ok_RightB MrB
  have GW : GVal l.prog w K mg base "Wrong" "letter" CW mwI ewI := ⟨gw, ⟨mkw, awI, twI, kpw⟩, ok_WrongI MwI ⟨clsw, nfw⟩, cwI, ⟨clsw, nfw⟩⟩
  have owE : FnOk l.prog w K mg base CX0 1 mwE ewE ["self", "other"] (spVE K CW "letter") := ok_WrongE MwE gw ⟨clsw, nfw⟩ IW m_isinstance
  have EW : VEq l.prog w K mg base CW "letter" mwE := ⟨⟨awE, twE⟩, new, cmw, fnR0 owE cwE⟩
  have owB : FnOk l.prog w K mg base CX0 1 mwB ewB ["self"] (spVB false) := ok_WrongB MwB
  have VL : VLaw l.prog w K mg base CR CW CV mrE mwE mrB mwB erI ewI := ⟨ER, EW, ⟨arB, trB⟩, ⟨awB, twB⟩, fnR0 orB crB, fnR0 owB cwB, kr, kw, PySem.W.mg_of X G aV, kit_own nvr svr isV tyV, kit_own nvw svw isV tyV, srw, fir, fiw⟩
  have oSg : FnOk l.prog w K mg base CX0 1 fSg dSg ["value"] (spSigns K) := ok_signs FSg TT
  have GSg : Gfn l.prog w K mg base 1 "is_signs" ["value"] (spSigns K) := ⟨_, _, oSg, hSg.k, bSg, gSg⟩
  have oSw : FnOk l.prog w K mg base CX0 2 fSw dSw ["value", "least", "most"] (spSignsW K) := ok_signsW FSw TT FSg bSg gSg
  have GSw : Gfn l.prog w K mg base 2 "is_signs_within" ["value", "least", "most"] (spSignsW K) := ⟨_, _, oSw, hSw.k, bSw, gSw⟩
  have oLe : FnOk l.prog w K mg base CX0 3 fLe dLe ["value"] (spLet K) := ok_Let FLe (zl.imp fun _ e => PySem.W.mg_of X G e) GSw
  have GLe : Gfn l.prog w K mg base 3 "is_letter" ["value"] (spLet K) := ⟨_, _, oLe, hLe.k, bLe, gLe⟩
  have oIp : FnOk l.prog w K mg base CX0 3 fIp dIp ["value"] (spIsP K) := ok_IsP FIp TT TS GSw
  have GIp : Gfn l.prog w K mg base 3 "is_pair" ["value"] (spIsP K) := ⟨_, _, oIp, hIp.k, bIp, gIp⟩
  have oCa : FnOk l.prog w K mg base CX0 3 fCa dCa ["words", "at"] (spCan K) := ok_Can FCa TD GSw
  have GCa : Gfn l.prog w K mg base 3 "can_stand" ["words", "at"] (spCan K) := ⟨_, _, oCa, hCa.k, bCa, gCa⟩
  have oPb : FnOk l.prog w K mg base CX0 1 fPb dPb ["signs", "pairs"] (spPut K) := ok_Put FPb TT
  have GPb : Gfn l.prog w K mg base 1 "put_behind" ["signs", "pairs"] (spPut K) := ⟨_, _, oPb, hPb.k, bPb, gPb⟩
  have oSb : FnOk l.prog w K mg base CX0 2 fSb dSb ["signs", "sign", "pairs"] (spSent K) := ok_Sent FSb TT TP GPb
  have GSb : Gfn l.prog w K mg base 2 "sent_behind" ["signs", "sign", "pairs"] (spSent K) := ⟨_, _, oSb, hSb.k, bSb, gSb⟩
  have oSo : FnOk l.prog w K mg base CX0 1 fSo dSo ["signs", "flag", "pairs"] (spStO K) := ok_StO FSo TT TW TP
  have GSo : Gfn l.prog w K mg base 1 "state_of" ["signs", "flag", "pairs"] (spStO K) := ⟨_, _, oSo, hSo.k, bSo, gSo⟩
  have oWk : FnOk l.prog w K mg base CX0 3 fWk dWk ["flag", "pairs"] (spWkd K) := ok_Wkd FWk TT TW GSb GSo
  have GWk : Gfn l.prog w K mg base 3 "walked" ["flag", "pairs"] (spWkd K) := ⟨_, _, oWk, hWk.k, bWk, gWk⟩
  have oIb : FnOk l.prog w K mg base CX0 1 fIb dIb ["flag", "state", "move"] (spIsb K) := ok_Isb FIb TW
  have GIb : Gfn l.prog w K mg base 1 "is_breaking" ["flag", "state", "move"] (spIsb K) := ⟨_, _, oIb, hIb.k, bIb, gIb⟩
  have oFb : FnOk l.prog w K mg base CX0 4 fFb dFb ["flag", "pairs"] (spFsb K) := ok_Fsb FFb TW m_zip GWk GIb
  have GFb : Gfn l.prog w K mg base 4 "first_break" ["flag", "pairs"] (spFsb K) := ⟨_, _, oFb, hFb.k, bFb, gFb⟩
  have oIn : FnR l.prog w K mg base (L2.CX l.prog w) 4 mIn (spInitA K C cR cM) := ok_Init (mc := mc) MIn GC TT TS TD TI BR BM GSw GIp
  have oWo : FnOk l.prog w K mg base (L2.CX l.prog w) 3 fWo dWo ["text"] (spWo K cT) := ok_Wo FWo TT BT
  have oRd : FnOk l.prog w K mg base (L2.CX l.prog w) 6 mRd eRd ["cls", "text"] (spRead K C cT) := ok_Read (mc := mc) MRd TT TS M oIn BT oWo hWo.k bWo gWo GCa
  have oBd : FnOk l.prog w K mg base (L2.CX l.prog w) 4 mBd eBd ["self", "letter"] (spBody K C cL cC) := ok_Body MBd GC BL BC GLe GSb
  have oFr : FnOk l.prog w K mg base (L2.CX l.prog w) 5 mFr eFr ["self", "letter"] (spFrame K C cL cC) := ok_Frame MFr GC ⟨aBd, tBd, hBd.k⟩ oBd cBd
  have oMo : FnOk l.prog w K mg base (L2.CX l.prog w) 4 fMo dMo ["flag", "pairs"] (spMvo K cC) := ok_Mvo FMo TW BC GWk
  have oIo := ok_Ino (P := l.prog) (w := w) (T := [(PIo, qIno), (PLa, qLaw)]) FIo TBIo iIo (uniq_of ND iIo) TW
  have GIo : Gfn l.prog w K mg base 1 "in_order" ["states"] (spIno [(PIo, qIno), (PLa, qLaw)]) := ⟨_, _, oIo, hIo.k, bIo, gIo⟩
  have oAl : FnOk l.prog w K mg base (L2.CX l.prog w) 5 mAl eAl ["self"] (spAll K C cC [(PIo, qIno), (PLa, qLaw)]) := ok_All MAl TW GC ⟨_, _, oMo, hMo.k, bMo, gMo⟩ GIo
  have tAl' : Meth K C "all_states" mAl := ⟨aAl, tAl, hAl.k⟩
  have oRn : FnOk l.prog w K mg base (L2.CX l.prog w) 6 fRn dRn ["rule"] (spRtn K C cR CR CW [(PIo, qIno), (PLa, qLaw)]) := ok_Rtn FRn N.g m_isinstance GC IC BR GR GW tAl' oAl cAl GFb
  have oBk : FnOk l.prog w K mg base (L2.CX l.prog w) 6 fBk dBk ["rule", "letter"] (spBks K C) := ok_Bks FBk m_len GC ⟨aFr, tFr, hFr.k⟩ oFr cFr BC.g hitC
  have oSh : FnOk l.prog w K mg base (L2.CX l.prog w) 7 fSh dSh ["rule", "value"] (spShr K C cR CR CW [(PIo, qIno), (PLa, qLaw)]) := ok_Shr FSh TT TW gr gw ⟨clsr, nfr⟩ ⟨clsw, nfw⟩ VK' ⟨_, _, oRn, hRn.k, bRn, gRn⟩ ⟨_, _, oBk, hBk.k, bBk, gBk⟩ GLe
  have oPe : FnOk l.prog w K mg base CX0 1 fPe dPe ["_law_script"] (spPen K) := ok_pen FPe TG
  have GPe : Gfn l.prog w K mg base 1 "_law_pen" ["_law_script"] (spPen K) := ⟨_, _, oPe, hPe.k, bPe, gPe⟩
  have oDr : FnOk l.prog w K mg base CX0 1 fDr dDr ["_law_pen_here", "_law_many"] (spDraw) := ok_draw FDr TG
  have GDr : Gfn l.prog w K mg base 1 "_law_draw" ["_law_pen_here", "_law_many"] (spDraw) := ⟨_, _, oDr, hDr.k, bDr, gDr⟩
  have oPi : FnOk l.prog w K mg base CX0 2 fPi dPi ["_law_pen_here", "_law_some"] (spPick) := ok_pick FPi TG FDr bDr gDr
  have GPi : Gfn l.prog w K mg base 2 "_law_pick" ["_law_pen_here", "_law_some"] (spPick) := ⟨_, _, oPi, hPi.k, bPi, gPi⟩
  have oPz : FnOk l.prog w K mg base CX0 2 fPi dPi ["_law_pen_here", "_law_some"] (spPickS) := ok_pickS FPi TG FDr bDr gDr
  have GPz : Gfn l.prog w K mg base 2 "_law_pick" ["_law_pen_here", "_law_some"] (spPickS) := ⟨_, _, oPz, hPi.k, bPi, gPi⟩
  have oGg : FnOk l.prog w K mg base CX0 3 fGg dGg ["_law_pen_here", "_law_many"] (spSg) := ok_Sg FGg TS GPz
  have GGg : Gfn l.prog w K mg base 3 "_law_signs" ["_law_pen_here", "_law_many"] (spSg) := ⟨_, _, oGg, hGg.k, bGg, gGg⟩
  have oPl : FnOk l.prog w K mg base CX0 4 fPl dPl ["_law_pen_here"] (spPlan) := ok_Plan FPl TT TS TI oDr hDr.k bDr gDr GPi GPz GGg
  have GPl : Gfn l.prog w K mg base 4 "_law_plan" ["_law_pen_here"] (spPlan) := ⟨_, _, oPl, hPl.k, bPl, gPl⟩
  have oRt : FnOk l.prog w K mg base CX0 1 fRt dRt ["_law_plan_here"] (spRt) := ok_Rt FRt
  have GRt : Gfn l.prog w K mg base 1 "_law_rule_text" ["_law_plan_here"] (spRt) := ⟨_, _, oRt, hRt.k, bRt, gRt⟩
  have oRu : FnOk l.prog w K mg base CX0 7 fRu dRu ["_law_plan_here"] (spLru K C) := ok_Lru FRu N tRd oRd cRd GRt
  have GRu : Gfn l.prog w K mg base 7 "_law_rule" ["_law_plan_here"] (spLru K C) := ⟨_, _, oRu, hRu.k, bRu, gRu⟩
  have oLp : FnOk l.prog w K mg base CX0 1 fLp dLp ["_law_plan_here", "_law_sent"] (spLpu) := ok_Lpu FLp TT
  have GLp : Gfn l.prog w K mg base 1 "_law_put" ["_law_plan_here", "_law_sent"] (spLpu) := ⟨_, _, oLp, hLp.k, bLp, gLp⟩
  have oBo : FnOk l.prog w K mg base CX0 2 fBo dBo ["_law_plan_here", "_law_letter"] (spLbo) := ok_Lbo FBo TS GLp
  have GBo : Gfn l.prog w K mg base 2 "_law_body" ["_law_plan_here", "_law_letter"] (spLbo) := ⟨_, _, oBo, hBo.k, bBo, gBo⟩
  have oIw : FnOk l.prog w K mg base CX0 3 fIw dIw ["_law_plan_here", "_law_letter"] (spIsw) := ok_Isw FIw m_len GBo
  have GIw : Gfn l.prog w K mg base 3 "_law_is_wrong" ["_law_plan_here", "_law_letter"] (spIsw) := ⟨_, _, oIw, hIw.k, bIw, gIw⟩
  have oLs : FnOk l.prog w K mg base CX0 1 fLs dLs ["_law_plan_here", "_law_sent"] (spLst) := ok_Lst FLs TT TS
  have GLs : Gfn l.prog w K mg base 1 "_law_state" ["_law_plan_here", "_law_sent"] (spLst) := ⟨_, _, oLs, hLs.k, bLs, gLs⟩
  have oLi : FnOk l.prog w K mg base CX0 1 fLi dLi ["_law_words"] (spIn2) := ok_In2 FLi TT TW
  have GLi : Gfn l.prog w K mg base 1 "_law_in_order" ["_law_words"] (spIn2) := ⟨_, _, oLi, hLi.k, bLi, gLi⟩
  have oLg : FnOk l.prog w K mg base CX0 1 fLg dLg ["_law_row"] (spLng) := ok_Lng FLg
  have GLg : Gfn l.prog w K mg base 1 "_law_longer" ["_law_row"] (spLng) := ⟨_, _, oLg, hLg.k, bLg, gLg⟩
  have oLf : FnOk l.prog w K mg base CX0 4 fLf dLf ["_law_plan_here"] (spFnd) := ok_Fnd FLf TW GIw GBo GLs GLi
  have GLf : Gfn l.prog w K mg base 4 "_law_found" ["_law_plan_here"] (spFnd) := ⟨_, _, oLf, hLf.k, bLf, gLf⟩
  have oLt : FnOk l.prog w K mg base CX0 4 fLt dLt ["_law_plan_here", "_law_found_here"] (spTrd) := ok_Trd FLt TT TW GIw GLg
  have GLt : Gfn l.prog w K mg base 4 "_law_tried_right" ["_law_plan_here", "_law_found_here"] (spTrd) := ⟨_, _, oLt, hLt.k, bLt, gLt⟩
  have oPa : FnOk l.prog w K mg base CX0 8 fPa dPa ["_law_pen_here", "_law_plan_here", "_law_rule_here", "_law_found_here"] (spPap K C [(PIo, qIno), (PLa, qLaw)]) := ok_Pap FPa TT TS TW m_repr GC tAl' oAl cAl GR GW ER OK ⟨_, _, oSh, hSh.k, bSh, gSh, kSh⟩ ⟨_, _, oRn, hRn.k, bRn, gRn⟩ oDr hDr.k bDr gDr GPz GPi GIw
  have GPa : Gfn l.prog w K mg base 8 "_law_papers_right" ["_law_pen_here", "_law_plan_here", "_law_rule_here", "_law_found_here"] (spPap K C [(PIo, qIno), (PLa, qLaw)]) := ⟨_, _, oPa, hPa.k, bPa, gPa⟩
  exact ok_Law (T := [(PIo, qIno), (PLa, qLaw)]) FLa TBLa iLa (uniq_of ND iLa) N TT TS TW HK FHd bHd gHd GC M oIn NK GR GW VL VK' GPe GPl GRu GLf GLt GPa oDr hDr.k bDr gDr GPi ⟨_, _, oSh, hSh.k, bSh, gSh, kSh⟩ ⟨_, _, oRn, hRn.k, bRn, gRn, kRn⟩
end K10
open PySem PySem.W PyProof.Rows
set_option maxRecDepth 100000 in
set_option maxHeartbeats 0 in
theorem PySem.Challenge.cw_layerpost_k10_rules_right_or_wrong_holds : PySem.Challenge.rw_layerpost_k10_rules_right_or_wrong.Holds := by
  w_on; o_law; k_head; (case hw => w_witness2)
  k_fill
  refine L2.walkT_of (l := PySem.Challenge.rw_layerpost_k10_rules_right_or_wrong) (n := 63) (k := 11) (x := "_law_script") (xs := ["in_order", "law"]) rfl (by decide) rfl ⟨rfl, by decide, by decide⟩ ?R (fun w h Y => PySem.W.km_in_of Y) ?F
  case R =>
    intro y hy
    simp only [List.mem_cons, List.not_mem_nil, or_false] at hy
    rcases hy with rfl | rfl <;> decide +kernel
  case F =>
    intro w mg fa h _ KX G hmg hTab
    refine' K10.all_mk KX G hmg hTab ?qaSg ?qhSg ?qaSw ?qhSw ?qaLe ?qhLe ?qaPb ?qhPb ?qaSb ?qhSb ?qaSo ?qhSo ?qaWk ?qhWk ?qaMo ?qhMo ?qaIb ?qhIb ?qaFb ?qhFb ?qaWo ?qhWo ?qaIp ?qhIp ?qaCa ?qhCa ?qaRn ?qhRn ?qaBk ?qhBk ?qaSh ?qhSh ?qaPe ?qhPe ?qaDr ?qhDr ?qaPi ?qhPi ?qaPl ?qhPl ?qaGg ?qhGg ?qaRt ?qhRt ?qaRu ?qhRu ?qaLp ?qhLp ?qaBo ?qhBo ?qaIw ?qhIw ?qaLs ?qhLs ?qaLi ?qhLi ?qaLg ?qhLg ?qaLf ?qhLf ?qaLt ?qhLt ?qaPa ?qhPa ?qaHd ?qhHd ?qaIo ?qhIo ?qaLa ?qhLa ?qnPP ?qhNT ?qaC ?qrd ?qga ?qcls ?qnfl ?qnpa ?qmakes ?qkC ?qica ?qicm ?qtyC ?qnoNoneType ?qnoint ?qnostr ?qnolist ?qnotuple ?qnodict ?qtRd ?qaIn ?qtIn ?qhIn ?qaBd ?qtBd ?qhBd ?qaFr ?qtFr ?qhFr ?qaAl ?qtAl ?qhAl ?qhRd ?qaV ?qhdV ?qtyV ?qar ?qclsr ?qnfr ?qmkr ?qkpr ?qcar ?qcmr ?qtyr ?qner ?qfir ?qsvr ?qnvr ?qnrtuple ?qnrlist ?qnrbool ?qarI ?qtrI ?qhrI ?qarB ?qtrB ?qhrB ?qarE ?qtrE ?qhrE ?qaw ?qclsw ?qnfw ?qmkw ?qkpw ?qcaw ?qcmw ?qtyw ?qnew ?qfiw ?qsvw ?qnvw ?qnwtuple ?qnwlist ?qnwbool ?qawI ?qtwI ?qhwI ?qawB ?qtwB ?qhwB ?qawE ?qtwE ?qhwE ?qsrw ?qswr ?qnrw ?qcs ?qct ?qgB ?qbB ?qdB ?qtyB ?qxL ?qxL0 ?qxR ?qxR0 ?qxT ?qxT0 ?qxT1 ?qxC ?qxC0 ?qxM ?qxM0 ?qxM1 ?qzm ?qz8 ?qzl ?qz_isinstance ?qz_int ?qz_bool ?qz_str ?qz_len ?qz_abs ?qz_list ?qz_range ?qz_tuple ?qz_divmod ?qz_enumerate ?qz_set ?qz_sorted ?qz_max ?qz_repr ?qz_any ?qz_zip
    (case qaSg => k_is)
    (case qhSg => exact ⟨⟨_, _, _, _, _, _, _, _, _, by k_is, by k_is⟩, by k_is⟩)
    (case qaSw => k_is)
    (case qhSw => exact ⟨⟨_, _, _, _, _, _, _, _, _, by k_is, by k_is⟩, by k_is⟩)
    (case qaLe => k_is)
    (case qhLe => exact ⟨⟨_, _, _, _, _, _, _, _, _, by k_is, by k_is⟩, by k_is⟩)
    (case qaPb => k_is)
    (case qhPb => exact ⟨⟨_, _, _, _, _, _, _, _, _, by k_is, by k_is⟩, by k_is⟩)
    (case qaSb => k_is)
    (case qhSb => exact ⟨⟨_, _, _, _, _, _, _, _, _, by k_is, by k_is⟩, by k_is⟩)
    (case qaSo => k_is)
    (case qhSo => exact ⟨⟨_, _, _, _, _, _, _, _, _, by k_is, by k_is⟩, by k_is⟩)
    (case qaWk => k_is)
    (case qhWk => exact ⟨⟨_, _, _, _, _, _, _, _, _, by k_is, by k_is⟩, by k_is⟩)
    (case qaMo => k_is)
    (case qhMo => exact ⟨⟨_, _, _, _, _, _, _, _, _, by k_is, by k_is⟩, by k_is⟩)
    (case qaIb => k_is)
    (case qhIb => exact ⟨⟨_, _, _, _, _, _, _, _, _, by k_is, by k_is⟩, by k_is⟩)
    (case qaFb => k_is)
    (case qhFb => exact ⟨⟨_, _, _, _, _, _, _, _, _, by k_is, by k_is⟩, by k_is⟩)
    (case qaWo => k_is)
    (case qhWo => exact ⟨⟨_, _, _, _, _, _, _, _, _, by k_is, by k_is⟩, by k_is⟩)
    (case qaIp => k_is)
    (case qhIp => exact ⟨⟨_, _, _, _, _, _, _, _, _, by k_is, by k_is⟩, by k_is⟩)
    (case qaCa => k_is)
    (case qhCa => exact ⟨⟨_, _, _, _, _, _, _, _, _, by k_is, by k_is⟩, by k_is⟩)
    (case qaRn => k_is)
    (case qhRn => exact ⟨⟨_, _, _, _, _, _, _, _, _, by k_is, by k_is⟩, by k_is⟩)
    (case qaBk => k_is)
    (case qhBk => exact ⟨⟨_, _, _, _, _, _, _, _, _, by k_is, by k_is⟩, by k_is⟩)
    (case qaSh => k_is)
    (case qhSh => exact ⟨⟨_, _, _, _, _, _, _, _, _, by k_is, by k_is⟩, by k_is⟩)
    (case qaPe => k_is)
    (case qhPe => exact ⟨⟨_, _, _, _, _, _, _, _, _, by k_is, by k_is⟩, by k_is⟩)
    (case qaDr => k_is)
    (case qhDr => exact ⟨⟨_, _, _, _, _, _, _, _, _, by k_is, by k_is⟩, by k_is⟩)
    (case qaPi => k_is)
    (case qhPi => exact ⟨⟨_, _, _, _, _, _, _, _, _, by k_is, by k_is⟩, by k_is⟩)
    (case qaPl => k_is)
    (case qhPl => exact ⟨⟨_, _, _, _, _, _, _, _, _, by k_is, by k_is⟩, by k_is⟩)
    (case qaGg => k_is)
    (case qhGg => exact ⟨⟨_, _, _, _, _, _, _, _, _, by k_is, by k_is⟩, by k_is⟩)
    (case qaRt => k_is)
    (case qhRt => exact ⟨⟨_, _, _, _, _, _, _, _, _, by k_is, by k_is⟩, by k_is⟩)
    (case qaRu => k_is)
    (case qhRu => exact ⟨⟨_, _, _, _, _, _, _, _, _, by k_is, by k_is⟩, by k_is⟩)
    (case qaLp => k_is)
    (case qhLp => exact ⟨⟨_, _, _, _, _, _, _, _, _, by k_is, by k_is⟩, by k_is⟩)
    (case qaBo => k_is)
    (case qhBo => exact ⟨⟨_, _, _, _, _, _, _, _, _, by k_is, by k_is⟩, by k_is⟩)
    (case qaIw => k_is)
    (case qhIw => exact ⟨⟨_, _, _, _, _, _, _, _, _, by k_is, by k_is⟩, by k_is⟩)
    (case qaLs => k_is)
    (case qhLs => exact ⟨⟨_, _, _, _, _, _, _, _, _, by k_is, by k_is⟩, by k_is⟩)
    (case qaLi => k_is)
    (case qhLi => exact ⟨⟨_, _, _, _, _, _, _, _, _, by k_is, by k_is⟩, by k_is⟩)
    (case qaLg => k_is)
    (case qhLg => exact ⟨⟨_, _, _, _, _, _, _, _, _, by k_is, by k_is⟩, by k_is⟩)
    (case qaLf => k_is)
    (case qhLf => exact ⟨⟨_, _, _, _, _, _, _, _, _, by k_is, by k_is⟩, by k_is⟩)
    (case qaLt => k_is)
    (case qhLt => exact ⟨⟨_, _, _, _, _, _, _, _, _, by k_is, by k_is⟩, by k_is⟩)
    (case qaPa => k_is)
    (case qhPa => exact ⟨⟨_, _, _, _, _, _, _, _, _, by k_is, by k_is⟩, by k_is⟩)
    (case qaHd => k_is)
    (case qhHd => exact ⟨⟨_, _, _, _, _, _, _, _, _, by k_is, by k_is⟩, by k_is⟩)
    (case qaIo => k_is)
    (case qhIo => exact ⟨⟨_, _, _, _, _, _, _, _, by k_is, by k_is⟩, by k_is, ⟨_, _, _, _, by k_is, rfl⟩⟩)
    (case qaLa => k_is)
    (case qhLa => exact ⟨⟨_, _, _, _, _, _, _, _, by k_is, by k_is⟩, by k_is, ⟨_, _, _, _, by k_is, rfl⟩⟩)
    (case qnPP => decide +kernel)
    (case qhNT => kernel_rfl)
    (case qaC => k_is)
    (case qrd => exact (show PySem.W.readsIn _ _ (.type "type") = true by k_is))
    (case qga => k_is)
    (case qcls => exact ⟨by k_is, by k_is, by k_is, by k_is⟩)
    (case qnfl => exact (by unfold L2.NoAttr; k_is))
    (case qnpa => exact (by unfold L2.NoAttr; k_is))
    (case qmakes => k_is)
    (case qkC => k_is)
    (case qica => k_is)
    (case qicm => k_is)
    (case qtyC => k_is)
    (case qnoNoneType => k_is)
    (case qnoint => k_is)
    (case qnostr => k_is)
    (case qnolist => k_is)
    (case qnotuple => k_is)
    (case qnodict => k_is)
    (case qtRd => exact ⟨by k_is, ⟨_, by k_is⟩, by k_is⟩)
    (case qaIn => k_is)
    (case qtIn => k_is)
    (case qhIn => exact ⟨⟨_, _, _, _, _, _, _, _, _, by k_is, by k_is⟩, by k_is⟩)
    (case qaBd => k_is)
    (case qtBd => k_is)
    (case qhBd => exact ⟨⟨_, _, _, _, _, _, _, _, _, by k_is, by k_is⟩, by k_is⟩)
    (case qaFr => k_is)
    (case qtFr => k_is)
    (case qhFr => exact ⟨⟨_, _, _, _, _, _, _, _, _, by k_is, by k_is⟩, by k_is⟩)
    (case qaAl => k_is)
    (case qtAl => k_is)
    (case qhAl => exact ⟨⟨_, _, _, _, _, _, _, _, _, by k_is, by k_is⟩, by k_is⟩)
    (case qhRd => exact ⟨⟨_, _, _, _, _, _, _, _, _, by k_is, by k_is⟩, by k_is⟩)
    (case qaV => k_is)
    (case qhdV => k_is)
    (case qtyV => k_is)
    (case qar => k_is)
    (case qclsr => exact ⟨by k_is, by k_is, by k_is, by k_is⟩)
    (case qnfr => exact (by unfold L2.NoAttr; k_is))
    (case qmkr => k_is)
    (case qkpr => k_is)
    (case qcar => k_is)
    (case qcmr => k_is)
    (case qtyr => k_is)
    (case qner => k_is)
    (case qfir => k_is)
    (case qsvr => k_is)
    (case qnvr => decide +kernel)
    (case qnrtuple => k_is)
    (case qnrlist => k_is)
    (case qnrbool => k_is)
    (case qarI => k_is)
    (case qtrI => k_is)
    (case qhrI => exact ⟨⟨_, _, _, _, _, _, _, _, _, by k_is, by k_is⟩, by k_is⟩)
    (case qarB => k_is)
    (case qtrB => k_is)
    (case qhrB => exact ⟨⟨_, _, _, _, _, _, _, _, _, by k_is, by k_is⟩, by k_is⟩)
    (case qarE => k_is)
    (case qtrE => k_is)
    (case qhrE => exact ⟨⟨_, _, _, _, _, _, _, _, _, by k_is, by k_is⟩, by k_is⟩)
    (case qaw => k_is)
    (case qclsw => exact ⟨by k_is, by k_is, by k_is, by k_is⟩)
    (case qnfw => exact (by unfold L2.NoAttr; k_is))
    (case qmkw => k_is)
    (case qkpw => k_is)
    (case qcaw => k_is)
    (case qcmw => k_is)
    (case qtyw => k_is)
    (case qnew => k_is)
    (case qfiw => k_is)
    (case qsvw => k_is)
    (case qnvw => decide +kernel)
    (case qnwtuple => k_is)
    (case qnwlist => k_is)
    (case qnwbool => k_is)
    (case qawI => k_is)
    (case qtwI => k_is)
    (case qhwI => exact ⟨⟨_, _, _, _, _, _, _, _, _, by k_is, by k_is⟩, by k_is⟩)
    (case qawB => k_is)
    (case qtwB => k_is)
    (case qhwB => exact ⟨⟨_, _, _, _, _, _, _, _, _, by k_is, by k_is⟩, by k_is⟩)
    (case qawE => k_is)
    (case qtwE => k_is)
    (case qhwE => exact ⟨⟨_, _, _, _, _, _, _, _, _, by k_is, by k_is⟩, by k_is⟩)
    (case qsrw => k_is)
    (case qswr => k_is)
    (case qnrw => decide +kernel)
    (case qcs => k_is)
    (case qct => k_is)
    (case qgB => k_is)
    (case qbB => k_is)
    (case qdB => k_is)
    (case qtyB => k_is)
    (case qxL => exact ⟨⟨by k_is, ⟨_, _, _, _, _, _, _, _, _, _, _, _, _, _, by k_is⟩, by k_is, by k_is, by k_is, by k_is, by k_is, by k_is⟩, by k_is, ⟨_, _, _, _, _, _, _, _, _, by k_is, by k_is⟩, by k_is, by k_is⟩)
    (case qxL0 => k_is)
    (case qxR => exact ⟨⟨by k_is, ⟨_, _, _, _, _, _, _, _, _, _, _, _, _, _, by k_is⟩, by k_is, by k_is, by k_is, by k_is, by k_is, by k_is⟩, by k_is, ⟨_, _, _, _, _, _, _, _, _, by k_is, by k_is⟩, by k_is, by k_is⟩)
    (case qxR0 => k_is)
    (case qxT => exact ⟨⟨by k_is, ⟨_, _, _, _, _, _, _, _, _, _, _, _, _, _, by k_is⟩, by k_is, by k_is, by k_is, by k_is, by k_is, by k_is⟩, by k_is, ⟨_, _, _, _, _, _, _, _, _, by k_is, by k_is⟩, by k_is, by k_is⟩)
    (case qxT0 => k_is)
    (case qxT1 => k_is)
    (case qxC => exact ⟨⟨by k_is, ⟨_, _, _, _, _, _, _, _, _, _, _, _, _, _, by k_is⟩, by k_is, by k_is, by k_is, by k_is, by k_is, by k_is⟩, by k_is, ⟨_, _, _, _, _, _, _, _, _, by k_is, by k_is⟩, by k_is, by k_is⟩)
    (case qxC0 => k_is)
    (case qxM => exact ⟨⟨by k_is, ⟨_, _, _, _, _, _, _, _, _, _, _, _, _, _, by k_is⟩, by k_is, by k_is, by k_is, by k_is, by k_is, by k_is⟩, by k_is, ⟨_, _, _, _, _, _, _, _, _, by k_is, by k_is⟩, by k_is, by k_is⟩)
    (case qxM0 => k_is)
    (case qxM1 => k_is)
    (case qzm => exact ⟨_, by k_is⟩)
    (case qz8 => exact ⟨_, by k_is⟩)
    (case qzl => exact ⟨_, by k_is⟩)
    (case qz_isinstance => k_is)
    (case qz_int => k_is)
    (case qz_bool => k_is)
    (case qz_str => k_is)
    (case qz_len => k_is)
    (case qz_abs => k_is)
    (case qz_list => k_is)
    (case qz_range => k_is)
    (case qz_tuple => k_is)
    (case qz_divmod => k_is)
    (case qz_enumerate => k_is)
    (case qz_set => k_is)
    (case qz_sorted => k_is)
    (case qz_max => k_is)
    (case qz_repr => k_is)
    (case qz_any => k_is)
    (case qz_zip => k_is)
