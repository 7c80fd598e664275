import PyProof.Rows.All
import Wide.All
import OpenK.AllK
import Wide.FinOn
import HandS.ForMost
import HandS.Evl
import HandS.Wide
import HandS.IsInst
import HandS.StrMore
import HandS.Defaults
import HandS.TupAny
import HandS.Conv
import HandS.Walk
import HandS.Gcd
import KE.KMathGC
import PyProof.AssignAttr
import HandS.ClsMeth
import HandS.Star
import HandS.SlotsOwn
import HandS.OwnEq
import KE.KOpsOwn
import HandS.RaiseMore
import HandS.Codes
import KE.KCallOwn
import HandS.Text
import HandS.Style
import HandS.Iter
import PySem.Challenge.RW_layerpost_k05_whole_growths_of_growths
set_option Elab.async false
set_option linter.all false
set_option maxRecDepth 100000
set_option maxHeartbeats 8000000
/-! sequences that come round: periods, borders of a row, the least period, the normal form of a growth -/
namespace Gr
/-! ### periods of a sequence -/
def Pd {α : Type} (d : Nat → α) (q : Nat) : Prop := ∀ k, d (k + q) = d k
section
variable {α : Type} {d : Nat → α} {p q n : Nat}
theorem Pd.zero : Pd d 0 := fun _ => rfl
theorem Pd.mul (h : Pd d q) : ∀ j k, d (k + j * q) = d k
  | 0, k => by rw [Nat.zero_mul, Nat.add_zero]
  | j + 1, k => by rw [Nat.succ_mul, ← Nat.add_assoc, h, Pd.mul h j]
theorem Pd.mod (h : Pd d q) (k : Nat) : d (k % q) = d k := by
  have e := Nat.mod_add_div k q
  rw [Nat.mul_comm] at e
  have := Pd.mul h (k / q) (k % q)
  rw [e] at this
  exact this.symm
theorem Pd.sub (hp : Pd d p) (hq : Pd d q) (h : p ≤ q) : Pd d (q - p) := fun k => by
  have e : k + (q - p) + p = k + q := by omega
  rw [← hp (k + (q - p)), e, hq]
theorem Pd.rem (hp : Pd d p) (hq : Pd d q) : Pd d (q % p) := fun k => by
  have e : k + q % p + q / p * p = k + q := by
    have := Nat.mod_add_div q p
    rw [Nat.mul_comm] at this
    omega
  rw [← Pd.mul hp (q / p) (k + q % p), e, hq]
theorem Pd.gcd : ∀ (p q : Nat), Pd d p → Pd d q → Pd d (Nat.gcd p q) := by
  intro p
  induction p using Nat.strongRecOn with
  | ind p ih =>
    intro q hp hq
    rcases Nat.eq_zero_or_pos p with h | h
    · rw [h, Nat.gcd_zero_left]
      exact hq
    · rw [Nat.gcd_rec]
      exact ih (q % p) (Nat.mod_lt _ h) p (hp.rem hq) hp
/-- the least one -/
structure Least (d : Nat → α) (p : Nat) : Prop where
  pos : 0 < p
  pd : Pd d p
  le : ∀ q, 0 < q → Pd d q → p ≤ q
end
/-! ### rows -/
def at' (g : List Int) (i : Nat) : Int := g.getD i 0
/-- the row, again and again -/
def dif (g : List Int) (k : Nat) : Int := at' g (k % g.length)
/-- within the row what stands p further on is the same -/
def Per (g : List Int) (p : Nat) : Prop := ∀ i, i + p < g.length → at' g (i + p) = at' g i
section
variable {g : List Int} {p q : Nat}
theorem dif_pd : Pd (dif g) g.length := fun k => by unfold dif; rw [Nat.add_mod_right]
theorem dif_lt {k : Nat} (h : k < g.length) : dif g k = at' g k := by unfold dif; rw [Nat.mod_eq_of_lt h]
theorem Pd.per (h : Pd (dif g) p) : Per g p := fun i hi => by
  have := h i
  rwa [dif_lt hi, dif_lt (by omega)] at this
theorem Per.mul (h : Per g p) : ∀ j i, i + j * p < g.length → at' g (i + j * p) = at' g i
  | 0, i, _ => by rw [Nat.zero_mul, Nat.add_zero]
  | j + 1, i, hi => by
    rw [Nat.succ_mul, ← Nat.add_assoc] at hi ⊢
    rw [h _ hi, Per.mul h j i (by omega)]
theorem Per.pd (h : Per g p) (hp : 0 < p) (hd : p ∣ g.length) (hn : 0 < g.length) : Pd (dif g) p := fun k => by
  obtain ⟨c, hc⟩ := hd
  have hr : k % g.length < g.length := Nat.mod_lt _ hn
  unfold dif
  rw [Nat.add_mod]
  generalize k % g.length = r at hr
  have hpn : p ≤ g.length := by
    rcases c with _ | c
    · rw [Nat.mul_zero] at hc; omega
    · rw [hc]; exact Nat.le_mul_of_pos_right p (Nat.succ_pos c)
  rcases Nat.lt_or_ge p g.length with h1 | h1
  · rw [Nat.mod_eq_of_lt h1]
    rcases Nat.lt_or_ge (r + p) g.length with h2 | h2
    · rw [Nat.mod_eq_of_lt h2]
      exact h r h2
    · rw [Nat.mod_eq_sub_mod h2, Nat.mod_eq_of_lt (by omega)]
      rcases c with _ | c
      · rw [Nat.mul_zero] at hc; omega
      have e : r + p - g.length + c * p = r := by
        have : p * (c + 1) = c * p + p := by rw [Nat.mul_comm, Nat.succ_mul]
        omega
      have z := h.mul c (r + p - g.length) (by rw [e]; exact hr)
      rw [e] at z
      exact z.symm
  · have e : p = g.length := Nat.le_antisymm hpn h1
    rw [e, Nat.mod_self, Nat.add_zero, Nat.mod_eq_of_lt hr]
end
/-! ### borders: the longest one of each beginning -/
/-- w signs at the end of the first m are the first w -/
def Bd (g : List Int) (m w : Nat) : Prop := w < m ∧ ∀ i, i < w → at' g (m - w + i) = at' g i
structure Lb (g : List Int) (m w : Nat) : Prop where
  bd : Bd g m w
  top : ∀ v, Bd g m v → v ≤ w
section
variable {g : List Int} {m w v : Nat}
theorem bd_zero (h : 0 < m) : Bd g m 0 := ⟨h, fun i hi => absurd hi (Nat.not_lt_zero i)⟩
theorem lb_one : Lb g 1 0 := ⟨bd_zero Nat.one_pos, fun v h => by have := h.1; omega⟩
theorem bd_succ : Bd g (m + 1) (v + 1) ↔ Bd g m v ∧ at' g m = at' g v := by
  constructor
  · rintro ⟨h, a⟩
    have hv : v < m := by omega
    refine ⟨⟨hv, fun i hi => ?_⟩, ?_⟩
    · have := a i (by omega)
      rwa [show m + 1 - (v + 1) + i = m - v + i by omega] at this
    · have := a v (by omega)
      rwa [show m + 1 - (v + 1) + v = m by omega] at this
  · rintro ⟨⟨h, a⟩, e⟩
    refine ⟨by omega, fun i hi => ?_⟩
    rw [show m + 1 - (v + 1) + i = m - v + i by omega]
    rcases Nat.lt_or_ge i v with h1 | h1
    · exact a i h1
    · have : i = v := by omega
      subst this
      rw [show m - i + i = m by omega]
      exact e
/-- a border of a border, and the other way round -/
theorem bd_trans (h : Bd g m w) (h2 : Bd g w v) : Bd g m v := by
  refine ⟨Nat.lt_trans h2.1 h.1, fun i hi => ?_⟩
  have := h.2 (w - v + i) (by have := h2.1; omega)
  rw [show m - w + (w - v + i) = m - v + i by have := h.1; have := h2.1; omega] at this
  rw [this]
  exact h2.2 i hi
theorem bd_down (h : Bd g m w) (h2 : Bd g m v) (hv : v < w) : Bd g w v := by
  refine ⟨hv, fun i hi => ?_⟩
  have a := h.2 (w - v + i) (by omega)
  rw [show m - w + (w - v + i) = m - v + i by have := h.1; omega] at a
  rw [← a]
  exact h2.2 i hi
/-- what the search for the next border keeps: a border, and none that goes on is longer -/
def Srch (g : List Int) (m w : Nat) : Prop := Bd g m w ∧ ∀ v, Bd g m v → at' g m = at' g v → v ≤ w
theorem srch_start (h : Lb g m w) : Srch g m w := ⟨h.bd, fun v b _ => h.top v b⟩
theorem srch_step (h : Srch g m w) (hw : 0 < w) (hne : at' g m ≠ at' g w) {w' : Nat} (b : Lb g w w') : Srch g m w' ∧ w' < w :=
  ⟨⟨bd_trans h.1 b.bd, fun v hv e => by
    have h1 := h.2 v hv e
    have h2 : v ≠ w := fun z => hne (z ▸ e)
    exact b.top v (bd_down h.1 hv (by omega))⟩, b.bd.1⟩
theorem srch_yes (h : Srch g m w) (e : at' g m = at' g w) : Lb g (m + 1) (w + 1) := by
  refine ⟨bd_succ.mpr ⟨h.1, e⟩, fun v hv => ?_⟩
  rcases v with _ | v
  · exact Nat.zero_le _
  · obtain ⟨a, b⟩ := bd_succ.mp hv
    exact Nat.succ_le_succ (h.2 v a b)
theorem srch_no (h : Srch g m 0) (e : at' g m ≠ at' g 0) : Lb g (m + 1) 0 := by
  refine ⟨bd_zero (Nat.succ_pos m), fun v hv => ?_⟩
  rcases v with _ | v
  · exact Nat.le_refl _
  · obtain ⟨a, b⟩ := bd_succ.mp hv
    have : v = 0 := Nat.le_zero.mp (h.2 v a b)
    subst this
    exact absurd b e
end
/-! ### the least period of a row, by its longest border -/
section
variable {g : List Int} {b : Nat}
theorem Per.bd {p : Nat} (h : Per g p) (hp : 0 < p) (hn : p ≤ g.length) : Bd g g.length (g.length - p) := by
  refine ⟨by omega, fun i hi => ?_⟩
  have := h i (by omega)
  rw [show g.length - (g.length - p) + i = i + p by omega]
  exact this
theorem Bd.per (h : Bd g g.length b) : Per g (g.length - b) := fun i hi => by
  have := h.2 i (by have := h.1; omega)
  rwa [Nat.add_comm] at this
theorem least_of (hn : 0 < g.length) (h : Lb g g.length b) : Least (dif g) (if g.length % (g.length - b) = 0 then g.length - b else g.length) := by
  have hb := h.bd.1
  have hq : 0 < g.length - b := by omega
  have per := h.bd.per
  have top : ∀ p, 0 < p → p ≤ g.length → Per g p → g.length - b ≤ p := fun p hp hpn pp => by
    have := h.top _ (pp.bd hp hpn)
    omega
  -- each period of the endless row has a divisor of the length below it that is one too
  have down : ∀ q, 0 < q → Pd (dif g) q → ∃ c, 0 < c ∧ c ∣ g.length ∧ c ≤ q ∧ c ≤ g.length ∧ Pd (dif g) c := fun q hq0 hqd =>
    ⟨Nat.gcd q g.length, Nat.gcd_pos_of_pos_left _ hq0, Nat.gcd_dvd_right _ _, Nat.gcd_le_left _ hq0, Nat.gcd_le_right _ hn, Pd.gcd q g.length hqd dif_pd⟩
  by_cases e : g.length % (g.length - b) = 0
  · rw [if_pos e]
    refine ⟨hq, per.pd hq (Nat.dvd_of_mod_eq_zero e) hn, fun q hq0 hqd => ?_⟩
    obtain ⟨c, c0, _, cq, cn, cd⟩ := down q hq0 hqd
    exact Nat.le_trans (top c c0 cn cd.per) cq
  · rw [if_neg e]
    refine ⟨hn, dif_pd, fun q hq0 hqd => ?_⟩
    obtain ⟨c, c0, cv, cq, cn, cd⟩ := down q hq0 hqd
    rcases Nat.lt_or_ge c g.length with h1 | h1
    · exfalso
      have h2 : g.length - b ≤ c := top c c0 cn cd.per
      obtain ⟨z, hz⟩ := cv
      have h3 : c + c ≤ g.length := by
        rcases z with _ | _ | z
        · rw [Nat.mul_zero] at hz; omega
        · rw [Nat.mul_one] at hz; omega
        · rw [hz, show z + 1 + 1 = z + 2 from rfl, Nat.mul_add, Nat.mul_two]; omega
      have pd : Pd (dif g) (g.length - b) := fun k => by
        have r : k % c < c := Nat.mod_lt _ c0
        have a : dif g (k % c) = dif g k := cd.mod k
        have a2 : dif g (k + (g.length - b)) = dif g (k % c + (g.length - b)) := by
          have e1 := Nat.mod_add_div k c
          rw [Nat.mul_comm] at e1
          have := cd.mul (k / c) (k % c + (g.length - b))
          rw [show k % c + (g.length - b) + k / c * c = k + (g.length - b) by omega] at this
          exact this
        rw [a2, ← a, dif_lt (by omega), dif_lt (by omega)]
        exact per _ (by omega)
      have q2 := Pd.gcd (g.length - b) g.length pd dif_pd
      have g0 : 0 < Nat.gcd (g.length - b) g.length := Nat.gcd_pos_of_pos_left _ hq
      have l1 := top _ g0 (Nat.gcd_le_right _ hn) q2.per
      have l2 := Nat.gcd_le_left (g.length) hq
      have e2 : Nat.gcd (g.length - b) g.length = g.length - b := Nat.le_antisymm l2 l1
      exact e (Nat.mod_eq_zero_of_dvd (e2 ▸ Nat.gcd_dvd_right (g.length - b) g.length))
    · exact Nat.le_trans h1 cq
end
end Gr
namespace Gr
/-! ### sums of beginnings -/
def acc (d : Nat → Int) : Nat → Int
  | 0 => 0
  | n + 1 => acc d n + d n
theorem acc_add (d : Nat → Int) (m : Nat) : ∀ n, acc d (m + n) = acc d m + acc (fun k => d (m + k)) n
  | 0 => by rw [Nat.add_zero]; exact (Int.add_zero _).symm
  | n + 1 => by
    rw [← Nat.add_assoc]
    show acc d (m + n) + d (m + n) = acc d m + (acc _ n + d (m + n))
    rw [acc_add d m n, Int.add_assoc]
theorem acc_congr {d e : Nat → Int} : ∀ n, (∀ k, k < n → d k = e k) → acc d n = acc e n
  | 0, _ => rfl
  | n + 1, h => by
    show acc d n + d n = acc e n + e n
    rw [acc_congr n fun k hk => h k (by omega), h n (Nat.lt_succ_self n)]
theorem acc_mul {d : Nat → Int} {p : Nat} (h : Pd d p) : ∀ j r, acc d (j * p + r) = j * acc d p + acc d r
  | 0, r => by rw [Nat.zero_mul, Nat.zero_add]; show acc d r = ((0 : Nat) : Int) * _ + _; rw [Int.natCast_zero, Int.zero_mul, Int.zero_add]
  | j + 1, r => by
    rw [Nat.succ_mul, show j * p + p + r = p + (j * p + r) by omega, acc_add]
    rw [acc_congr (e := d) (j * p + r) fun k _ => by rw [Nat.add_comm p k]; exact h k]
    rw [acc_mul h j r]
    rw [show ((j + 1 : Nat) : Int) = (j : Int) + 1 from rfl, Int.add_mul, Int.one_mul]
    omega
/-! ### growths -/
/-- the last one of a row -/
def lst (t : List Int) : Int := at' t (t.length - 1)
/-- the value at a number, by told values and gains -/
def val (t g : List Int) (n : Nat) : Int := if n < t.length then at' t n else lst t + acc (dif g) (n - t.length + 1)
section
variable {t t' g g' : List Int} {n : Nat}
theorem val_lt (h : n < t.length) : val t g n = at' t n := if_pos h
/-- from the last told value on -/
theorem val_ge (h0 : 0 < t.length) (k : Nat) : val t g (t.length - 1 + k) = lst t + acc (dif g) k := by
  unfold val
  rcases Nat.eq_zero_or_pos k with h | h
  · subst h
    rw [if_pos (by omega)]
    show at' t (t.length - 1 + 0) = lst t + 0
    rw [Int.add_zero]
    rfl
  · rw [if_neg (by omega), show t.length - 1 + k - t.length + 1 = k by omega]
theorem val_step (h0 : 0 < t.length) (k : Nat) : val t g (t.length - 1 + k + 1) - val t g (t.length - 1 + k) = dif g k := by
  rw [Nat.add_assoc, val_ge h0, val_ge h0]
  show lst t + (acc (dif g) k + dif g k) - (lst t + acc (dif g) k) = dif g k
  omega
/-- the rounds taken at once -/
theorem val_far (h0 : 0 < t.length) (hn : t.length ≤ n) : val t g n = lst t + ((n - t.length + 1) / g.length : Nat) * acc (dif g) g.length + acc (dif g) ((n - t.length + 1) % g.length) := by
  unfold val
  rw [if_neg (by omega)]
  have e := Nat.mod_add_div (n - t.length + 1) g.length
  rw [Nat.mul_comm, Nat.add_comm] at e
  rw [← e, acc_mul dif_pd, e, Int.add_assoc]
/-- the normal form -/
structure NF (t g : List Int) : Prop where
  told : 0 < t.length
  gains : 0 < g.length
  least : Least (dif g) g.length
  few : t.length = 1 ∨ at' t (t.length - 1) - at' t (t.length - 2) ≠ lst g
/-- by how much the values rise -/
def rise (t g : List Int) (n : Nat) : Int := val t g (n + 1) - val t g n
theorem rise_ge (h0 : 0 < t.length) (h : t.length - 1 ≤ n) : rise t g n = dif g (n - (t.length - 1)) := by
  have := val_step (g := g) h0 (n - (t.length - 1))
  rwa [show t.length - 1 + (n - (t.length - 1)) = n by omega] at this
/-- the number of gains is the least number by which the rises come round at last -/
theorem least_end (h : NF t g) {q : Nat} (hq : 0 < q) {m : Nat} (hm : ∀ n, m ≤ n → rise t g (n + q) = rise t g n) : g.length ≤ q := by
  refine h.least.le q hq fun k => ?_
  have a := hm (t.length - 1 + (k + m * g.length)) (by have : m ≤ m * g.length := Nat.le_mul_of_pos_right m h.gains; omega)
  rw [rise_ge h.told (by omega), rise_ge h.told (by omega)] at a
  rw [show t.length - 1 + (k + m * g.length) + q - (t.length - 1) = k + q + m * g.length by omega, show t.length - 1 + (k + m * g.length) - (t.length - 1) = k + m * g.length by omega] at a
  rwa [dif_pd.mul, dif_pd.mul] at a
theorem end_pd (h : NF t g) (n : Nat) (hn : t.length - 1 ≤ n) : rise t g (n + g.length) = rise t g n := by
  rw [rise_ge h.told (by omega), rise_ge h.told hn, show n + g.length - (t.length - 1) = n - (t.length - 1) + g.length by omega]
  exact dif_pd _
theorem at_eq_of {a b : List Int} (hl : a.length = b.length) (h : ∀ i, i < a.length → at' a i = at' b i) : a = b := by
  refine List.ext_getElem? fun i => ?_
  rcases Nat.lt_or_ge i a.length with h1 | h1
  · have := h i h1
    unfold at' at this
    rw [List.getD_eq_getElem?_getD, List.getD_eq_getElem?_getD] at this
    rw [List.getElem?_eq_getElem h1, List.getElem?_eq_getElem (hl ▸ h1)] at this ⊢
    exact congrArg some this
  · rw [List.getElem?_eq_none h1, List.getElem?_eq_none (hl ▸ h1)]
theorem told_le (h : NF t g) (h' : NF t' g') (e : ∀ n, val t g n = val t' g' n) (eg : g.length = g'.length) : t'.length ≤ t.length := by
  rcases Nat.lt_or_ge t.length t'.length with hl | hl
  · exfalso
    have re : ∀ n, rise t g n = rise t' g' n := fun n => by unfold rise; rw [e, e]
    rcases h'.few with z | z
    · have := h.told; omega
    · apply z
      have t0 := h.told
      have a : rise t' g' (t'.length - 2) = at' t' (t'.length - 1) - at' t' (t'.length - 2) := by
        unfold rise
        rw [show t'.length - 2 + 1 = t'.length - 1 by omega, val_lt (by omega), val_lt (by omega)]
      have b : rise t' g' (t'.length - 2 + g.length) = lst g' := by
        have g0 := h.gains
        rw [rise_ge h'.told (by omega), show t'.length - 2 + g.length - (t'.length - 1) = g'.length - 1 by omega, dif_lt (by omega)]
        rfl
      rw [← a, ← b, ← re, ← re]
      exact (end_pd h _ (by omega)).symm
  · exact hl
/-- one normal form -/
theorem nf_one (h : NF t g) (h' : NF t' g') (e : ∀ n, val t g n = val t' g' n) : t = t' ∧ g = g' := by
  have re : ∀ n, rise t g n = rise t' g' n := fun n => by unfold rise; rw [e, e]
  have l1 : g.length ≤ g'.length := least_end h h'.gains (m := t'.length - 1) fun n hn => by rw [re, re]; exact end_pd h' n hn
  have l2 : g'.length ≤ g.length := least_end h' h.gains (m := t.length - 1) fun n hn => by rw [← re, ← re]; exact end_pd h n hn
  have eg : g.length = g'.length := Nat.le_antisymm l1 l2
  have et : t.length = t'.length := Nat.le_antisymm (told_le h' h (fun n => (e n).symm) eg.symm) (told_le h h' e eg)
  refine ⟨at_eq_of et fun i hi => ?_, at_eq_of eg fun i hi => ?_⟩
  · have := e i
    rwa [val_lt hi, val_lt (et ▸ hi)] at this
  · have a := rise_ge (g := g) h.told (n := t.length - 1 + i) (by omega)
    have b := rise_ge (g := g') h'.told (n := t.length - 1 + i) (by omega)
    rw [re, b, show t.length - 1 + i - (t.length - 1) = i by omega, show t.length - 1 + i - (t'.length - 1) = i by omega, dif_lt hi, dif_lt (eg ▸ hi)] at a
    exact a.symm
end
/-! ### told values that the gains give anyway -/
section
variable {t g : List Int} {s : Nat}
/-- the gain that would be i steps ahead of the first one -/
def back (g : List Int) (s : Nat) : Int := at' g (g.length - 1 - s % g.length)
/-- the last s told values are those that the gains give -/
def Spr (t g : List Int) (s : Nat) : Prop := s < t.length ∧ ∀ i, i < s → at' t (t.length - 1 - i) - at' t (t.length - 1 - i - 1) = back g i
theorem spr_zero (h : 0 < t.length) : Spr t g 0 := ⟨h, fun i hi => absurd hi (Nat.not_lt_zero i)⟩
theorem spr_step (h : Spr t g s) (hs : s < t.length - 1) (e : at' t (t.length - 1 - s) - at' t (t.length - 1 - s - 1) = back g s) : Spr t g (s + 1) :=
  ⟨by omega, fun i hi => by
    rcases Nat.lt_or_ge i s with z | z
    · exact h.2 i z
    · rw [show i = s by omega]
      exact e⟩
/-- told values and gains without the last s told values -/
def cutT (t : List Int) (s : Nat) : List Int := t.take (t.length - s)
def cutG (g : List Int) (s : Nat) : List Int := g.drop (g.length - s % g.length) ++ g.take (g.length - s % g.length)
theorem cutT_len (hs : s < t.length) : (cutT t s).length = t.length - s := by
  unfold cutT
  rw [List.length_take]
  omega
theorem cutG_len : (cutG g s).length = g.length := by
  unfold cutG
  rw [List.length_append, List.length_drop, List.length_take]
  omega
theorem at_take {l : List Int} {n i : Nat} (h : i < n) : at' (l.take n) i = at' l i := by
  unfold at'
  rw [List.getD_eq_getElem?_getD, List.getD_eq_getElem?_getD, List.getElem?_take_of_lt h]
theorem at_drop {l : List Int} {n i : Nat} : at' (l.drop n) i = at' l (n + i) := by
  unfold at'
  rw [List.getD_eq_getElem?_getD, List.getD_eq_getElem?_getD, List.getElem?_drop]
theorem at_app {a b : List Int} {i : Nat} : at' (a ++ b) i = if i < a.length then at' a i else at' b (i - a.length) := by
  unfold at'
  rw [List.getD_eq_getElem?_getD, List.getD_eq_getElem?_getD, List.getD_eq_getElem?_getD]
  by_cases h : i < a.length
  · rw [if_pos h, List.getElem?_append_left h]
  · rw [if_neg h, List.getElem?_append_right (by omega)]
/-- the gains turned: each one s places later -/
theorem dif_cut (hg : 0 < g.length) (k : Nat) : dif (cutG g s) (k + s) = dif g k := by
  have hr : s % g.length < g.length := Nat.mod_lt _ hg
  have hk : k % g.length < g.length := Nat.mod_lt _ hg
  unfold dif
  rw [cutG_len, Nat.add_mod]
  unfold cutG
  generalize s % g.length = r at hr ⊢
  generalize k % g.length = q at hk ⊢
  rw [at_app, List.length_drop, show g.length - (g.length - r) = r by omega]
  rcases Nat.lt_or_ge (q + r) g.length with h | h
  · rw [Nat.mod_eq_of_lt h, if_neg (by omega), at_take (by omega), show q + r - r = q by omega]
  · rw [Nat.mod_eq_sub_mod h, Nat.mod_eq_of_lt (by omega), if_pos (by omega), at_drop, show g.length - r + (q + r - g.length) = q by omega]
theorem dif_cut' (hg : 0 < g.length) {k : Nat} (h : s ≤ k) : dif (cutG g s) k = dif g (k - s) := by
  have := dif_cut (s := s) hg (k - s)
  rwa [show k - s + s = k by omega] at this
/-- the gain i places ahead of the first one, told of the turned ones -/
theorem back_cut (hg : 0 < g.length) {i : Nat} (hi : i < s) : dif (cutG g s) (s - 1 - i) = back g i := by
  have p := (dif_pd (g := cutG g s)).mul (i + 1) (s - 1 - i)
  rw [cutG_len] at p
  rw [← p, dif_cut' hg (by have : i + 1 ≤ (i + 1) * g.length := Nat.le_mul_of_pos_right _ hg; omega)]
  unfold dif back
  congr 1
  have hr : i % g.length < g.length := Nat.mod_lt _ hg
  have e := Nat.mod_add_div i g.length
  generalize i % g.length = r at hr e ⊢
  generalize i / g.length = c at e
  have e3 : (i + 1) * g.length = i * g.length + g.length := by rw [Nat.add_mul, Nat.one_mul]
  have e5 : c * g.length = g.length * c := Nat.mul_comm _ _
  have i0 : i ≤ i * g.length := Nat.le_mul_of_pos_right _ hg
  have cl : c ≤ i := by
    have := Nat.le_mul_of_pos_left c hg
    omega
  -- the number of whole rounds left
  have e4 : s - 1 - i + (i + 1) * g.length - s = g.length - 1 - r + (i - c) * g.length := by
    have : (i - c) * g.length = i * g.length - c * g.length := Nat.sub_mul _ _ _
    have le2 : c * g.length ≤ i * g.length := Nat.mul_le_mul_right _ cl
    omega
  rw [e4, Nat.add_mul_mod_self_right, Nat.mod_eq_of_lt (by omega)]
theorem back_zero (hg : 0 < g.length) : back g 0 = lst g := by
  unfold back lst
  rw [Nat.zero_mod, Nat.sub_zero]
/-- what stands s places ahead of the last told value, by the gains -/
theorem spr_told (h : Spr t g s) : ∀ i, i ≤ s → at' t (t.length - 1 - s + i) = lst (cutT t s) + acc (fun k => back g (s - 1 - k)) i
  | 0, _ => by
    have := h.1
    show _ = lst (cutT t s) + 0
    unfold lst
    rw [cutT_len h.1, Int.add_zero]
    unfold cutT
    rw [at_take (by omega), Nat.add_zero, show t.length - s - 1 = t.length - 1 - s by omega]
  | i + 1, hi => by
    have h1 := h.1
    have a := spr_told h i (by omega)
    have b := h.2 (s - 1 - i) (by omega)
    rw [show t.length - 1 - (s - 1 - i) = t.length - 1 - s + (i + 1) by omega, show t.length - 1 - s + (i + 1) - 1 = t.length - 1 - s + i by omega, a] at b
    show _ = lst (cutT t s) + (acc _ i + back g (s - 1 - i))
    omega
/-- the same values -/
theorem val_cut (hg : 0 < g.length) (h : Spr t g s) (n : Nat) : val (cutT t s) (cutG g s) n = val t g n := by
  have h1 := h.1
  have len := cutT_len (t := t) h1
  rcases Nat.lt_or_ge n (t.length - s) with a | a
  · rw [val_lt (by omega), val_lt (by omega)]
    unfold cutT
    rw [at_take a]
  · obtain ⟨k, rfl⟩ : ∃ k, n = t.length - s - 1 + k := ⟨n - (t.length - s - 1), by omega⟩
    have v := val_ge (g := cutG g s) (t := cutT t s) (by omega) k
    rw [len] at v
    rw [v]
    have b : ∀ i, i < s → dif (cutG g s) i = back g (s - 1 - i) := fun i hi => by
      have := back_cut (g := g) (s := s) hg (i := s - 1 - i) (by omega)
      rwa [show s - 1 - (s - 1 - i) = i by omega] at this
    rcases Nat.lt_or_ge k (s + 1) with c | c
    · rw [val_lt (by omega), show t.length - s - 1 + k = t.length - 1 - s + k by omega, spr_told h k (by omega), acc_congr k fun i hi => b i (by omega)]
    · obtain ⟨j, rfl⟩ : ∃ j, k = s + j := ⟨k - s, by omega⟩
      rw [acc_add, acc_congr s b, acc_congr (e := dif g) j fun i _ => by rw [Nat.add_comm s i]; exact dif_cut hg i]
      have l := spr_told h s (Nat.le_refl s)
      rw [show t.length - 1 - s + s = t.length - 1 by omega] at l
      rw [show t.length - s - 1 + (s + j) = t.length - 1 + j by omega, val_ge (by omega)]
      unfold lst at l ⊢
      rw [l]
      omega
theorem least_cut (hg : 0 < g.length) (h : Least (dif g) g.length) : Least (dif (cutG g s)) (cutG g s).length := by
  refine ⟨by rw [cutG_len]; exact hg, dif_pd, fun q hq hp => ?_⟩
  rw [cutG_len]
  refine h.le q hq fun k => ?_
  have := hp (k + s)
  rw [show k + s + q = k + q + s by omega, dif_cut hg, dif_cut hg] at this
  exact this
/-- the search of told values has come to its end: the normal form -/
theorem nf_cut (hg : 0 < g.length) (l : Least (dif g) g.length) (h : Spr t g s) (e : s = t.length - 1 ∨ at' t (t.length - 1 - s) - at' t (t.length - 1 - s - 1) ≠ back g s) : NF (cutT t s) (cutG g s) := by
  have h1 := h.1
  have len := cutT_len (t := t) h1
  refine ⟨by omega, by rw [cutG_len]; exact hg, least_cut hg l, ?_⟩
  rcases e with e | e
  · left
    omega
  · by_cases z : t.length - s = 1
    · left
      omega
    · right
      rw [len]
      unfold cutT
      rw [at_take (by omega), at_take (by omega), show t.length - s - 1 = t.length - 1 - s by omega, show t.length - s - 2 = t.length - 1 - s - 1 by omega]
      have q : lst (cutG g s) = back g s := by
        have a := back_cut (g := g) (s := s + 1) hg (i := s) (Nat.lt_succ_self s)
        have r : dif (cutG g (s + 1)) (s + 1 - 1 - s) = dif (cutG g s) (g.length - 1) := by
          rw [show s + 1 - 1 - s = 0 by omega]
          have p := (dif_pd (g := cutG g (s + 1))).mul (s + 1) 0
          rw [cutG_len] at p
          have m : s + 1 ≤ (s + 1) * g.length := Nat.le_mul_of_pos_right _ hg
          rw [← p, dif_cut' hg (by omega)]
          have p2 := (dif_pd (g := cutG g s)).mul s (g.length - 1)
          rw [cutG_len] at p2
          have m2 : s ≤ s * g.length := Nat.le_mul_of_pos_right _ hg
          have e3 : (s + 1) * g.length = s * g.length + g.length := by rw [Nat.add_mul, Nat.one_mul]
          rw [← p2, dif_cut' hg (by omega)]
          congr 1
          omega
        rw [r, dif_lt (by rw [cutG_len]; omega)] at a
        unfold lst
        rw [cutG_len]
        exact a
      rw [q]
      exact e
end
end Gr
namespace Gr
/-! ### told values and gains of a sequence that rises in rounds at last -/
section
variable {f : Nat → Int} {b l : Nat}
def pT (f : Nat → Int) (b : Nat) : List Int := (List.range b).map f
def pG (f : Nat → Int) (b l : Nat) : List Int := (List.range l).map fun k => f (b + k) - f (b + k - 1)
theorem pT_len : (pT f b).length = b := by unfold pT; rw [List.length_map, List.length_range]
theorem pG_len : (pG f b l).length = l := by unfold pG; rw [List.length_map, List.length_range]
theorem at_map_range {h : Nat → Int} {n i : Nat} (hi : i < n) : at' ((List.range n).map h) i = h i := by
  unfold at'
  rw [List.getD_eq_getElem?_getD, List.getElem?_map, List.getElem?_range hi]
  rfl
theorem val_parted (hb : 0 < b) (hl : 0 < l) (h : ∀ n, b - 1 ≤ n → f (n + l + 1) - f (n + l) = f (n + 1) - f n) (n : Nat) : val (pT f b) (pG f b l) n = f n := by
  have lt := pT_len (f := f) (b := b)
  have lg := pG_len (f := f) (b := b) (l := l)
  rcases Nat.lt_or_ge n b with a | a
  · rw [val_lt (by omega)]
    exact at_map_range a
  · obtain ⟨k, rfl⟩ : ∃ k, n = b - 1 + k := ⟨n - (b - 1), by omega⟩
    have v := val_ge (t := pT f b) (g := pG f b l) (by omega) k
    rw [lt] at v
    rw [v]
    have d : ∀ i, dif (pG f b l) i = f (b - 1 + i + 1) - f (b - 1 + i) := fun i => by
      unfold dif
      rw [lg]
      have hi : i % l < l := Nat.mod_lt _ hl
      have e : at' (pG f b l) (i % l) = f (b + i % l) - f (b + i % l - 1) := at_map_range hi
      rw [e, show b + i % l = b - 1 + i % l + 1 by omega, Nat.add_sub_cancel]
      have p : Pd (fun i => f (b - 1 + i + 1) - f (b - 1 + i)) l := fun i => by
        have := h (b - 1 + i) (by omega)
        rw [show b - 1 + i + l = b - 1 + (i + l) by omega] at this
        exact this
      exact p.mod i
    have la : lst (pT f b) = f (b - 1) := by
      unfold lst
      rw [lt]
      exact at_map_range (by omega)
    rw [la]
    clear v
    induction k with
    | zero => show f (b - 1) + 0 = f (b - 1 + 0); rw [Int.add_zero, Nat.add_zero]
    | succ k ih =>
      show f (b - 1) + (acc _ k + dif (pG f b l) k) = f (b - 1 + (k + 1))
      have ih' : f (b - 1) + acc (dif (pG f b l)) k = f (b - 1 + k) := by
        rcases Nat.lt_or_ge (b - 1 + k) b with c | c
        · have : k = 0 := by omega
          subst this
          show f (b - 1) + 0 = f (b - 1 + 0)
          rw [Int.add_zero, Nat.add_zero]
        · exact ih c
      rw [d k, ← Int.add_assoc, ih', ← Nat.add_assoc]
      omega
end
/-! ### sums -/
section
variable {t g t' g' : List Int}
/-- rises of a growth come round behind its told values, by each number of which its gains are a divisor -/
theorem rise_pd (h0 : 0 < t.length) {l n : Nat} (hd : g.length ∣ l) (hn : t.length - 1 ≤ n) : val t g (n + l + 1) - val t g (n + l) = val t g (n + 1) - val t g n := by
  have a := rise_ge (g := g) h0 (n := n + l) (by omega)
  have b := rise_ge (g := g) h0 hn
  unfold rise at a b
  rw [a, b, show n + l - (t.length - 1) = n - (t.length - 1) + l by omega]
  obtain ⟨c, rfl⟩ := hd
  rw [Nat.mul_comm]
  exact dif_pd.mul c _
theorem val_sum (h0 : 0 < t.length) (h0' : 0 < t'.length) {b l : Nat} (hb : t.length ≤ b) (hb' : t'.length ≤ b) (hl : 0 < l) (hd : g.length ∣ l) (hd' : g'.length ∣ l) (n : Nat) :
    val (pT (fun n => val t g n + val t' g' n) b) (pG (fun n => val t g n + val t' g' n) b l) n = val t g n + val t' g' n := by
  refine val_parted (by omega) hl (fun n hn => ?_) n
  have a := rise_pd (g := g) h0 (l := l) (n := n) hd (by omega)
  have c := rise_pd (g := g') h0' (l := l) (n := n) hd' (by omega)
  omega
/-! ### each value so many times -/
def sc (k : Int) (l : List Int) : List Int := l.map fun x => k * x
theorem sc_len {k : Int} {l : List Int} : (sc k l).length = l.length := List.length_map _
theorem sc_at {k : Int} {l : List Int} {i : Nat} : at' (sc k l) i = k * at' l i := by
  unfold at' sc
  rw [List.getD_eq_getElem?_getD, List.getD_eq_getElem?_getD, List.getElem?_map]
  cases l[i]? with
  | none => show (0 : Int) = k * 0; rw [Int.mul_zero]
  | some x => rfl
theorem acc_sc {k : Int} {d : Nat → Int} : ∀ n, acc (fun i => k * d i) n = k * acc d n
  | 0 => (Int.mul_zero k).symm
  | n + 1 => by
    show acc _ n + k * d n = k * (acc d n + d n)
    rw [acc_sc n, Int.mul_add]
theorem val_sc {k : Int} {n : Nat} : val (sc k t) (sc k g) n = k * val t g n := by
  have d : dif (sc k g) = fun i => k * dif g i := funext fun i => by unfold dif; rw [sc_len, sc_at]
  unfold val
  rw [sc_len]
  by_cases h : n < t.length
  · rw [if_pos h, if_pos h, sc_at]
  · rw [if_neg h, if_neg h, d, acc_sc, Int.mul_add]
    unfold lst
    rw [sc_len, sc_at]
/-! ### begun later -/
/-- the gains turned the other way -/
def rot (g : List Int) (r : Nat) : List Int := g.drop r ++ g.take r
theorem rot_len {r : Nat} (h : r ≤ g.length) : (rot g r).length = g.length := by
  unfold rot
  rw [List.length_append, List.length_drop, List.length_take]
  omega
theorem dif_rot {r : Nat} (h : r < g.length) (k : Nat) : dif (rot g r) k = dif g (k + r) := by
  unfold dif
  rw [rot_len (Nat.le_of_lt h), Nat.add_mod, Nat.mod_eq_of_lt h]
  have hk : k % g.length < g.length := Nat.mod_lt _ (by omega)
  generalize k % g.length = q at hk ⊢
  unfold rot
  rw [at_app, List.length_drop]
  rcases Nat.lt_or_ge (q + r) g.length with c | c
  · rw [Nat.mod_eq_of_lt c, if_pos (by omega), at_drop, Nat.add_comm]
  · rw [Nat.mod_eq_sub_mod c, Nat.mod_eq_of_lt (by omega), if_neg (by omega), at_take (by omega)]
    congr 1
    omega
/-- still within the told values -/
theorem val_shift1 {m : Nat} (hm : m < t.length) (n : Nat) : val (t.drop m) g n = val t g (n + m) := by
  have l : (t.drop m).length = t.length - m := List.length_drop
  rcases Nat.lt_or_ge n (t.length - m) with a | a
  · rw [val_lt (by omega), val_lt (by omega), at_drop, Nat.add_comm]
  · obtain ⟨k, rfl⟩ : ∃ k, n = t.length - m - 1 + k := ⟨n - (t.length - m - 1), by omega⟩
    have v := val_ge (t := t.drop m) (g := g) (by omega) k
    rw [l] at v
    rw [v, show t.length - m - 1 + k + m = t.length - 1 + k by omega, val_ge (by omega)]
    unfold lst
    rw [l, at_drop, show m + (t.length - m - 1) = t.length - 1 by omega]
/-- behind them -/
theorem val_shift2 {m : Nat} (h0 : 0 < t.length) (hg : 0 < g.length) (hm : t.length ≤ m) (n : Nat) : val [val t g m] (rot g ((m - t.length + 1) % g.length)) n = val t g (n + m) := by
  have hr : (m - t.length + 1) % g.length < g.length := Nat.mod_lt _ hg
  have v := val_ge (t := [val t g m]) (g := rot g ((m - t.length + 1) % g.length)) Nat.one_pos n
  rw [show [val t g m].length - 1 + n = n from Nat.zero_add n] at v
  rw [v, show n + m = t.length - 1 + (m - t.length + 1 + n) by omega, val_ge h0, acc_add]
  have e : lst [val t g m] = lst t + acc (dif g) (m - t.length + 1) := by
    show val t g m = _
    have := val_ge (g := g) h0 (m - t.length + 1)
    rwa [show t.length - 1 + (m - t.length + 1) = m by omega] at this
  rw [e, Int.add_assoc]
  congr 2
  refine acc_congr n fun k _ => ?_
  rw [dif_rot hr]
  have p := (dif_pd (g := g)).mul ((m - t.length + 1) / g.length) (k + (m - t.length + 1) % g.length)
  have q := Nat.mod_add_div (m - t.length + 1) g.length
  rw [Nat.mul_comm] at q
  rw [← p]
  congr 1
  omega
end
end Gr
namespace Gr
/-! ### the greatest and the least of two -/
/-- by how much one round of L numbers raises a growth -/
def rate (g : List Int) (L : Nat) : Int := acc (dif g) g.length * ((L / g.length : Nat) : Int)
theorem val_round {t g : List Int} (t0 : 0 < t.length) (g0 : 0 < g.length) {L : Nat} (h : g.length ∣ L) {n : Nat} (hn : t.length - 1 ≤ n) : val t g (n + L) = val t g n + rate g L := by
  obtain ⟨j, rfl⟩ := h
  obtain ⟨k, rfl⟩ : ∃ k, n = t.length - 1 + k := ⟨n - (t.length - 1), by omega⟩
  rw [Nat.add_assoc, val_ge t0, val_ge t0, show k + g.length * j = j * g.length + k by rw [Nat.mul_comm, Nat.add_comm], acc_mul dif_pd]
  unfold rate
  rw [Nat.mul_div_cancel_left j g0, Int.mul_comm]
  omega
/-- from b - 1 on a round of L numbers adds D -/
def Rnd (f : Nat → Int) (b L : Nat) (D : Int) : Prop := ∀ n, b - 1 ≤ n → f (n + L) = f n + D
theorem Rnd.many {f : Nat → Int} {b L : Nat} {D : Int} (h : Rnd f b L D) : ∀ (j n : Nat), b - 1 ≤ n → f (n + j * L) = f n + (j : Int) * D
  | 0, n, _ => by rw [Nat.zero_mul, Nat.add_zero, show ((0 : Nat) : Int) = 0 from rfl, Int.zero_mul, Int.add_zero]
  | j + 1, n, hn => by
    rw [Nat.succ_mul, ← Nat.add_assoc, h _ (by omega), h.many j n hn, show ((j + 1 : Nat) : Int) = (j : Int) + 1 from rfl, Int.add_mul, Int.one_mul]
    omega
theorem rnd_val {t g : List Int} (t0 : 0 < t.length) (g0 : 0 < g.length) {b L : Nat} (hb : t.length ≤ b) (h : g.length ∣ L) : Rnd (val t g) b L (rate g L) := fun n hn => val_round t0 g0 h (by omega)
theorem Rnd.sub {f f' : Nat → Int} {b L : Nat} {D D' : Int} (h : Rnd f b L D) (h' : Rnd f' b L D') : Rnd (fun n => f n - f' n) b L (D - D') := fun n hn => by
  show f (n + L) - f' (n + L) = f n - f' n + (D - D')
  rw [h n hn, h' n hn]
  omega
/-! ### the last number above -/
structure LA (G : Nat → Int) (b L i : Nat) (last : Int) : Prop where
  near : ∀ n, n < i → n < b → 0 < G n → (n : Int) ≤ last
  far : ∀ a, b ≤ a → a < i → ∀ j : Nat, 0 < G (a + j * L) → ((a + j * L : Nat) : Int) ≤ last
  is : last = -1 ∨ ∃ m : Nat, last = (m : Int) ∧ 0 < G m
section
variable {G : Nat → Int} {b L i : Nat} {last loss : Int}
theorem la_start : LA G b L 0 (-1) := ⟨fun n h => absurd h (Nat.not_lt_zero n), fun a _ h => absurd h (Nat.not_lt_zero a), .inl rfl⟩
theorem la_no (h : LA G b L i last) (P : Rnd G b L (-loss)) (l0 : 0 < loss) (hG : ¬ 0 < G i) : LA G b L (i + 1) last := ⟨fun n hn hb g => by
    rcases Nat.lt_or_ge n i with z | z
    · exact h.near n z hb g
    · obtain rfl : n = i := by omega
      exact absurd g hG, fun a hb ha j g => by
    rcases Nat.lt_or_ge a i with z | z
    · exact h.far a hb z j g
    · obtain rfl : a = i := by omega
      rw [P.many j a (by omega)] at g
      have : 0 ≤ (j : Int) * loss := Int.mul_nonneg (by omega) (by omega)
      rw [Int.mul_neg] at g
      omega, h.is⟩
theorem la_near (hi : i < b) (hG : 0 < G i) : LA G b L (i + 1) (i : Int) := ⟨fun n hn _ _ => by omega, fun a hb ha => by omega, .inr ⟨i, rfl, hG⟩⟩
theorem la_far (h : LA G b L i last) (P : Rnd G b L (-loss)) (l0 : 0 < loss) (hi : b ≤ i) (hG : 0 < G i) {x : Int} (hx : x = (i : Int) + (G i - 1) / loss * (L : Int)) : LA G b L (i + 1) (if x > last then x else last) := by
  have q0 : 0 ≤ (G i - 1) / loss := Int.ediv_nonneg (by omega) (by omega)
  obtain ⟨q, hq⟩ := Int.eq_ofNat_of_zero_le q0
  have ex : x = ((i + q * L : Nat) : Int) := by
    rw [hx, hq, Int.natCast_add, Int.natCast_mul]
  have up : ∀ z : Int, z ≤ last → z ≤ (if x > last then x else last) := fun z hz => by split <;> omega
  have ux : x ≤ (if x > last then x else last) := by split <;> omega
  refine ⟨fun n hn hb g => ?_, fun a hb ha j g => ?_, ?_⟩
  · rcases Nat.lt_or_ge n i with z | z
    · exact up _ (h.near n z hb g)
    · omega
  · rcases Nat.lt_or_ge a i with z | z
    · exact up _ (h.far a hb z j g)
    · obtain rfl : a = i := by omega
      refine Int.le_trans ?_ ux
      rw [ex]
      rw [P.many j a (by omega), Int.mul_neg] at g
      have j1 : (j : Int) ≤ (G a - 1) / loss := (Int.le_ediv_iff_mul_le l0).mpr (by omega)
      rw [hq] at j1
      have j2 : j ≤ q := by omega
      have := Nat.mul_le_mul_right L j2
      omega
  · by_cases c : x > last
    · rw [if_pos c]
      refine .inr ⟨i + q * L, ex, ?_⟩
      rw [P.many q i (by omega), Int.mul_neg, ← hq]
      have := Int.ediv_mul_le (G i - 1) (show loss ≠ 0 by omega)
      generalize (G i - 1) / loss * loss = y at this ⊢
      omega
    · rw [if_neg c]
      exact h.is
theorem la_end (h : LA G b L (b + L) last) (L0 : 0 < L) (n : Nat) (g : 0 < G n) : (n : Int) ≤ last := by
  rcases Nat.lt_or_ge n b with z | z
  · exact h.near n (by omega) z g
  · have e : n = b + (n - b) % L + (n - b) / L * L := by
      have := Nat.mod_add_div (n - b) L
      rw [Nat.mul_comm] at this
      omega
    have lt := Nat.mod_lt (n - b) L0
    rw [e] at g ⊢
    exact h.far _ (by omega) (by omega) _ g
end
/-! ### picking -/
/-- the greater of both, or the less -/
def pk (up : Bool) (a b : Int) : Int := if up then (if b > a then b else a) else (if b < a then b else a)
theorem pk_ge {up : Bool} {a b : Int} (h : b ≤ a) : pk up a b = if up then a else b := by
  unfold pk
  cases up
  · simp only [Bool.false_eq_true, if_false]
    split <;> omega
  · simp only [if_true]
    split <;> omega
theorem pk_comm {up : Bool} {a b : Int} : pk up a b = pk up b a := by
  unfold pk
  cases up
  · simp only [Bool.false_eq_true, if_false]
    split <;> split <;> omega
  · simp only [if_true]
    split <;> split <;> omega
theorem pk_le {up : Bool} {a b : Int} (h : a ≤ b) : pk up a b = if up then b else a := by rw [pk_comm, pk_ge h]
theorem pk_add {up : Bool} {a b d : Int} : pk up (a + d) (b + d) = pk up a b + d := by
  unfold pk
  cases up
  · simp only [Bool.false_eq_true, if_false]
    split <;> split <;> omega
  · simp only [if_true]
    split <;> split <;> omega
theorem pk_step {up : Bool} {a b a' b' B : Int} (h : 0 ≤ a' - a ∧ a' - a ≤ B) (h' : 0 ≤ b' - b ∧ b' - b ≤ B) : 0 ≤ pk up a' b' - pk up a b ∧ pk up a' b' - pk up a b ≤ B := by
  unfold pk
  cases up
  · simp only [Bool.false_eq_true, if_false]
    split <;> split <;> omega
  · simp only [if_true]
    split <;> split <;> omega
theorem pk_pos {up : Bool} {a b : Int} (h : 0 ≤ a) (h' : 0 ≤ b) : 0 ≤ pk up a b := by
  unfold pk
  cases up
  · simp only [Bool.false_eq_true, if_false]
    split <;> omega
  · simp only [if_true]
    split <;> omega
/-- both rise alike at last -/
def EqR (f f' : Nat → Int) : Prop := ∃ m, ∀ n, m ≤ n → f (n + 12) - f n = f' (n + 12) - f' n
/-- behind 1998 one is never below the other -/
def Ord (f f' : Nat → Int) : Prop := (∀ n, 1998 < n → f' n ≤ f n) ∨ ∀ n, 1998 < n → f n ≤ f' n
theorem EqR.symm {f f' : Nat → Int} (h : EqR f f') : EqR f' f := let ⟨m, hm⟩ := h; ⟨m, fun n hn => (hm n hn).symm⟩
theorem Ord.symm {f f' : Nat → Int} (h : Ord f f') : Ord f' f := h.elim .inr .inl
theorem eq_many {e : Nat → Int} {m : Nat} (h : ∀ n, m ≤ n → e (n + 12) = e n) : ∀ (j n : Nat), m ≤ n → e (n + j * 12) = e n
  | 0, n, _ => by rw [Nat.zero_mul, Nat.add_zero]
  | j + 1, n, hn => by
    rw [Nat.succ_mul, ← Nat.add_assoc, h _ (by omega), eq_many h j n hn]
theorem lead_zero {f f' : Nat → Int} {b L : Nat} {D D' : Int} (h : EqR f f') (hf : Rnd f b L D) (hf' : Rnd f' b L D') : D = D' := by
  obtain ⟨m, hm⟩ := h
  have a := (hf.sub hf').many 12 (m + b) (by omega)
  have c := eq_many (e := fun n => f n - f' n) (m := m) (fun n hn => by have := hm n hn; show f (n + 12) - f' (n + 12) = f n - f' n; omega) L (m + b) (by omega)
  rw [Nat.mul_comm] at c
  rw [c] at a
  have : ((12 : Nat) : Int) * (D - D') = 0 := by omega
  have e : ((12 : Nat) : Int) = 12 := rfl
  rw [e] at this
  omega
/-- who rises more is never below behind 1998 -/
theorem ord_lead {f f' : Nat → Int} {b L : Nat} {D D' : Int} (h : Ord f f') (hf : Rnd f b L D) (hf' : Rnd f' b L D') (lt : D' < D) : ∀ n, 1998 < n → f' n ≤ f n := by
  rcases h with h | h
  · exact h
  · exfalso
    obtain ⟨j, hj⟩ : ∃ j : Nat, f' (b + 1999) - f (b + 1999) < (j : Int) := ⟨(f' (b + 1999) - f (b + 1999)).toNat + 1, by omega⟩
    have a := (hf.sub hf').many j (b + 1999) (by omega)
    have c := h (b + 1999 + j * L) (by omega)
    have d : (j : Int) ≤ (j : Int) * (D - D') := by
      have : (j : Int) * 1 ≤ (j : Int) * (D - D') := Int.mul_le_mul_of_nonneg_left (by omega) (by omega)
      rw [Int.mul_one] at this
      exact this
    have a' : f (b + 1999 + j * L) - f' (b + 1999 + j * L) = f (b + 1999) - f' (b + 1999) + (j : Int) * (D - D') := a
    omega
/-- the parts that are told, where one is the value behind c -/
theorem val_outer {h : Nat → Int} {t g : List Int} (t0 : 0 < t.length) (g0 : 0 < g.length) {c b : Nat} (hc : ∀ n, c ≤ n → h n = val t g n) (hb : t.length ≤ b) (hb' : c + 1 ≤ b) (n : Nat) : val (pT h b) (pG h b g.length) n = h n :=
  val_parted (by omega) g0 (fun n hn => by
    rw [hc _ (by omega), hc _ (by omega), hc _ (by omega), hc _ (by omega)]
    exact rise_pd t0 (Nat.dvd_refl _) (by omega)) n
theorem rnd_pk {up : Bool} {f f' : Nat → Int} {b L : Nat} {D : Int} (hf : Rnd f b L D) (hf' : Rnd f' b L D) : Rnd (fun n => pk up (f n) (f' n)) b L D := fun n hn => by
  show pk up (f (n + L)) (f' (n + L)) = pk up (f n) (f' n) + D
  rw [hf n hn, hf' n hn, pk_add]
theorem val_rnd {h : Nat → Int} {b L : Nat} {D : Int} (b0 : 0 < b) (L0 : 0 < L) (hh : Rnd h b L D) (n : Nat) : val (pT h b) (pG h b L) n = h n :=
  val_parted b0 L0 (fun n hn => by
    rw [show n + L + 1 = n + 1 + L by omega, hh _ (by omega), hh _ hn]
    omega) n
end Gr
namespace Gr
/-- the values of one at those of another -/
def cmp (f h : Nat → Int) (n : Nat) : Int := f (h n).toNat
theorem val_add {t g : List Int} (t0 : 0 < t.length) {x : Nat} (hx : t.length - 1 ≤ x) (j : Nat) : val t g (x + j * g.length) = val t g x + (j : Int) * acc (dif g) g.length := by
  obtain ⟨k, rfl⟩ : ∃ k, x = t.length - 1 + k := ⟨x - (t.length - 1), by omega⟩
  rw [Nat.add_assoc, val_ge t0, val_ge t0, Nat.add_comm k, acc_mul dif_pd]
  omega
theorem val_up {t g : List Int} (t0 : 0 < t.length) (g0 : 0 < g.length) (pos : ∀ i, i < g.length → 0 ≤ at' g i) {x : Nat} (hx : t.length - 1 ≤ x) : ∀ k, val t g x ≤ val t g (x + k)
  | 0 => Int.le_refl _
  | k + 1 => by
    have ih := val_up t0 g0 pos hx k
    have r := rise_ge (g := g) t0 (n := x + k) (by omega)
    unfold rise at r
    have p := pos _ (Nat.mod_lt (x + k - (t.length - 1)) g0)
    have e : dif g (x + k - (t.length - 1)) = at' g ((x + k - (t.length - 1)) % g.length) := rfl
    rw [Nat.add_assoc] at r
    rw [e] at r
    show val t g x ≤ val t g (x + (k + 1))
    omega
theorem toNat_add {x : Int} (h : 0 ≤ x) {y : Nat} : (x + (y : Int)).toNat = x.toNat + y := by omega
/-- the rises of the one at the other come round -/
theorem cmp_per {t g t' g' : List Int} (t0 : 0 < t.length) (t0' : 0 < t'.length) (g0' : 0 < g'.length) (pos' : ∀ i, i < g'.length → 0 ≤ at' g' i) {b T j : Nat} (hb : t'.length ≤ b) (hv : (t.length : Int) - 1 ≤ val t' g' (b - 1))
    (hT : (T : Int) * acc (dif g') g'.length = ((j * g.length : Nat) : Int)) (n : Nat) (hn : b - 1 ≤ n) :
    cmp (val t g) (val t' g') (n + T * g'.length) = cmp (val t g) (val t' g') n + (j : Int) * acc (dif g) g.length := by
  have up : ∀ m, b - 1 ≤ m → (t.length : Int) - 1 ≤ val t' g' m := fun m hm => by
    have := val_up t0' g0' pos' (x := b - 1) (by omega) (m - (b - 1))
    rw [show b - 1 + (m - (b - 1)) = m by omega] at this
    omega
  have u := up n hn
  unfold cmp
  rw [val_add t0' (by omega) T, hT, toNat_add (by omega), val_add t0 (by omega) j]
theorem cmp_rise {t g t' g' : List Int} (t0 : 0 < t.length) (t0' : 0 < t'.length) (g0' : 0 < g'.length) (pos' : ∀ i, i < g'.length → 0 ≤ at' g' i) {b T j : Nat} (hb : t'.length ≤ b) (hv : (t.length : Int) - 1 ≤ val t' g' (b - 1))
    (hT : (T : Int) * acc (dif g') g'.length = ((j * g.length : Nat) : Int)) (n : Nat) (hn : b - 1 ≤ n) :
    cmp (val t g) (val t' g') (n + T * g'.length + 1) - cmp (val t g) (val t' g') (n + T * g'.length) = cmp (val t g) (val t' g') (n + 1) - cmp (val t g) (val t' g') n := by
  have a := cmp_per t0 t0' g0' pos' hb hv hT n hn
  have c := cmp_per t0 t0' g0' pos' hb hv hT (n + 1) (by omega)
  rw [show n + 1 + T * g'.length = n + T * g'.length + 1 by omega] at c
  omega
/-- gains whose sum is nothing -/
theorem acc_nn {g : List Int} (g0 : 0 < g.length) (pos : ∀ i, i < g.length → 0 ≤ at' g i) : ∀ k, 0 ≤ acc (dif g) k
  | 0 => Int.le_refl 0
  | k + 1 => by
    have ih := acc_nn g0 pos k
    have p := pos _ (Nat.mod_lt k g0)
    show 0 ≤ acc (dif g) k + at' g (k % g.length)
    omega
theorem acc_up {g : List Int} (g0 : 0 < g.length) (pos : ∀ i, i < g.length → 0 ≤ at' g i) (k : Nat) : ∀ m, acc (dif g) k ≤ acc (dif g) (k + m)
  | 0 => Int.le_refl _
  | m + 1 => by
    have ih := acc_up g0 pos k m
    have p := pos _ (Nat.mod_lt (k + m) g0)
    show acc (dif g) k ≤ acc (dif g) (k + m) + at' g ((k + m) % g.length)
    omega
theorem val_flat {t g : List Int} (t0 : 0 < t.length) (g0 : 0 < g.length) (pos : ∀ i, i < g.length → 0 ≤ at' g i) (z : acc (dif g) g.length = 0) {n : Nat} (hn : t.length - 1 ≤ n) : val t g n = lst t := by
  obtain ⟨k, rfl⟩ : ∃ k, n = t.length - 1 + k := ⟨n - (t.length - 1), by omega⟩
  rw [val_ge t0]
  have e := Nat.mod_add_div k g.length
  have a : acc (dif g) k = acc (dif g) (k % g.length) := by
    have := acc_mul (d := dif g) (p := g.length) dif_pd (k / g.length) (k % g.length)
    rw [z, Int.mul_zero, Int.zero_add, Nat.mul_comm, Nat.add_comm, e] at this
    exact this
  have l := Nat.mod_lt k g0
  have b := acc_up g0 pos (k % g.length) (g.length - k % g.length)
  rw [show k % g.length + (g.length - k % g.length) = g.length by omega, z] at b
  have c := acc_nn g0 pos (k % g.length)
  omega
theorem cmp_flat {t g t' g' : List Int} (t0' : 0 < t'.length) (g0' : 0 < g'.length) (pos' : ∀ i, i < g'.length → 0 ≤ at' g' i) (z : acc (dif g') g'.length = 0) (n : Nat) :
    val (t'.map fun v => val t g v.toNat) [0] n = cmp (val t g) (val t' g') n := by
  have len : (t'.map fun v => val t g v.toNat).length = t'.length := List.length_map _
  have at_ : ∀ i, i < t'.length → at' (t'.map fun v => val t g v.toNat) i = val t g (at' t' i).toNat := fun i hi => by
    unfold at'
    rw [List.getD_eq_getElem?_getD, List.getD_eq_getElem?_getD, List.getElem?_map, List.getElem?_eq_getElem hi]
    rfl
  unfold cmp
  rcases Nat.lt_or_ge n t'.length with h | h
  · rw [val_lt (by rw [len]; exact h), at_ n h, val_lt h]
  · rw [val_flat (t := t'.map fun v => val t g v.toNat) (g := [0]) (by rw [len]; exact t0') Nat.one_pos (fun i hi => by
      have : i = 0 := by
        have : i < 1 := hi
        omega
      subst this
      exact Int.le_refl 0) rfl (by rw [len]; omega), val_flat t0' g0' pos' z (by omega)]
    unfold lst
    rw [len, at_ _ (by omega)]
/-- how far the other must go until the one's gains are reached -/
theorem reach {t' g' : List Int} (t0' : 0 < t'.length) (g0' : 0 < g'.length) (pt : ∀ i, i < t'.length → 0 ≤ at' t' i) (s : 0 < acc (dif g') g'.length) (a : Nat) : (a : Int) ≤ val t' g' (t'.length - 1 + a * g'.length) := by
  rw [val_add t0' (Nat.le_refl _) a, val_lt (by omega)]
  have p := pt (t'.length - 1) (by omega)
  have q : (a : Int) * 1 ≤ (a : Int) * acc (dif g') g'.length := Int.mul_le_mul_of_nonneg_left (by omega) (by omega)
  omega
end Gr
namespace K05
open PySem L2 Evl
def top (i : Nat) : Stmt := PySem.Challenge.pw_layerpost_k05_whole_growths_of_growths.main.body.getD i (.Pass ⟨0, 0, 0, 0⟩)
abbrev sPen : Stmt := top 38
abbrev sDraw : Stmt := top 39
abbrev sPick : Stmt := top 40
/-! ### the pen: a list of the cells, the place, the rest -/
def PenAt (H : Hp) (p l : Addr) (cells : List Int) (m : Nat) : Prop :=
  ∃ (k : Nat) (r : Int), H p = some (.lst [.ref l, .int (k : Int), .int r]) ∧ H l = some (.lst (cells.map V.int)) ∧ k ≤ m
/-- all but p is as it was -/
def Keep (p : Addr) (H H' : Hp) : Prop := ∀ b o, H b = some o → b ≠ p → H' b = some o
theorem Keep.of_ex {p : Addr} {H H' : Hp} (e : Ex H H') : Keep p H H' := fun b o h _ => e b o h
theorem Keep.trans {p : Addr} {H H1 H2 : Hp} (a : Keep p H H1) (b : Keep p H1 H2) : Keep p H H2 := fun c o h n => b c o (a c o h n) n
theorem Keep.upd {p : Addr} {H : Hp} {o : HO} : Keep p H (upd H p o) := fun b u h n => by rw [upd_ne n]; exact h
theorem PenAt.mono {H H' : Hp} {p l : Addr} {cells : List Int} {m n : Nat} (h : PenAt H p l cells m) (e : Ex H H') (hm : m ≤ n) : PenAt H' p l cells n := by
  obtain ⟨k, r, h1, h2, h3⟩ := h
  exact ⟨k, r, e _ _ h1, e _ _ h2, by omega⟩
theorem PenAt.ne {H : Hp} {p l : Addr} {cells : List Int} {m : Nat} (h : PenAt H p l cells m) : l ≠ p := by
  obtain ⟨k, r, h1, h2, _⟩ := h
  refine ne_of h2 h1 ?_
  intro z
  have z2 := HO.lst.inj z
  cases cells with
  | nil => exact absurd z2 (by simp)
  | cons c cs => exact absurd (List.cons.inj z2).1 (by intro q; cases q)
structure Glb (mg : Str → Option Value) : Prop where
  int : mg "int" = none
  abs : mg "abs" = none
  len : mg "len" = none
  list : mg "list" = none
def spDraw : Sp := fun vs H Q _ => ∃ (p l : Addr) (cells : List Int) (m : Nat) (many : Int), vs = [.ref p, .int many] ∧ PenAt H p l cells m ∧ m ≤ 50000 ∧ cells.length ≤ 63 ∧ 0 < many ∧ many ≤ 1000000000 ∧
  ∀ d H', 0 ≤ d → d < many → PenAt H' p l cells (m + 1) → Keep p H H' → Q (.int d) H'
theorem scDraw : FnScope ["_law_pen_here", "_law_many", "_law_digit", "_law_spot", "_law_cell", "_law_great", "_law_mixed"] ["_law_pen_here", "_law_many"] (defScope sDraw) := ⟨rfl, rfl, rfl, by decide +kernel, rfl, by decide +kernel, by decide +kernel⟩
theorem rc_int {i : Int} {H : Hp} : RC (fun xs H Q => (∃ i, xs = [V.int i] ∧ Q (.int i) H) ∨ ∃ k, xs = [V.bl k] ∧ Q (.int (if k then 1 else 0)) H) [.int i] H (.int i) := fun H1 _ _ q => .inl ⟨i, rfl, q H1 (Ex.refl H1)⟩
theorem rc_intB {b : Bool} {H : Hp} : RC (fun xs H Q => (∃ i, xs = [V.int i] ∧ Q (.int i) H) ∨ ∃ k, xs = [V.bl k] ∧ Q (.int (if k then 1 else 0)) H) [.bl b] H (.int (if b then 1 else 0)) := fun H1 _ _ q => .inr ⟨b, rfl, q H1 (Ex.refl H1)⟩
theorem rc_abs {i : Int} {H : Hp} : RC (fun xs H Q => ∃ i, xs = [V.int i] ∧ Q (.int (if i < 0 then -i else i)) H) [.int i] H (.int (if i < 0 then -i else i)) := fun H1 _ _ q => ⟨i, rfl, q H1 (Ex.refl H1)⟩
theorem rc_len {K : PySem.W.Frag} {p : Addr} {xs : List V} {H : Hp} (h : SqL K H p xs) : RC (fun xs H Q => ∃ p ys, xs = [V.ref p] ∧ (SqL K H p ys ∨ SqT K H p ys) ∧ Q (.int ys.length) H) [.ref p] H (.int (xs.length : Int)) := fun H1 e _ q => ⟨p, xs, rfl, .inl (ex_l e h), q H1 (Ex.refl H1)⟩
theorem dpAll_ints {K : PySem.W.Frag} {H : Hp} : ∀ (ns : List Int), DpAll K H (ns.map V.int) (ns.map PyData.int)
  | [] => .nil
  | n :: ns => .cons (.int n) (dpAll_ints ns)
section
variable {P : Program} {w : World} {K : PySem.W.Frag} {mg : Str → Option Value} {base : Heap}
theorem shaped_nil : SeqAt.shaped (.list []) = true := by decide +kernel
theorem canLay_ints : ∀ (ns : List Int), PyData.canLayAll0 (ns.map PyData.int) = true
  | [] => by simp [PyData.canLayAll0]
  | n :: ns => by simp [PyData.canLayAll0, PyData.canLay0, canLay_ints ns]
theorem depth_ints : ∀ (ns : List Int), PyData.depthAll (ns.map PyData.int) = 0
  | [] => rfl
  | n :: ns => by simp [PyData.depthAll, PyData.depth, depth_ints ns]
theorem shaped_ints (ns : List Int) : SeqAt.shaped (.list (ns.map PyData.int)) = true := by
  unfold SeqAt.shaped
  simp [PyData.canLay0, canLay_ints, PyData.depth, depth_ints]
/-- xs != [], xs a list of ints -/
theorem ev_neNil {σ : L2.St} {H : Hp} {ta : TE} {l : Addr} {cells : List Int} (ha : Ev ta σ H (.ref l)) (h : SqL K H l (cells.map V.int)) :
    ∃ b : Bool, Ev (tOp (rNeD K) ta (tLst tNil)) σ H (.bl b) ∧ (b = true → cells ≠ []) := by
  refine ⟨!(PyData.eqv (.list (cells.map PyData.int)) (.list [])), ev_opL (xs := []) ha (el_lst ea_nil (by decide)) (fun p H1 h1 e => ?_), ?_⟩
  · exact fun H2 e2 Q q => ⟨_, _, .lst (ex_l (e.trans e2) h) (dpAll_ints cells), .lst (sq_of (e2 _ _ h1)) .nil, shaped_ints cells, shaped_nil, q H2 (Ex.refl H2)⟩
  · intro hb hc
    subst hc
    exact absurd hb (by decide +kernel)
end
end K05
namespace L2
open PySem PySem.Spec PyProof.Rows
section
variable {X : Cx} {k : Nat} {f : Addr} {fd : FuncData} {ps ks : List Str} {sp : Sp} {x : Str} {p pos : Pos} {kws : List Keyword} {tk : TA} {g : List Value → List Value → List Value} {gV : List V → List V → List V}
/-- f(k = v, ..), keywords alone -/
theorem pe_callK0 (F : FnOk X.prog X.w X.K X.mg X.base CX0 k f fd ps sp) (hr : Room k X.A) (hg : Gl X x) (hm : X.mg x = some (.ref f)) (hk : PySem.W.keepIn X.K (.ref f) = true) (hb : KBn X.K fd ps 0 ks g gV) (hkw : PK X kws tk)
    (hall : (backToKw pos (keywordEach kws X.env)).all (·.1.isSome) = true := by rfl) (hks : (backToKw pos (keywordEach kws X.env)).filterMap (·.1) = ks := by rfl) (hdb : (x == ("__debug__" : Str)) = false := by decide)
    (hpl : ((backTo pos (starEach [] X.env)).any (·.1) || (backToKw pos (keywordEach kws X.env)).any (·.1.isNone)) = false := by rfl) :
    PE X (.Call (.Name x p) [] kws pos) (tCallN 0 ks.length sp gV E0 tNil tk) := by
  refine ⟨fun pins s σ H Q I h => ?_⟩
  refine wpAny_Call_Name_kw (ld_glob I hg hm ?_ hdb)
  refine PySem.W.callWith_KW0 (h₀ := X.base) I.ok.mod.kin hk hall ?_ hpl
  refine thn (hkw.run pos pins s σ H _ I h) fun ws s2 ⟨zs, H2, I2, rz, l1, l2, q2⟩ => ⟨I2.kIn, ?_⟩
  rw [hks]
  exact run_fnN (us := []) (vs := []) F hr hb pass0 I2 .nil rz rfl l2 q2
/-- how a def without defaults binds keywords alone -/
theorem Fun.kb {K : PySem.W.Frag} {x qual : Str} {st : Stmt} {f : Addr} {fd : FuncData} {ps ks : List Str} (F : Fun K x qual st f fd) (n : Nat) (g : {α : Type} → List α → List α → List α)
    (hrel : ∀ {vs zs : List V} {us ws : List Value}, Vals vs us → Vals zs ws → Vals (g vs zs) (g us ws))
    (h : ∀ (kV doc pm : Value) (an : Option Addr) (cdv ct : Value) (us ws : List Value), us.length = n → ws.length = ks.length → bindArgs (PySem.W.fnOf x qual (defArgs st) (defBody st) (defScope st) .none kV doc pm an cdv ct) ⟨us, ks.zip ws⟩ = pure (ps.zip (g us ws))) :
    KBn K fd ps n ks (fun us ws => g us ws) (fun vs zs => g vs zs) := by
  obtain ⟨oc, od, kV, doc, pm, an, cdv, ct, osl, rfl, lk, hcd⟩ := F.ex
  exact ⟨fun s us ws _ l1 l2 => .of_eq (h kV doc pm an cdv ct us ws l1 l2), fun r1 r2 => hrel r1 r2⟩
end
end L2
namespace K05
open PySem L2 Evl
abbrev sIsInt : Stmt := top 3
abbrev sWithin : Stmt := top 4
abbrev sFrom0 : Stmt := top 5
structure GlbT (mg : Str → Option Value) : Prop where
  inst : mg "isinstance" = none
  int : mg "int" = none
  bool : mg "bool" = none
  str : mg "str" = none
  len : mg "len" = none
theorem tyx_mono {K : PySem.W.Frag} {H H' : Hp} {x : V} {t : Value} (e : Ex H H') (h : TyX K H x t) : TyX K H' x t := by
  cases h with
  | base b =>
    refine .base ?_
    cases b with
    | non => exact .non
    | bl b => exact .bl b
    | int i => exact .int i
    | str x => exact .str x
    | flt x => exact .flt x
    | lst q => exact .lst (e _ _ q)
    | frz q => exact .frz (e _ _ q)
    | tup q => exact .tup (e _ _ q)
    | dK q => exact .dK (e _ _ q)
    | dT q => exact .dT (e _ _ q)
    | ins q a b c d f => exact .ins (e _ _ q) a b c d f
  | byt b => exact .byt b
  | set q => exact .set (e _ _ q)
  | kList q c => exact .kList q c
  | kTuple q c => exact .kTuple q c
  | kDict q c => exact .kDict q c
  | fTuple q => exact .fTuple (e _ _ q)
  | fDict q => exact .fDict (e _ _ q)
theorem rc_isi {K : PySem.W.Frag} {H : Hp} {x : V} {a b : String} {r : Bool} (h : TyX K H x (.type a)) (hk : kitB a b = some r) : RC (rIsi K) [x, .ty b] H (.bl r) := fun H1 e _ q => ⟨x, .ty b, .type a, .type b, r, rfl, .ty b, tyx_mono e h, kit_ty hk, q H1 (Ex.refl H1)⟩
section
variable {P : Program} {w : World} {K : PySem.W.Frag} {mg : Str → Option Value} {base : Heap}
/-! ### is_integer -/
def spIsInt (K : PySem.W.Frag) : Sp := fun vs H Q _ => ∃ (x : V) (T : String) (a b : Bool), vs = [x] ∧ TyX K H x (.type T) ∧ kitB T "int" = some a ∧ kitB T "bool" = some b ∧ RetV (.bl (a && !b)) H Q
theorem scIsInt : FnScope ["value"] ["value"] (defScope sIsInt) := ⟨rfl, rfl, rfl, by decide +kernel, rfl, by decide +kernel, by decide +kernel⟩
theorem ok_isInt {f : Addr} {fd : FuncData} (F : Fun K "is_integer" "is_integer" sIsInt f fd) (T : GlbT mg) : FnOk P w K mg base CX0 1 f fd ["value"] (spIsInt K) := by
  refine F.ok scIsInt (fun vs H Q E h => ?_) (fun cdv A outer s H vs Q E hr h => ?_)
  · obtain ⟨x, t, a, b, rfl, _⟩ := h
    rfl
  · obtain ⟨x, t, a, b, rfl, ht, ha, hb, k⟩ := h
    refine ⟨_, pss_one (ps_ret (pe_and (pe_callB call_isi (by rfl) T.inst (by decide +kernel) (pa_cons (pv 0) (pa_cons (pe_bltn (v := .ty "int") (by rfl) T.int (by decide +kernel) rfl) pa_nil)))
      (pe_one (pe_not (pe_callB call_isi (by rfl) T.inst (by decide +kernel) (pa_cons (pv 0) (pa_cons (pe_bltn (v := .ty "bool") (by rfl) T.bool (by decide +kernel) rfl) pa_nil))))))), ?_⟩
    exact s_ret (ev_andV (ev_cb (ea_cons (ev_var rfl) (ea_cons ev_c ea_nil)) (rc_isi ht ha)) fun _ => ev_notV (ev_cb (ea_cons (ev_var rfl) (ea_cons ev_c ea_nil)) (rc_isi ht hb))) k
/-! ### is_within -/
def spWithin (K : PySem.W.Frag) : Sp := fun vs H Q _ => (∃ i lo hi : Int, vs = [.int i, .int lo, .int hi] ∧ RetV (.bl (decide (lo ≤ i) && decide (i ≤ hi))) H Q) ∨
  ∃ (x y z : V) (T : String) (a b : Bool), vs = [x, y, z] ∧ TyX K H x (.type T) ∧ kitB T "int" = some a ∧ kitB T "bool" = some b ∧ (a && !b) = false ∧ RetV (.bl false) H Q
theorem scWithin : FnScope ["value", "least", "most"] ["value", "least", "most"] (defScope sWithin) := ⟨rfl, rfl, rfl, by decide +kernel, rfl, by decide +kernel, by decide +kernel⟩
theorem spv_isInt {H : Hp} {x : V} {t : String} {a b : Bool} (ht : TyX K H x (.type t)) (ha : kitB t "int" = some a) (hb : kitB t "bool" = some b) : SpV (spIsInt K) [x] H (.bl (a && !b)) := fun H1 e Q q E => ⟨x, t, a, b, rfl, tyx_mono e ht, ha, hb, q⟩
theorem kit_int_int : kitB "int" "int" = some true := by decide +kernel
theorem kit_int_bool : kitB "int" "bool" = some false := by decide +kernel
theorem ev_chain {σ : L2.St} {H : Hp} {ta tb tc : TE} {i j l : Int} {f g : Int → Int → Bool} (ha : Ev ta σ H (.int i)) (hb : Ev tb σ H (.int j)) (hc : Ev tc σ H (.int l)) :
    Ev (tChain (rI0 fun i j => .bl (f i j)) (rI0 fun i j => .bl (g i j)) ta tb tc) σ H (.bl (f i j && g j l)) := fun H1 e Q q =>
  ha H1 e _ fun H2 e2 => hb H2 (e.trans e2) _ fun H3 e3 => ⟨i, j, rfl, rfl, f i j, rfl, by
    cases h : f i j with
    | true =>
      simp only [h, Bool.true_and] at q
      exact hc H3 ((e.trans e2).trans e3) _ fun H4 e4 => ⟨j, l, rfl, rfl, q H4 ((e2.trans e3).trans e4)⟩
    | false =>
      simp only [h, Bool.false_and] at q
      exact q H3 (e2.trans e3)⟩
theorem ok_within {f fI : Addr} {fd fdI : FuncData} (F : Fun K "is_within" "is_within" sWithin f fd) (T : GlbT mg) (FI : Fun K "is_integer" "is_integer" sIsInt fI fdI) (bI : Binds K fdI ["value"] []) (gI : mg "is_integer" = some (.ref fI)) :
    FnOk P w K mg base CX0 2 f fd ["value", "least", "most"] (spWithin K) := by
  have GI : FnOk P w K mg base CX0 1 fI fdI ["value"] (spIsInt K) := ok_isInt FI T
  refine F.ok scWithin (fun vs H Q E h => ?_) (fun cdv A outer s H vs Q E hr h => ?_)
  · rcases h with ⟨i, lo, hi, rfl, _⟩ | ⟨x, y, z, t, a, b, rfl, _⟩ <;> rfl
  · have body : ∀ {x y z : V}, vs = [x, y, z] → ∀ {r : Bool}, Ev (tAndV (tCall (spIsInt K) [] E0 (tCons (tVar 0) tNil)) (tChain (rI0 fun i j => .bl (decide (i ≤ j))) (rI0 fun i j => .bl (decide (i ≤ j))) (tVar 1) (tVar 0) (tVar 2))) [some x, some y, some z] H (.bl r) → RetV (.bl r) H Q →
        ∃ t, PSs (cxOf CX0 P w K mg base ["value", "least", "most"] "is_within" (defScope sWithin) f cdv A outer s H E).nox (defBody sWithin) t ∧ t { nx := fun _ H' => Q .non H', rt := Q } (start ["value", "least", "most"] vs) H := by
      rintro x y z rfl r ev k
      exact ⟨_, pss_one (ps_ret (pe_and (pe_call GI hr (by rfl) gI FI.kp bI .nil pass0 (pa_cons (pv 0) pa_nil)) (pe_one (pe_chain op_le op_le (pv 1) (pv 0) (pv 2))))), s_ret ev k⟩
    rcases h with ⟨i, lo, hi, rfl, k⟩ | ⟨x, y, z, t, a, b, rfl, ht, ha, hb, hn, k⟩
    · refine body rfl (ev_andV (a := true) (ev_call (z := .bl true) (ea_cons (ev_var rfl) ea_nil) (spv_isInt (.base (.int i)) kit_int_int kit_int_bool)) fun _ => ev_chain (ev_var rfl) (ev_var rfl) (ev_var rfl)) k
    · refine body rfl (r := false) (ev_andV (a := false) (b := false) (ev_call (ea_cons (ev_var rfl) ea_nil) (by have q := spv_isInt ht ha hb; rw [hn] at q; exact q)) fun z => absurd z (by decide)) k
/-! ### is_from_zero -/
def spFrom0 (K : PySem.W.Frag) : Sp := fun vs H Q _ => (∃ i : Int, vs = [.int i] ∧ RetV (.bl (decide (0 ≤ i))) H Q) ∨
  ∃ (x : V) (T : String) (a b : Bool), vs = [x] ∧ TyX K H x (.type T) ∧ kitB T "int" = some a ∧ kitB T "bool" = some b ∧ (a && !b) = false ∧ RetV (.bl false) H Q
theorem scFrom0 : FnScope ["value"] ["value"] (defScope sFrom0) := ⟨rfl, rfl, rfl, by decide +kernel, rfl, by decide +kernel, by decide +kernel⟩
theorem ok_from0 {f fI : Addr} {fd fdI : FuncData} (F : Fun K "is_from_zero" "is_from_zero" sFrom0 f fd) (T : GlbT mg) (FI : Fun K "is_integer" "is_integer" sIsInt fI fdI) (bI : Binds K fdI ["value"] []) (gI : mg "is_integer" = some (.ref fI)) :
    FnOk P w K mg base CX0 2 f fd ["value"] (spFrom0 K) := by
  have GI : FnOk P w K mg base CX0 1 fI fdI ["value"] (spIsInt K) := ok_isInt FI T
  refine F.ok scFrom0 (fun vs H Q E h => ?_) (fun cdv A outer s H vs Q E hr h => ?_)
  · rcases h with ⟨i, rfl, _⟩ | ⟨x, t, a, b, rfl, _⟩ <;> rfl
  · rcases h with ⟨i, rfl, k⟩ | ⟨x, t, a, b, rfl, ht, ha, hb, hn, k⟩
    all_goals refine ⟨_, pss_one (ps_ret (pe_and (pe_call GI hr (by rfl) gI FI.kp bI .nil pass0 (pa_cons (pv 0) pa_nil)) (pe_one (pe_cmpR op_ge (pv 0) pe_int (nomark _))))), ?_⟩
    · refine s_ret (ev_is (ev_andV (a := true) (ev_call (z := .bl true) (ea_cons (ev_var rfl) ea_nil) (spv_isInt (.base (.int i)) kit_int_int kit_int_bool)) fun _ => ev_op (ev_var rfl) ev_c rv_I0) (by rfl)) k
    · refine s_ret (ev_andV (a := false) (b := false) (ev_call (ea_cons (ev_var rfl) ea_nil) (by have q := spv_isInt ht ha hb; rw [hn] at q; exact q)) fun z => absurd z (by decide)) k
end
end K05
namespace K05
open PySem L2 Evl Gr
abbrev sLP : Stmt := top 14
/-- a list or a tuple -/
def Sq (K : PySem.W.Frag) (H : Hp) (a : Addr) (xs : List V) : Prop := SqL K H a xs ∨ SqT K H a xs
theorem Sq.mono {K : PySem.W.Frag} {H H' : Hp} {a : Addr} {xs : List V} (e : Ex H H') (h : Sq K H a xs) : Sq K H' a xs := h.elim (fun h => .inl (ex_l e h)) fun h => .inr (ex_t e h)
def vI (g : List Int) : List V := g.map V.int
theorem vI_len {g : List Int} : (vI g).length = g.length := List.length_map _
theorem vI_get {g : List Int} {i : Nat} (h : i < g.length) : (vI g)[i]? = some (V.int (at' g i)) := by
  unfold vI at'
  rw [List.getElem?_map, List.getD_eq_getElem?_getD, List.getElem?_eq_getElem h]
  rfl
theorem rv_ix {K : PySem.W.Frag} {H : Hp} {p : Addr} {xs : List V} {i : Int} {v : V} (h : Sq K H p xs) (ha : atI xs i = some v) : RV (rIx K) (.ref p) (.int i) H v := fun H1 e Q q => by
  rcases h with h | h
  · exact .inl ⟨p, xs, i, v, rfl, rfl, ex_l e h, ha, q H1 (Ex.refl H1)⟩
  · exact .inr (.inl ⟨p, xs, i, v, rfl, rfl, ex_t e h, ha, q H1 (Ex.refl H1)⟩)
theorem rc_lenQ {K : PySem.W.Frag} {p : Addr} {xs : List V} {H : Hp} (h : Sq K H p xs) : RC (fun xs H Q => ∃ p ys, xs = [V.ref p] ∧ (SqL K H p ys ∨ SqT K H p ys) ∧ Q (.int ys.length) H) [.ref p] H (.int (xs.length : Int)) := fun H1 e _ q => ⟨p, xs, rfl, h.mono e, q H1 (Ex.refl H1)⟩
theorem st_asI {K : PySem.W.Frag} {H : Hp} {a : Addr} {g : List Int} (h : H a = some (.lst (vI g))) : Sq K H a (vI g) := .inl (sq_of h)
theorem atI_vI {g : List Int} {i : Nat} (h : i < g.length) : atI (vI g) (i : Int) = some (V.int (at' g i)) := atI_nat (vI_get h)
theorem atI_vlast {g : List Int} (h : 0 < g.length) : atI (vI g) (-1) = some (V.int (at' g (g.length - 1))) := by
  have e : ixN (vI g).length (-1) = some (g.length - 1) := by
    unfold ixN
    rw [vI_len, if_neg (by decide), if_pos (by omega)]
    congr 1
    omega
  unfold atI
  rw [e]
  exact vI_get (by omega)
theorem vI_app {g : List Int} {x : Int} : vI g ++ [V.int x] = vI (g ++ [x]) := by unfold vI; rw [List.map_append]; rfl
theorem vint_inj {x y : Int} : decide (V.int x = V.int y) = decide (x = y) := by
  by_cases h : x = y
  · rw [decide_eq_true h, decide_eq_true (congrArg V.int h)]
  · rw [decide_eq_false h, decide_eq_false fun z => h (V.int.inj z)]
/-- the longest borders of the beginnings -/
def Bs (g bs : List Int) : Prop := ∀ j, j < bs.length → ∃ w : Nat, at' bs j = (w : Int) ∧ Lb g (j + 1) w
theorem Bs.add {g bs : List Int} {w : Nat} (h : Bs g bs) (l : Lb g (bs.length + 1) w) : Bs g (bs ++ [(w : Int)]) := fun j hj => by
  rw [List.length_append] at hj
  have hj' : j < bs.length + 1 := hj
  rcases Nat.lt_or_ge j bs.length with z | z
  · rw [at_app, if_pos z]
    exact h j z
  · have e : j = bs.length := by omega
    subst e
    rw [at_app, if_neg (Nat.lt_irrefl _), Nat.sub_self]
    exact ⟨w, rfl, l⟩
structure GlbS (mg : Str → Option Value) : Prop where
  len : mg "len" = none
  range : mg "range" = none
  tuple : mg "tuple" = none
  list : mg "list" = none
section
variable {P : Program} {w : World} {K : PySem.W.Frag} {mg : Str → Option Value} {base : Heap}
/-! ### least_period -/
def spLP (K : PySem.W.Frag) : Sp := fun vs H Q _ => ∃ (a : Addr) (g : List Int), vs = [.ref a] ∧ Sq K H a (vI g) ∧ 0 < g.length ∧ g.length ≤ 4000 ∧
  ∀ p : Nat, Least (dif g) p → p ≤ g.length → p ∣ g.length → RetV (.int (p : Int)) H Q
theorem scLP : FnScope ["gains", "borders", "at", "width", "period"] ["gains"] (defScope sLP) := ⟨rfl, rfl, rfl, by decide +kernel, rfl, by decide +kernel, by decide +kernel⟩
theorem ok_LP {f : Addr} {fd : FuncData} (F : Fun K "least_period" "least_period" sLP f fd) (T : GlbS mg) : FnOk P w K mg base CX0 1 f fd ["gains"] (spLP K) := by
  refine F.ok scLP (fun vs H Q E h => ?_) (fun cdv A outer s H vs Q E hr h => ?_)
  · obtain ⟨a, g, rfl, _⟩ := h
    rfl
  · obtain ⟨a, g, rfl, hS, g0, g1, k⟩ := h
    refine ⟨_, pss_cons (ps_set (i := 1) scLP.nd rfl (.inl rfl) (pe_lst (pa_cons pe_int pa_nil)))
      (pss_cons (ps_for PassesOwn.never rfl (pi_range2 (by rfl) T.range (pa_cons pe_int (pa_cons (pe_callB call_len_seq (by rfl) T.len PySem.boot_len (pa_cons (pv 0) pa_nil)) pa_nil))) (pg_name (i := 2) scLP.nd rfl (.inl rfl))
        (pss_cons (ps_set (i := 3) scLP.nd rfl (.inl rfl) (pe_ix ix_list (pv 1) (pe_op op_sub (pv 2) pe_int) (fun _ _ => rfl)))
        (pss_cut (ps_while PassesOwn.never (PW.pt (pw_and (pt_cmpR op_gt (pv 3) pe_int (nomark _)) (pw_and1 (pt_cmpR op_ne (pe_ix ix_seq (pv 0) (pv 2) (fun _ _ => rfl)) (pe_ix ix_seq (pv 0) (pv 3) (fun _ _ => rfl)) (nomark _)))))
          (pss_one (ps_set (i := 3) scLP.nd rfl (.inl rfl) (pe_ix ix_list (pv 1) (pe_op op_sub (pv 3) pe_int) (fun _ _ => rfl)))))
        (pss_cut (ps_if (pt_cmpR op_eq (pe_ix ix_seq (pv 0) (pv 2) (fun _ _ => rfl)) (pe_ix ix_seq (pv 0) (pv 3) (fun _ _ => rfl)) (nomark _)) (pss_one (ps_aug (i := 3) scLP.nd rfl (.inl rfl) pe_int ip_add)) pss_nil)
        (pss_one (ps_expr (pe_bm PySem.F.plainAttrs_list PySem.F.slot_list_append PySem.F.type_list_append mt_append (pv 1) (pa_cons (pv 3) pa_nil))))))))
      (pss_cons (ps_set (i := 4) scLP.nd rfl (.inl rfl) (pe_op op_sub (pe_callB call_len_seq (by rfl) T.len PySem.boot_len (pa_cons (pv 0) pa_nil)) (pe_ix ix_list (pv 1) (pe_un un_neg pe_int) (fun _ _ => rfl))))
      (pss_cons (ps_if (pt_cmpR op_eq (pe_op op_mod (pe_callB call_len_seq (by rfl) T.len PySem.boot_len (pa_cons (pv 0) pa_nil)) (pv 4)) pe_int (nomark _)) (pss_one (ps_ret (pv 4))) pss_nil)
      (pss_one (ps_ret (pe_callB call_len_seq (by rfl) T.len PySem.boot_len (pa_cons (pv 0) pa_nil))))))), ?_⟩
    have hB : ∀ {H' : Hp}, Ex H H' → Sq K H' a (vI g) := fun e => hS.mono e
    refine q_asgL (xs := vI [0]) (el_lst (ea_cons ev_c ea_nil) (Nat.le_of_ble_eq_true rfl)) fun b H1 hb e1 h1 => ?_
    -- the loop over the places
    refine q_forR2 (lo := 1) (n := (g.length : Int)) (ea_cons ev_c (ea_cons (ev_is (ev_cb (ea_cons (ev_var rfl) ea_nil) (rc_lenQ (hB e1))) (by rw [vI_len])) ea_nil)) (by omega)
      (fun i σ' H' => ∃ (bs : List Int) (x2 x3 : Option V), σ' = [some (.ref a), some (.ref b), x2, x3, none] ∧ H' b = some (.lst (vI bs)) ∧ Ex H H' ∧ bs.length = i + 1 ∧ Bs g bs)
      (fun H2 e2 => ⟨[0], _, _, rfl, e2 _ _ h1, e1.trans e2, rfl, fun j hj => by
        have hj' : j < 1 := hj
        have z : j = 0 := by omega
        subst z
        exact ⟨0, rfl, lb_one⟩⟩) ?_ ?_
    · rintro i σ' H2 hi ⟨bs, x2, x3, rfl, hb2, e2, hl, hbs⟩
      obtain ⟨w0, hw0, lb0⟩ := hbs i (by omega)
      have hi1 : i + 1 < g.length := by omega
      have ei : (1 : Int) + (i : Int) = ((i + 1 : Nat) : Int) := by omega
      show tSeq _ _ _ _ _
      refine q_asg (v := .int (w0 : Int)) (ev_op (y := .int (i : Int)) (ev_var rfl) (ev_is (ev_op (ev_var rfl) ev_c rv_I0) (by congr 1; omega)) (rv_ixL (sq_of hb2) (by rw [atI_vI (by omega), hw0]))) fun H3 e3 => ?_
      have hb3 := e3 _ _ hb2
      have E3 := e2.trans e3
      have gat : ∀ {σ'' : L2.St} {H' : Hp} {t : TE} {m : Nat}, Ex H H' → m < g.length → σ''[0]? = some (some (.ref a)) → Ev t σ'' H' (.int (m : Int)) → Ev (tOp (rIx K) (tVar 0) t) σ'' H' (.int (at' g m)) := fun e hm h0 ht => ev_op (ev_var h0) ht (rv_ix (hB e) (atI_vI hm))
      -- the search
      refine q_cut (M := fun σ' H' => ∃ w : Nat, σ' = [some (.ref a), some (.ref b), some (.int ((i + 1 : Nat) : Int)), some (.int (w : Int)), none] ∧ H' b = some (.lst (vI bs)) ∧ Ex H H' ∧ Srch g (i + 1) w ∧ (w = 0 ∨ at' g (i + 1) = at' g w)) ?_ ?_
      · refine s_while (fun m σ' H' => σ' = [some (.ref a), some (.ref b), some (.int ((i + 1 : Nat) : Int)), some (.int (m : Int)), none] ∧ H' b = some (.lst (vI bs)) ∧ Ex H H' ∧ Srch g (i + 1) m) w0 ⟨by rw [← ei]; rfl, hb3, E3, srch_start lb0⟩ ?_
        rintro m σ' H4 ⟨rfl, hb4, E4, sr⟩
        have hm := sr.1.1
        refine ⟨_, et_and (et_test (ev_op (ev_var rfl) ev_c rv_I0)) (fun _ => et_test (ev_op (gat E4 hi1 rfl (ev_var rfl)) (gat E4 (by omega) rfl (ev_var rfl)) (rv_ne rfl))), fun ht H5 e5 => ?_, fun ht H5 e5 => ?_⟩
        · obtain ⟨t1, t2⟩ := Bool.and_eq_true_iff.mp ht
          have m0 : 0 < m := by have := of_decide_eq_true t1; omega
          have ne : at' g (i + 1) ≠ at' g m := fun z => by rw [vint_inj, decide_eq_true z] at t2; exact absurd t2 (by decide)
          obtain ⟨w1, hw1, lb1⟩ := hbs (m - 1) (by omega)
          rw [show m - 1 + 1 = m by omega] at lb1
          have st := srch_step sr m0 ne lb1
          refine ⟨fun σ' H' => σ' = [some (.ref a), some (.ref b), some (.int ((i + 1 : Nat) : Int)), some (.int (w1 : Int)), none] ∧ H' b = some (.lst (vI bs)) ∧ Ex H H', fun σ2 H6 h6 => ⟨w1, st.2, h6.1, h6.2.1, h6.2.2, st.1⟩, ?_⟩
          exact s_asg (v := .int (w1 : Int)) (ev_op (y := .int ((m - 1 : Nat) : Int)) (ev_var rfl) (ev_is (ev_op (ev_var rfl) ev_c rv_I0) (by congr 1; omega)) (rv_ixL (sq_of (e5 _ _ hb4)) (by rw [atI_vI (by omega), hw1]))) fun H6 e6 => ⟨rfl, e6 _ _ (e5 _ _ hb4), (E4.trans e5).trans e6⟩
        · refine ⟨m, rfl, e5 _ _ hb4, E4.trans e5, sr, ?_⟩
          rcases Nat.eq_zero_or_pos m with z | z
          · exact .inl z
          · right
            rw [decide_eq_true (by omega : ((m : Int) > 0)), Bool.true_and, vint_inj] at ht
            by_cases q : at' g (i + 1) = at' g m
            · exact q
            · rw [decide_eq_false q] at ht
              exact absurd ht (by decide)
      rintro σ' H4 ⟨w, rfl, hb4, E4, sr, fin⟩
      have hw := sr.1.1
      -- one more, if the signs are the same
      refine q_cut (M := fun σ' H' => ∃ v : Nat, σ' = [some (.ref a), some (.ref b), some (.int ((i + 1 : Nat) : Int)), some (.int (v : Int)), none] ∧ H' b = some (.lst (vI bs)) ∧ Ex H H' ∧ Lb g (i + 2) v) ?_ ?_
      · refine s_when (et_test (ev_op (gat E4 hi1 rfl (ev_var rfl)) (gat E4 (by omega) rfl (ev_var rfl)) (rv_eq rfl))) (fun ht H5 e5 => ?_) (fun ht H5 e5 => ?_)
        · rw [vint_inj] at ht
          refine s_aug (f := fun x y => x + y) (a := (w : Int)) (b := 1) rfl ev_c fun H6 e6 => ⟨w + 1, rfl, e6 _ _ (e5 _ _ hb4), (E4.trans e5).trans e6, srch_yes sr (of_decide_eq_true ht)⟩
        · rw [vint_inj] at ht
          have ne := of_decide_eq_false ht
          have w0 : w = 0 := fin.elim id fun z => absurd z ne
          subst w0
          exact ⟨0, rfl, e5 _ _ hb4, E4.trans e5, srch_no sr ne⟩
      rintro σ' H5 ⟨v, rfl, hb5, E5, lb⟩
      refine s_app hb5 (ev_var rfl) (ev_var rfl) (by rw [vI_len]; omega) fun H6 e6 => ?_
      have hbn : H b = none := hb
      refine ⟨bs ++ [(v : Int)], _, _, rfl, ?_, (E5.trans e6).mut hbn, by rw [List.length_append, hl]; rfl, hbs.add (by rw [hl]; exact lb)⟩
      rw [upd_same, vI_app]
    · rintro σ' H2 ⟨bs, x2, x3, rfl, hb2, E2, hl, hbs⟩
      have hl' : bs.length = g.length := by rw [hl]; omega
      obtain ⟨w, hw, lb⟩ := hbs (g.length - 1) (by omega)
      rw [show g.length - 1 + 1 = g.length by omega] at lb
      have hwl := lb.bd.1
      have key := least_of g0 lb
      have ln : ∀ {σ'' : L2.St} {H' : Hp}, Ex H H' → σ''[0]? = some (some (.ref a)) → Ev (tCB (fun xs H Q => ∃ p ys, xs = [V.ref p] ∧ (SqL K H p ys ∨ SqT K H p ys) ∧ Q (.int ys.length) H) (tCons (tVar 0) tNil)) σ'' H' (.int (g.length : Int)) := fun e h0 => ev_is (ev_cb (ea_cons (ev_var h0) ea_nil) (rc_lenQ (hB e))) (by rw [vI_len])
      refine q_asg (v := .int ((g.length - w : Nat) : Int)) (ev_is (ev_op (ln E2 rfl) (ev_op (ev_var rfl) (ev_un ev_c ru_neg) (rv_ixL (sq_of hb2) (by rw [atI_vlast (by omega), hl', hw]))) rv_I0) (by congr 1; omega)) fun H3 e3 => ?_
      have E3 := E2.trans e3
      refine q_when (et_test (ev_op (ev_op (ln E3 rfl) (ev_var rfl) (rv_I (by omega))) ev_c (rv_eq rfl))) (fun ht H4 e4 => ?_) (fun ht H4 e4 => ?_)
      · rw [vint_inj] at ht
        have z := of_decide_eq_true ht
        have z' : g.length % (g.length - w) = 0 := by omega
        rw [if_pos z'] at key
        exact s_ret (ev_var rfl) fun H5 e5 => k _ key (by omega) (Nat.dvd_of_mod_eq_zero z') H5 ((E3.trans e4).trans e5)
      · rw [vint_inj] at ht
        have z := of_decide_eq_false ht
        have z' : ¬ g.length % (g.length - w) = 0 := by omega
        rw [if_neg z'] at key
        exact s_ret (ln (E3.trans e4) rfl) fun H5 e5 => k _ key (Nat.le_refl _) (Nat.dvd_refl _) H5 ((E3.trans e4).trans e5)
end
end K05
namespace K05
open PySem L2 Evl Gr
abbrev sST : Stmt := top 15
theorem atI_neg {g : List Int} {r : Nat} (h : r < g.length) : atI (vI g) (-1 - (r : Int)) = some (V.int (at' g (g.length - 1 - r))) := by
  have e : ixN (vI g).length (-1 - (r : Int)) = some (g.length - 1 - r) := by
    unfold ixN
    rw [vI_len, if_neg (by omega), if_pos (by omega)]
    congr 1
    omega
  unfold atI
  rw [e]
  exact vI_get (by omega)
section
variable {P : Program} {w : World} {K : PySem.W.Frag} {mg : Str → Option Value} {base : Heap}
/-! ### spare_told -/
def spST (K : PySem.W.Frag) : Sp := fun vs H Q _ => ∃ (a b : Addr) (t g : List Int), vs = [.ref a, .ref b] ∧ Sq K H a (vI t) ∧ Sq K H b (vI g) ∧ 0 < t.length ∧ t.length ≤ 4000 ∧ 0 < g.length ∧ g.length ≤ 4000 ∧
  ∀ s : Nat, Spr t g s → (s = t.length - 1 ∨ at' t (t.length - 1 - s) - at' t (t.length - 1 - s - 1) ≠ back g s) → RetV (.int (s : Int)) H Q
theorem scST : FnScope ["told", "gains", "spare", "last"] ["told", "gains"] (defScope sST) := ⟨rfl, rfl, rfl, by decide +kernel, rfl, by decide +kernel, by decide +kernel⟩
theorem ok_ST {f : Addr} {fd : FuncData} (F : Fun K "spare_told" "spare_told" sST f fd) (T : GlbS mg) : FnOk P w K mg base CX0 1 f fd ["told", "gains"] (spST K) := by
  refine F.ok scST (fun vs H Q E h => ?_) (fun cdv A outer s H vs Q E hr h => ?_)
  · obtain ⟨a, b, t, g, rfl, _⟩ := h
    rfl
  · obtain ⟨a, b, t, g, rfl, hT, hG, t0, t1, g0, g1, k⟩ := h
    refine ⟨_, pss_cons (ps_set (i := 2) scST.nd rfl (.inl rfl) pe_int)
      (pss_cons (ps_set (i := 3) scST.nd rfl (.inl rfl) (pe_op op_sub (pe_callB call_len_seq (by rfl) T.len PySem.boot_len (pa_cons (pv 0) pa_nil)) pe_int))
      (pss_cons (ps_while PassesOwn.never (PW.pt (pw_and (pt_cmpR op_lt (pv 2) (pv 3) (nomark _)) (pw_and1 (pt_cmpR op_eq
          (pe_op op_sub (pe_ix ix_seq (pv 0) (pe_op op_sub (pv 3) (pv 2)) (fun _ _ => rfl)) (pe_ix ix_seq (pv 0) (pe_op op_sub (pe_op op_sub (pv 3) (pv 2)) pe_int) (fun _ _ => rfl)))
          (pe_ix ix_seq (pv 1) (pe_op op_sub (pe_un un_neg pe_int) (pe_op op_mod (pv 2) (pe_callB call_len_seq (by rfl) T.len PySem.boot_len (pa_cons (pv 1) pa_nil)))) (fun _ _ => rfl)) (nomark _)))))
        (pss_one (ps_aug (i := 2) scST.nd rfl (.inl rfl) pe_int ip_add)))
      (pss_one (ps_ret (pv 2))))), ?_⟩
    refine q_asg ev_c fun H1 e1 => ?_
    refine q_asg (v := .int ((t.length - 1 : Nat) : Int)) (ev_is (ev_op (ev_cb (ea_cons (ev_var rfl) ea_nil) (rc_lenQ (hT.mono e1))) ev_c rv_I0) (by rw [vI_len]; congr 1; omega)) fun H2 e2 => ?_
    refine q_while (fun m σ' H' => ∃ s : Nat, m = t.length - s ∧ σ' = [some (.ref a), some (.ref b), some (.int (s : Int)), some (.int ((t.length - 1 : Nat) : Int))] ∧ Ex H H' ∧ Spr t g s) t.length ⟨0, rfl, rfl, e1.trans e2, spr_zero t0⟩ ?_
    rintro m σ' H3 ⟨s, rfl, rfl, E3, sp⟩
    have hs := sp.1
    have hr : s % g.length < g.length := Nat.mod_lt _ g0
    have lnG : Ev (tCB (fun xs H Q => ∃ p ys, xs = [V.ref p] ∧ (SqL K H p ys ∨ SqT K H p ys) ∧ Q (.int ys.length) H) (tCons (tVar 1) tNil)) [some (.ref a), some (.ref b), some (.int (s : Int)), some (.int ((t.length - 1 : Nat) : Int))] H3 (.int (g.length : Int)) :=
      ev_is (ev_cb (ea_cons (ev_var rfl) ea_nil) (rc_lenQ (hG.mono E3))) (by rw [vI_len])
    refine ⟨_, et_and (et_test (ev_op (ev_var rfl) (ev_var rfl) rv_I0)) (fun hlt => et_test (ev_op
      (ev_op (ev_op (y := .int ((t.length - 1 - s : Nat) : Int)) (ev_var rfl) (ev_is (ev_op (ev_var rfl) (ev_var rfl) rv_I0) (by congr 1; omega)) (rv_ix (hT.mono E3) (atI_vI (by omega))))
        (ev_op (y := .int ((t.length - 1 - s - 1 : Nat) : Int)) (ev_var rfl) (ev_is (ev_op (ev_op (ev_var rfl) (ev_var rfl) rv_I0) ev_c rv_I0) (by have := of_decide_eq_true hlt; congr 1; omega)) (rv_ix (hT.mono E3) (atI_vI (by omega)))) rv_I0)
      (ev_op (y := .int (-1 - ((s % g.length : Nat) : Int))) (ev_var rfl) (ev_is (ev_op (ev_un ev_c ru_neg) (ev_op (ev_var rfl) lnG (rv_I (by omega))) rv_I0) (by congr 1)) (rv_ix (hG.mono E3) (atI_neg hr))) (rv_eq rfl))), fun ht H4 e4 => ?_, fun ht H4 e4 => ?_⟩
    · obtain ⟨h1, h2⟩ := Bool.and_eq_true_iff.mp ht
      rw [vint_inj] at h2
      have h1' := of_decide_eq_true h1
      have h2' := of_decide_eq_true h2
      refine ⟨fun σ' H' => σ' = [some (.ref a), some (.ref b), some (.int ((s + 1 : Nat) : Int)), some (.int ((t.length - 1 : Nat) : Int))] ∧ Ex H H', fun σ2 H5 h5 => ⟨t.length - (s + 1), by omega, s + 1, rfl, h5.1, h5.2, spr_step sp (by omega) h2'⟩, ?_⟩
      exact s_aug (f := fun x y => x + y) (a := (s : Int)) (b := 1) rfl ev_c fun H5 e5 => ⟨rfl, (E3.trans e4).trans e5⟩
    · refine s_ret (ev_var rfl) fun H5 e5 => k s sp ?_ H5 ((E3.trans e4).trans e5)
      rcases Nat.lt_or_ge s (t.length - 1) with z | z
      · right
        rw [decide_eq_true (by omega : ((s : Int) < ((t.length - 1 : Nat) : Int))), Bool.true_and, vint_inj] at ht
        exact of_decide_eq_false ht
      · left
        omega
end
end K05
namespace Gr
theorem dif_take {g : List Int} {p : Nat} (h : Pd (dif g) p) (hp : 0 < p) (hn : p ≤ g.length) : dif (g.take p) = dif g := funext fun k => by
  have e : (g.take p).length = p := by rw [List.length_take]; omega
  have hk : k % p < p := Nat.mod_lt _ hp
  show at' (g.take p) (k % (g.take p).length) = dif g k
  rw [e, at_take hk, ← dif_lt (g := g) (k := k % p) (by omega)]
  exact h.mod k
theorem ex_least {α : Type} {d : Nat → α} : ∀ p, 0 < p → Pd d p → ∃ q, Least d q := by
  intro p
  induction p using Nat.strongRecOn with
  | ind p ih =>
    intro hp h
    by_cases e : ∃ q, q < p ∧ 0 < q ∧ Pd d q
    · obtain ⟨q, h1, h2, h3⟩ := e
      exact ih q h1 h2 h3
    · refine ⟨p, hp, h, fun q h2 h3 => ?_⟩
      rcases Nat.lt_or_ge q p with h1 | h1
      · exact absurd ⟨q, h1, h2, h3⟩ e
      · exact h1
theorem Least.one {α : Type} {d : Nat → α} {p q : Nat} (h : Least d p) (h' : Least d q) : p = q := Nat.le_antisymm (h.le q h'.pos h'.pd) (h'.le p h.pos h.pd)
theorem Least.dvd {g : List Int} {p : Nat} (h : Least (dif g) p) (hn : 0 < g.length) : p ∣ g.length ∧ p ≤ g.length := by
  have a := Pd.gcd p g.length h.pd dif_pd
  have b := h.le _ (Nat.gcd_pos_of_pos_left _ h.pos) a
  have c : Nat.gcd p g.length = p := Nat.le_antisymm (Nat.gcd_le_left _ h.pos) b
  exact ⟨c ▸ Nat.gcd_dvd_right p g.length, h.le _ hn dif_pd⟩
theorem val_congr {t g g' : List Int} (h : dif g = dif g') (n : Nat) : val t g n = val t g' n := by unfold val; rw [h]
end Gr
namespace K05
open PySem L2 Evl Gr
/-! ### tuples that may be new ones or not -/
def EvTu (K : PySem.W.Frag) (te : TE) (σ : L2.St) (H : Hp) (xs : List V) : Prop := ∀ H1, Ex H H1 → ∀ Q : VK, (∀ p H2, Ex H1 H2 → SqT K H2 p xs → Q (.ref p) H2) → te σ H1 Q
section
variable {K : PySem.W.Frag} {σ : L2.St} {H : Hp} {te ta tb : TE} {tl th : TO} {a : Addr} {xs ys : List V} {lo hi : Option Int}
theorem cutV_all {n : Nat} (h1 : HT.sIx xs.length 0 lo = 0) (h2 : HT.sIx xs.length xs.length hi = xs.length) : cutV xs lo hi = xs := by
  unfold cutV
  rw [h1, h2, List.drop_zero, Nat.sub_zero, List.take_length]
theorem etu_cut (h : Ev te σ H (.ref a)) (h1 : EvO tl σ H lo) (h2 : EvO th σ H hi) (hs : SqT K H a xs) : EvTu K (tSl (rSlA K) te tl th) σ H (cutV xs lo hi) := fun H1 e Q q =>
  h H1 e _ fun H2 e2 => h1 H2 (e.trans e2) _ fun H3 e3 => h2 H3 ((e.trans e2).trans e3) _ fun H4 e4 =>
    ⟨a, xs, rfl, ex_t (((e.trans e2).trans e3).trans e4) hs, fun z => q a H4 ((e2.trans e3).trans e4) (by rw [cutV_all (n := 0) z.1 z.2]; exact ex_t (((e.trans e2).trans e3).trans e4) hs),
      fun _ p hp => q p _ (((e2.trans e3).trans e4).trans (Ex.new hp)) (st_of upd_same)⟩
theorem etu_cat (h1 : EvTu K ta σ H xs) (h2 : EvTu K tb σ H ys) (hz : xs.length + ys.length ≤ 100000) : EvTu K (tOp (rCatA K) ta tb) σ H (xs ++ ys) := fun H1 e Q q =>
  h1 H1 e _ fun p H2 e2 hp => h2 H2 (e.trans e2) _ fun r H3 e3 hr =>
    ⟨p, r, xs, ys, rfl, rfl, ex_t e3 hp, hr, sz_of hz, fun z => q r H3 (e2.trans e3) (by rw [z]; exact hr), fun _ z => q p H3 (e2.trans e3) (by rw [z, List.append_nil]; exact ex_t e3 hp),
      fun _ _ b hb => q b _ ((e2.trans e3).trans (Ex.new hb)) (st_of upd_same)⟩
/-- a cut of a list or a tuple -/
def rSlQ (K : PySem.W.Frag) : V → Option Int → Option Int → Hp → VK → Prop := fun x lo hi H Q => rSlL K x lo hi H Q ∨ rSlA K x lo hi H Q
theorem sl_seq {X : Cx} : SlR X (rSlQ X.K) := sl_list.or sl_tupA
/-- tuple(s[lo:hi]) -/
theorem etu_of (h : Ev te σ H (.ref a)) (h1 : EvO tl σ H lo) (h2 : EvO th σ H hi) (hs : Sq K H a xs) : EvTu K (tThen (tSl (rSlQ K) te tl th) (kTup K)) σ H (cutV xs lo hi) := fun H1 e Q q =>
  h H1 e _ fun H2 e2 => h1 H2 (e.trans e2) _ fun H3 e3 => h2 H3 ((e.trans e2).trans e3) _ fun H4 e4 => by
    have E := ((e.trans e2).trans e3).trans e4
    have E1 := (e2.trans e3).trans e4
    rcases hs.mono E with z | z
    · exact .inl ⟨a, xs, rfl, z, fun p hp => .inl ⟨p, _, rfl, sq_of upd_same, fun r hr => q r _ ((E1.trans (Ex.new hp)).trans (Ex.new hr)) (st_of upd_same)⟩⟩
    · exact .inr ⟨a, xs, rfl, z, fun c => .inr ⟨a, _, rfl, z, q a H4 E1 (by rw [cutV_all (n := 0) c.1 c.2]; exact z)⟩, fun _ p hp => .inr ⟨p, _, rfl, st_of upd_same, q p _ (E1.trans (Ex.new hp)) (st_of upd_same)⟩⟩
theorem q_asgT {i : Nat} {tz : TS} {D : Ends} (h : EvTu K te σ H xs) (k : ∀ p H1, Ex H H1 → SqT K H1 p xs → tz D (σ.set i (some (.ref p))) H1) : tSeq (tAsg te (gName i)) tz D σ H := h H (Ex.refl H) _ fun p H1 e s => k p H1 e s
end
theorem cut_take {g : List Int} {n : Nat} (h : n ≤ g.length) : cutV (vI g) none (some (n : Int)) = vI (g.take n) := by
  unfold cutV vI
  rw [show HT.sIx (g.map V.int).length 0 none = 0 from rfl, HT.sIx_nat, List.drop_zero, Nat.sub_zero, List.length_map, Nat.min_eq_left h, List.map_take]
theorem cut_drop {g : List Int} {n : Nat} (h : n ≤ g.length) : cutV (vI g) (some (n : Int)) none = vI (g.drop n) := by
  unfold cutV vI
  rw [HT.sIx_none, HT.sIx_nat, List.length_map, Nat.min_eq_left h, List.take_of_length_le (by rw [List.length_drop, List.length_map]; exact Nat.le_refl _), List.map_drop]
abbrev sNF : Stmt := top 16
section
variable {P : Program} {w : World} {K : PySem.W.Frag} {mg : Str → Option Value} {base : Heap}
/-! ### normal_form -/
/-- a pair of the told values and gains of a normal form -/
def RetNF (K : PySem.W.Frag) (t g : List Int) (H : Hp) (Q : VK) : Prop := ∀ r p q t' g' H', Ex H H' → SqT K H' r [.ref p, .ref q] → SqT K H' p (vI t') → SqT K H' q (vI g') → NF t' g' → (∀ n, val t' g' n = val t g n) →
  t'.length ≤ t.length → g'.length ≤ g.length → Q (.ref r) H'
def spNF (K : PySem.W.Frag) : Sp := fun vs H Q _ => ∃ (a b : Addr) (t g : List Int), vs = [.ref a, .ref b] ∧ Sq K H a (vI t) ∧ Sq K H b (vI g) ∧ 0 < t.length ∧ t.length ≤ 4000 ∧ 0 < g.length ∧ g.length ≤ 4000 ∧ RetNF K t g H Q
theorem scNF : FnScope ["told", "gains", "few", "spare", "cut"] ["told", "gains"] (defScope sNF) := ⟨rfl, rfl, rfl, by decide +kernel, rfl, by decide +kernel, by decide +kernel⟩
theorem ok_NF {f fL fS : Addr} {fd fdL fdS : FuncData} (F : Fun K "normal_form" "normal_form" sNF f fd) (T : GlbS mg)
    (FL : Fun K "least_period" "least_period" sLP fL fdL) (bL : Binds K fdL ["gains"] []) (gL : mg "least_period" = some (.ref fL))
    (FS : Fun K "spare_told" "spare_told" sST fS fdS) (bS : Binds K fdS ["told", "gains"] []) (gS : mg "spare_told" = some (.ref fS)) : FnOk P w K mg base CX0 2 f fd ["told", "gains"] (spNF K) := by
  have GL : FnOk P w K mg base CX0 1 fL fdL ["gains"] (spLP K) := ok_LP FL T
  have GS : FnOk P w K mg base CX0 1 fS fdS ["told", "gains"] (spST K) := ok_ST FS T
  refine F.ok scNF (fun vs H Q E h => ?_) (fun cdv A outer s H vs Q E hr h => ?_)
  · obtain ⟨a, b, t, g, rfl, _⟩ := h
    rfl
  · obtain ⟨a, b, t, g, rfl, hT, hG, t0, t1, g0, g1, k⟩ := h
    refine ⟨_, pss_cons (ps_set (i := 2) scNF.nd rfl (.inl rfl) (pe_tupleOf (by rfl) T.tuple (pe_slice sl_seq (pv 1) po_none (po_some (pe_call GL hr (by rfl) gL FL.kp bL .nil pass0 (pa_cons (pv 1) pa_nil))))))
      (pss_cons (ps_set (i := 3) scNF.nd rfl (.inl rfl) (pe_call GS hr (by rfl) gS FS.kp bS .nil pass0 (pa_cons (pv 0) (pa_cons (pv 2) pa_nil))))
      (pss_cons (ps_set (i := 4) scNF.nd rfl (.inl rfl) (pe_op op_sub (pe_callB call_len_seq (by rfl) T.len PySem.boot_len (pa_cons (pv 2) pa_nil)) (pe_op op_mod (pv 3) (pe_callB call_len_seq (by rfl) T.len PySem.boot_len (pa_cons (pv 2) pa_nil)))))
      (pss_one (ps_ret (pe_tup (pa_cons (pe_tupleOf (by rfl) T.tuple (pe_slice sl_seq (pv 0) po_none (po_some (pe_op op_sub (pe_callB call_len_seq (by rfl) T.len PySem.boot_len (pa_cons (pv 0) pa_nil)) (pv 3)))))
        (pa_cons (pe_op op_catA (pe_slice sl_tupA (pv 2) (po_some (pv 4)) po_none) (pe_slice sl_tupA (pv 2) po_none (po_some (pv 4)))) pa_nil))))))), ?_⟩
    obtain ⟨p, lp⟩ := ex_least g.length g0 (dif_pd (g := g))
    obtain ⟨pd, pn⟩ := lp.dvd g0
    have fl : (g.take p).length = p := by rw [List.length_take]; omega
    have l00 : 0 < p := lp.pos
    have fd' : dif (g.take p) = dif g := dif_take lp.pd lp.pos pn
    refine q_asgT (xs := vI (g.take p)) (by
      have z := etu_of (K := K) (σ := [some (.ref a), some (.ref b), none, none, none]) (H := H) (te := tVar 1) (tl := tNoPart) (th := tPart (tCall (spLP K) [] E0 (tCons (tVar 1) tNil))) (a := b) (xs := vI g) (lo := none) (hi := some (p : Int))
        (ev_var rfl) eo_none (eo_some (ev_call (ea_cons (ev_var rfl) ea_nil) (fun H1 e Q q E => ⟨b, g, rfl, hG.mono e, g0, g1, fun p' l' _ _ => by rw [l'.one lp]; exact q⟩))) hG
      rw [cut_take pn] at z
      exact z) fun c H1 e1 hF => ?_
    refine ⟨_, rfl, _, rfl, a, c, t, g.take p, rfl, hT.mono e1, .inr hF, t0, t1, by omega, by omega, fun s sp fin H2 e2 => ?_⟩
    have l0 : 0 < p := lp.pos
    have hr2 : s % p < p := Nat.mod_lt _ l0
    have hF2 := ex_t e2 hF
    have ln : ∀ {σ'' : L2.St} {H' : Hp}, SqT K H' c (vI (g.take p)) → σ''[2]? = some (some (.ref c)) → Ev (tCB (fun xs H Q => ∃ p ys, xs = [V.ref p] ∧ (SqL K H p ys ∨ SqT K H p ys) ∧ Q (.int ys.length) H) (tCons (tVar 2) tNil)) σ'' H' (.int (p : Int)) := fun e h0 => ev_is (ev_cb (ea_cons (ev_var h0) ea_nil) (rc_lenQ (.inr e))) (by rw [vI_len, fl])
    show tSeq _ _ _ _ _
    refine q_asg (v := .int ((p - s % p : Nat) : Int)) (ev_is (ev_op (ln hF2 rfl) (ev_op (ev_var rfl) (ln hF2 rfl) (rv_I (by omega))) rv_I0) (by congr 1; omega)) fun H3 e3 => ?_
    have E3 := (e1.trans e2).trans e3
    have hF3 := ex_t e3 hF2
    have hs := sp.1
    have c1 : EvTu K (tThen (tSl (rSlQ K) (tVar 0) tNoPart (tPart (tOp (rI0 fun i j => .int (i - j)) (tCB (fun xs H Q => ∃ p ys, xs = [V.ref p] ∧ (SqL K H p ys ∨ SqT K H p ys) ∧ Q (.int ys.length) H) (tCons (tVar 0) tNil)) (tVar 3)))) (kTup K))
        [some (.ref a), some (.ref b), some (.ref c), some (.int (s : Int)), some (.int ((p - s % p : Nat) : Int))] H3 (vI (cutT t s)) := by
      have z := etu_of (K := K) (σ := [some (.ref a), some (.ref b), some (.ref c), some (.int (s : Int)), some (.int ((p - s % p : Nat) : Int))]) (H := H3) (te := tVar 0) (tl := tNoPart)
        (th := tPart (tOp (rI0 fun i j => .int (i - j)) (tCB (fun xs H Q => ∃ p ys, xs = [V.ref p] ∧ (SqL K H p ys ∨ SqT K H p ys) ∧ Q (.int ys.length) H) (tCons (tVar 0) tNil)) (tVar 3))) (a := a) (xs := vI t) (lo := none) (hi := some ((t.length - s : Nat) : Int))
        (ev_var rfl) eo_none (eo_some (ev_is (ev_op (ev_cb (ea_cons (ev_var rfl) ea_nil) (rc_lenQ (hT.mono E3))) (ev_var rfl) rv_I0) (by rw [vI_len]; congr 1; omega))) (hT.mono E3)
      rw [cut_take (by omega)] at z
      exact z
    refine c1 H3 (Ex.refl H3) _ fun u H4 e4 hu => ?_
    have hF4 := ex_t e4 hF3
    have c2 := etu_cat (K := K) (σ := [some (.ref a), some (.ref b), some (.ref c), some (.int (s : Int)), some (.int ((p - s % p : Nat) : Int))]) (H := H4)
      (etu_cut (te := tVar 2) (tl := tPart (tVar 4)) (th := tNoPart) (lo := some ((p - s % p : Nat) : Int)) (hi := none) (ev_var rfl) (eo_some (ev_var rfl)) eo_none hF4)
      (etu_cut (te := tVar 2) (tl := tNoPart) (th := tPart (tVar 4)) (lo := none) (hi := some ((p - s % p : Nat) : Int)) (ev_var rfl) eo_none (eo_some (ev_var rfl)) hF4)
      (by
        have z1 := cutV_length (vI (g.take p)) (some ((p - s % p : Nat) : Int)) none
        have z2 := cutV_length (vI (g.take p)) none (some ((p - s % p : Nat) : Int))
        rw [vI_len, fl] at z1 z2
        omega)
    rw [cut_take (by omega), cut_drop (by omega)] at c2
    refine c2 H4 (Ex.refl H4) _ fun v H5 e5 hv => ?_
    refine ⟨by show 2 ≤ sizeLine; decide, fun r hr => ?_⟩
    have e6 := Ex.new (H := H5) (o := .tup [.ref u, .ref v]) hr
    have gl : 0 < (g.take p).length := by omega
    have ll : Least (dif (g.take p)) (g.take p).length := by rw [fd', fl]; exact lp
    refine k r u v (cutT t s) (cutG (g.take p) s) _ (((E3.trans e4).trans e5).trans e6) (st_of upd_same) (ex_t e6 (ex_t e5 hu)) ?_ (nf_cut gl ll sp fin) (fun n => (val_cut gl sp n).trans (val_congr fd' n)) (by rw [cutT_len hs]; omega) (by rw [cutG_len]; omega)
    have e7 : cutG (g.take p) s = (g.take p).drop (p - s % p) ++ (g.take p).take (p - s % p) := by unfold cutG; rw [fl]
    rw [e7]
    unfold vI at hv ⊢
    rw [List.map_append]
    exact ex_t e6 hv
end
end K05
namespace Gr
/-- the sums of the first gains, from none of them to all -/
def ris (g : List Int) : List Int := (List.range (g.length + 1)).map (acc (dif g))
theorem ris_len {g : List Int} : (ris g).length = g.length + 1 := by unfold ris; rw [List.length_map, List.length_range]
theorem ris_at {g : List Int} {i : Nat} (h : i ≤ g.length) : at' (ris g) i = acc (dif g) i := at_map_range (by omega)
def pre (d : Nat → Int) (n : Nat) : List Int := (List.range (n + 1)).map (acc d)
theorem pre_len {d : Nat → Int} {n : Nat} : (pre d n).length = n + 1 := by unfold pre; rw [List.length_map, List.length_range]
theorem pre_succ {d : Nat → Int} {n : Nat} : pre d (n + 1) = pre d n ++ [acc d n + d n] := by
  unfold pre
  rw [List.range_succ, List.map_append]
  rfl
theorem pre_last {d : Nat → Int} {n : Nat} : at' (pre d n) ((pre d n).length - 1) = acc d n := by
  rw [pre_len]
  exact at_map_range (by omega)
/-- gains whose sum is not great -/
def Small (g : List Int) : Prop := ∀ i, i < g.length → 0 ≤ at' g i ∧ at' g i ≤ 4000000000000000
theorem acc_small {g : List Int} (h : Small g) (hg : 0 < g.length) : ∀ n, 0 ≤ acc (dif g) n ∧ acc (dif g) n ≤ 4000000000000000 * (n : Int)
  | 0 => ⟨Int.le_refl _, by show (0 : Int) ≤ _; omega⟩
  | n + 1 => by
    have a := acc_small h hg n
    have b := h (n % g.length) (Nat.mod_lt _ hg)
    show 0 ≤ acc (dif g) n + dif g n ∧ acc (dif g) n + dif g n ≤ _
    have e : dif g n = at' g (n % g.length) := rfl
    omega
end Gr
namespace K05
open PySem L2 Evl Gr
abbrev sRis : Stmt := top 17
abbrev sVal : Stmt := top 18
/-! ### growths as they stand in the heap -/
structure GCls (K : PySem.W.Frag) (C : Addr) : Prop where
  cls : Cls K C
  told : NoAttr K C "told"
  gains : NoAttr K C "gains"
  rises : NoAttr K C "rises"
def GrAt (K : PySem.W.Frag) (C : Addr) (H : Hp) (o : Addr) (t g : List Int) : Prop := ∃ dx p q r, H o = some (.ins C dx [("told", .ref p), ("gains", .ref q), ("rises", .ref r)]) ∧ SqT K H p (vI t) ∧ SqT K H q (vI g) ∧ SqT K H r (vI (ris g)) ∧
  NF t g ∧ t.length ≤ 2000 ∧ g.length ≤ 2000 ∧ Small g
theorem GrAt.mono {K : PySem.W.Frag} {C : Addr} {H H' : Hp} {o : Addr} {t g : List Int} (e : Ex H H') (h : GrAt K C H o t g) : GrAt K C H' o t g := by
  obtain ⟨dx, p, q, r, h1, h2, h3, h4, h5⟩ := h
  exact ⟨dx, p, q, r, e _ _ h1, ex_t e h2, ex_t e h3, ex_t e h4, h5⟩
theorem ev_fld {K : PySem.W.Frag} {σ : L2.St} {H : Hp} {ta : TE} {o C dx : Addr} {fs : List (Str × V)} {v : V} {f : Str} (ha : Ev ta σ H (.ref o)) (ho : H o = some (.ins C dx fs)) (c : Cls K C) (n : NoAttr K C f) (hf : fs.lookup f = some v) :
    Ev (tFld K ta f) σ H v := fun H1 e Q q => ha H1 e _ fun H2 e2 => ⟨o, C, dx, fs, v, rfl, e2 _ _ (e _ _ ho), c, n, hf, q H2 e2⟩
section
variable {P : Program} {w : World} {K : PySem.W.Frag} {mg : Str → Option Value} {base : Heap}
/-! ### rises_of -/
def spRis (K : PySem.W.Frag) : Sp := fun vs H Q _ => ∃ (a : Addr) (g : List Int), vs = [.ref a] ∧ SqT K H a (vI g) ∧ g.length ≤ 4000 ∧ ∀ p H', Ex H H' → SqT K H' p (vI (ris g)) → Q (.ref p) H'
theorem scRis : FnScope ["gains", "rises", "gain"] ["gains"] (defScope sRis) := ⟨rfl, rfl, rfl, by decide +kernel, rfl, by decide +kernel, by decide +kernel⟩
theorem ok_Ris {f : Addr} {fd : FuncData} (F : Fun K "rises_of" "rises_of" sRis f fd) (T : GlbS mg) : FnOk P w K mg base CX0 1 f fd ["gains"] (spRis K) := by
  refine F.ok scRis (fun vs H Q E h => ?_) (fun cdv A outer s H vs Q E hr h => ?_)
  · obtain ⟨a, g, rfl, _⟩ := h
    rfl
  · obtain ⟨a, g, rfl, hG, g1, k⟩ := h
    refine ⟨_, pss_cons (ps_set (i := 1) scRis.nd rfl (.inl rfl) (pe_lst (pa_cons pe_int pa_nil)))
      (pss_cons (ps_for PassesOwn.never rfl (pi_tup (pv 0)) (pg_name (i := 2) scRis.nd rfl (.inl rfl))
        (pss_one (ps_expr (pe_bm PySem.F.plainAttrs_list PySem.F.slot_list_append PySem.F.type_list_append mt_append (pv 1) (pa_cons (pe_op op_add (pe_ix ix_list (pv 1) (pe_un un_neg pe_int) (fun _ _ => rfl)) (pv 2)) pa_nil)))))
      (pss_one (ps_ret (pe_tupleOf (by rfl) T.tuple (pv 1))))), ?_⟩
    refine q_asgL (xs := vI [0]) (el_lst (ea_cons ev_c ea_nil) (Nat.le_of_ble_eq_true rfl)) fun b H1 hb e1 h1 => ?_
    refine q_forT (xs := vI g) (ev_var rfl) (ex_t e1 hG) (fun i σ' H' => (∃ x, σ' = [some (.ref a), some (.ref b), x]) ∧ H' b = some (.lst (vI (pre (dif g) i))) ∧ Ex H H') (fun H2 e2 => ⟨⟨_, rfl⟩, e2 _ _ h1, e1.trans e2⟩) (fun i σ' H' _ z => ex_t z.2.2 hG) ?_ ?_
    · rintro i x σ' H2 hx ⟨⟨x2, rfl⟩, h2, e2⟩
      have hi : i < g.length := by
        have := (List.getElem?_eq_some_iff.mp hx).1
        rwa [vI_len] at this
      rw [vI_get hi] at hx
      obtain rfl := Option.some.inj hx
      show tDrop _ _ _ _
      refine s_app h2 (ev_var rfl) (v := .int (acc (dif g) i + dif g i)) (ev_op (ev_op (ev_var rfl) (ev_un ev_c ru_neg) (rv_ixL (sq_of h2) (by rw [atI_vlast (by rw [pre_len]; omega), pre_last]))) (ev_is (ev_var rfl) (by rw [dif_lt hi])) rv_I0) (by rw [vI_len, pre_len]; omega) fun H3 e3 => ?_
      exact ⟨⟨_, rfl⟩, by rw [upd_same, vI_app, pre_succ], (e2.trans e3).mut hb⟩
    · rintro σ' H2 ⟨⟨x2, rfl⟩, h2, e2⟩
      rw [vI_len] at h2
      refine ⟨_, rfl, .inl ⟨b, _, rfl, sq_of h2, fun q hq => k q _ (e2.trans (Ex.new hq)) (st_of upd_same)⟩⟩
/-! ### value_at -/
/-- i, j = divmod(a, b) -/
theorem q_divmod {σ : L2.St} {H : Hp} {ta : TA} {a b : Int} {i j : Nat} {tz : TS} {D : Ends} (h : EvA ta σ H [.int a, .int b]) (hc : CDiv a b) (k : ∀ H1, Ex H H1 → tz D ((σ.set i (some (.int (a / b)))).set j (some (.int (a % b)))) H1) :
    tSeq (tAsg (tCB (fun xs H Q => ∃ i j, xs = [V.int i, V.int j] ∧ CDiv i j ∧ ∀ p, H p = none → Q (.ref p) (upd H p (.tup [.int (i / j), .int (i % j)]))) ta) (gTup K 2 (gCons (gName i) (gCons (gName j) gNil)))) tz D σ H :=
  h H (Ex.refl H) _ fun H2 e2 => ⟨a, b, rfl, hc, fun p hp => ⟨p, _, rfl, st_of upd_same, rfl, _, _, rfl, _, _, rfl, rfl, k _ (e2.trans (Ex.new hp))⟩⟩
structure GlbV (mg : Str → Option Value) : Prop where
  divmod : mg "divmod" = none
  max : mg "max" = none
  zip : mg "zip" = none
theorem spv_val_far {t g : List Int} {n : Nat} (h0 : 0 < t.length) (hn : t.length ≤ n) : val t g n = at' t (t.length - 1) + ((n - t.length + 1) / g.length : Nat) * acc (dif g) g.length + acc (dif g) ((n - t.length + 1) % g.length) := val_far h0 hn
def spVal (K : PySem.W.Frag) (C : Addr) : Sp := fun vs H Q _ => ∃ (o : Addr) (n : Nat) (t g : List Int), vs = [.ref o, .int (n : Int)] ∧ GrAt K C H o t g ∧ RetV (.int (val t g n)) H Q
theorem scVal : FnScope ["one", "n", "rounds", "rest"] ["one", "n"] (defScope sVal) := ⟨rfl, rfl, rfl, by decide +kernel, rfl, by decide +kernel, by decide +kernel⟩
theorem ok_Val {C f : Addr} {fd : FuncData} (F : Fun K "value_at" "value_at" sVal f fd) (T : GlbS mg) (DV : GlbV mg) (G : GCls K C) : FnOk P w K mg base CX0 1 f fd ["one", "n"] (spVal K C) := by
  refine F.ok scVal (fun vs H Q E h => ?_) (fun cdv A outer s H vs Q E hr h => ?_)
  · obtain ⟨o, n, t, g, rfl, _⟩ := h
    rfl
  · obtain ⟨o, n, t, g, rfl, hO, k⟩ := h
    refine ⟨_, pss_cons (ps_if (pt_cmpR op_lt (pv 1) (pe_callB call_len_seq (by rfl) T.len PySem.boot_len (pa_cons (pe_fld (pv 0) rfl) pa_nil)) (nomark _)) (pss_one (ps_ret (pe_ix ix_seq (pe_fld (pv 0) rfl) (pv 1) (fun _ _ => rfl)))) pss_nil)
      (pss_cons (ps_asg (pe_callB call_divmod (by rfl) DV.divmod (by decide +kernel) (pa_cons (pe_op op_add (pe_op op_sub (pv 1) (pe_callB call_len_seq (by rfl) T.len PySem.boot_len (pa_cons (pe_fld (pv 0) rfl) pa_nil))) pe_int) (pa_cons (pe_callB call_len_seq (by rfl) T.len PySem.boot_len (pa_cons (pe_fld (pv 0) rfl) pa_nil)) pa_nil)))
        (pg_tup rfl (pgs_cons (pg_name (i := 2) scVal.nd rfl (.inl rfl)) (pgs_cons (pg_name (i := 3) scVal.nd rfl (.inl rfl)) pgs_nil))))
      (pss_one (ps_ret (pe_op op_add (pe_op op_add (pe_ix ix_seq (pe_fld (pv 0) rfl) (pe_un un_neg pe_int) (fun _ _ => rfl)) (pe_op op_mul (pv 2) (pe_ix ix_seq (pe_fld (pv 0) rfl) (pe_un un_neg pe_int) (fun _ _ => rfl)))) (pe_ix ix_seq (pe_fld (pv 0) rfl) (pv 3) (fun _ _ => rfl)))))), ?_⟩
    obtain ⟨dx, p, q, r, h1, h2, h3, h4, nf, t2, g2, sm⟩ := hO
    have t0 := nf.told
    have g0 := nf.gains
    have fT : ∀ {σ'' : L2.St} {H' : Hp}, Ex H H' → σ''[0]? = some (some (.ref o)) → Ev (tFld K (tVar 0) "told") σ'' H' (.ref p) := fun e h0 => ev_fld (ev_var h0) (e _ _ h1) G.cls G.told rfl
    have fG : ∀ {σ'' : L2.St} {H' : Hp}, Ex H H' → σ''[0]? = some (some (.ref o)) → Ev (tFld K (tVar 0) "gains") σ'' H' (.ref q) := fun e h0 => ev_fld (ev_var h0) (e _ _ h1) G.cls G.gains rfl
    have fR : ∀ {σ'' : L2.St} {H' : Hp}, Ex H H' → σ''[0]? = some (some (.ref o)) → Ev (tFld K (tVar 0) "rises") σ'' H' (.ref r) := fun e h0 => ev_fld (ev_var h0) (e _ _ h1) G.cls G.rises rfl
    have lT : ∀ {σ'' : L2.St} {H' : Hp}, Ex H H' → σ''[0]? = some (some (.ref o)) → Ev (tCB (fun xs H Q => ∃ p ys, xs = [V.ref p] ∧ (SqL K H p ys ∨ SqT K H p ys) ∧ Q (.int ys.length) H) (tCons (tFld K (tVar 0) "told") tNil)) σ'' H' (.int (t.length : Int)) :=
      fun e h0 => ev_is (ev_cb (ea_cons (fT e h0) ea_nil) (rc_lenQ (.inr (ex_t e h2)))) (by rw [vI_len])
    have lG : ∀ {σ'' : L2.St} {H' : Hp}, Ex H H' → σ''[0]? = some (some (.ref o)) → Ev (tCB (fun xs H Q => ∃ p ys, xs = [V.ref p] ∧ (SqL K H p ys ∨ SqT K H p ys) ∧ Q (.int ys.length) H) (tCons (tFld K (tVar 0) "gains") tNil)) σ'' H' (.int (g.length : Int)) :=
      fun e h0 => ev_is (ev_cb (ea_cons (fG e h0) ea_nil) (rc_lenQ (.inr (ex_t e h3)))) (by rw [vI_len])
    refine q_when (et_test (ev_op (ev_var rfl) (lT (Ex.refl H) rfl) rv_I0)) (fun ht H1 e1 => ?_) (fun ht H1 e1 => ?_)
    · have hn : n < t.length := by have := of_decide_eq_true ht; omega
      refine s_ret (v := .int (val t g n)) (ev_op (fT e1 rfl) (ev_var rfl) (rv_ix (.inr (ex_t e1 h2)) (by rw [atI_vI hn, val_lt hn]))) fun H2 e2 => k H2 (e1.trans e2)
    · have hn : t.length ≤ n := by have := of_decide_eq_false ht; omega
      obtain ⟨m, hm⟩ : ∃ m, m = n - t.length + 1 := ⟨_, rfl⟩
      have hr2 : m % g.length < g.length := Nat.mod_lt _ g0
      have ea : EvA (tCons (tOp (rI0 fun i j => .int (i + j)) (tOp (rI0 fun i j => .int (i - j)) (tVar 1) (tCB (fun xs H Q => ∃ p ys, xs = [V.ref p] ∧ (SqL K H p ys ∨ SqT K H p ys) ∧ Q (.int ys.length) H) (tCons (tFld K (tVar 0) "told") tNil))) (tC (.int 1)))
          (tCons (tCB (fun xs H Q => ∃ p ys, xs = [V.ref p] ∧ (SqL K H p ys ∨ SqT K H p ys) ∧ Q (.int ys.length) H) (tCons (tFld K (tVar 0) "gains") tNil)) tNil)) [some (.ref o), some (.int (n : Int)), none, none] H1 [.int (m : Int), .int (g.length : Int)] :=
        ea_cons (ev_is (ev_op (ev_op (ev_var rfl) (lT e1 rfl) rv_I0) ev_c rv_I0) (by congr 1; omega)) (ea_cons (lG e1 rfl) ea_nil)
      refine q_divmod ea ⟨by omega, by omega⟩ fun H3 e2 => ?_
      have e3 := e1.trans e2
      show tRet _ _ _ _
      have S := acc_small sm g0 g.length
      refine s_ret (v := .int (val t g n)) (ev_is (ev_op (ev_op (ev_op (fT e3 rfl) (ev_un ev_c ru_neg) (rv_ix (.inr (ex_t e3 h2)) (atI_vlast t0)))
        (ev_op (y := .int (acc (dif g) g.length)) (ev_var rfl) (ev_op (fR e3 rfl) (ev_un ev_c ru_neg) (rv_ix (.inr (ex_t e3 h4)) (by rw [atI_vlast (by rw [ris_len]; omega), ris_len, Nat.add_sub_cancel, ris_at (Nat.le_refl _)]))) (rv_I (.inr ⟨by omega, by omega⟩))) rv_I0)
        (ev_op (y := .int ((m % g.length : Nat) : Int)) (z := .int (acc (dif g) (m % g.length))) (fR e3 rfl) (ev_var rfl) (rv_ix (.inr (ex_t e3 h4)) (by rw [atI_vI (by rw [ris_len]; omega), ris_at (by omega)]))) rv_I0) ?_) fun H4 e4 => k H4 (e3.trans e4)
      rw [spv_val_far t0 hn, ← hm]
      rfl
end
end K05
namespace Gr
theorem pT_at {f : Nat → Int} {n i : Nat} (h : i < n) : at' (pT f n) i = f i := at_map_range h
theorem pT_succ {f : Nat → Int} {n : Nat} : pT f (n + 1) = pT f n ++ [f n] := by
  unfold pT
  rw [List.range_succ, List.map_append]
  rfl
theorem pT_take {t g : List Int} {n : Nat} (h : n ≤ t.length) : t.take n = pT (val t g) n := by
  refine at_eq_of (by rw [pT_len, List.length_take]; omega) fun i hi => ?_
  rw [List.length_take] at hi
  rw [at_take (by omega), pT_at (by omega), val_lt (by omega)]
theorem val_next {t g : List Int} {n : Nat} (h0 : 0 < t.length) (h : t.length ≤ n) : val t g n = val t g (n - 1) + dif g (n - t.length) := by
  have := val_step (g := g) h0 (n - t.length)
  rw [show t.length - 1 + (n - t.length) + 1 = n by omega, show t.length - 1 + (n - t.length) = n - 1 by omega] at this
  omega
end Gr
namespace K05
open PySem L2 Evl Gr
abbrev sFirst : Stmt := top 19
section
variable {K : PySem.W.Frag} {σ : L2.St} {H : Hp} {te : TE} {xs : List V}
/-- list(t), t a tuple that may be a new one -/
theorem el_ofT (h : EvTu K te σ H xs) : EvL (tCB (rListS K) (tCons te tNil)) σ H xs := fun H1 e Q q =>
  h H1 e _ fun p H2 e2 hp => ⟨p, xs, rfl, .inr hp, fun l hl => q l _ (fresh_back e2 hl) (e2.trans (Ex.new hl)) upd_same⟩
end
section
variable {P : Program} {w : World} {K : PySem.W.Frag} {mg : Str → Option Value} {base : Heap}
/-! ### first_values -/
def spFirst (K : PySem.W.Frag) (C : Addr) : Sp := fun vs H Q _ => ∃ (o : Addr) (m : Nat) (t g : List Int), vs = [.ref o, .int (m : Int)] ∧ GrAt K C H o t g ∧ m ≤ 10000 ∧ ∀ p H', H p = none → Ex H H' → H' p = some (.lst (vI (pT (val t g) m))) → Q (.ref p) H'
theorem scFirst : FnScope ["one", "many", "values", "at"] ["one", "many"] (defScope sFirst) := ⟨rfl, rfl, rfl, by decide +kernel, rfl, by decide +kernel, by decide +kernel⟩
theorem ok_First {C f : Addr} {fd : FuncData} (F : Fun K "first_values" "first_values" sFirst f fd) (T : GlbS mg) (G : GCls K C) : FnOk P w K mg base CX0 1 f fd ["one", "many"] (spFirst K C) := by
  refine F.ok scFirst (fun vs H Q E h => ?_) (fun cdv A outer s H vs Q E hr h => ?_)
  · obtain ⟨o, n, t, g, rfl, _⟩ := h
    rfl
  · obtain ⟨o, m, t, g, rfl, hO, hm, k⟩ := h
    refine ⟨_, pss_cons (ps_set (i := 2) scFirst.nd rfl (.inl rfl) (pe_callTy call_list_of (by rfl) T.list (by decide +kernel) (pa_cons (pe_slice sl_tupA (pe_fld (pv 0) rfl) po_none (po_some (pv 1))) pa_nil)))
      (pss_cons (ps_set (i := 3) scFirst.nd rfl (.inl rfl) pe_int)
      (pss_cons (ps_while PassesOwn.never (pt_cmpR op_lt (pe_callB call_len_seq (by rfl) T.len PySem.boot_len (pa_cons (pv 2) pa_nil)) (pv 1) (nomark _))
        (pss_cons (ps_expr (pe_bm PySem.F.plainAttrs_list PySem.F.slot_list_append PySem.F.type_list_append mt_append (pv 2) (pa_cons (pe_op op_add (pe_ix ix_list (pv 2) (pe_un un_neg pe_int) (fun _ _ => rfl)) (pe_ix ix_seq (pe_fld (pv 0) rfl) (pv 3) (fun _ _ => rfl))) pa_nil)))
        (pss_cons (ps_aug (i := 3) scFirst.nd rfl (.inl rfl) pe_int ip_add)
        (pss_one (ps_if (pt_cmpR op_eq (pv 3) (pe_callB call_len_seq (by rfl) T.len PySem.boot_len (pa_cons (pe_fld (pv 0) rfl) pa_nil)) (nomark _)) (pss_one (ps_set (i := 3) scFirst.nd rfl (.inl rfl) pe_int)) pss_nil)))))
      (pss_one (ps_ret (pv 2))))), ?_⟩
    obtain ⟨dx, p, q, r, h1, h2, h3, h4, nf, t2, g2, sm⟩ := hO
    have t0 := nf.told
    have g0 := nf.gains
    have fT : ∀ {σ'' : L2.St} {H' : Hp}, Ex H H' → σ''[0]? = some (some (.ref o)) → Ev (tFld K (tVar 0) "told") σ'' H' (.ref p) := fun e h0 => ev_fld (ev_var h0) (e _ _ h1) G.cls G.told rfl
    have fG : ∀ {σ'' : L2.St} {H' : Hp}, Ex H H' → σ''[0]? = some (some (.ref o)) → Ev (tFld K (tVar 0) "gains") σ'' H' (.ref q) := fun e h0 => ev_fld (ev_var h0) (e _ _ h1) G.cls G.gains rfl
    have lG : ∀ {σ'' : L2.St} {H' : Hp}, Ex H H' → σ''[0]? = some (some (.ref o)) → Ev (tCB (fun xs H Q => ∃ p ys, xs = [V.ref p] ∧ (SqL K H p ys ∨ SqT K H p ys) ∧ Q (.int ys.length) H) (tCons (tFld K (tVar 0) "gains") tNil)) σ'' H' (.int (g.length : Int)) :=
      fun e h0 => ev_is (ev_cb (ea_cons (fG e h0) ea_nil) (rc_lenQ (.inr (ex_t e h3)))) (by rw [vI_len])
    obtain ⟨n0, hn0⟩ : ∃ n0, n0 = min m t.length := ⟨_, rfl⟩
    have c1 : EvL (tCB (rListS K) (tCons (tSl (rSlA K) (tFld K (tVar 0) "told") tNoPart (tPart (tVar 1))) tNil)) [some (.ref o), some (.int (m : Int)), none, none] H (vI (pT (val t g) n0)) := by
      have z := etu_cut (K := K) (σ := [some (.ref o), some (.int (m : Int)), none, none]) (H := H) (te := tFld K (tVar 0) "told") (tl := tNoPart) (th := tPart (tVar 1)) (lo := none) (hi := some (m : Int)) (fT (Ex.refl H) rfl) eo_none (eo_some (ev_var rfl)) h2
      have e : cutV (vI t) none (some (m : Int)) = vI (pT (val t g) n0) := by
        rcases Nat.lt_or_ge t.length m with c | c
        · have e1 : cutV (vI t) none (some (m : Int)) = vI t := cutV_all (n := 0) rfl (by rw [HT.sIx_nat, vI_len]; omega)
          rw [e1, show n0 = t.length by omega, ← pT_take (g := g) (Nat.le_refl _), List.take_length]
        · rw [cut_take c, show n0 = m by omega, pT_take (g := g) c]
      rw [e] at z
      exact el_ofT z
    refine q_asgL c1 fun b H1 hb e1 hb1 => ?_
    refine q_asg ev_c fun H2 e2 => ?_
    refine q_while (fun u σ' H' => ∃ n : Nat, u = m - n ∧ n ≤ m ∧ (n < m → t.length ≤ n) ∧ 0 < n + 1 ∧ σ' = [some (.ref o), some (.int (m : Int)), some (.ref b), some (.int (((n - t.length) % g.length : Nat) : Int))] ∧ H' b = some (.lst (vI (pT (val t g) n))) ∧ Ex H H') (m - n0)
      ⟨n0, rfl, by omega, fun _ => by omega, by omega, by rw [show n0 - t.length = 0 by omega, Nat.zero_mod]; rfl, e2 _ _ hb1, e1.trans e2⟩ ?_
    rintro u σ' H3 ⟨n, rfl, nm, nt, _, rfl, hb3, E3⟩
    refine ⟨_, et_test (ev_op (ev_is (ev_cb (ea_cons (ev_var rfl) ea_nil) (rc_len (sq_of hb3))) (by rw [vI_len, pT_len])) (ev_var rfl) rv_I0), fun ht H4 e4 => ?_, fun ht H4 e4 => ?_⟩
    · have hlt : n < m := by have := of_decide_eq_true ht; omega
      have hT := nt hlt
      have hr2 : (n - t.length) % g.length < g.length := Nat.mod_lt _ g0
      have hb4 := e4 _ _ hb3
      have E4 := E3.trans e4
      refine ⟨fun σ' H' => σ' = [some (.ref o), some (.int (m : Int)), some (.ref b), some (.int (((n + 1 - t.length) % g.length : Nat) : Int))] ∧ H' b = some (.lst (vI (pT (val t g) (n + 1)))) ∧ Ex H H',
        fun σ2 H5 h5 => ⟨m - (n + 1), by omega, n + 1, rfl, by omega, fun _ => by omega, by omega, h5.1, h5.2.1, h5.2.2⟩, ?_⟩
      refine q_app hb4 (ev_var rfl) (v := .int (val t g n)) (ev_is (ev_op (ev_op (ev_var rfl) (ev_un ev_c ru_neg) (rv_ixL (sq_of hb4) (by rw [atI_vlast (by rw [pT_len]; omega), pT_len, pT_at (by omega)])))
        (ev_op (fG E4 rfl) (ev_var rfl) (rv_ix (.inr (ex_t E4 h3)) (atI_vI hr2))) rv_I0) (by rw [val_next t0 hT]; rfl)) (by rw [vI_len, pT_len]; omega) fun H5 e5 => ?_
      have E5 : Ex H (upd H5 b (.lst (vI (pT (val t g) n) ++ [.int (val t g n)]))) := (E4.trans e5).mut hb
      have hb5 : (upd H5 b (.lst (vI (pT (val t g) n) ++ [.int (val t g n)]))) b = some (.lst (vI (pT (val t g) (n + 1)))) := by rw [upd_same, vI_app, pT_succ]
      generalize upd H5 b (.lst (vI (pT (val t g) n) ++ [.int (val t g n)])) = H6 at E5 hb5 ⊢
      refine q_aug (f := fun x y => x + y) (a := (((n - t.length) % g.length : Nat) : Int)) (b := 1) rfl ev_c fun H7 e7 => ?_
      have E7 := E5.trans e7
      have hb7 := e7 _ _ hb5
      have e8 : n + 1 - t.length = n - t.length + 1 := by omega
      refine s_when (et_test (ev_op (ev_var rfl) (lG E7 rfl) (rv_eq rfl))) (fun hq H8 e8' => ?_) (fun hq H8 e8' => ?_)
      · rw [vint_inj] at hq
        have hq' := of_decide_eq_true hq
        refine s_asg ev_c fun H9 e9 => ⟨?_, e9 _ _ (e8' _ _ hb7), (E7.trans e8').trans e9⟩
        have z : (n + 1 - t.length) % g.length = 0 := by
          rw [e8, Nat.add_mod]
          rcases Nat.eq_or_lt_of_le g0 with c | c
          · rw [← c, Nat.mod_one]
          · rw [Nat.mod_eq_of_lt c, show (n - t.length) % g.length + 1 = g.length by omega, Nat.mod_self]
        rw [z]
        rfl
      · rw [vint_inj] at hq
        have hq' := of_decide_eq_false hq
        refine ⟨?_, e8' _ _ hb7, E7.trans e8'⟩
        have z : (n + 1 - t.length) % g.length = (n - t.length) % g.length + 1 := by
          rw [e8, Nat.add_mod]
          rcases Nat.eq_or_lt_of_le g0 with c | c
          · rw [← c, Nat.mod_one] at hq' ⊢
            omega
          · rw [Nat.mod_eq_of_lt c, Nat.mod_eq_of_lt (by omega)]
        rw [z]
        rfl
    · have hge : n = m := by have := of_decide_eq_false ht; omega
      subst hge
      exact s_ret (ev_var rfl) fun H5 e5 => k b H5 hb ((E3.trans e4).trans e5) (e5 _ _ (e4 _ _ hb3))
end
end K05
namespace K05
open PySem L2 Evl Gr
abbrev sPart : Stmt := top 20
abbrev sBegin : Stmt := top 23
abbrev sShift : Stmt := top 21
section
variable {σ : L2.St} {H : Hp} {te : TE} {t : TT}
/-- [e for j in range(a, b) if t] -/
theorem el_lcR2 {ta : TA} {j : Nat} {vs : List Nat} {lo n : Int} (f : Nat → Bool) (v : Nat → V) (h : EvA ta σ H [.int lo, .int n]) (hn : 0 ≤ lo ∧ lo ≤ n ∧ n ≤ 40000) (hw : ∀ x, wipe ((wipe σ vs).set j (some x)) vs = wipe σ vs)
    (ht : ∀ (i : Nat) H1, Ex H H1 → lo + (i : Int) < n → EvT t ((wipe σ vs).set j (some (.int (lo + (i : Int))))) H1 (f i)) (he : ∀ (i : Nat) H1, Ex H H1 → lo + (i : Int) < n → f i = true → Ev te ((wipe σ vs).set j (some (.int (lo + (i : Int))))) H1 (v i)) :
    EvL (tLc (iRng2 ta) (gName j) t te vs) σ H (given (n - lo).toNat f v) := fun H0 e Q q => h H0 e _ fun H1 e1 => ⟨lo, n, rfl, ⟨by omega, by omega, by omega, by omega⟩, fun Dl hD =>
  lc_range (lo := lo) (n := (n - lo).toNat) (Cw H1 f v Dl) ⟨hD, Ex.new hD, upd_same⟩ (fun i H' hi p =>
    ⟨hw _, cw_turn p (by omega) (ht i H1 (e.trans e1) (by omega)) (fun hf => he i H1 (e.trans e1) (by omega) hf)⟩) (fun H' p => q Dl H' (fresh_back e1 p.1) (e1.trans p.2.1) p.2.2)⟩
theorem given_all {n : Nat} {v : Nat → V} : given n (fun _ => true) v = (List.range n).map v := by
  unfold given
  rw [List.filter_eq_self.mpr fun _ _ => rfl]
theorem et_none : EvT (fun σ H Q => Q true H) σ H true := fun H1 _ _ q => q H1 (Ex.refl H1)
end
section
variable {P : Program} {w : World} {K : PySem.W.Frag} {mg : Str → Option Value} {base : Heap}
/-! ### begin_of_both -/
def spBegin (K : PySem.W.Frag) (C : Addr) : Sp := fun vs H Q _ => ∃ (o u : Addr) (t g t' g' : List Int), vs = [.ref o, .ref u] ∧ GrAt K C H o t g ∧ GrAt K C H u t' g' ∧ RetV (.int ((max t.length t'.length : Nat) : Int)) H Q
theorem scBegin : FnScope ["one", "other"] ["one", "other"] (defScope sBegin) := ⟨rfl, rfl, rfl, by decide +kernel, rfl, by decide +kernel, by decide +kernel⟩
theorem ev_lenF {σ : L2.St} {H : Hp} {ta : TE} {o C dx p : Addr} {fs : List (Str × V)} {f : Str} {g : List Int} (ha : Ev ta σ H (.ref o)) (ho : H o = some (.ins C dx fs)) (c : Cls K C) (n : NoAttr K C f) (hf : fs.lookup f = some (.ref p)) (hp : SqT K H p (vI g)) :
    Ev (tCB (fun xs H Q => ∃ p ys, xs = [V.ref p] ∧ (SqL K H p ys ∨ SqT K H p ys) ∧ Q (.int ys.length) H) (tCons (tFld K ta f) tNil)) σ H (.int (g.length : Int)) :=
  ev_is (ev_cb (ea_cons (ev_fld ha ho c n hf) ea_nil) (rc_lenQ (.inr hp))) (by rw [vI_len])
theorem ok_Begin {C f : Addr} {fd : FuncData} (F : Fun K "begin_of_both" "begin_of_both" sBegin f fd) (T : GlbS mg) (DV : GlbV mg) (G : GCls K C) : FnOk P w K mg base CX0 1 f fd ["one", "other"] (spBegin K C) := by
  refine F.ok scBegin (fun vs H Q E h => ?_) (fun cdv A outer s H vs Q E hr h => ?_)
  · obtain ⟨o, u, t, g, t', g', rfl, _⟩ := h
    rfl
  · obtain ⟨o, u, t, g, t', g', rfl, hO, hU, k⟩ := h
    refine ⟨_, pss_one (ps_ret (pe_callB (call_max2 rfl) (by rfl) DV.max (by decide +kernel) (pa_cons (pe_callB call_len_seq (by rfl) T.len PySem.boot_len (pa_cons (pe_fld (pv 0) rfl) pa_nil)) (pa_cons (pe_callB call_len_seq (by rfl) T.len PySem.boot_len (pa_cons (pe_fld (pv 1) rfl) pa_nil)) pa_nil)))), ?_⟩
    obtain ⟨dx, p, q, r, h1, h2, h3, h4, nf, t2, g2, sm⟩ := hO
    obtain ⟨dx', p', q', r', h1', h2', h3', h4', nf', t2', g2', sm'⟩ := hU
    refine s_ret (ev_is (ev_max2 (ev_lenF (ev_var rfl) h1 G.cls G.told rfl h2) (ev_lenF (ev_var rfl) h1' G.cls G.told rfl h2')) ?_) k
    by_cases c : (t'.length : Int) > (t.length : Int)
    · rw [if_pos c]; congr 1; omega
    · rw [if_neg c]; congr 1; omega
/-! ### parted -/
def spPart (K : PySem.W.Frag) : Sp := fun vs H Q _ => ∃ (a : Addr) (b l : Nat) (f : Nat → Int), vs = [.ref a, .int (b : Int)] ∧ SqL K H a (vI (pT f (b + l))) ∧ 0 < b ∧ b + l ≤ 20000 ∧
  ∀ r p q H', Ex H H' → SqT K H' r [.ref p, .ref q] → SqL K H' p (vI (pT f b)) → SqL K H' q (vI (pG f b l)) → Q (.ref r) H'
theorem scPart : FnScope ["values", "many", "gains", "at"] ["values", "many"] (defScope sPart) := ⟨rfl, rfl, rfl, by decide +kernel, rfl, by decide +kernel, by decide +kernel⟩
theorem ok_Part {f : Addr} {fd : FuncData} (F : Fun K "parted" "parted" sPart f fd) (T : GlbS mg) : FnOk P w K mg base CX0 1 f fd ["values", "many"] (spPart K) := by
  refine F.ok scPart (fun vs H Q E h => ?_) (fun cdv A outer s H vs Q E hr h => ?_)
  · obtain ⟨a, b, l, f, rfl, _⟩ := h
    rfl
  · obtain ⟨a, b, l, f, rfl, hA, b0, bl, k⟩ := h
    refine ⟨_, pss_cons (ps_setLc (i := 2) (own := [("at", 3)]) (g := gName 3) rfl scPart.nd rfl (by rfl) (by rfl) (pi_range2 (by rfl) T.range (pa_cons (pv 1) (pa_cons (pe_callB call_len_seq (by rfl) T.len PySem.boot_len (pa_cons (pv 0) pa_nil)) pa_nil))) (blkOk_by (own := [("at", 3)]) (N := ["values", "many", "gains", "at"]) (sc := defScope sPart) (by decide +kernel))
        (fun _ _ _ _ _ => pg_name (i := 3) scPart.nd rfl (Or.inl rfl)) (fun _ _ _ _ _ => pts_nil) (fun _ _ _ _ _ => pe_op op_sub (pe_ix (show IxR _ (rIxL K) from ix_list) (pv 0) (pv 3) (fun _ _ => rfl)) (pe_ix (show IxR _ (rIxL K) from ix_list) (pv 0) (pe_op op_sub (pv 3) pe_int) (fun _ _ => rfl))))
      (pss_one (ps_ret (pe_tup (pa_cons (pe_slice sl_list (pv 0) po_none (po_some (pv 1))) (pa_cons (pv 2) pa_nil))))), ?_⟩
    have c1 : EvL (tLc (iRng2 (tCons (tVar 1) (tCons (tCB (fun xs H Q => ∃ p ys, xs = [V.ref p] ∧ (SqL K H p ys ∨ SqT K H p ys) ∧ Q (.int ys.length) H) (tCons (tVar 0) tNil)) tNil))) (gName 3) tYes
        (tOp (rI0 fun i j => .int (i - j)) (tOp (rIxL K) (tVar 0) (tVar 3)) (tOp (rIxL K) (tVar 0) (tOp (rI0 fun i j => .int (i - j)) (tVar 3) (tC (.int 1))))) [3]) [some (.ref a), some (.int (b : Int)), none, none] H (vI (pG f b l)) := by
      have z := el_lcR2 (σ := [some (.ref a), some (.int (b : Int)), none, none]) (H := H) (t := tYes) (te := tOp (rI0 fun i j => .int (i - j)) (tOp (rIxL K) (tVar 0) (tVar 3)) (tOp (rIxL K) (tVar 0) (tOp (rI0 fun i j => .int (i - j)) (tVar 3) (tC (.int 1))))) (j := 3) (vs := [3]) (lo := (b : Int)) (n := ((b + l : Nat) : Int))
        (fun _ => true) (fun i => V.int (f (b + i) - f (b + i - 1))) (ta := tCons (tVar 1) (tCons (tCB (fun xs H Q => ∃ p ys, xs = [V.ref p] ∧ (SqL K H p ys ∨ SqT K H p ys) ∧ Q (.int ys.length) H) (tCons (tVar 0) tNil)) tNil))
        (ea_cons (ev_var rfl) (ea_cons (ev_is (ev_cb (ea_cons (ev_var rfl) ea_nil) (rc_lenQ (.inl hA))) (by rw [vI_len, pT_len])) ea_nil)) (by omega) (fun _ => rfl) (fun i H1 e1 hi => et_none) (fun i H1 e1 hi _ => ?_)
      · rw [given_all, show (((b + l : Nat) : Int) - (b : Int)).toNat = l by omega] at z
        have e : vI (pG f b l) = (List.range l).map fun i => V.int (f (b + i) - f (b + i - 1)) := by unfold vI pG; rw [List.map_map]; rfl
        rw [e]
        exact z
      · have hA1 := ex_l e1 hA
        exact ev_op (ev_op (y := .int ((b + i : Nat) : Int)) (ev_var rfl) (ev_is (ev_var rfl) (by congr 1)) (rv_ixL hA1 (by rw [atI_vI (by rw [pT_len]; omega), pT_at (by omega)])))
          (ev_op (y := .int ((b + i - 1 : Nat) : Int)) (ev_var rfl) (ev_is (ev_op (ev_var rfl) ev_c rv_I0) (by congr 1; omega)) (rv_ixL hA1 (by rw [atI_vI (by rw [pT_len]; omega), pT_at (by omega)]))) rv_I0
    refine q_asgL c1 fun q H1 hq e1 h1 => ?_
    have c2 := el_sl (K := K) (σ := [some (.ref a), some (.int (b : Int)), some (.ref q), none]) (H := H1) (te := tVar 0) (tl := tNoPart) (th := tPart (tVar 1)) (lo := none) (hi := some (b : Int)) (ev_var rfl) eo_none (eo_some (ev_var rfl)) (ex_l e1 hA)
    rw [cut_take (by rw [pT_len]; omega)] at c2
    refine c2 H1 (Ex.refl H1) _ fun p H2 hp e2 h2 => ?_
    refine ⟨_, rfl, by show 2 ≤ sizeLine; decide, fun r hr => ?_⟩
    have e3 := Ex.new (H := H2) (o := .tup [.ref p, .ref q]) hr
    refine k r p q _ ((e1.trans e2).trans e3) (st_of upd_same) ?_ (sq_of (e3 _ _ (e2 _ _ h1)))
    have e4 : (pT f (b + l)).take b = pT f b := at_eq_of (by rw [List.length_take, pT_len, pT_len]; omega) fun i hi => by
      rw [List.length_take, pT_len] at hi
      rw [at_take (by omega), pT_at (by omega), pT_at (by omega)]
    rw [e4] at h2
    exact sq_of (e3 _ _ h2)
end
end K05
namespace Gr
theorem small_rot {g : List Int} {r : Nat} (h : Small g) (hr : r < g.length) : Small (rot g r) := fun i hi => by
  rw [rot_len (by omega)] at hi
  rw [← dif_lt (g := rot g r) (by rw [rot_len (by omega)]; exact hi), dif_rot hr]
  exact h _ (Nat.mod_lt _ (by omega))
theorem rot_zero {g : List Int} : rot g 0 = g := by unfold rot; rw [List.drop_zero, List.take_zero, List.append_nil]
end Gr
namespace K05
open PySem L2 Evl Gr
section
variable {P : Program} {w : World} {K : PySem.W.Frag} {mg : Str → Option Value} {base : Heap}
/-! ### shifted_parts -/
def spShift (K : PySem.W.Frag) (C : Addr) : Sp := fun vs H Q _ => ∃ (o : Addr) (m : Nat) (t g : List Int), vs = [.ref o, .int (m : Int)] ∧ GrAt K C H o t g ∧
  ∀ r p q t' g' H', Ex H H' → SqT K H' r [.ref p, .ref q] → SqL K H' p (vI t') → SqT K H' q (vI g') → 0 < t'.length → t'.length ≤ 2000 → g'.length = g.length → Small g' → (∀ n, val t' g' n = val t g (n + m)) →
    (∀ i, i < t'.length → ∃ n, at' t' i = val t g n) → Q (.ref r) H'
theorem scShift : FnScope ["one", "many", "values", "beyond"] ["one", "many"] (defScope sShift) := ⟨rfl, rfl, rfl, by decide +kernel, rfl, by decide +kernel, by decide +kernel⟩
theorem ok_Shift {C f fV : Addr} {fd fdV : FuncData} (F : Fun K "shifted_parts" "shifted_parts" sShift f fd) (T : GlbS mg) (DV : GlbV mg) (G : GCls K C)
    (FV : Fun K "value_at" "value_at" sVal fV fdV) (bV : Binds K fdV ["one", "n"] []) (gV : mg "value_at" = some (.ref fV)) : FnOk P w K mg base CX0 2 f fd ["one", "many"] (spShift K C) := by
  have GV : FnOk P w K mg base CX0 1 fV fdV ["one", "n"] (spVal K C) := ok_Val FV T DV G
  refine F.ok scShift (fun vs H Q E h => ?_) (fun cdv A outer s H vs Q E hr h => ?_)
  · obtain ⟨o, m, t, g, rfl, _⟩ := h
    rfl
  · obtain ⟨o, m, t, g, rfl, hO, k⟩ := h
    refine ⟨_, pss_cons (ps_set (i := 2) scShift.nd rfl (.inl rfl) (pe_lst (pa_cons (pe_call GV hr (by rfl) gV FV.kp bV .nil pass0 (pa_cons (pv 0) (pa_cons (pv 1) pa_nil))) pa_nil)))
      (pss_cut (ps_if (pt_cmpR op_lt (pv 1) (pe_callB call_len_seq (by rfl) T.len PySem.boot_len (pa_cons (pe_fld (pv 0) rfl) pa_nil)) (nomark _)) (pss_one (ps_set (i := 2) scShift.nd rfl (.inl rfl) (pe_callTy call_list_of (by rfl) T.list (by decide +kernel) (pa_cons (pe_slice sl_tupA (pe_fld (pv 0) rfl) (po_some (pv 1)) po_none) pa_nil)))) pss_nil)
      (pss_cons (ps_set (i := 3) scShift.nd rfl (.inl rfl) (pe_op op_mod (pe_callB (call_max2 rfl) (by rfl) DV.max (by decide +kernel) (pa_cons pe_int (pa_cons (pe_op op_add (pe_op op_sub (pv 1) (pe_callB call_len_seq (by rfl) T.len PySem.boot_len (pa_cons (pe_fld (pv 0) rfl) pa_nil))) pe_int) pa_nil)))
        (pe_callB call_len_seq (by rfl) T.len PySem.boot_len (pa_cons (pe_fld (pv 0) rfl) pa_nil))))
      (pss_one (ps_ret (pe_tup (pa_cons (pv 2) (pa_cons (pe_op op_catA (pe_slice sl_tupA (pe_fld (pv 0) rfl) (po_some (pv 3)) po_none) (pe_slice sl_tupA (pe_fld (pv 0) rfl) po_none (po_some (pv 3)))) pa_nil))))))), ?_⟩
    have hO0 := hO
    obtain ⟨dx, p, q, r, h1, h2, h3, h4, nf, t2, g2, sm⟩ := hO
    have t0 := nf.told
    have g0 := nf.gains
    have lT : ∀ {σ'' : L2.St} {H' : Hp}, Ex H H' → σ''[0]? = some (some (.ref o)) → Ev (tCB (fun xs H Q => ∃ p ys, xs = [V.ref p] ∧ (SqL K H p ys ∨ SqT K H p ys) ∧ Q (.int ys.length) H) (tCons (tFld K (tVar 0) "told") tNil)) σ'' H' (.int (t.length : Int)) :=
      fun e h0 => ev_lenF (ev_var h0) (e _ _ h1) G.cls G.told rfl (ex_t e h2)
    have lG : ∀ {σ'' : L2.St} {H' : Hp}, Ex H H' → σ''[0]? = some (some (.ref o)) → Ev (tCB (fun xs H Q => ∃ p ys, xs = [V.ref p] ∧ (SqL K H p ys ∨ SqT K H p ys) ∧ Q (.int ys.length) H) (tCons (tFld K (tVar 0) "gains") tNil)) σ'' H' (.int (g.length : Int)) :=
      fun e h0 => ev_lenF (ev_var h0) (e _ _ h1) G.cls G.gains rfl (ex_t e h3)
    refine q_asgL (xs := vI [val t g m]) (el_lst (ea_cons (ev_call (ea_cons (ev_var rfl) (ea_cons (ev_var rfl) ea_nil)) (fun H1 e Q q E => ⟨o, m, t, g, rfl, hO0.mono e, q⟩)) ea_nil) (Nat.le_of_ble_eq_true rfl)) fun b H1 hb e1 hb1 => ?_
    refine q_cut (M := fun σ' H' => ∃ c t', σ' = [some (.ref o), some (.int (m : Int)), some (.ref c), none] ∧ SqL K H' c (vI t') ∧ Ex H H' ∧ t' = (if m < t.length then t.drop m else [val t g m])) ?_ ?_
    · refine s_when (et_test (ev_op (ev_var rfl) (lT e1 rfl) rv_I0)) (fun ht H2 e2 => ?_) (fun ht H2 e2 => ?_)
      · have hlt : m < t.length := by have := of_decide_eq_true ht; omega
        have z := etu_cut (K := K) (σ := [some (.ref o), some (.int (m : Int)), some (.ref b), none]) (H := H2) (te := tFld K (tVar 0) "told") (tl := tPart (tVar 1)) (th := tNoPart) (lo := some (m : Int)) (hi := none) (ev_fld (ev_var rfl) (e2 _ _ (e1 _ _ h1)) G.cls G.told rfl) (eo_some (ev_var rfl)) eo_none (ex_t (e1.trans e2) h2)
        rw [cut_drop (by omega)] at z
        exact s_asgL (el_ofT z) fun c H3 _ e3 h3' => ⟨c, t.drop m, rfl, sq_of h3', (e1.trans e2).trans e3, by rw [if_pos hlt]⟩
      · have hge : ¬ m < t.length := by have := of_decide_eq_false ht; omega
        exact ⟨b, [val t g m], rfl, sq_of (e2 _ _ hb1), e1.trans e2, by rw [if_neg hge]⟩
    rintro σ' H2 ⟨c, t', rfl, hc, E2, ht'⟩
    obtain ⟨u, hu⟩ : ∃ u : Nat, u = (if m < t.length then 0 else m - t.length + 1) := ⟨_, rfl⟩
    have hr2 : u % g.length < g.length := Nat.mod_lt _ g0
    have emax : (if ((m : Int) - (t.length : Int) + 1 > 0) then ((m : Int) - (t.length : Int) + 1) else 0) = (u : Int) := by
      by_cases z : m < t.length
      · rw [if_pos z] at hu
        rw [if_neg (by omega)]
        omega
      · rw [if_neg z] at hu
        rw [if_pos (by omega)]
        omega
    refine q_asg (v := .int ((u % g.length : Nat) : Int)) (ev_is (ev_op (ev_is (ev_max2 ev_c (ev_op (ev_op (ev_var rfl) (lT E2 rfl) rv_I0) ev_c rv_I0)) (by rw [emax])) (lG E2 rfl) (rv_I (by omega))) (by rfl)) fun H3 e3 => ?_
    have E3 := E2.trans e3
    have hG3 := ex_t E3 h3
    have c2 := etu_cat (K := K) (σ := [some (.ref o), some (.int (m : Int)), some (.ref c), some (.int ((u % g.length : Nat) : Int))]) (H := H3)
      (etu_cut (te := tFld K (tVar 0) "gains") (tl := tPart (tVar 3)) (th := tNoPart) (lo := some ((u % g.length : Nat) : Int)) (hi := none) (ev_fld (ev_var rfl) (E3 _ _ h1) G.cls G.gains rfl) (eo_some (ev_var rfl)) eo_none hG3)
      (etu_cut (te := tFld K (tVar 0) "gains") (tl := tNoPart) (th := tPart (tVar 3)) (lo := none) (hi := some ((u % g.length : Nat) : Int)) (ev_fld (ev_var rfl) (E3 _ _ h1) G.cls G.gains rfl) eo_none (eo_some (ev_var rfl)) hG3)
      (by
        have z1 := cutV_length (vI g) (some ((u % g.length : Nat) : Int)) none
        have z2 := cutV_length (vI g) none (some ((u % g.length : Nat) : Int))
        rw [vI_len] at z1 z2
        omega)
    rw [cut_take (by omega), cut_drop (by omega)] at c2
    refine ⟨_, rfl, ?_⟩
    refine c2 H3 (Ex.refl H3) _ fun v H4 e4 hv => ?_
    refine ⟨by show 2 ≤ sizeLine; decide, fun x hx => ?_⟩
    have e5 := Ex.new (H := H4) (o := .tup [.ref c, .ref v]) hx
    refine k x c v t' (rot g (u % g.length)) _ ((E3.trans e4).trans e5) (st_of upd_same) (ex_l e5 (ex_l e4 (ex_l e3 hc))) ?_ ?_ ?_ (rot_len (by omega)) (small_rot sm hr2) (fun n => ?_) (fun i hi => ?_)
    · have e6 : vI (rot g (u % g.length)) = vI (g.drop (u % g.length)) ++ vI (g.take (u % g.length)) := by unfold vI rot; rw [List.map_append]
      rw [e6]
      exact ex_t e5 hv
    · rw [ht']
      by_cases z : m < t.length
      · rw [if_pos z, List.length_drop]; omega
      · rw [if_neg z]; exact Nat.one_pos
    · rw [ht']
      by_cases z : m < t.length
      · rw [if_pos z, List.length_drop]; omega
      · rw [if_neg z]; show 1 ≤ 2000; decide
    · rw [ht', hu]
      by_cases z : m < t.length
      · rw [if_pos z, if_pos z, Nat.zero_mod, rot_zero]
        exact val_shift1 z n
      · rw [if_neg z, if_neg z]
        exact val_shift2 t0 g0 (by omega) n
    · rw [ht'] at hi ⊢
      by_cases z : m < t.length
      · rw [if_pos z] at hi ⊢
        rw [List.length_drop] at hi
        exact ⟨m + i, by rw [at_drop, val_lt (by omega)]⟩
      · rw [if_neg z] at hi ⊢
        have : i = 0 := by
          have : i < 1 := hi
          omega
        subst this
        exact ⟨m, rfl⟩
end
end K05
namespace L2
open PySem PySem.Spec PyProof.Rows
section
variable {X : Cx}
def rLcm : List V → Hp → VK → Prop := fun vs H Q => ∃ a b : Nat, vs = [.int (a : Int), .int (b : Int)] ∧ a < 2 ^ 64 ∧ b < 2 ^ 64 ∧ Q (.int ((Nat.lcm a b : Nat) : Int)) H
theorem cr_lcm : CallR X (.builtin "math.lcm") rLcm := by
  intro pins s σ H vs us Q I r h
  obtain ⟨a, b, rfl, ha, hb, q⟩ := h
  obtain ⟨t, u, rfl⟩ := Vals.int2 r
  exact PySem.W.mc_lcm (by simpa using ha) (by simpa using hb) fun _ => ⟨.int _, H, I.tok _, ⟨_, rfl⟩, by simpa using q⟩
/-- a statement that is not come to -/
def tNo : TS := fun _ _ _ => False
theorem ps_no {st : Stmt} : PS X st tNo := ⟨fun _ _ _ _ _ _ h => h.elim⟩
end
end L2
namespace K05
open PySem L2 Evl Gr
abbrev sCommon : Stmt := top 22
abbrev sSum : Stmt := top 24
section
variable {K : PySem.W.Frag} {σ : L2.St} {H : Hp} {te : TE}
/-- [e for i, j in zip(x, y)] -/
theorem el_lcZ {ta : TA} {i j : Nat} {vs : List Nat} {xs ys : List V} (v : Nat → V) (h : ∀ H1, Ex H H1 → ∀ Q : List V → Hp → Prop, (∀ a b H2, Ex H1 H2 → SqL K H2 a xs → SqL K H2 b ys → Q [.ref a, .ref b] H2) → ta σ H1 Q)
    (hl : xs.length = ys.length) (hz : xs.length ≤ 40000) (hw : ∀ x y, wipe (((wipe σ vs).set i (some x)).set j (some y)) vs = wipe σ vs)
    (he : ∀ (k : Nat) x y H1, Ex H H1 → xs[k]? = some x → ys[k]? = some y → Ev te (((wipe σ vs).set i (some x)).set j (some y)) H1 (v k)) :
    EvL (tLc (iZip K ta) (gTup K 2 (gCons (gName i) (gCons (gName j) gNil))) tYes te vs) σ H ((List.range xs.length).map v) := fun H0 e Q q => h H0 e _ fun a b H1 e1 ha hb =>
  ⟨a, b, xs, ys, rfl, ha, hb, fun Dl hD => lc_it (n := xs.length) (walk_zip (xs := xs) (ys := ys) (by omega)) (Cw H1 (fun _ => true) v Dl) ⟨hD, Ex.new hD, upd_same⟩ (fun _ H' _ p => ⟨ex_l p.2.1 ha, ex_l p.2.1 hb⟩)
    (fun k x H' H'' hk p y => by
      obtain ⟨T, x1, y1, rfl, hT, rfl, hx, hy⟩ := y
      have e2 := Ex.new (H := H') (o := .tup [x1, y1]) hT
      have p' : Cw H1 (fun _ => true) v Dl k (upd H' T (.tup [x1, y1])) := ⟨p.1, p.2.1.trans e2, e2 _ _ p.2.2⟩
      exact ⟨T, _, rfl, st_of upd_same, rfl, _, _, rfl, _, _, rfl, rfl, hw _ _, cw_turn p' (by omega) et_none (fun _ => he k x1 y1 H1 (e.trans e1) hx hy)⟩)
    (fun H' p => q Dl H' (fresh_back e1 p.1) (e1.trans p.2.1) (by rw [← given_all]; exact p.2.2))⟩
end
section
variable {P : Program} {w : World} {K : PySem.W.Frag} {mg : Str → Option Value} {base : Heap}
/-! ### common_length -/
structure GlbL (mg : Str → Option Value) : Prop where
  lcm : mg "lcm" = some (.builtin "math.lcm")
  most : ∃ t, mg "MOST_PARTS" = some (.int 2000 t)
def spCommon (K : PySem.W.Frag) (C : Addr) : Sp := fun vs H Q _ => ∃ (o u : Addr) (t g t' g' : List Int), vs = [.ref o, .ref u] ∧ GrAt K C H o t g ∧ GrAt K C H u t' g' ∧ Nat.lcm g.length g'.length ≤ 2000 ∧ RetV (.int ((Nat.lcm g.length g'.length : Nat) : Int)) H Q
theorem scCommon : FnScope ["one", "other", "length"] ["one", "other"] (defScope sCommon) := ⟨rfl, rfl, rfl, by decide +kernel, rfl, by decide +kernel, by decide +kernel⟩
theorem ok_Common {C f : Addr} {fd : FuncData} (F : Fun K "common_length" "common_length" sCommon f fd) (T : GlbS mg) (L : GlbL mg) (G : GCls K C) : FnOk P w K mg base CX0 1 f fd ["one", "other"] (spCommon K C) := by
  obtain ⟨mt, gm⟩ := L.most
  refine F.ok scCommon (fun vs H Q E h => ?_) (fun cdv A outer s H vs Q E hr h => ?_)
  · obtain ⟨o, u, t, g, t', g', rfl, _⟩ := h
    rfl
  · obtain ⟨o, u, t, g, t', g', rfl, hO, hU, hl, k⟩ := h
    refine ⟨_, pss_cons (ps_set (i := 2) scCommon.nd rfl (.inl rfl) (pe_callBfun cr_lcm (by rfl) L.lcm (pa_cons (pe_callB call_len_seq (by rfl) T.len PySem.boot_len (pa_cons (pe_fld (pv 0) rfl) pa_nil)) (pa_cons (pe_callB call_len_seq (by rfl) T.len PySem.boot_len (pa_cons (pe_fld (pv 1) rfl) pa_nil)) pa_nil))))
      (pss_cons (ps_if (pt_cmpR op_gt (pv 2) (pe_glob (v := .int 2000) rfl gm ⟨_, rfl⟩) (nomark _)) (pss_one ps_no) pss_nil)
      (pss_one (ps_ret (pv 2)))), ?_⟩
    obtain ⟨dx, p, q, r, h1, h2, h3, h4, nf, t2, g2, sm⟩ := hO
    obtain ⟨dx', p', q', r', h1', h2', h3', h4', nf', t2', g2', sm'⟩ := hU
    refine q_asg (ev_cb (ea_cons (ev_lenF (ev_var rfl) h1 G.cls G.gains rfl h3) (ea_cons (ev_lenF (ev_var rfl) h1' G.cls G.gains rfl h3') ea_nil)) (fun H1 e Q q => ⟨_, _, rfl, by omega, by omega, q H1 (Ex.refl H1)⟩)) fun H1 e1 => ?_
    refine q_when (et_test (ev_op (ev_var rfl) ev_c rv_I0)) (fun ht H2 e2 => ?_) (fun ht H2 e2 => ?_)
    · have := of_decide_eq_true ht
      omega
    · exact s_ret (ev_var rfl) fun H3 e3 => k H3 ((e1.trans e2).trans e3)
/-! ### summed_parts -/
def spSum (K : PySem.W.Frag) (C : Addr) : Sp := fun vs H Q _ => ∃ (o u : Addr) (t g t' g' : List Int), vs = [.ref o, .ref u] ∧ GrAt K C H o t g ∧ GrAt K C H u t' g' ∧ Nat.lcm g.length g'.length ≤ 2000 ∧
  ∀ r p q b l H', Ex H H' → SqT K H' r [.ref p, .ref q] → SqL K H' p (vI (pT (fun n => val t g n + val t' g' n) b)) → SqL K H' q (vI (pG (fun n => val t g n + val t' g' n) b l)) → 0 < b → b ≤ 2000 → 0 < l → l ≤ 2000 →
    (∀ n, val (pT (fun n => val t g n + val t' g' n) b) (pG (fun n => val t g n + val t' g' n) b l) n = val t g n + val t' g' n) → Q (.ref r) H'
theorem scSum : FnScope ["one", "other", "begin", "many", "values", "left", "right"] ["one", "other"] (defScope sSum) := ⟨rfl, rfl, rfl, by decide +kernel, rfl, by decide +kernel, by decide +kernel⟩
theorem ok_Sum {C f fB fC fF fP : Addr} {fd fdB fdC fdF fdP : FuncData} (F : Fun K "summed_parts" "summed_parts" sSum f fd) (T : GlbS mg) (DV : GlbV mg) (L : GlbL mg) (G : GCls K C)
    (FB : Fun K "begin_of_both" "begin_of_both" sBegin fB fdB) (bB : Binds K fdB ["one", "other"] []) (gB : mg "begin_of_both" = some (.ref fB))
    (FC : Fun K "common_length" "common_length" sCommon fC fdC) (bC : Binds K fdC ["one", "other"] []) (gC : mg "common_length" = some (.ref fC))
    (FF : Fun K "first_values" "first_values" sFirst fF fdF) (bF : Binds K fdF ["one", "many"] []) (gF : mg "first_values" = some (.ref fF))
    (FP : Fun K "parted" "parted" sPart fP fdP) (bP : Binds K fdP ["values", "many"] []) (gP : mg "parted" = some (.ref fP)) : FnOk P w K mg base CX0 2 f fd ["one", "other"] (spSum K C) := by
  have GB : FnOk P w K mg base CX0 1 fB fdB ["one", "other"] (spBegin K C) := ok_Begin FB T DV G
  have GC : FnOk P w K mg base CX0 1 fC fdC ["one", "other"] (spCommon K C) := ok_Common FC T L G
  have GF : FnOk P w K mg base CX0 1 fF fdF ["one", "many"] (spFirst K C) := ok_First FF T G
  have GP : FnOk P w K mg base CX0 1 fP fdP ["values", "many"] (spPart K) := ok_Part FP T
  refine F.ok scSum (fun vs H Q E h => ?_) (fun cdv A outer s H vs Q E hr h => ?_)
  · obtain ⟨o, u, t, g, t', g', rfl, _⟩ := h
    rfl
  · obtain ⟨o, u, t, g, t', g', rfl, hO, hU, hl, k⟩ := h
    refine ⟨_, pss_cons (ps_set (i := 2) scSum.nd rfl (.inl rfl) (pe_call GB hr (by rfl) gB FB.kp bB .nil pass0 (pa_cons (pv 0) (pa_cons (pv 1) pa_nil))))
      (pss_cons (ps_set (i := 3) scSum.nd rfl (.inl rfl) (pe_op op_add (pv 2) (pe_call GC hr (by rfl) gC FC.kp bC .nil pass0 (pa_cons (pv 0) (pa_cons (pv 1) pa_nil)))))
      (pss_cons (ps_setLc (i := 4) (own := [("left", 5), ("right", 6)]) (g := gTup K 2 (gCons (gName 5) (gCons (gName 6) gNil))) rfl scSum.nd rfl (by rfl) (by rfl)
          (pi_zip (by rfl) DV.zip (pa_cons (pe_call GF hr (by rfl) gF FF.kp bF .nil pass0 (pa_cons (pv 0) (pa_cons (pv 3) pa_nil))) (pa_cons (pe_call GF hr (by rfl) gF FF.kp bF .nil pass0 (pa_cons (pv 1) (pa_cons (pv 3) pa_nil))) pa_nil)))
          (blkOk_by (own := [("left", 5), ("right", 6)]) (N := ["one", "other", "begin", "many", "values", "left", "right"]) (sc := defScope sSum) (by decide +kernel))
          (fun _ _ _ _ _ => pg_tup rfl (pgs_cons (pg_name (i := 5) scSum.nd rfl (Or.inl rfl)) (pgs_cons (pg_name (i := 6) scSum.nd rfl (Or.inl rfl)) pgs_nil))) (fun _ _ _ _ _ => pts_nil) (fun _ _ _ _ _ => pe_op op_add (pv 5) (pv 6)))
      (pss_one (ps_ret (pe_call GP hr (by rfl) gP FP.kp bP .nil pass0 (pa_cons (pv 4) (pa_cons (pv 2) pa_nil))))))), ?_⟩
    have hO0 := hO
    have hU0 := hU
    obtain ⟨dx, p, q, r, h1, h2, h3, h4, nf, t2, g2, sm⟩ := hO
    obtain ⟨dx', p', q', r', h1', h2', h3', h4', nf', t2', g2', sm'⟩ := hU
    have t0 := nf.told
    have t0' := nf'.told
    have l0 : 0 < Nat.lcm g.length g'.length := Nat.lcm_pos nf.gains nf'.gains
    obtain ⟨b, hb⟩ : ∃ b, b = max t.length t'.length := ⟨_, rfl⟩
    obtain ⟨l, hl'⟩ : ∃ l, l = Nat.lcm g.length g'.length := ⟨_, rfl⟩
    rw [← hl'] at hl l0
    refine q_asg (v := .int (b : Int)) (ev_call (ea_cons (ev_var rfl) (ea_cons (ev_var rfl) ea_nil)) (fun H1 e Q q E => ⟨o, u, t, g, t', g', rfl, hO0.mono e, hU0.mono e, by rw [← hb]; exact q⟩)) fun H1 e1 => ?_
    refine q_asg (v := .int ((b + l : Nat) : Int)) (ev_is (ev_op (y := .int (l : Int)) (ev_var rfl) (ev_call (ea_cons (ev_var rfl) (ea_cons (ev_var rfl) ea_nil)) (fun H2 e Q q E => ⟨o, u, t, g, t', g', rfl, hO0.mono (e1.trans e), hU0.mono (e1.trans e), by rw [← hl']; exact hl, by rw [← hl']; exact q⟩)) rv_I0) (by congr 1)) fun H2 e2 => ?_
    have E2 := e1.trans e2
    have c1 := el_lcZ (K := K) (σ := [some (.ref o), some (.ref u), some (.int (b : Int)), some (.int ((b + l : Nat) : Int)), none, none, none]) (H := H2) (te := tOp (rI0 fun i j => .int (i + j)) (tVar 5) (tVar 6)) (i := 5) (j := 6) (vs := [5, 6])
      (ta := tCons (tCall (spFirst K C) [] E0 (tCons (tVar 0) (tCons (tVar 3) tNil))) (tCons (tCall (spFirst K C) [] E0 (tCons (tVar 1) (tCons (tVar 3) tNil))) tNil))
      (xs := vI (pT (val t g) (b + l))) (ys := vI (pT (val t' g') (b + l))) (fun n => V.int (val t g n + val t' g' n))
      (fun H3 e3 Q3 q3 => ⟨_, rfl, _, rfl, o, b + l, t, g, rfl, hO0.mono (E2.trans e3), by omega, fun x H4 _ e4 hx => ⟨_, rfl, _, rfl, u, b + l, t', g', rfl, hU0.mono ((E2.trans e3).trans e4), by omega, fun y H5 _ e5 hy => q3 x y H5 (e4.trans e5) (sq_of (e5 _ _ hx)) (sq_of hy)⟩⟩)
      (by rw [vI_len, vI_len, pT_len, pT_len]) (by rw [vI_len, pT_len]; omega) (fun _ _ => rfl)
      (fun n x y H3 _ hx hy => by
        have hn : n < b + l := by
          have := (List.getElem?_eq_some_iff.mp hx).1
          rwa [vI_len, pT_len] at this
        rw [vI_get (by rw [pT_len]; exact hn), pT_at hn] at hx hy
        obtain rfl := Option.some.inj hx
        obtain rfl := Option.some.inj hy
        exact ev_op (ev_var rfl) (ev_var rfl) rv_I0)
    have e4 : (List.range (vI (pT (val t g) (b + l))).length).map (fun n => V.int (val t g n + val t' g' n)) = vI (pT (fun n => val t g n + val t' g' n) (b + l)) := by
      rw [vI_len, pT_len]
      unfold vI pT
      rw [List.map_map]
      rfl
    rw [e4] at c1
    refine q_asgL c1 fun x H3 hx e3 h3x => ?_
    refine ⟨_, rfl, _, rfl, x, b, l, fun n => val t g n + val t' g' n, rfl, sq_of h3x, by omega, by omega, fun r2 p2 q2 H4 e5 hr2 hp2 hq2 => ?_⟩
    exact k r2 p2 q2 b l H4 ((E2.trans e3).trans e5) hr2 hp2 hq2 (by omega) (by omega) l0 hl (val_sum t0 t0' (by omega) (by omega) l0 (by rw [hl']; exact Nat.dvd_lcm_left _ _) (by rw [hl']; exact Nat.dvd_lcm_right _ _))
end
end K05
/-! a field as one of several targets -/
namespace L2
open PySem PySem.Spec PyProof.Rows
/-- o.f = .., among targets -/
def gFld (K : PySem.W.Frag) (to : TE) (f : Str) : TG := fun v σ H Q => to σ H fun x H1 => ∃ a C dx fs, x = .ref a ∧ H1 a = some (.ins C dx fs) ∧ Cls K C ∧ NoAttr K C f ∧ fs.length < 1000 ∧ Q σ (upd H1 a (.ins C dx (putF f v fs)))
theorem pg_fld {X : Cx} {o : Expr} {f : Str} {pos : Pos} {to : TE} (ho : PE X o to) : PG X (.Attribute o f pos) (gFld X.K to f) := by
  refine ⟨fun pins s σ H v u Q I r h => ?_⟩
  rw [assign_Attribute]
  refine wpAny_bind (wpAny_holding (thn (ho.run pins s σ H _ I h) fun ov s1 ⟨x, H1, I1, rx, a, C, dx, fs, ex, ea, c, n, l, q⟩ => ?_))
  subst ex
  obtain rfl : ov = Value.ref a := rx
  refine wpAny_bind (wpAny_standAt (wpAny_bind (wpAny_holding (setattr_ok I1 ea c n l r fun s2 I2 => ?_))))
  exact wpAny_release ⟨σ, _, I2, q⟩
end L2
namespace L2
open PySem PySem.Spec PyProof.Rows
theorem PI.or {X : Cx} {tg e : Expr} {w1 w2 : TI} (h1 : PI X tg e w1) (h2 : PI X tg e w2) : PI X tg e (fun σ H R => w1 σ H R ∨ w2 σ H R) := ⟨fun pins s σ H R I h => h.elim (h1.run pins s σ H R I) (h2.run pins s σ H R I)⟩
end L2
namespace K05
open PySem L2 Evl Gr
abbrev sParts : Stmt := top 34
/-- over a list or a tuple -/
def iQ (K : PySem.W.Frag) (tl : TE) : TI := fun σ H R => iList K tl σ H R ∨ iTup K tl σ H R
theorem pi_seq {X : Cx} {tg e : Expr} {tl : TE} (h : PE X e tl) : PI X tg e (iQ X.K tl) := (pi_list h).or (pi_tup h)
section
variable {K : PySem.W.Frag} {σ : L2.St} {H : Hp} {te : TE}
theorem el_lcQ {a : Addr} {xs : List V} {tl : TE} {j : Nat} {vs : List Nat} (v : Nat → V) (h : Ev tl σ H (.ref a)) (hx : Sq K H a xs) (hz : xs.length ≤ 40000) (hw : ∀ x, wipe ((wipe σ vs).set j (some x)) vs = wipe σ vs)
    (he : ∀ (i : Nat) (x : V) H1, Ex H H1 → xs[i]? = some x → Ev te ((wipe σ vs).set j (some x)) H1 (v i)) : EvL (tLc (iQ K tl) (gName j) tYes te vs) σ H ((List.range xs.length).map v) := fun H0 e Q q => by
  rcases hx with hx | hx
  · exact .inl (h H0 e _ fun H1 e1 => ⟨a, rfl, ⟨xs, ex_l (e.trans e1) hx⟩, fun Dl hD => lc_it (n := xs.length) (walk_list (xs := xs)) (Cw H1 (fun _ => true) v Dl) ⟨hD, Ex.new hD, upd_same⟩ (fun _ H' _ p => ex_l ((e.trans e1).trans p.2.1) hx)
      (fun k x H' H'' hk p y => by
        obtain ⟨rfl, hx'⟩ := y
        exact ⟨hw _, cw_turn p (by omega) et_none (fun _ => he k x H1 (e.trans e1) hx')⟩)
      (fun H' p => q Dl H' (fresh_back e1 p.1) (e1.trans p.2.1) (by rw [← given_all]; exact p.2.2))⟩)
  · exact .inr (h H0 e _ fun H1 e1 => ⟨a, rfl, ⟨xs, ex_t (e.trans e1) hx⟩, fun Dl hD => lc_it (n := xs.length) (walk_tup (xs := xs)) (Cw H1 (fun _ => true) v Dl) ⟨hD, Ex.new hD, upd_same⟩ (fun _ H' _ p => ex_t ((e.trans e1).trans p.2.1) hx)
      (fun k x H' H'' hk p y => by
        obtain ⟨rfl, hx'⟩ := y
        exact ⟨hw _, cw_turn p (by omega) et_none (fun _ => he k x H1 (e.trans e1) hx')⟩)
      (fun H' p => q Dl H' (fresh_back e1 p.1) (e1.trans p.2.1) (by rw [← given_all]; exact p.2.2))⟩)
/-- a list or a tuple is one of both -/
theorem sq_ty {a : Addr} {xs : List V} (h : Sq K H a xs) : ∃ T : String, TyX K H (.ref a) (.type T) ∧ (T = "list" ∨ T = "tuple") := by
  rcases h with (h | h) | (h | h)
  · rcases h with h | ⟨o, h⟩
    · exact ⟨"list", .base (.lst h), .inl rfl⟩
    · exact ⟨"list", .base (.frz h), .inl rfl⟩
  · obtain ⟨o, its, n, lk, hc, _⟩ := h
    exact ⟨"list", .kList lk hc, .inl rfl⟩
  · rcases h with h | ⟨o, h⟩
    · exact ⟨"tuple", .base (.tup h), .inr rfl⟩
    · exact ⟨"tuple", .fTuple h, .inr rfl⟩
  · obtain ⟨o, its, n, lk, hc, _⟩ := h
    exact ⟨"tuple", .kTuple lk hc, .inr rfl⟩
theorem kit_lt {T : String} (h : T = "list" ∨ T = "tuple") : PySem.W.kitAny K (.type T) [.type "list", .type "tuple"] = some true := by
  rcases h with rfl | rfl
  · exact kitAny_cons (b := true) (kit_ty (by decide +kernel)) (fun h => absurd h (by decide)) fun _ => rfl
  · exact kitAny_cons (b := false) (kit_ty (by decide +kernel)) (fun _ => kitAny_cons (b := true) (kit_ty (by decide +kernel)) (fun h => absurd h (by decide)) fun _ => rfl) fun h => absurd h (by decide)
/-- isinstance(e, (list, tuple)), e one of both -/
theorem ev_isLT {ta : TE} {a : Addr} {xs : List V} (ha : Ev ta σ H (.ref a)) (h : Sq K H a xs) : Ev (tCB (rIsiT K) (tCons ta (tCons (tTup (tCons (tC (.ty "list")) (tCons (tC (.ty "tuple")) tNil))) tNil))) σ H (.bl true) := fun H1 e Q q =>
  ha H1 e _ fun H2 e2 => eu_tup (σ := σ) (H := H2) (ea_cons ev_c (ea_cons ev_c ea_nil)) (by show 2 ≤ 100000; decide) H2 (Ex.refl H2) _ fun p H3 _ e3 h3 => by
    obtain ⟨T, ty, hT⟩ := sq_ty (h.mono ((e.trans e2).trans e3))
    exact ⟨_, p, _, _, _, true, rfl, h3, .cons (.ty "list") (.cons (.ty "tuple") .nil), ty, kit_lt hT, q H3 (e2.trans e3)⟩
/-- all(e), e a new list of bools that are True -/
theorem ev_all {te : TE} {bs : List Bool} (h : EvL te σ H (bs.map V.bl)) : Ev (tCB (rAll K) (tCons te tNil)) σ H (.bl (bs.all id)) := fun H1 e Q q =>
  h H1 e _ fun p H2 _ e2 hp => ⟨p, bs, rfl, sq_of hp, q H2 e2⟩
end
section
variable {P : Program} {w : World} {K : PySem.W.Frag} {mg : Str → Option Value} {base : Heap}
/-! ### are_parts -/
def Pos (l : List Int) : Prop := ∀ i, i < l.length → 0 ≤ at' l i
def spParts (K : PySem.W.Frag) : Sp := fun vs H Q _ => ∃ (a : Addr) (l : List Int), vs = [.ref a, .int 2000] ∧ Sq K H a (vI l) ∧ 0 < l.length ∧ l.length ≤ 2000 ∧ Pos l ∧ RetV (.bl true) H Q
theorem scParts : FnScope ["values", "most", "value"] ["values", "most"] (defScope sParts) := ⟨rfl, rfl, rfl, by decide +kernel, rfl, by decide +kernel, by decide +kernel⟩
theorem ok_Parts {f fI fZ : Addr} {fd fdI fdZ : FuncData} (F : Fun K "are_parts" "are_parts" sParts f fd) (T : GlbS mg) (TT : GlbT mg) (all : mg "all" = none)
    (GZ : FnOk P w K mg base CX0 2 fZ fdZ ["value"] (spFrom0 K)) (kZ : PySem.W.keepIn K (.ref fZ) = true) (bZ : Binds K fdZ ["value"] []) (gZ : mg "is_from_zero" = some (.ref fZ)) :
    FnOk P w K mg base CX0 3 f fd ["values", "most"] (spParts K) := by
  refine F.ok scParts (fun vs H Q E h => ?_) (fun cdv A outer s H vs Q E hr h => ?_)
  · obtain ⟨a, l, rfl, _⟩ := h
    rfl
  · obtain ⟨a, l, rfl, hA, l0, l1, hp, k⟩ := h
    refine ⟨_, pss_cons (ps_if (PW.pt (pw_or (pt_not (pt_val (pe_callB call_isiT (by rfl) TT.inst (by decide +kernel) (pa_cons (pv 0) (pa_cons (pe_tup (pa_cons (pe_bltn (v := .ty "list") (by rfl) T.list (by decide +kernel) rfl) (pa_cons (pe_bltn (v := .ty "tuple") (by rfl) T.tuple (by decide +kernel) rfl) pa_nil))) pa_nil)))))
        (pw_or1 (pt_not (pt_chain op_le op_le pe_int (pe_callB call_len_seq (by rfl) T.len PySem.boot_len (pa_cons (pv 0) pa_nil)) (pv 1)))))) (pss_one (ps_ret pe_bl)) pss_nil)
      (pss_one (ps_ret (pe_callB (cr_all rfl) (by rfl) all (by decide +kernel) (pa_cons (pe_lc (own := [("value", 2)]) (g := gName 2) rfl scParts.nd (pi_seq (pv 0)) (blkOk_by (own := [("value", 2)]) (N := ["values", "most", "value"]) (sc := defScope sParts) (by decide +kernel))
        (fun _ _ _ _ _ => pg_name (i := 2) scParts.nd rfl (Or.inl rfl)) (fun _ _ _ _ _ => pts_nil) (fun _ _ _ _ _ => pe_call GZ hr (by rfl) gZ kZ bZ .nil pass0 (pa_cons (pv 2) pa_nil))) pa_nil)))), ?_⟩
    refine q_when (b := false) (et_is (et_or (et_not (et_B (ev_isLT (ev_var rfl) hA))) (fun _ => et_not (et_B (ev_chain ev_c (ev_is (ev_cb (ea_cons (ev_var rfl) ea_nil) (rc_lenQ hA)) (by rw [vI_len])) (ev_var rfl))))) (by
      rw [decide_eq_true (by omega : (1 : Int) ≤ (l.length : Int)), decide_eq_true (by omega : (l.length : Int) ≤ 2000)]
      rfl)) (fun hb => absurd hb (by decide)) (fun _ H1 e1 => ?_)
    have c1 := el_lcQ (K := K) (σ := [some (.ref a), some (.int 2000), none]) (H := H1) (te := tCall (spFrom0 K) [] E0 (tCons (tVar 2) tNil)) (a := a) (xs := vI l) (tl := tVar 0) (j := 2) (vs := [2]) (fun _ => V.bl true) (ev_var rfl) (hA.mono e1) (by rw [vI_len]; omega) (fun _ => rfl)
      (fun i x H2 e2 hx => by
        have hi : i < l.length := by
          have := (List.getElem?_eq_some_iff.mp hx).1
          rwa [vI_len] at this
        rw [vI_get hi] at hx
        obtain rfl := Option.some.inj hx
        refine ev_call (ea_cons (ev_var rfl) ea_nil) fun H3 e3 Q3 q3 E3 => .inl ⟨_, rfl, ?_⟩
        rw [decide_eq_true (hp i hi)]
        exact q3)
    have e2 : (List.range (vI l).length).map (fun _ => V.bl true) = (List.replicate l.length true).map V.bl := by
      rw [vI_len, List.map_const', List.length_range, List.map_replicate]
    rw [e2] at c1
    refine s_ret (ev_is (ev_all c1) (by congr 1; rw [List.all_eq_true]; intro b hb; exact (List.eq_of_mem_replicate hb))) fun H2 e3 => k H2 (e1.trans e3)
end
end K05
namespace Gr
/-- the gains of a normal form are gains of the growth -/
theorem small_of {t g t' g' : List Int} (nf : NF t' g') (t0 : 0 < t.length) (g0 : 0 < g.length) (sm : Small g) (e : ∀ n, val t' g' n = val t g n) : Small g' := fun i hi => by
  have p := (dif_pd (g := g')).mul t.length i
  rw [dif_lt hi] at p
  have m1 : t.length ≤ t.length * g'.length := Nat.le_mul_of_pos_right _ nf.gains
  have a := val_step (g := g') nf.told (i + t.length * g'.length)
  rw [p, e, e] at a
  have b := rise_ge (g := g) t0 (n := t'.length - 1 + (i + t.length * g'.length)) (by omega)
  unfold rise at b
  rw [b] at a
  rw [← a]
  exact sm _ (Nat.mod_lt _ g0)
end Gr
namespace K05
open PySem L2 Evl Gr ClX
theorem val_nonneg {t g : List Int} (pt : Pos t) (t0 : 0 < t.length) (g0 : 0 < g.length) (sm : Small g) (n : Nat) : 0 ≤ val t g n := by
  unfold val
  by_cases h : n < t.length
  · rw [if_pos h]
    exact pt n h
  · rw [if_neg h]
    have a := pt (t.length - 1) (by omega)
    have b := (acc_small sm g0 (n - t.length + 1)).1
    unfold lst
    omega
abbrev sGr (i : Nat) : Stmt := inClass (top 36) i
theorem sqT_upd {K : PySem.W.Frag} {H : Hp} {o p C dx : Addr} {fs : List (Str × V)} {u : HO} {xs : List V} (h : SqT K H p xs) (ho : H o = some (.ins C dx fs)) : SqT K (upd H o u) p xs := by
  rcases h with (h | ⟨o', h⟩) | h
  · exact .inl (.inl (by rw [upd_ne (fun z => by rw [z, ho] at h; cases h)]; exact h))
  · exact .inl (.inr ⟨o', by rw [upd_ne (fun z => by rw [z, ho] at h; cases h)]; exact h⟩)
  · exact .inr h
theorem ev_cval {K : PySem.W.Frag} {σ : L2.St} {H : Hp} {ta : TE} {C : Addr} {mc : Value} {f : Str} {v : V} {u : Value} (ha : Ev ta σ H (.ref C)) (r : CRead K C mc) (k : CVal K C mc f v u) : Ev (tCVal K ta f) σ H v := fun H1 e Q q =>
  ha H1 e _ fun H2 e2 => ⟨C, mc, v, u, rfl, r, k, q H2 e2⟩
section
variable {P : Program} {w : World} {K : PySem.W.Frag} {mg : Str → Option Value} {base : Heap}
/-! ### Growth.__init__ -/
def spInit (K : PySem.W.Frag) (C : Addr) : Sp := fun vs H Q _ => ∃ (o a b dx : Addr) (t g : List Int), vs = [.ref o, .ref a, .ref b] ∧ H o = some (.ins C dx []) ∧ Sq K H a (vI t) ∧ Sq K H b (vI g) ∧ 0 < t.length ∧ t.length ≤ 2000 ∧ 0 < g.length ∧ g.length ≤ 2000 ∧ Pos t ∧ Small g ∧
  ∀ t' g' H', Keep o H H' → GrAt K C H' o t' g' → Pos t' → (∀ n, val t' g' n = val t g n) → Q .non H'
theorem scInit : FnScope ["self", "told", "gains"] ["self", "told", "gains"] (defScope (sGr 1)) := ⟨rfl, rfl, rfl, by decide +kernel, rfl, by decide +kernel, by decide +kernel⟩
/-- what the class's constant is, and the class's own name -/
structure GName (K : PySem.W.Frag) (mg : Str → Option Value) (C : Addr) (mc : Value) : Prop where
  g : mg "Growth" = some (.ref C)
  rd : CRead K C mc
  most : ∃ u, CVal K C mc "MOST" (.int 2000) u
theorem ok_Init {C f fP fN fR : Addr} {mc : Value} {fd fdP fdN fdR : FuncData} {dvs : List V} (F : FunD K "__init__" "Growth.__init__" (defArgs (sGr 1)) (defBody (sGr 1)) (defScope (sGr 1)) dvs [] f fd) (N : GName K mg C mc) (G : GCls K C)
    (GP : FnOk P w K mg base CX0 3 fP fdP ["values", "most"] (spParts K)) (kP : PySem.W.keepIn K (.ref fP) = true) (bP : Binds K fdP ["values", "most"] []) (gP : mg "are_parts" = some (.ref fP))
    (GN : FnOk P w K mg base CX0 2 fN fdN ["told", "gains"] (spNF K)) (kN : PySem.W.keepIn K (.ref fN) = true) (bN : Binds K fdN ["told", "gains"] []) (gN : mg "normal_form" = some (.ref fN))
    (GR : FnOk P w K mg base CX0 1 fR fdR ["gains"] (spRis K)) (kR : PySem.W.keepIn K (.ref fR) = true) (bR : Binds K fdR ["gains"] []) (gR : mg "rises_of" = some (.ref fR)) :
    FnOk P w K mg base CX0 4 f fd ["self", "told", "gains"] (spInit K C) := by
  obtain ⟨mu, cm⟩ := N.most
  refine F.ok scInit (fun vs H Q E h => ?_) (fun cdv A outer s H vs Q E hr h => ?_)
  · obtain ⟨o, a, b, dx, t, g, rfl, _⟩ := h
    rfl
  · obtain ⟨o, a, b, dx, t, g, rfl, hO, hA, hB, t0, t1, g0, g1, pt, sm, k⟩ := h
    refine ⟨_, pss_cons (ps_if (pt_not (pt_val (pe_call GP hr (by rfl) gP kP bP .nil pass0 (pa_cons (pv 1) (pa_cons (pe_cval (pe_glob (v := .ref C) rfl N.g rfl)) pa_nil))))) (pss_one ps_no) pss_nil)
      (pss_cons (ps_if (pt_not (pt_val (pe_call GP hr (by rfl) gP kP bP .nil pass0 (pa_cons (pv 2) (pa_cons (pe_cval (pe_glob (v := .ref C) rfl N.g rfl)) pa_nil))))) (pss_one ps_no) pss_nil)
      (pss_cons (ps_asg (pe_call GN (hr.mono (by decide)) (by rfl) gN kN bN .nil pass0 (pa_cons (pv 1) (pa_cons (pv 2) pa_nil))) (pg_tup rfl (pgs_cons (pg_fld (pv 0)) (pgs_cons (pg_fld (pv 0)) pgs_nil))))
      (pss_one (ps_fld (pv 0) (pe_call GR (hr.mono (by decide)) (by rfl) gR kR bR .nil pass0 (pa_cons (pe_fld (pv 0) rfl) pa_nil)) (by rfl))))), ?_⟩
    have yes : ∀ {i : Nat} {c : Addr} {l : List Int} {H' : Hp} {σ : L2.St}, σ[i]? = some (some (.ref c)) → Sq K H' c (vI l) → 0 < l.length → l.length ≤ 2000 → Pos l →
        EvT (tNot (tB (tCall (spParts K) [] E0 (tCons (tVar i) (tCons (tCVal K (tC (.ref C)) "MOST") tNil))))) σ H' false := fun h0 hs l0 l1 lp =>
      et_is (et_not (et_B (ev_call (ea_cons (ev_var h0) (ea_cons (ev_cval ev_c N.rd cm) ea_nil)) fun H1 e Q q E => ⟨_, _, rfl, hs.mono e, l0, l1, lp, q⟩))) rfl
    have pg : Pos g := fun i hi => (sm i hi).1
    refine q_when (yes rfl hA t0 t1 pt) (fun hb => absurd hb (by decide)) (fun _ H1 e1 => ?_)
    refine q_when (yes rfl (hB.mono e1) g0 g1 pg) (fun hb => absurd hb (by decide)) (fun _ H2 e2 => ?_)
    have E2 := e1.trans e2
    refine ⟨_, rfl, _, rfl, a, b, t, g, rfl, hA.mono E2, hB.mono E2, t0, by omega, g0, by omega, fun r p q t' g' H3 e3 hr3 hp hq nf hv l1 l2 => ?_⟩
    have hO3 := e3 _ _ (E2 _ _ hO)
    refine ⟨r, [.ref p, .ref q], rfl, hr3, rfl, _, _, rfl, ⟨_, rfl, o, C, dx, [], rfl, hO3, G.cls, G.told, Nat.le_of_ble_eq_true rfl, ⟨_, _, rfl, ⟨_, rfl, o, C, dx, _, rfl, upd_same, G.cls, G.gains, Nat.le_of_ble_eq_true rfl, ⟨rfl, ?_⟩⟩⟩⟩⟩
    have kp3 : Keep o H (upd (upd H3 o (.ins C dx (putF "told" (.ref p) []))) o (.ins C dx (putF "gains" (.ref q) (putF "told" (.ref p) [])))) := fun c u hc hn => by
      rw [upd_ne hn, upd_ne hn]
      exact e3 _ _ (E2 _ _ hc)
    have hp4 : SqT K (upd (upd H3 o (.ins C dx (putF "told" (.ref p) []))) o (.ins C dx (putF "gains" (.ref q) (putF "told" (.ref p) [])))) p (vI t') := sqT_upd (sqT_upd hp hO3) upd_same
    have hq4 : SqT K (upd (upd H3 o (.ins C dx (putF "told" (.ref p) []))) o (.ins C dx (putF "gains" (.ref q) (putF "told" (.ref p) [])))) q (vI g') := sqT_upd (sqT_upd hq hO3) upd_same
    have hO4 : (upd (upd H3 o (.ins C dx (putF "told" (.ref p) []))) o (.ins C dx (putF "gains" (.ref q) (putF "told" (.ref p) [])))) o = some (.ins C dx [("told", .ref p), ("gains", .ref q)]) := upd_same
    generalize upd (upd H3 o (.ins C dx (putF "told" (.ref p) []))) o (.ins C dx (putF "gains" (.ref q) (putF "told" (.ref p) []))) = H4 at kp3 hp4 hq4 hO4 ⊢
    refine ⟨_, rfl, o, C, dx, _, .ref q, rfl, hO4, G.cls, G.gains, rfl, q, g', rfl, hq4, by omega, fun pr H5 e5 hpr => ?_⟩
    refine ⟨_, rfl, o, C, dx, _, rfl, e5 _ _ hO4, G.cls, G.rises, Nat.le_of_ble_eq_true rfl, ?_⟩
    have hO5 := e5 _ _ hO4
    refine k t' g' _ (fun c u hc hn => by rw [upd_ne hn]; exact e5 _ _ (kp3 _ _ hc hn)) ⟨dx, p, q, pr, upd_same, sqT_upd (ex_t e5 hp4) hO5, sqT_upd (ex_t e5 hq4) hO5, sqT_upd hpr hO5, nf, by omega, by omega, small_of nf t0 g0 sm hv⟩ (fun i hi => by
      have z := val_nonneg pt t0 g0 sm i
      rwa [← hv, val_lt hi] at z) hv
end
end K05
namespace Gr
/-- at last it never falls, and rises by no more than B -/
def Tail (f : Nat → Int) (B : Int) : Prop := ∃ m, ∀ n, m ≤ n → 0 ≤ f (n + 1) - f n ∧ f (n + 1) - f n ≤ B
theorem tail_val {t g : List Int} {B : Int} (t0 : 0 < t.length) (g0 : 0 < g.length) (h : ∀ i, i < g.length → 0 ≤ at' g i ∧ at' g i ≤ B) : Tail (val t g) B := ⟨t.length - 1, fun n hn => by
  have := rise_ge (g := g) t0 hn
  unfold rise at this
  rw [this]
  exact h _ (Nat.mod_lt _ g0)⟩
theorem gains_tail {t g : List Int} {f : Nat → Int} {B : Int} (t0 : 0 < t.length) (hf : ∀ n, val t g n = f n) (h : Tail f B) (i : Nat) (hi : i < g.length) : 0 ≤ at' g i ∧ at' g i ≤ B := by
  obtain ⟨m, hm⟩ := h
  have p := (dif_pd (g := g)).mul m i
  rw [dif_lt hi] at p
  have m1 : m ≤ m * g.length := Nat.le_mul_of_pos_right _ (by omega)
  have a := val_step (g := g) t0 (i + m * g.length)
  rw [p, hf, hf] at a
  rw [← a]
  exact hm _ (by omega)
theorem Tail.add {f g : Nat → Int} {A B : Int} (h : Tail f A) (h' : Tail g B) : Tail (fun n => f n + g n) (A + B) := by
  obtain ⟨m, hm⟩ := h
  obtain ⟨k, hk⟩ := h'
  refine ⟨max m k, fun n hn => ?_⟩
  have a := hm n (by omega)
  have b := hk n (by omega)
  show 0 ≤ f (n + 1) + g (n + 1) - (f n + g n) ∧ f (n + 1) + g (n + 1) - (f n + g n) ≤ A + B
  omega
theorem Tail.mono {f : Nat → Int} {A B : Int} (h : Tail f A) (hB : A ≤ B) : Tail f B := by
  obtain ⟨m, hm⟩ := h
  exact ⟨m, fun n hn => ⟨(hm n hn).1, Int.le_trans (hm n hn).2 hB⟩⟩
end Gr
namespace K05
open PySem L2 Evl Gr ClX
/-- a growth of these values stands at o -/
def GrF (K : PySem.W.Frag) (C : Addr) (H : Hp) (o : Addr) (f : Nat → Int) : Prop := ∃ t g, GrAt K C H o t g ∧ Pos t ∧ ∀ n, val t g n = f n
theorem GrF.mono {K : PySem.W.Frag} {C : Addr} {H H' : Hp} {o : Addr} {f : Nat → Int} (e : Ex H H') (h : GrF K C H o f) : GrF K C H' o f := by
  obtain ⟨t, g, h1, h2⟩ := h
  exact ⟨t, g, h1.mono e, h2⟩
/-- gives a new growth of these values -/
def EvG (K : PySem.W.Frag) (C : Addr) (te : TE) (σ : L2.St) (H : Hp) (f : Nat → Int) : Prop := ∀ H1, Ex H H1 → ∀ Q : VK, (∀ o H2, H1 o = none → Ex H1 H2 → GrF K C H2 o f → Q (.ref o) H2) → te σ H1 Q
/-- two parts, lists or tuples, old or new -/
def EvP (K : PySem.W.Frag) (ta : TA) (σ : L2.St) (H : Hp) (t g : List Int) : Prop := ∀ H1, Ex H H1 → ∀ Q : List V → Hp → Prop, (∀ a b H2, Ex H1 H2 → Sq K H2 a (vI t) → Sq K H2 b (vI g) → Q [.ref a, .ref b] H2) → ta σ H1 Q
section
variable {K : PySem.W.Frag} {C : Addr} {σ : L2.St} {H : Hp} {ta : TA} {t g : List Int} {f : Nat → Int}
theorem eg_make (h : EvP K ta σ H t g) (t0 : 0 < t.length) (t1 : t.length ≤ 2000) (g0 : 0 < g.length) (g1 : g.length ≤ 2000) (pt : Pos t) (sm : Small g) (hf : ∀ n, val t g n = f n) : EvG K C (tMake C (spInit K C) [] E0 ta) σ H f := fun H1 e Q q =>
  h H1 e _ fun a b H2 e2 ha hb x dx hx hd hn => by
    have e3 : Ex H2 (upd (upd H2 dx (.own x)) x (.ins C dx [])) := (Ex.new hd).trans (Ex.new (by rw [upd_ne hn.symm]; exact hx))
    refine ⟨x, a, b, dx, t, g, rfl, upd_same, ha.mono e3, hb.mono e3, t0, t1, g0, g1, pt, sm, fun t' g' H' kp gr pt' hv => ⟨rfl, ?_⟩⟩
    refine q x H' (fresh_back e2 hx) (e2.trans fun c u hc => ?_) ⟨t', g', gr, pt', fun n => (hv n).trans (hf n)⟩
    exact kp c u (e3 _ _ hc) (ne_of_none hc hx)
end
end K05
namespace K05
open PySem L2 Evl Gr ClX
theorem eqv_ints : ∀ xs ys : List Int, PyData.eqvAll (xs.map PyData.int) (ys.map PyData.int) = decide (xs = ys)
  | [], [] => by simp [PyData.eqvAll]
  | [], y :: ys => by simp [PyData.eqvAll]
  | x :: xs, [] => by simp [PyData.eqvAll]
  | x :: xs, y :: ys => by
    have ih := eqv_ints xs ys
    simp only [List.map_cons, PyData.eqvAll, PyData.eqv, ih]
    by_cases h : x = y <;> by_cases h2 : xs = ys <;> simp [h, h2]
theorem shaped_tup (ns : List Int) : SeqAt.shaped (.tuple (ns.map PyData.int)) = true := by
  unfold SeqAt.shaped
  simp [PyData.canLay0, canLay_ints, PyData.depth, depth_ints]
/-- what isinstance asks of the class -/
structure GIsi (K : PySem.W.Frag) (C : Addr) : Prop where
  ca : PySem.W.findIn K (.ref C) "__class__" = some (some (.builtin "object.__class__"))
  cn : PySem.W.specialIn K (.builtin "object.__class__") "__get__" = some (some (.builtin "getset_descriptor.__get__"))
  ct : PySem.W.takesIn K (.builtin "object.__class__") = some true
  cm : PySem.W.mroIn K C (.type "object") = some true
  own : PySem.W.kitOne K (.ref C) (.ref C) = some true
  int : PySem.W.kitOne K (.ref C) (.type "int") = some false
  bool : PySem.W.kitOne K (.ref C) (.type "bool") = some false
theorem gr_ty {K : PySem.W.Frag} {C : Addr} {H : Hp} {o : Addr} {t g : List Int} (G : GCls K C) (I : GIsi K C) (h : GrAt K C H o t g) : TyX K H (.ref o) (.ref C) := by
  obtain ⟨dx, p, q, r, h1, _⟩ := h
  exact .base (.ins h1 G.cls I.ca I.cn I.ct I.cm)
section
variable {K : PySem.W.Frag} {C : Addr} {σ : L2.St} {H : Hp} {ta tb : TE}
theorem ev_isG {o : Addr} {t g : List Int} (G : GCls K C) (I : GIsi K C) (ha : Ev ta σ H (.ref o)) (h : GrAt K C H o t g) : Ev (tCB (rIsi K) (tCons ta (tCons (tC (.ref C)) tNil))) σ H (.bl true) :=
  ev_cb (ea_cons ha (ea_cons ev_c ea_nil)) fun H1 e _ q => ⟨.ref o, .ref C, .ref C, .ref C, true, rfl, .own C, tyx_mono e (gr_ty G I h), I.own, q H1 (Ex.refl H1)⟩
/-- two tuples of ints compared -/
theorem ev_eqT {p q : Addr} {xs ys : List Int} (ha : Ev ta σ H (.ref p)) (hb : Ev tb σ H (.ref q)) (hp : SqT K H p (vI xs)) (hq : SqT K H q (vI ys)) : Ev (tOp (rEqD K) ta tb) σ H (.bl (decide (xs = ys))) :=
  ev_op ha hb fun H1 e Q q' => ⟨.tuple (xs.map PyData.int), .tuple (ys.map PyData.int), .tup (ex_t e hp) (dpAll_ints xs), .tup (ex_t e hq) (dpAll_ints ys), shaped_tup xs, shaped_tup ys, by
    have e2 : PyData.eqv (.tuple (xs.map PyData.int)) (.tuple (ys.map PyData.int)) = decide (xs = ys) := by
      rw [← eqv_ints]
      simp [PyData.eqv]
    rw [e2]
    exact q' H1 (Ex.refl H1)⟩
end
section
variable {P : Program} {w : World} {K : PySem.W.Frag} {mg : Str → Option Value} {base : Heap}
/-! ### Growth.__eq__ -/
def spGEq (K : PySem.W.Frag) (C : Addr) : Sp := fun vs H Q _ => ∃ (o u : Addr) (f f' : Nat → Int), vs = [.ref o, .ref u] ∧ GrF K C H o f ∧ GrF K C H u f' ∧ ∀ b : Bool, (b = true ↔ ∀ n, f n = f' n) → RetV (.bl b) H Q
theorem scGEq : FnScope ["self", "other"] ["self", "other"] (defScope (sGr 2)) := ⟨rfl, rfl, rfl, by decide +kernel, rfl, by decide +kernel, by decide +kernel⟩
theorem ok_GEq {C f : Addr} {mc : Value} {fd : FuncData} (F : Fun K "__eq__" "Growth.__eq__" (sGr 2) f fd) (N : GName K mg C mc) (G : GCls K C) (I : GIsi K C) (TT : GlbT mg) : FnOk P w K mg base CX0 1 f fd ["self", "other"] (spGEq K C) := by
  refine F.ok scGEq (fun vs H Q E h => ?_) (fun cdv A outer s H vs Q E hr h => ?_)
  · obtain ⟨o, u, f1, f2, rfl, _⟩ := h
    rfl
  · obtain ⟨o, u, f1, f2, rfl, ⟨t, g, hO, _, v1⟩, ⟨t', g', hU, _, v2⟩, k⟩ := h
    refine ⟨_, pss_one (ps_ret (pe_and (pe_callB call_isi (by rfl) TT.inst (by decide +kernel) (pa_cons (pv 1) (pa_cons (pe_glob (v := .ref C) rfl N.g rfl) pa_nil)))
      (pe_and (pe_cmpR (op_eqD hr.units) (pe_fld (pv 0) rfl) (pe_fld (pv 1) rfl) (nomark _)) (pe_one (pe_cmpR (op_eqD hr.units) (pe_fld (pv 0) rfl) (pe_fld (pv 1) rfl) (nomark _)))))), ?_⟩
    have i1 := ev_isG (σ := [some (.ref o), some (.ref u)]) (ta := tVar 1) G I (ev_var rfl) hU
    obtain ⟨dx, p, q, r, h1, h2, h3, h4, nf, t2, g2, sm⟩ := hO
    obtain ⟨dx', p', q', r', h1', h2', h3', h4', nf', t2', g2', sm'⟩ := hU
    have b1 := ev_eqT (σ := [some (.ref o), some (.ref u)]) (ta := tFld K (tVar 0) "told") (tb := tFld K (tVar 1) "told") (ev_fld (ev_var rfl) h1 G.cls G.told rfl) (ev_fld (ev_var rfl) h1' G.cls G.told rfl) h2 h2'
    have b2 := ev_eqT (σ := [some (.ref o), some (.ref u)]) (ta := tFld K (tVar 0) "gains") (tb := tFld K (tVar 1) "gains") (ev_fld (ev_var rfl) h1 G.cls G.gains rfl) (ev_fld (ev_var rfl) h1' G.cls G.gains rfl) h3 h3'
    refine s_ret (ev_is (ev_andV i1 fun _ => ev_andV b1 fun _ => b2) (by rw [Bool.true_and])) (k _ ?_)
    rw [Bool.and_eq_true_iff, decide_eq_true_iff, decide_eq_true_iff]
    constructor
    · rintro ⟨rfl, rfl⟩ n
      rw [← v1, ← v2]
    · intro hf
      exact nf_one nf nf' fun n => by rw [v1, v2, hf]
end
end K05
namespace Gr
/-- the rises come round at last -/
def PerT (f : Nat → Int) (l : Nat) : Prop := ∃ m, ∀ n, m ≤ n → f (n + l + 1) - f (n + l) = f (n + 1) - f n
theorem nf_dvd {t g : List Int} {f : Nat → Int} {l : Nat} (nf : NF t g) (hf : ∀ n, val t g n = f n) (h : PerT f l) : g.length ∣ l := by
  obtain ⟨m, hm⟩ := h
  have p : Pd (dif g) l := fun k => by
    have a := hm (t.length - 1 + (k + m * g.length)) (by have : m ≤ m * g.length := Nat.le_mul_of_pos_right m nf.gains; omega)
    rw [← hf, ← hf, ← hf, ← hf] at a
    have b := val_step (g := g) nf.told (k + m * g.length)
    have c := val_step (g := g) nf.told (k + l + m * g.length)
    rw [show t.length - 1 + (k + l + m * g.length) = t.length - 1 + (k + m * g.length) + l by omega] at c
    rw [a, b] at c
    rw [dif_pd.mul, dif_pd.mul] at c
    exact c.symm
  have q := Pd.gcd g.length l dif_pd p
  have c := nf.least.le _ (Nat.gcd_pos_of_pos_left _ nf.gains) q
  have d : Nat.gcd g.length l = g.length := Nat.le_antisymm (Nat.gcd_le_left _ nf.gains) c
  rw [← d]
  exact Nat.gcd_dvd_right _ _
theorem perT_val {t g : List Int} (t0 : 0 < t.length) {l : Nat} (h : g.length ∣ l) : PerT (val t g) l := ⟨t.length - 1, fun n hn => rise_pd t0 h hn⟩
theorem PerT.add {f g : Nat → Int} {l : Nat} (h : PerT f l) (h' : PerT g l) : PerT (fun n => f n + g n) l := by
  obtain ⟨m, hm⟩ := h
  obtain ⟨k, hk⟩ := h'
  refine ⟨max m k, fun n hn => ?_⟩
  have a := hm n (by omega)
  have b := hk n (by omega)
  show f (n + l + 1) + g (n + l + 1) - (f (n + l) + g (n + l)) = f (n + 1) + g (n + 1) - (f n + g n)
  omega
theorem PerT.mul {f : Nat → Int} {l : Nat} (h : PerT f l) {k : Nat} (hk : l ∣ k) : PerT f k := by
  obtain ⟨c, rfl⟩ := hk
  obtain ⟨m, hm⟩ := h
  refine ⟨m, ?_⟩
  induction c with
  | zero => intro n _; rw [Nat.mul_zero]; rfl
  | succ c ih =>
    intro n hn
    have a := hm (n + l * c) (by omega)
    rw [Nat.mul_succ, ← Nat.add_assoc, a]
    exact ih n hn
end Gr
namespace K05
open PySem L2 Evl Gr ClX
/-- a list that is walked and one that is made of it, of ints -/
theorem EvP.pair {K : PySem.W.Frag} {σ : L2.St} {H : Hp} {ta tb : TE} {a b : Addr} {t g : List Int} (ha : Ev ta σ H (.ref a)) (hb : Ev tb σ H (.ref b)) (sa : Sq K H a (vI t)) (sb : Sq K H b (vI g)) : EvP K (tCons ta (tCons tb tNil)) σ H t g := fun H1 e Q q =>
  ha H1 e _ fun H2 e2 => hb H2 (e.trans e2) _ fun H3 e3 => q a b H3 (e2.trans e3) (sa.mono ((e.trans e2).trans e3)) (sb.mono ((e.trans e2).trans e3))
theorem EvP.lists {K : PySem.W.Frag} {σ : L2.St} {H : Hp} {ta tb : TE} {t g : List Int} (ha : EvL ta σ H (vI t)) (hb : EvL tb σ H (vI g)) : EvP K (tCons ta (tCons tb tNil)) σ H t g := fun H1 e Q q =>
  ha H1 e _ fun p H2 _ e2 h2 => hb H2 (e.trans e2) _ fun r H3 _ e3 h3 => q p r H3 (e2.trans e3) (.inl (sq_of (e3 _ _ h2))) (.inl (sq_of h3))
section
variable {P : Program} {w : World} {K : PySem.W.Frag} {mg : Str → Option Value} {base : Heap}
/-! ### Growth.__call__ -/
def spGCall (K : PySem.W.Frag) (C : Addr) : Sp := fun vs H Q _ => ∃ (o : Addr) (n : Nat) (f : Nat → Int), vs = [.ref o, .int (n : Int)] ∧ GrF K C H o f ∧ (n : Int) ≤ 10 ^ 40 ∧ RetV (.int (f n)) H Q
theorem scGCall : FnScope ["self", "n"] ["self", "n"] (defScope (sGr 3)) := ⟨rfl, rfl, rfl, by decide +kernel, rfl, by decide +kernel, by decide +kernel⟩
theorem ok_GCall {C f fW fV : Addr} {fd fdW fdV : FuncData} (F : Fun K "__call__" "Growth.__call__" (sGr 3) f fd)
    (GW : FnOk P w K mg base CX0 2 fW fdW ["value", "least", "most"] (spWithin K)) (kW : PySem.W.keepIn K (.ref fW) = true) (bW : Binds K fdW ["value", "least", "most"] []) (gW : mg "is_within" = some (.ref fW))
    (GV : FnOk P w K mg base CX0 1 fV fdV ["one", "n"] (spVal K C)) (kV : PySem.W.keepIn K (.ref fV) = true) (bV : Binds K fdV ["one", "n"] []) (gV : mg "value_at" = some (.ref fV)) :
    FnOk P w K mg base CX0 3 f fd ["self", "n"] (spGCall K C) := by
  refine F.ok scGCall (fun vs H Q E h => ?_) (fun cdv A outer s H vs Q E hr h => ?_)
  · obtain ⟨o, n, f1, rfl, _⟩ := h
    rfl
  · obtain ⟨o, n, f1, rfl, ⟨t, g, hO, _, v1⟩, hn, k⟩ := h
    refine ⟨_, pss_cons (ps_if (pt_not (pt_val (pe_call GW hr (by rfl) gW kW bW .nil pass0 (pa_cons (pv 1) (pa_cons pe_int (pa_cons (pe_op op_pow pe_int pe_int) pa_nil)))))) (pss_one ps_no) pss_nil)
      (pss_one (ps_ret (pe_call GV (hr.mono (by decide)) (by rfl) gV kV bV .nil pass0 (pa_cons (pv 0) (pa_cons (pv 1) pa_nil))))), ?_⟩
    refine q_when (b := false) (et_is (et_not (et_B (ev_call (z := .bl true) (ea_cons (ev_var rfl) (ea_cons ev_c (ea_cons (ev_op ev_c ev_c (rv_I ⟨by decide, by decide, by decide⟩)) ea_nil))) fun H1 e Q q E => .inl ⟨_, _, _, rfl, ?_⟩))) rfl) (fun hb => absurd hb (by decide)) (fun _ H1 e1 => ?_)
    · have z : (decide ((0 : Int) ≤ (n : Int)) && decide ((n : Int) ≤ (10 : Int) ^ (40 : Int).toNat)) = true := by
        rw [decide_eq_true (by omega : (0 : Int) ≤ (n : Int)), decide_eq_true (show (n : Int) ≤ (10 : Int) ^ (40 : Int).toNat from hn)]
        rfl
      rw [z]
      exact q
    · exact s_ret (v := .int (f1 n)) (ev_call (ea_cons (ev_var rfl) (ea_cons (ev_var rfl) ea_nil)) fun H2 e2 Q q E => ⟨o, n, t, g, rfl, hO.mono (e1.trans e2), by rw [v1]; exact q⟩) fun H2 e2 => k H2 (e1.trans e2)
/-! ### Growth.__add__ -/
/-- a new growth of these values is handed back -/
def RetG (K : PySem.W.Frag) (C : Addr) (f : Nat → Int) (H : Hp) (Q : VK) : Prop := ∀ o H', H o = none → Ex H H' → GrF K C H' o f → Q (.ref o) H'
def spAdd (K : PySem.W.Frag) (C : Addr) : Sp := fun vs H Q _ => ∃ (o u : Addr) (f f' : Nat → Int) (l : Nat), vs = [.ref o, .ref u] ∧ GrF K C H o f ∧ GrF K C H u f' ∧ 0 < l ∧ l ≤ 2000 ∧ PerT f l ∧ PerT f' l ∧ Tail (fun n => f n + f' n) 4000000000000000 ∧ (∀ n, 0 ≤ f n + f' n) ∧
  RetG K C (fun n => f n + f' n) H Q
theorem scAdd : FnScope ["self", "other", "told", "gains"] ["self", "other"] (defScope (sGr 5)) := ⟨rfl, rfl, rfl, by decide +kernel, rfl, by decide +kernel, by decide +kernel⟩
theorem ok_Add {C f fI fS : Addr} {mc : Value} {fd fdI fdS : FuncData} {dvs : List V} (F : Fun K "__add__" "Growth.__add__" (sGr 5) f fd) (N : GName K mg C mc) (G : GCls K C) (I : GIsi K C) (TT : GlbT mg) (M : Mk K C fI)
    (GI : FnOk P w K mg base CX0 4 fI fdI ["self", "told", "gains"] (spInit K C)) (bI : Binds K fdI ["self", "told", "gains"] [])
    (GS : FnOk P w K mg base CX0 2 fS fdS ["one", "other"] (spSum K C)) (kS : PySem.W.keepIn K (.ref fS) = true) (bS : Binds K fdS ["one", "other"] []) (gS : mg "summed_parts" = some (.ref fS)) :
    FnOk P w K mg base CX0 6 f fd ["self", "other"] (spAdd K C) := by
  refine F.ok scAdd (fun vs H Q E h => ?_) (fun cdv A outer s H vs Q E hr h => ?_)
  · obtain ⟨o, u, f1, f2, l, rfl, _⟩ := h
    rfl
  · obtain ⟨o, u, f1, f2, l, rfl, ⟨t, g, hO, p1, v1⟩, ⟨t', g', hU, p2, v2⟩, l0, l1, d1, d2, tl, nn, k⟩ := h
    refine ⟨_, pss_cons (ps_if (pt_not (pt_val (pe_callB call_isi (by rfl) TT.inst (by decide +kernel) (pa_cons (pv 1) (pa_cons (pe_glob (v := .ref C) rfl N.g rfl) pa_nil))))) (pss_one ps_no) pss_nil)
      (pss_cons (ps_asg (pe_call GS (hr.mono (by decide)) (by rfl) gS kS bS .nil pass0 (pa_cons (pv 0) (pa_cons (pv 1) pa_nil))) (pg_tup rfl (pgs_cons (pg_name (i := 2) scAdd.nd rfl (.inl rfl)) (pgs_cons (pg_name (i := 3) scAdd.nd rfl (.inl rfl)) pgs_nil))))
      (pss_one (ps_ret (pe_make M GI hr (by rfl) N.g bI .nil pass0 (pa_cons (pv 2) (pa_cons (pv 3) pa_nil)))))), ?_⟩
    have e0 : (fun n => val t g n + val t' g' n) = fun n => f1 n + f2 n := funext fun n => by rw [v1, v2]
    have hO' := hO
    have hU' := hU
    obtain ⟨_, _, _, _, _, _, _, _, nf1, _, _, _⟩ := hO'
    obtain ⟨_, _, _, _, _, _, _, _, nf2, _, _, _⟩ := hU'
    have lc : Nat.lcm g.length g'.length ≤ 2000 := Nat.le_trans (Nat.le_of_dvd l0 (Nat.lcm_dvd (nf_dvd nf1 v1 d1) (nf_dvd nf2 v2 d2))) l1
    refine q_when (et_not (et_B (ev_isG G I (ev_var rfl) hU))) (fun hb => absurd hb (by decide)) (fun _ H1 e1 => ?_)
    refine ⟨_, rfl, _, rfl, o, u, t, g, t', g', rfl, hO.mono e1, hU.mono e1, lc, fun r p q b l' H2 e2 hr2 hp hq b0 b1 l0' l1' hv => ?_⟩
    rw [e0] at hp hq hv
    refine ⟨r, [.ref p, .ref q], rfl, hr2, rfl, _, _, rfl, _, _, rfl, rfl, ?_⟩
    have hv' : ∀ n, val (pT (fun n => f1 n + f2 n) b) (pG (fun n => f1 n + f2 n) b l') n = f1 n + f2 n := fun n => by
      rw [hv, v1, v2]
    refine eg_make (K := K) (C := C) (σ := [some (.ref o), some (.ref u), some (.ref p), some (.ref q)]) (H := H2) (ta := tCons (tVar 2) (tCons (tVar 3) tNil)) (EvP.pair (ev_var rfl) (ev_var rfl) (.inl hp) (.inl hq)) (by rw [pT_len]; exact b0) (by rw [pT_len]; exact b1) (by rw [pG_len]; exact l0') (by rw [pG_len]; exact l1')
      (fun i hi => by
        rw [pT_len] at hi
        rw [pT_at hi]
        exact nn i) (fun i hi => gains_tail (by rw [pT_len]; exact b0) hv' tl i hi) hv' H2 (Ex.refl H2) _ fun x H3 hx e3 gr => k x H3 (fresh_back (e1.trans e2) hx) ((e1.trans e2).trans e3) gr
end
end K05
namespace Gr
/-- values that some told ones (a at most) and some gains (their number divides l, none above r) give -/
def Fm (f : Nat → Int) (a l r : Nat) : Prop := ∃ t g : List Int, 0 < t.length ∧ t.length ≤ a ∧ 0 < g.length ∧ g.length ∣ l ∧ (∀ i, i < g.length → 0 ≤ at' g i ∧ at' g i ≤ (r : Int)) ∧ (∀ i, i < t.length → 0 ≤ at' t i) ∧ ∀ n, val t g n = f n
theorem val_nn {t g : List Int} (t0 : 0 < t.length) (g0 : 0 < g.length) (pos : ∀ i, i < g.length → 0 ≤ at' g i) (pt : ∀ i, i < t.length → 0 ≤ at' t i) (n : Nat) : 0 ≤ val t g n := by
  rcases Nat.lt_or_ge n t.length with h | h
  · rw [val_lt h]
    exact pt n h
  · have := val_up t0 g0 pos (x := t.length - 1) (Nat.le_refl _) (n - (t.length - 1))
    rw [show t.length - 1 + (n - (t.length - 1)) = n by omega, val_lt (by omega)] at this
    have p := pt (t.length - 1) (by omega)
    omega
theorem Fm.nn {f : Nat → Int} {a l r : Nat} (h : Fm f a l r) (n : Nat) : 0 ≤ f n := by
  obtain ⟨t, g, t0, _, g0, _, bg, pt, e⟩ := h
  rw [← e]
  exact val_nn t0 g0 (fun i hi => (bg i hi).1) pt n
theorem Fm.tail {f : Nat → Int} {a l r : Nat} (h : Fm f a l r) : Tail f (r : Int) := by
  obtain ⟨t, g, t0, _, g0, _, bg, _, e⟩ := h
  have z : val t g = f := funext e
  rw [← z]
  exact tail_val t0 g0 bg
theorem Fm.per {f : Nat → Int} {a l r : Nat} (h : Fm f a l r) {k : Nat} (hk : l ∣ k) : PerT f k := by
  obtain ⟨t, g, t0, _, g0, d, _, _, e⟩ := h
  have z : val t g = f := funext e
  rw [← z]
  exact perT_val t0 (Nat.dvd_trans d hk)
theorem Fm.mono {f : Nat → Int} {a l r a' l' r' : Nat} (h : Fm f a l r) (ha : a ≤ a') (hl : l ∣ l') (hr : r ≤ r') : Fm f a' l' r' := by
  obtain ⟨t, g, t0, t1, g0, d, bg, pt, e⟩ := h
  exact ⟨t, g, t0, Nat.le_trans t1 ha, g0, Nat.dvd_trans d hl, fun i hi => ⟨(bg i hi).1, Int.le_trans (bg i hi).2 (by omega)⟩, pt, e⟩
theorem Fm.nf {f : Nat → Int} {a l r : Nat} (h : Fm f a l r) {t g : List Int} (nf : NF t g) (e : ∀ n, val t g n = f n) : t.length ≤ a ∧ g.length ∣ l ∧ ∀ i, i < g.length → 0 ≤ at' g i ∧ at' g i ≤ (r : Int) := by
  refine ⟨?_, nf_dvd nf e (h.per (Nat.dvd_refl l)), fun i hi => gains_tail nf.told e h.tail i hi⟩
  obtain ⟨t', g', t0, t1, g0, d, bg, pt, e'⟩ := h
  refine Nat.le_trans ?_ t1
  have dv : g.length ∣ g'.length := nf_dvd nf (fun n => (e n).trans (e' n).symm) (perT_val t0 (Nat.dvd_refl _))
  have ee : ∀ n, val t g n = val t' g' n := fun n => (e n).trans (e' n).symm
  rcases Nat.lt_or_ge t'.length t.length with hl | hl
  · exfalso
    rcases nf.few with z | z
    · omega
    · apply z
      have a : rise t g (t.length - 2) = at' t (t.length - 1) - at' t (t.length - 2) := by
        unfold rise
        rw [show t.length - 2 + 1 = t.length - 1 by omega, val_lt (by omega), val_lt (by omega)]
      obtain ⟨c, hc⟩ := dv
      have g1 := nf.gains
      have c0 : 0 < c := Nat.pos_of_ne_zero fun z => by
        rw [z, Nat.mul_zero] at hc
        omega
      have b : rise t g (t.length - 2 + g'.length) = lst g := by
        rw [rise_ge nf.told (by omega), show t.length - 2 + g'.length - (t.length - 1) = g'.length - 1 by omega]
        have : g'.length - 1 = g.length - 1 + (c - 1) * g.length := by
          obtain ⟨d, rfl⟩ : ∃ d, c = d + 1 := ⟨c - 1, by omega⟩
          rw [hc, Nat.mul_comm, Nat.succ_mul, Nat.add_sub_cancel]
          omega
        rw [this, dif_pd.mul, dif_lt (by omega)]
        rfl
      have p : rise t' g' (t.length - 2 + g'.length) = rise t' g' (t.length - 2) := rise_pd t0 (Nat.dvd_refl _) (by omega)
      have re : ∀ n, rise t g n = rise t' g' n := fun n => by unfold rise; rw [ee, ee]
      rw [← a, ← b, re, re]
      exact p.symm
  · exact hl
theorem val_most {t g : List Int} {r : Nat} (t0 : 0 < t.length) (g0 : 0 < g.length) (bg : ∀ i, i < g.length → 0 ≤ at' g i ∧ at' g i ≤ (r : Int)) {x : Nat} (hx : t.length - 1 ≤ x) : ∀ d : Nat, val t g (x + d) - val t g x ≤ ((d * r : Nat) : Int)
  | 0 => by
    rw [Nat.zero_mul]
    show val t g x - val t g x ≤ 0
    omega
  | d + 1 => by
    have ih := val_most t0 g0 bg hx d
    have q := rise_ge (g := g) t0 (n := x + d) (by omega)
    unfold rise at q
    have p := (bg _ (Nat.mod_lt (x + d - (t.length - 1)) g0)).2
    have e : dif g (x + d - (t.length - 1)) = at' g ((x + d - (t.length - 1)) % g.length) := rfl
    rw [e] at q
    rw [Nat.succ_mul]
    show val t g (x + d + 1) - val t g x ≤ ((d * r + r : Nat) : Int)
    omega
/-- what the greatest common divisor makes of two numbers -/
theorem gcd_turn {L S : Nat} (hL : 0 < L) : L / Nat.gcd L S * S = S / Nat.gcd L S * L := by
  obtain ⟨p, hp⟩ := Nat.gcd_dvd_left L S
  obtain ⟨q, hq⟩ := Nat.gcd_dvd_right L S
  have g0 := Nat.gcd_pos_of_pos_left S hL
  have e1 : L / Nat.gcd L S = p := Nat.div_eq_of_eq_mul_right g0 hp
  have e2 : S / Nat.gcd L S = q := Nat.div_eq_of_eq_mul_right g0 hq
  rw [e1, e2]
  calc p * S = p * (Nat.gcd L S * q) := by rw [← hq]
    _ = q * (Nat.gcd L S * p) := by rw [Nat.mul_left_comm, Nat.mul_comm p q, Nat.mul_left_comm q]
    _ = q * L := by rw [← hp]
theorem gcd_turn_dvd {L S : Nat} : L / Nat.gcd L S ∣ L := Nat.div_dvd_of_dvd (Nat.gcd_dvd_left L S)
/-- the values of the one at the other's, once more such -/
theorem Fm.cmp {f h : Nat → Int} {a l r a' l' r' : Nat} (hf : Fm f a l r) (hh : Fm h a' l' r') (l0' : 0 < l') : Fm (cmp f h) (a' + a * l') (l' * l) (r' * r) := by
  obtain ⟨t, g, t0, t1, g0, d, bg, pt, e⟩ := hf
  obtain ⟨t', g', t0', t1', g0', d', bg', pt', e'⟩ := hh
  have ef : val t g = f := funext e
  have eh : val t' g' = h := funext e'
  have pos := fun i hi => (bg i hi).1
  have pos' := fun i hi => (bg' i hi).1
  have nnF : ∀ n, 0 ≤ Gr.cmp f h n := fun n => by
    unfold Gr.cmp
    rw [← ef]
    exact val_nn t0 g0 pos pt _
  have s0 := acc_nn g0' pos' g'.length
  rcases Int.lt_or_le 0 (acc (dif g') g'.length) with s | s
  · obtain ⟨S, hS⟩ := Int.eq_ofNat_of_zero_le s0
    have T0 : 0 < g.length / Nat.gcd g.length S := Nat.div_pos (Nat.le_of_dvd g0 (Nat.gcd_dvd_left _ _)) (Nat.gcd_pos_of_pos_left _ g0)
    have gl : g'.length ≤ l' := Nat.le_of_dvd l0' d'
    have hT : ((g.length / Nat.gcd g.length S : Nat) : Int) * acc (dif g') g'.length = ((S / Nat.gcd g.length S * g.length : Nat) : Int) := by
      rw [hS, ← gcd_turn g0]
      rfl
    have rc := reach t0' g0' pt' s t.length
    have hv : (t.length : Int) - 1 ≤ val t' g' (t'.length + t.length * g'.length - 1) := by
      rw [show t'.length + t.length * g'.length - 1 = t'.length - 1 + t.length * g'.length by omega]
      omega
    have rise_ := cmp_rise t0 t0' g0' pos' (b := t'.length + t.length * g'.length) (by omega) hv hT
    rw [ef, eh] at rise_
    refine ⟨pT (Gr.cmp f h) (t'.length + t.length * g'.length), pG (Gr.cmp f h) (t'.length + t.length * g'.length) (g.length / Nat.gcd g.length S * g'.length), by rw [pT_len]; omega, ?_, by rw [pG_len]; exact Nat.mul_pos T0 g0', ?_, fun i hi => ?_, fun i hi => ?_, val_parted (by omega) (Nat.mul_pos T0 g0') rise_⟩
    · rw [pT_len]
      exact Nat.add_le_add t1' (Nat.mul_le_mul t1 gl)
    · rw [pG_len, Nat.mul_comm]
      exact Nat.mul_dvd_mul d' (Nat.dvd_trans gcd_turn_dvd d)
    · rw [pG_len] at hi
      have ea : at' (pG (Gr.cmp f h) (t'.length + t.length * g'.length) (g.length / Nat.gcd g.length S * g'.length)) i = Gr.cmp f h (t'.length + t.length * g'.length + i) - Gr.cmp f h (t'.length + t.length * g'.length + i - 1) := at_map_range hi
      rw [ea]
      obtain ⟨n, hn⟩ : ∃ n, n = t'.length + t.length * g'.length + i - 1 := ⟨_, rfl⟩
      rw [← hn, show t'.length + t.length * g'.length + i = n + 1 by omega]
      have up := val_up t0' g0' pos' (x := t'.length + t.length * g'.length - 1) (by omega) (n - (t'.length + t.length * g'.length - 1))
      rw [show t'.length + t.length * g'.length - 1 + (n - (t'.length + t.length * g'.length - 1)) = n by omega] at up
      have r1 := val_up t0' g0' pos' (x := n) (by omega) 1
      have r2 := val_most t0' g0' bg' (x := n) (by omega) 1
      rw [Nat.one_mul] at r2
      unfold Gr.cmp
      rw [← ef, ← eh]
      obtain ⟨k, hk⟩ : ∃ k : Nat, (val t' g' (n + 1)).toNat = (val t' g' n).toNat + k := ⟨(val t' g' (n + 1)).toNat - (val t' g' n).toNat, by omega⟩
      have kr : k ≤ r' := by omega
      rw [hk]
      have a1 := val_up t0 g0 pos (x := (val t' g' n).toNat) (by omega) k
      have a2 := val_most t0 g0 bg (x := (val t' g' n).toNat) (by omega) k
      have a3 : k * r ≤ r' * r := Nat.mul_le_mul_right r kr
      omega
    · rw [pT_len] at hi
      rw [pT_at hi]
      exact nnF i
  · have z : acc (dif g') g'.length = 0 := by omega
    refine ⟨t'.map fun v => val t g v.toNat, [0], by rw [List.length_map]; exact t0', by rw [List.length_map]; exact Nat.le_trans t1' (Nat.le_add_right _ _), Nat.one_pos, Nat.one_dvd _, fun i hi => ?_, fun i hi => ?_, fun n => ?_⟩
    · have : i = 0 := by
        have : i < 1 := hi
        omega
      subst this
      show (0 : Int) ≤ 0 ∧ (0 : Int) ≤ _
      omega
    · rw [List.length_map] at hi
      unfold at'
      rw [List.getD_eq_getElem?_getD, List.getElem?_map, List.getElem?_eq_getElem hi]
      exact val_nn t0 g0 pos pt _
    · rw [cmp_flat t0' g0' pos' z, ef, eh]
end Gr
/-! operators of own classes, for instances with a dict or with slots -/
namespace OpX
open PySem PySem.Spec PyProof.Rows L2 StX
section
variable {prog : Program} {w : World} {A : Around} {E : Value → Shared → Prop} {s : Shared} {K : PySem.W.Frag} {x y C f L : Addr} {h₀ : Heap} {m : Str → Option Value} {ox oy : Obj} {od od' : Option Obj}
/-- some answer came -/
def Told (Q : Value → Shared → Prop) (r : Option Value) (s' : Shared) : Prop := ∃ v, r = some v ∧ Q v s'
/-- what an operator's first try told is the operator's word -/
theorem told_pure {M : Model} {B : Around} {F : Value → Shared → Prop} {Q : Value → Shared → Prop} {t : Sem (Option Value)} {k : Option Value → Sem Value} {s' : Shared} (h : wpAny M B t (Told Q) F s') (hk : ∀ v, k (some v) = pure v) : wpAny M B (t >>= k) Q F s' :=
  wpAny_bind (wpAny_mono h (fun r s'' ⟨v, e, q⟩ => by rw [e, hk]; exact wpAny_pure q) fun _ _ z => z)
open Builtin in
/-- object's own != asks the class's == and turns its bool about -/
theorem turned {Q : Value → Shared → Prop} {b : Value} (hu : A.in1.units < cLine) (X : K.In s.heap) (I : PySem.W.InstAt s.heap x ox C od) (hm : PySem.W.mroIn K C (.type "object") = some true)
    (hs : PySem.W.findIn K (.ref C) "__eq__" = some (some (.ref f))) (hf : PySem.W.isFn K (.ref f) = true)
    (h : wpAny (model prog w) A.in1 (call (.ref f) [.ref x, b]) (fun r s' => ∃ c, r = .bool c ∧ Q (.bool (!c)) s') E s) : wpAny (model prog w) A (call (.builtin "object.__ne__") [.ref x, b]) Q E s := by
  refine wpAny_call (codeAny_call_builtin PySem.F.slot_object_ne.plain PySem.F.entry_object_ne (PySem.W.check_slot (i := "object.__ne__") (owner := "object") (n := "__ne__") (by decide +kernel) (by decide +kernel) (I.type.andThen (PySem.W.looks_mroIn X hm)) (PySem.F.args_object_ne_2 _ _) ?_))
  show wpAny _ _ (Builtin.«object.__ne__» _) _ _ _
  unfold Builtin.«object.__ne__»
  exact wpAny_bind (m := slotArgs "__ne__" 1 _) (wpAny_pure (wpAny_bind (m := cRoomFor _ _) (wpAny_cRoomFor hu (wpAny_bind (m := callSpecialIfBound? (.ref x) (Str.ofString "__eq__") _)
    (PySem.W.ifBound_K X I hs hf (wpAny_mono h (fun r s' ⟨c, e, q⟩ => by
      subst e
      exact wpAny_bind (m := truthy (.bool c)) (wpAny_truthy_bool (wpAny_pure q))) fun _ _ z => z))))))
/-- x != y, both of one class that has an own == and object's != -/
theorem ne_same {Q : Value → Shared → Prop} (hu : A.units < cLine) (hu1 : A.in1.units < cLine) (X : K.In s.heap) (I : PySem.W.InstAt s.heap x ox C od) (J : PySem.W.InstAt s.heap y oy C od')
    (hne : PySem.W.findIn K (.ref C) "__ne__" = some (some (.builtin "object.__ne__"))) (hm : PySem.W.mroIn K C (.type "object") = some true) (hs : PySem.W.findIn K (.ref C) "__eq__" = some (some (.ref f))) (hf : PySem.W.isFn K (.ref f) = true)
    (h : wpAny (model prog w) A.in1 (call (.ref f) [.ref x, .ref y]) (fun r s' => ∃ c, r = .bool c ∧ Q (.bool (!c)) s') E s) : wpAny (model prog w) A (richCompare .NotEq (.ref x) (.ref y)) Q E s := by
  have word := turned (Q := fun v s' => Q v s' ∧ ∃ c, v = .bool c) hu1 X I hm hs hf (wpAny_mono h (fun r s' ⟨c, e, q⟩ => ⟨c, e, q, _, rfl⟩) fun _ _ z => z)
  have bnd : PySem.W.Looks (model prog w) s.heap (bindSpecial (.builtin "object.__ne__") (.ref x)) (.builtin "object.__ne__", [.ref x]) := PySem.W.Looks.of_pure (PySem.F.slot_object_ne.bind _)
  have asked : wpAny (model prog w) A (call (.builtin "object.__ne__") ([.ref x] ++ [.ref y]) >>= fun v => pure (some v)) (Told fun v s' => Q v s' ∧ ∃ c, v = .bool c) E s := wpAny_bind (wpAny_mono word (fun v s' q => wpAny_pure ⟨v, rfl, q⟩) fun _ _ z => z)
  have tried : wpAny (model prog w) A (tryCompare (.ref x) (cmpInfo .NotEq).2.1 (.ref y)) (Told Q) E s := by
    unfold tryCompare callSpecialIfBound? bindSpecialIfBound?
    refine wpAny_bind (wpAny_holding (wpAny_bind (wpAny_bind (wpAny_bind (I.type.here ((PySem.W.looks_findIn X hne).here (wpAny_bind (wpAny_askSetting (wpAny_ite ?_)))))))))
    split
    · refine wpAny_bind (bnd.here (wpAny_pure ?_))
      exact wpAny_mono asked (fun r s' ⟨v, e, q, c, ec⟩ => by
        subst e ec
        exact wpAny_pure ⟨_, rfl, q⟩) fun _ _ z => z
    · refine wpAny_tryCatch (wpAny_bind (bnd.here (wpAny_pure ?_)))
      exact wpAny_mono asked (fun r s' ⟨v, e, q, c, ec⟩ => by
        subst e ec
        exact wpAny_pure ⟨_, rfl, q⟩) fun _ _ z => z
  have same : (Value.ref C != Value.ref C) = false := by simp
  unfold richCompare
  rw [oneThing_ref]
  refine wpAny_holding (wpAny_bind (wpAny_cRoomFor hu (wpAny_bind (I.type.here (wpAny_bind (J.type.here ?_))))))
  rw [same, if_neg Bool.false_ne_true]
  exact wpAny_bind (wpAny_pure (told_pure tried fun _ => rfl))
end
section
variable {X : Cx} {CX : CXT} {n : Nat} {C g : Addr} {sp : Sp} {E : XK}
/-- x op y: both of the class at C -/
def rS (X : Cx) (C : Addr) (sp : Sp) (E : XK) : R2 := fun x y H Q => ∃ a b, x = .ref a ∧ y = .ref b ∧ InsC X H a C ∧ InsC X H b C ∧ sp [.ref a, .ref b] H Q E
/-- x op i: x of the class at C, i an int -/
def rI (X : Cx) (C : Addr) (sp : Sp) (E : XK) : R2 := fun x y H Q => ∃ a i, x = .ref a ∧ y = .int i ∧ InsC X H a C ∧ sp [.ref a, .int i] H Q E
/-- i op x: the reflected one -/
def rR (X : Cx) (C : Addr) (sp : Sp) (E : XK) : R2 := fun x y H Q => ∃ a i, x = .int i ∧ y = .ref a ∧ InsC X H a C ∧ sp [.ref a, .int i] H Q E
/-- the def of an operator -/
structure Has (K : PySem.W.Frag) (C g : Addr) (name : Str) : Prop where
  at_ : PySem.W.findIn K (.ref C) name = some (some (.ref g))
  fn : PySem.W.isFn K (.ref g) = true
theorem run_own {pins : List (Addr × Obj)} {σ : L2.St} {H : Hp} {s : Shared} {Q : VK} {us : List Value} {vs : List V} (F : FnR X.prog X.w X.K X.mg X.base CX n g sp) (hr : Room n X.A) (hx : Passes CX X E) (I : Inv X pins σ H s) (r : Vals vs us)
    (q : sp vs H Q E) : wpAny (model X.prog X.w) X.A (call (.ref g) us) (PySem.W.CmpBack (EP X pins σ Q)) X.xe s := by
  refine wpAny_mono (wpAny_call (run_fnR F hr hx I r q)) (fun w s' z => ?_) fun _ _ x => x
  obtain ⟨z', H', I', rz, qz⟩ := z
  exact SlX.cmpback rz ⟨z', H', I', rz, qz⟩
theorem op_binS {op : Operator} (hc : PySem.W.selfFirst X.K C = true) (h : Has X.K C g (PySem.dunder op.info.2)) (F : FnR X.prog X.w X.K X.mg X.base CX n g sp) (hr : Room n X.A) (hx : Passes CX X E) :
    OpR X (binaryOp op) (rS X C sp E) := by
  intro pins s σ H x y v u Q I rx ry hq
  obtain ⟨a, b, rfl, rfl, ha, hb, q⟩ := hq
  cases (show v = Value.ref a from rx)
  cases (show u = Value.ref b from ry)
  obtain ⟨ox, od, J, _⟩ := insC_at I ha
  obtain ⟨ox', od', J', _⟩ := insC_at I hb
  obtain ⟨m, hF⟩ := I.fr
  exact PySem.W.binop_K hF I.ok.mod.kin J J'.type hc h.at_ h.fn (run_own (us := [.ref a, .ref b]) (vs := [.ref a, .ref b]) F hr hx I (.cons rfl (.cons rfl .nil)) q)
theorem op_binI {op : Operator} {fo ro rc : Option Value} (hc : PySem.W.selfFirst X.K C = true) (h : Has X.K C g (PySem.dunder op.info.2)) (hrf : PySem.W.findIn X.K (.ref C) (dunderR op.info.2) = some rc) (hp : rc = none ∨ ∃ g : Addr, rc = some (.ref g))
    (h1 : PySem.W.findIn X.K (.type "int") (PySem.dunder op.info.2) = some fo) (h2 : PySem.W.findIn X.K (.type "int") (dunderR op.info.2) = some ro) (hsub : PySem.W.subIn X.K (.type "int") (.ref C) = some false)
    (F : FnR X.prog X.w X.K X.mg X.base CX n g sp) (hr : Room n X.A) (hx : Passes CX X E) : OpR X (binaryOp op) (rI X C sp E) := by
  intro pins s σ H x y v u Q I rx ry hq
  obtain ⟨a, i, rfl, rfl, ha, q⟩ := hq
  cases (show v = Value.ref a from rx)
  obtain ⟨t, e⟩ := (show ∃ t, u = Value.int i t from ry)
  subst e
  obtain ⟨ox, od, J, _⟩ := insC_at I ha
  obtain ⟨m, hF⟩ := I.fr
  exact PySem.W.ksp_binT (T := "int") hF I.ok.mod.kin J rfl hc h.at_ h.fn hrf hp h1 h2 hsub (run_own (us := [.ref a, .int i t]) (vs := [.ref a, .int i]) F hr hx I (.cons rfl (.cons ⟨t, rfl⟩ .nil)) q)
/-- x == y: x of the class at C; y an instance of a class that is not below C -/
def rEqO (X : Cx) (C : Addr) (sp : Sp) (E : XK) : R2 := fun x y H Q => ∃ a b C', x = .ref a ∧ y = .ref b ∧ InsC X H a C ∧ InsC X H b C' ∧ PySem.W.notFirst X.K C (.ref C') = true ∧ sp [.ref a, .ref b] H Q E
theorem op_eqO {op : CmpOp} (hop : ∀ a b, compareOp op a b = richCompare op a b) (h : Has X.K C g (cmpInfo op).2.1) (F : FnR X.prog X.w X.K X.mg X.base CX n g sp)
    (hr : Room n X.A) (hx : Passes CX X E) : OpR X (compareOp op) (rEqO X C sp E) := by
  intro pins s σ H x y v u Q I rx ry hq
  obtain ⟨a, b, C', rfl, rfl, ha, hb, hn, q⟩ := hq
  cases (show v = Value.ref a from rx)
  cases (show u = Value.ref b from ry)
  obtain ⟨ox, od, J, _⟩ := insC_at I ha
  obtain ⟨ox', od', J', _⟩ := insC_at I hb
  obtain ⟨m, hF⟩ := I.fr
  rw [hop]
  exact PySem.W.cmp_K (op := op) (tb := .ref C') hr.units0 hF I.ok.mod.kin J J'.type hn h.at_ h.fn (run_own (us := [.ref a, .ref b]) (vs := [.ref a, .ref b]) F hr hx I (.cons rfl (.cons rfl .nil)) q)
/-- x != y, both of the class at C, which has an own == -/
def rNeO (X : Cx) (C : Addr) (sp : Sp) (E : XK) : R2 := fun x y H Q => ∃ a b, x = .ref a ∧ y = .ref b ∧ InsC X H a C ∧ InsC X H b C ∧ sp [.ref a, .ref b] H (fun v H' => ∃ c, v = .bl c ∧ Q (.bl (!c)) H') E
theorem op_neO (h : Has X.K C g "__eq__") (hne : PySem.W.findIn X.K (.ref C) "__ne__" = some (some (.builtin "object.__ne__"))) (hm : PySem.W.mroIn X.K C (.type "object") = some true) (F : FnR X.prog X.w X.K X.mg X.base CX n g sp)
    (hr : Room (n + 1) X.A) (hx : Passes CX X E) : OpR X (compareOp .NotEq) (rNeO X C sp E) := fun pins s σ H x y v u Q I rx ry ⟨a, b, ex, ey, ha, hb, q⟩ => by
  subst ex ey
  cases (show v = Value.ref a from rx)
  cases (show u = Value.ref b from ry)
  obtain ⟨ox, od, J, _⟩ := insC_at I ha
  obtain ⟨ox', od', J', _⟩ := insC_at I hb
  refine ne_same hr.units0 hr.in1.units0 I.kIn J J' hne hm h.at_ h.fn (wpAny_mono (wpAny_call (SlX.run_at (us := [.ref a, .ref b]) (ws := [.ref a, .ref b]) F hr.in1 I.env0.in1 hx I (.cons rfl (.cons rfl .nil)) q)) (fun r s' back => ?_) fun _ _ z => z)
  obtain ⟨_, H', I', rr, c, ec, qc⟩ := back
  subst ec
  cases (show r = Value.bool c from rr)
  exact ⟨c, rfl, .bl (!c), H', I', rfl, qc⟩
end
end OpX
/-! operators of own classes: an int on the left, +=, in, len, truth, [] -/
namespace OpX
open PySem PySem.Spec PyProof.Rows L2 StX
section
variable {prog : Program} {w : World} {A : Around} {E : Value → Shared → Prop} {s : Shared} {K : PySem.W.Frag} {x C f L : Addr} {h₀ : Heap} {m : Str → Option Value} {ox : Obj} {od : Option Obj} {b tb : Value}
open Builtin in
/-- an int does not know an instance -/
theorem intMul_ref {Q : Value → Shared → Prop} {i : Int} {t : Tok} (ho : s.heap.get? x = some ox) (hd : ox.data = .plain) (h : Q .notImplemented s) : wpAny (model prog w) A (call (.builtin "int.__mul__") [.int i t, .ref x]) Q E s := by
  refine wpAny_call (codeAny_call_builtin PySem.F.slot_int_mul.plain PySem.F.entry_int_mul (PySem.F.slot_int_mul.check _ _ _ _ _ _ _ _ (typeIs_int _ _ _) (PySem.F.args_int_mul_2 _ _) ?_))
  unfold Builtin.«int.__mul__»
  unfold Int.intBinary
  refine wpAny_bind (m := slotArgs "__mul__" 1 _) (wpAny_pure ?_)
  refine wpAny_bind (m := Int.intOfSelf _) (wpAny_bind (m := asInt? _) (wpAny_pure (wpAny_pure ?_)))
  refine wpAny_bind (m := asInt? (.ref x)) (wpAny_bind (wpAny_load ho ?_))
  rw [hd]
  exact wpAny_pure (wpAny_bind (wpAny_rule (wpAny_pure h)))
/-- i * x, x of a class with * on both sides: an int declines, the class's reflected one is asked -/
theorem bin1_rint {i : Int} {t : Tok} {g : Addr} {Q : Value → Shared → Prop} (X : K.In s.heap) (I : PySem.W.InstAt s.heap x ox C od) (hd : ox.data = .plain) (hc : PySem.W.selfFirst K C = true) (hm : PySem.W.findIn K (.ref C) (PySem.dunder "mul") = some (some (.ref g)))
    (hs : PySem.W.findIn K (.ref C) (dunderR "mul") = some (some (.ref f))) (hf : PySem.W.isFn K (.ref f) = true) (hsub : PySem.W.subIn K (.ref C) (.type "int") = some false)
    (h : wpAny (model prog w) A (call (.ref f) [.ref x, .int i t]) (PySem.W.CmpBack Q) E s) : wpAny (model prog w) A (binaryOp1 "mul" (.int i t) (.ref x)) (Told Q) E s := by
  obtain ⟨cd, rest, hcd, hmm⟩ := PySem.W.ksp_first hc
  have mine := PySem.W.fills_K (M := model prog w) X hcd hmm hm
  have apart := PySem.W.looks_subIn (M := model prog w) X hsub
  have plainInt : numberSlotInPython (.type "int") "mul" = pure false := rfl
  have unlike : (Value.type "int" == Value.ref C) = false := by simp
  have answer := PySem.W.ksp_try (name := dunderR "mul") X I hs hf h
  unfold binaryOp1
  refine wpAny_bind (wpAny_typeOf (typeIs_int _ _ _) (wpAny_bind (I.type.here (wpAny_bind (wpAny_of_eq PySem.F.fills_int_mul ?_)))))
  simp only [unlike, Bool.false_eq_true, if_false]
  refine wpAny_bind (mine.here ?_)
  simp only [Bool.and_self, if_true]
  refine wpAny_bind (apart.here ?_)
  simp only [plainInt, Bool.not_false, Bool.and_self, Bool.false_eq_true, if_true, if_false, pure_bind]
  refine wpAny_bind (wpAny_tryMethod_declines (typeIs_int _ _ _) PySem.F.slot_int_mul (intMul_ref I.at_ hd ⟨rfl, ?_⟩))
  simp only [pure_bind]
  exact wpAny_bind (wpAny_mono answer (fun r s' ⟨v, e, q⟩ => by
    subst e
    exact wpAny_bind (wpAny_rule (wpAny_pure ⟨v, rfl, q⟩))) fun _ _ z => z)
/-- x op y, both of one class with an own op -/
theorem bin1_same {nm : String} {y : Addr} {oy : Obj} {od' : Option Obj} {Q : Value → Shared → Prop} (X : K.In s.heap) (I : PySem.W.InstAt s.heap x ox C od) (J : PySem.W.InstAt s.heap y oy C od') (hc : PySem.W.selfFirst K C = true)
    (hs : PySem.W.findIn K (.ref C) (PySem.dunder nm) = some (some (.ref f))) (hf : PySem.W.isFn K (.ref f) = true) (h : wpAny (model prog w) A (call (.ref f) [.ref x, .ref y]) (PySem.W.CmpBack Q) E s) :
    wpAny (model prog w) A (binaryOp1 nm (.ref x) (.ref y)) (Told Q) E s := by
  obtain ⟨cd, rest, hcd, hmm⟩ := PySem.W.ksp_first hc
  have answer := PySem.W.ksp_try (name := PySem.dunder nm) X I hs hf h
  have alike : (Value.ref C == Value.ref C) = true := by simp
  unfold binaryOp1
  refine wpAny_bind (I.type.here (wpAny_bind (J.type.here (wpAny_bind ((PySem.W.fills_K (M := model prog w) X hcd hmm hs).here ?_)))))
  simp only [alike, pure_bind, Bool.and_false, Bool.false_and, Bool.false_eq_true, if_true, if_false]
  exact wpAny_bind (wpAny_mono answer (fun r s' ⟨v, e, q⟩ => by
    subst e
    exact wpAny_pure ⟨v, rfl, q⟩) fun _ _ z => z)
theorem mul_of_bin1 {M : Model} {a b : Value} {Q : Value → Shared → Prop} (h : wpAny M A (binaryOp1 "mul" a b) (Told Q) E s) : wpAny M A (binaryOp .Mult a b) Q E s := by
  unfold binaryOp
  exact wpAny_holding (told_pure (t := binaryOp1 "mul" a b) h fun _ => rfl)
/-- a class of the text whose only base is object, without an own in-place operator -/
structure NoI (K : PySem.W.Frag) (C : Addr) (nm : String) : Prop where
  mro : (PySem.W.clsIn K C).any (fun cd => cd.mro == [.ref C, .type "object"]) = true
  own : PySem.W.findIn K (.ref C) (dunderI nm) = some none
  obj : PySem.W.findIn K (.type "object") (dunderI nm) = some none
theorem fillsI_no {M : Model} {h : Heap} {nm : String} {add : Bool} (X : K.In h) (N : NoI K C nm) : PySem.W.Looks M h (fillsInplaceSlot (.ref C) nm add) false := by
  intro A Q E s k q
  obtain ⟨cd, hc, hm⟩ := PySem.W.any_some N.mro
  have hm' : cd.mro = [.ref C, .type "object"] := beq_iff_eq.mp hm
  unfold fillsInplaceSlot
  refine wpAny_bind ((PySem.W.looks_clsIn X hc).andThen (f := fun cd => pure cd.mro) .now A _ E s k ?_)
  rw [hm', List.anyM_cons]
  refine wpAny_bind (wpAny_bind (PySem.W.looks_findIn X N.own A _ E s k (wpAny_pure ?_)))
  simp only [Bool.false_eq_true, if_false]
  rw [List.anyM_cons]
  refine wpAny_bind (wpAny_bind (PySem.W.looks_findIn X N.obj A _ E s k (wpAny_pure ?_)))
  simp only [Bool.false_eq_true, if_false]
  exact wpAny_pure q
theorem inp_of_bin1 {op : Operator} {b : Value} {Q : Value → Shared → Prop} (X : K.In s.heap) (I : PySem.W.InstAt s.heap x ox C od) (N : NoI K C op.info.2) (h : wpAny (model prog w) A (binaryOp1 op.info.2 (.ref x) b) (Told Q) E s) :
    wpAny (model prog w) A (inplaceOp op (.ref x) b) Q E s := by
  unfold inplaceOp
  refine wpAny_holding (wpAny_bind (I.type.here (wpAny_bind ((fillsI_no X N).here ?_))))
  rw [if_neg Bool.false_ne_true]
  exact told_pure h fun _ => rfl
end
section
variable {X : Cx} {CX : CXT} {n : Nat} {C g g' : Addr} {sp : Sp} {E : XK}
theorem op_rmul (hc : PySem.W.selfFirst X.K C = true) (hm : PySem.W.findIn X.K (.ref C) (PySem.dunder "mul") = some (some (.ref g'))) (h : Has X.K C g (dunderR "mul")) (hsub : PySem.W.subIn X.K (.ref C) (.type "int") = some false)
    (F : FnR X.prog X.w X.K X.mg X.base CX n g sp) (hr : Room n X.A) (hx : Passes CX X E) : OpR X (binaryOp .Mult) (rR X C sp E) := by
  intro pins s σ H x y v u Q I rx ry hq
  obtain ⟨a, i, rfl, rfl, ha, q⟩ := hq
  cases (show u = Value.ref a from ry)
  obtain ⟨t, e⟩ := (show ∃ t, v = Value.int i t from rx)
  subst e
  obtain ⟨ox, od, J, hd⟩ := insC_at I ha
  exact mul_of_bin1 (bin1_rint I.kIn J hd hc hm h.at_ h.fn hsub (run_own (us := [.ref a, .int i t]) (vs := [.ref a, .int i]) F hr hx I (.cons rfl (.cons ⟨t, rfl⟩ .nil)) q))
theorem op_inS {op : Operator} (hc : PySem.W.selfFirst X.K C = true) (N : NoI X.K C op.info.2) (h : Has X.K C g (PySem.dunder op.info.2)) (F : FnR X.prog X.w X.K X.mg X.base CX n g sp) (hr : Room n X.A) (hx : Passes CX X E) :
    OpR X (inplaceOp op) (rS X C sp E) := by
  intro pins s σ H x y v u Q I rx ry hq
  obtain ⟨a, b, rfl, rfl, ha, hb, q⟩ := hq
  cases (show v = Value.ref a from rx)
  cases (show u = Value.ref b from ry)
  obtain ⟨ox, od, J, _⟩ := insC_at I ha
  obtain ⟨ox', od', J', _⟩ := insC_at I hb
  exact inp_of_bin1 I.kIn J N (bin1_same I.kIn J J' hc h.at_ h.fn (run_own (us := [.ref a, .ref b]) (vs := [.ref a, .ref b]) F hr hx I (.cons rfl (.cons rfl .nil)) q))
end
end OpX
/-! an own operator with an int on the right: what both x op i and x op= i ask -/
namespace OpX
open PySem PySem.Spec PyProof.Rows L2 StX
section
variable {prog : Program} {w : World} {A : Around} {E : Value → Shared → Prop} {s : Shared} {K : PySem.W.Frag} {x C f L : Addr} {h₀ : Heap} {m : Str → Option Value} {ox : Obj} {od : Option Obj}
/-- what the text says of a class and the operator named nm, beside ints -/
structure BesideInt (K : PySem.W.Frag) (C : Addr) (nm : String) : Prop where
  first : PySem.W.selfFirst K C = true
  rf : ∃ rc, PySem.W.findIn K (.ref C) (dunderR nm) = some rc ∧ (rc = none ∨ ∃ g : Addr, rc = some (.ref g))
  i1 : ∃ fo, PySem.W.findIn K (.type "int") (PySem.dunder nm) = some fo
  i2 : ∃ ro, PySem.W.findIn K (.type "int") (dunderR nm) = some ro
  sub : PySem.W.subIn K (.type "int") (.ref C) = some false
theorem bin1_int {nm : String} {i : Int} {t : Tok} {Q : Value → Shared → Prop} (X : K.In s.heap) (I : PySem.W.InstAt s.heap x ox C od) (b : BesideInt K C nm) (hs : PySem.W.findIn K (.ref C) (PySem.dunder nm) = some (some (.ref f))) (hf : PySem.W.isFn K (.ref f) = true)
    (h : wpAny (model prog w) A (call (.ref f) [.ref x, .int i t]) (PySem.W.CmpBack Q) E s) : wpAny (model prog w) A (binaryOp1 nm (.ref x) (.int i t)) (fun r s' => ∃ v, r = some v ∧ Q v s') E s := by
  obtain ⟨cd, rest, hcd, hmm⟩ := PySem.W.ksp_first b.first
  obtain ⟨rc, hr, hp⟩ := b.rf
  obtain ⟨fo, h1⟩ := b.i1
  obtain ⟨ro, h2⟩ := b.i2
  have go := PySem.W.ksp_try X I hs hf h
  have other : (Value.ref C == Value.type "int") = false := Bool.eq_false_iff.mpr fun q => by cases beq_iff_eq.mp q
  have lookI := PySem.W.ksp_fillsT (M := model prog w) X h1 h2
  have py := PySem.W.ksp_inPy (M := model prog w) X hs hr hp
  have pyI : PySem.W.Looks (model prog w) s.heap (numberSlotInPython (.type "int") nm) false := PySem.W.Looks.of_pure rfl
  generalize ((fo.isSome && !isSeqSlot fo) || (ro.isSome && !isSeqSlot ro)) = right at lookI
  unfold binaryOp1
  refine wpAny_bind (I.type.here ?_)
  refine wpAny_bind (wpAny_typeOf (typeIs_int _ _ _) ?_)
  refine wpAny_bind ((PySem.W.fills_K X hcd hmm hs).here ?_)
  rw [other]
  simp only [Bool.false_eq_true, if_false]
  refine wpAny_bind (lookI.here ?_)
  cases right with
  | false =>
    simp only [Bool.and_false, Bool.false_and, Bool.false_eq_true, if_false, pure_bind, if_true]
    exact wpAny_bind (wpAny_mono go (fun r s' z => by
      obtain ⟨v, rfl, hq⟩ := z
      exact wpAny_pure ⟨v, rfl, hq⟩) fun _ _ e => e)
  | true =>
    simp only [Bool.and_self, if_true]
    refine wpAny_bind ((PySem.W.looks_subIn X b.sub).here ?_)
    simp only [Bool.false_eq_true, if_false, pure_bind, Bool.not_false, Bool.and_self, if_true]
    refine wpAny_bind (py.here ?_)
    simp only [if_true]
    refine wpAny_bind (pyI.here ?_)
    simp only [Bool.not_false, if_true]
    refine wpAny_bind ((PySem.W.looks_findIn X h2).here ?_)
    exact wpAny_bind (wpAny_mono go (fun r s' z => by
      obtain ⟨v, rfl, hq⟩ := z
      exact wpAny_pure ⟨v, rfl, hq⟩) fun _ _ e => e)
theorem inp_int {op : Operator} {i : Int} {t : Tok} {Q : Value → Shared → Prop} (X : K.In s.heap) (I : PySem.W.InstAt s.heap x ox C od) (b : BesideInt K C op.info.2) (N : NoI K C op.info.2) (hs : PySem.W.findIn K (.ref C) (PySem.dunder op.info.2) = some (some (.ref f))) (hf : PySem.W.isFn K (.ref f) = true)
    (h : wpAny (model prog w) A (call (.ref f) [.ref x, .int i t]) (PySem.W.CmpBack Q) E s) : wpAny (model prog w) A (inplaceOp op (.ref x) (.int i t)) Q E s := by
  have go := bin1_int X I b hs hf h
  unfold inplaceOp
  refine wpAny_holding (wpAny_bind (I.type.here (wpAny_bind ((fillsI_no X N).here ?_))))
  simp only [Bool.false_eq_true, if_false]
  refine wpAny_bind (wpAny_mono go (fun r s' z => ?_) fun _ _ e => e)
  obtain ⟨v, rfl, hq⟩ := z
  exact wpAny_pure hq
end
section
variable {X : Cx} {CX : CXT} {n : Nat} {C g : Addr} {sp : Sp} {E : XK}
theorem op_inI {op : Operator} (b : BesideInt X.K C op.info.2) (N : NoI X.K C op.info.2) (h : Has X.K C g (PySem.dunder op.info.2)) (F : FnR X.prog X.w X.K X.mg X.base CX n g sp) (hr : Room n X.A) (hx : Passes CX X E) :
    OpR X (inplaceOp op) (rI X C sp E) := by
  intro pins s σ H x y v u Q I rx ry hq
  obtain ⟨a, i, rfl, rfl, ha, q⟩ := hq
  cases (show v = Value.ref a from rx)
  obtain ⟨t, e⟩ := (show ∃ t, u = Value.int i t from ry)
  subst e
  obtain ⟨ox, od, J, _⟩ := insC_at I ha
  exact inp_int I.kIn J b N h.at_ h.fn (run_own (us := [.ref a, .int i t]) (vs := [.ref a, .int i]) F hr hx I (.cons rfl (.cons ⟨t, rfl⟩ .nil)) q)
end
end OpX
/-! str of an own instance; str of an int or a text; C.m() of a static method; o.m(k = v) -/
namespace OwX
open PySem PySem.Spec PyProof.Rows L2 ClX StX
/-- a class's own __str__ -/
structure StrIn (K : PySem.W.Frag) (C g : Addr) : Prop where
  there : PySem.W.findIn K (.ref C) "__str__" = some (some (.ref g))
  isDef : PySem.W.isFn K (.ref g) = true
section
variable {X : Cx} {CX : CXT} {n : Nat} {C g : Addr} {sp : Sp} {E : XK}
theorem call_strI (c : StrIn X.K C g) (F : FnR X.prog X.w X.K X.mg X.base CX n g sp) (hr : Room (n + 2) X.A) (hx : Passes CX X E) :
    CallR X (.type "str") (fun xs H Q => ∃ a, xs = [.ref a] ∧ InsC X H a C ∧ sp [.ref a] H (fun v H' => ∃ y, v = .str y ∧ Q v H') E) := by
  intro pins s σ H xs us Q I r h
  obtain ⟨a, rfl, ha, q⟩ := h
  obtain ⟨u, rfl, ru⟩ := vals1 r
  cases (show u = Value.ref a from ru)
  obtain ⟨ox, od, J, _⟩ := insC_at I ha
  refine PySem.W.kso_call hr.in1.in1.units0 I.kIn J c.there c.isDef ?_
  refine wpAny_mono (wpAny_call (SlX.run_at (us := [.ref a]) (ws := [.ref a]) F hr.in1.in1 I.env0.in1.in1 hx I (.cons rfl .nil) q)) (fun v s' back => ?_) fun _ _ z => z
  obtain ⟨v', H', I', rv, y, ey, qy⟩ := back
  subst ey
  obtain ⟨t, et⟩ := (show ∃ t, v = Value.str y t from rv)
  subst et
  exact ⟨.str y, H', I', ⟨t, rfl⟩, qy⟩
/-- of an int that is not too long, and of a text -/
theorem call_strV : CallR X (.type "str") (fun xs H Q => (∃ i, xs = [.int i] ∧ i.natAbs.log2 < 1920 ∧ Q (.str (toString i)) H) ∨ ∃ a, xs = [.str a] ∧ Q (.str a) H) := fun pins s σ H xs us Q I r h =>
  h.elim (fun hi => call_str_int pins s σ H xs us Q I r hi) fun ha => SkE.call_str_str pins s σ H xs us Q I r ha
end
section
variable {X : Cx} {k : Nat} {C p f : Addr} {mc : Value} {fd : FuncData} {ps ks : List Str} {sp : Sp} {o : Expr} {m : Str} {pos apos : Pos} {ta : TE} {tk : TA} {pl : Sem Bool} {kws : List Keyword} {g : List Value → List Value → List Value} {gV : List V → List V → List V}
/-- o.m(k = v, ..), keywords alone -/
theorem pe_methKw (he : PE X o ta) (c : Cls X.K C) (hm : Meth X.K C m f) (F : FnOk X.prog X.w X.K X.mg X.base CX0 k f fd ps sp) (hr : Room k X.A) (hb : KBn X.K fd ps 1 ks g gV) (hkw : PK X kws tk)
    (some_ : (backToKw pos (keywordEach kws X.env)).all (·.1.isSome) = true := by rfl) (names : (backToKw pos (keywordEach kws X.env)).filterMap (·.1) = ks := by rfl)
    (none_ : ((backTo pos (starEach [] X.env)).any (·.1) || (backToKw pos (keywordEach kws X.env)).any (·.1.isNone)) = false := by rfl)
    (form : eval (.Call (.Attribute o m apos) [] kws pos) X.env = (do let ov ← eval o X.env; standAt apos.atName; let (f, first) ← holding [ov] (getMethod ov m pl); callWith pos f first (backTo pos (starEach [] X.env)) (backToKw pos (keywordEach kws X.env))) := by rfl) :
    PE X (.Call (.Attribute o m apos) [] kws pos) (fun σ H Q => ta σ H fun x H1 => ∃ a dx fs, x = .ref a ∧ H1 a = some (.ins C dx fs) ∧ fs.lookup m = none ∧ tk σ H1 fun zs H2 => zs.length = ks.length ∧ sp (gV [.ref a] zs) H2 Q E0) := by
  refine ⟨fun pins s σ H Q I h => PySem.W.methodCall_KW (pl := pl) (thn (he.run pins s σ H _ I h) fun u s1 ⟨x, H1, J, rx, a, dx, fs, ex, ea, l, q⟩ => ?_) form⟩
  subst ex
  cases (show u = Value.ref a from rx)
  refine getmeth_ok J ea c hm l (PySem.W.callWith_KW0 (first := [.ref a]) (h₀ := X.base) J.ok.mod.kin hm.kp some_ ?_ none_)
  refine thn (hkw.run pos pins s1 σ H1 _ J q) fun ws s2 ⟨zs, H2, J2, rz, l2, q2⟩ => ⟨J2.kIn, ?_⟩
  rw [names]
  exact run_fnN (us := [.ref a]) (vs := [.ref a]) F hr hb pass0 J2 (.cons rfl .nil) rz rfl l2 q2
end
end OwX
namespace K05
open PySem L2 Evl
section
variable {P : Program} {w : World} {K : PySem.W.Frag} {mg : Str → Option Value} {base : Heap}
theorem emod_bd (a b : Int) (h : 0 < b) : 0 ≤ a % b ∧ a % b < b := ⟨Int.emod_nonneg a (by omega), Int.emod_lt_of_pos a h⟩
theorem mul_bd {a b A B : Int} (a0 : 0 ≤ a) (aA : a ≤ A) (b0 : 0 ≤ b) (bB : b ≤ B) : 0 ≤ a * b ∧ a * b ≤ A * B := ⟨Int.mul_nonneg a0 b0, Int.mul_le_mul aA bB b0 (by omega)⟩
/-- the last part of a draw: the mixing -/
theorem ok_draw {f : Addr} {fd : FuncData} (F : Fun K "_law_draw" "_law_draw" sDraw f fd) (T : Glb mg) : FnOk P w K mg base CX0 1 f fd ["_law_pen_here", "_law_many"] spDraw := by
  refine F.ok scDraw (fun vs H Q E h => ?_) (fun cdv A outer s H vs Q E hr h => ?_)
  · obtain ⟨p, l, cells, m, many, rfl, _⟩ := h
    rfl
  · obtain ⟨p, l, cells, m, many, rfl, hp, hm, h63, hm0, hm1, k⟩ := h
    refine ⟨_, pss_cons (ps_if (pt_cmpR op_gt (pe_ix ix_list (pv 0) pe_int (fun _ _ => rfl)) pe_int (nomark _)) (pss_cons (ps_set (i := 2) scDraw.nd rfl (.inl rfl) (pe_op op_mod (pe_callTy call_int1 (by rfl) T.int (by decide +kernel) (pa_cons (pe_ix ix_list (pv 0) pe_int (fun _ _ => rfl)) pa_nil)) (pv 1)))
      (pss_cons (ps_asg (pe_op op_fdiv (pe_callTy call_int1 (by rfl) T.int (by decide +kernel) (pa_cons (pe_ix ix_list (pv 0) pe_int (fun _ _ => rfl)) pa_nil)) (pv 1)) (pg_sub (pv 0) pe_int set_list))
      (pss_one (ps_ret (pv 2))))) pss_nil)
      (pss_cons (ps_set (i := 3) scDraw.nd rfl (.inl rfl) (pe_ix ix_list (pv 0) pe_int (fun _ _ => rfl)))
      (pss_cons (ps_asg (pe_op op_add (pv 3) pe_int) (pg_sub (pv 0) pe_int set_list))
      (pss_cons (ps_set (i := 4) scDraw.nd rfl (.inl rfl) (pe_op op_add (pe_op op_mul pe_int (pv 3)) pe_int))
      (pss_cut (ps_if (pt_cmpR (op_neD hr.units) (pe_ix ix_list (pv 0) pe_int (fun _ _ => rfl)) (pe_lst pa_nil) (nomark _)) (pss_one (ps_set (i := 4) scDraw.nd rfl (.inl rfl) (pe_ix ix_list (pe_ix ix_list (pv 0) pe_int (fun _ _ => rfl)) (pe_op op_mod (pe_callTy call_int1 (by rfl) T.int (by decide +kernel) (pa_cons (pv 3) pa_nil)) (pe_callB call_len_seq (by rfl) T.len PySem.boot_len (pa_cons (pe_ix ix_list (pv 0) pe_int (fun _ _ => rfl)) pa_nil))) (fun _ _ => rfl)))) pss_nil)
      (pss_cons (ps_if (PW.pt (pw_and (pt_cmpR op_lt (pv 3) (pe_callB call_len_seq (by rfl) T.len PySem.boot_len (pa_cons (pe_ix ix_list (pv 0) pe_int (fun _ _ => rfl)) pa_nil)) (nomark _)) (pw_and1 (pt_cmpR op_ge (pe_callB call_abs (by rfl) T.abs (by decide +kernel) (pa_cons (pv 4) pa_nil)) (pe_op op_pow pe_int pe_int) (nomark _))))) (pss_cons (ps_set (i := 5) scDraw.nd rfl (.inl rfl) (pe_op op_add (pe_op op_mul pe_int (pe_op op_sub (pe_callB call_abs (by rfl) T.abs (by decide +kernel) (pa_cons (pv 4) pa_nil)) (pe_op op_pow pe_int pe_int))) (pe_callTy call_int1 (by rfl) T.int (by decide +kernel) (pa_cons (pe_cmpR op_lt (pv 4) pe_int (nomark _)) pa_nil))))
      (pss_cons (ps_asg (pe_op op_fdiv (pe_callTy call_int1 (by rfl) T.int (by decide +kernel) (pa_cons (pv 5) pa_nil)) (pv 1)) (pg_sub (pv 0) pe_int set_list))
      (pss_one (ps_ret (pe_op op_mod (pe_callTy call_int1 (by rfl) T.int (by decide +kernel) (pa_cons (pv 5) pa_nil)) (pv 1)))))) pss_nil)
      (pss_cons (ps_set (i := 6) scDraw.nd rfl (.inl rfl) (pe_op op_mod (pe_callTy call_int1 (by rfl) T.int (by decide +kernel) (pa_cons (pe_op op_pow (pe_op op_add (pe_op op_add (pe_op op_mod (pe_callTy call_int1 (by rfl) T.int (by decide +kernel) (pa_cons (pv 4) pa_nil)) pe_int) (pe_op op_mul pe_int (pv 3))) pe_int) pe_int) pa_nil)) pe_int))
      (pss_cons (ps_set (i := 6) scDraw.nd rfl (.inl rfl) (pe_op op_mod (pe_callTy call_int1 (by rfl) T.int (by decide +kernel) (pa_cons (pe_op op_pow (pe_op op_add (pe_op op_add (pe_op op_mul (pv 6) (pe_op op_add (pe_op op_mul pe_int (pv 3)) pe_int)) (pe_op op_mul (pe_op op_mul pe_int (pv 3)) (pv 3))) pe_int) pe_int) pa_nil)) pe_int))
      (pss_one (ps_ret (pe_op op_mod (pe_callTy call_int1 (by rfl) T.int (by decide +kernel) (pa_cons (pe_op op_fdiv (pv 6) pe_int) pa_nil)) (pv 1))))))))))), ?_⟩
    have hpl := hp.ne
    obtain ⟨n, r, h1, h2, hn⟩ := hp
    have many1 : many < 1073741824 := by omega
    refine q_when (et_test (ev_op (ev_op (ev_var rfl) ev_c (rv_ixL (sq_of h1) (atI_nat (j := 2) rfl))) ev_c rv_I0)) (fun hb H1 e1 => ?_) (fun hb H1 e1 => ?_)
    · -- the rest gives a digit
      have r0 : 0 < r := of_decide_eq_true hb
      have g1 := e1 _ _ h1
      refine q_asg (ev_op (ev_cb (ea_cons (ev_op (ev_var rfl) ev_c (rv_ixL (sq_of g1) (atI_nat (j := 2) rfl))) ea_nil) rc_int) (ev_var rfl) (rv_I hm0)) fun H2 e2 => ?_
      have g2 := e2 _ _ g1
      refine q_setL (j := 2) g2 (ev_op (ev_cb (ea_cons (ev_op (ev_var rfl) ev_c (rv_ixL (sq_of g2) (atI_nat (j := 2) rfl))) ea_nil) rc_int) (ev_var rfl) (rv_I ⟨hm0, many1⟩)) (ev_var rfl) ev_c (by show 2 < 3; decide) fun H3 e3 => ?_
      refine s_ret (ev_var rfl) fun H4 e4 => ?_
      have key : ∀ b o, H b = some o → b ≠ p → H4 b = some o := fun b o hb hbp => e4 b o (by rw [upd_ne hbp]; exact e3 _ _ (e2 _ _ (e1 _ _ hb)))
      exact k _ H4 (emod_bd _ _ hm0).1 (emod_bd _ _ hm0).2 ⟨n, _, e4 _ _ upd_same, key _ _ h2 hpl, by omega⟩ key
    · -- at = pen[1]; pen[1] = at + 1
      have g1 := e1 _ _ h1
      refine q_asg (ev_op (ev_var rfl) ev_c (rv_ixL (sq_of g1) (atI_nat (j := 1) rfl))) fun H2 e2 => ?_
      have g2 := e2 _ _ g1
      refine q_setL (j := 1) g2 (ev_op (ev_var rfl) ev_c rv_I0) (ev_var rfl) ev_c (by show 1 < 3; decide) fun H3 e3 => ?_
      have g3 := e3 _ _ g2
      have hl3 : H3 l = some (.lst (cells.map V.int)) := e3 _ _ (e2 _ _ (e1 _ _ h2))
      have kp3 : ∀ b o, H b = some o → b ≠ p → (upd H3 p (.lst ([V.ref l, V.int (n : Int), V.int r].set 1 (V.int ((n : Int) + 1))))) b = some o := fun b o hb hbp => by
        rw [upd_ne hbp]; exact e3 _ _ (e2 _ _ (e1 _ _ hb))
      generalize hH : upd H3 p (.lst ([V.ref l, V.int (n : Int), V.int r].set 1 (V.int ((n : Int) + 1)))) = J at kp3
      have j1 : J p = some (.lst [V.ref l, V.int ((n + 1 : Nat) : Int), V.int r]) := by
        rw [← hH, upd_same]
        rfl
      have j2 : J l = some (.lst (cells.map V.int)) := kp3 _ _ h2 hpl
      have hn0 : (0 : Int) ≤ (n : Int) ∧ (n : Int) ≤ 50000 := ⟨by omega, by omega⟩
      -- cell = 66411 * at + 3271
      refine q_asg (ev_op (ev_op ev_c (ev_var rfl) (rv_I (.inl ⟨by decide, by decide⟩))) ev_c rv_I0) fun H4 e4 => ?_
      have j41 := e4 _ _ j1
      have j42 := e4 _ _ j2
      -- if pen[0] != []: cell = ..
      obtain ⟨bn, evn, hne⟩ := ev_neNil (K := K) (σ := [some (V.ref p), some (V.int many), none, some (V.int (n : Int)), some (V.int (66411 * (n : Int) + 3271)), none, none]) (H := H4) (cells := cells) (l := l)
        (ta := tOp (rIxL K) (tVar 0) (tC (V.int 0))) (ev_op (ev_var rfl) ev_c (rv_ixL (sq_of j41) (atI_nat (j := 0) rfl))) (sq_of j42)
      refine q_cut (M := fun σ' H' => ∃ c : Int, σ' = [some (V.ref p), some (V.int many), none, some (V.int (n : Int)), some (V.int c), none, none] ∧ Ex H4 H') (s_when (et_test evn) (fun hb H5 e5 => ?_) (fun hb H5 e5 => ⟨_, rfl, e5⟩)) ?_
      · have hlen : 0 < cells.length := List.length_pos_iff.mpr (hne hb)
        have hi : 0 ≤ (n : Int) % (cells.length : Int) ∧ (n : Int) % (cells.length : Int) < (cells.length : Int) := emod_bd _ _ (by omega)
        obtain ⟨i, ei⟩ := Int.eq_ofNat_of_zero_le hi.1
        have il : i < cells.length := by have := hi.2; omega
        have lm : ((cells.map V.int).length : Int) = (cells.length : Int) := by rw [List.length_map]
        refine s_asg (v := V.int (cells[i])) (ev_op (y := V.int (i : Int)) (ev_op (ev_var rfl) ev_c (rv_ixL (sq_of (e5 _ _ j41)) (atI_nat (j := 0) rfl)))
          (ev_is (ev_op (ev_cb (ea_cons (ev_var rfl) ea_nil) rc_int) (ev_cb (ea_cons (ev_op (ev_var rfl) ev_c (rv_ixL (sq_of (e5 _ _ j41)) (atI_nat (j := 0) rfl))) ea_nil) (rc_len (sq_of (e5 _ _ j42)))) (rv_I (by rw [lm]; omega))) (by show V.int ((n : Int) % ((cells.map V.int).length : Int)) = _; rw [lm, ei]))
          (rv_ixL (sq_of (e5 _ _ j42)) (atI_nat (by rw [List.getElem?_map, List.getElem?_eq_getElem il]; rfl)))) fun H6 e6 => ⟨_, rfl, e5.trans e6⟩
      rintro σ' H5 ⟨c, rfl, e5⟩
      have k1 := e5 _ _ j41
      have k2 := e5 _ _ j42
      have kp5 : ∀ b o, H b = some o → b ≠ p → H5 b = some o := fun b o hb hbp => e5 _ _ (e4 _ _ (kp3 _ _ hb hbp))
      have lm : ((cells.map V.int).length : Int) = (cells.length : Int) := by rw [List.length_map]
      refine q_when (et_and (et_test (ev_op (ev_var rfl) (ev_cb (ea_cons (ev_op (ev_var rfl) ev_c (rv_ixL (sq_of k1) (atI_nat (j := 0) rfl))) ea_nil) (rc_len (sq_of k2))) rv_I0))
        (fun _ => et_test (ev_op (ev_cb (ea_cons (ev_var rfl) ea_nil) rc_abs) (ev_op ev_c ev_c (rv_I ⟨by decide, by decide, by decide⟩)) rv_I0))) (fun hb H6 e6 => ?_) (fun hb H6 e6 => ?_)
      · -- a great cell
        refine q_asg (ev_op (ev_op ev_c (ev_op (ev_cb (ea_cons (ev_var rfl) ea_nil) rc_abs) (ev_op ev_c ev_c (rv_I ⟨by decide, by decide, by decide⟩)) rv_I0) (rv_I (.inl ⟨by decide, by decide⟩))) (ev_cb (ea_cons (ev_op (ev_var rfl) ev_c rv_I0) ea_nil) rc_intB) rv_I0) fun H7 e7 => ?_
        have k7 := e7 _ _ (e6 _ _ k1)
        refine q_setL (j := 2) k7 (ev_op (ev_cb (ea_cons (ev_var rfl) ea_nil) rc_int) (ev_var rfl) (rv_I ⟨hm0, many1⟩)) (ev_var rfl) ev_c (by show 2 < 3; decide) fun H8 e8 => ?_
        refine s_ret (ev_op (ev_cb (ea_cons (ev_var rfl) ea_nil) rc_int) (ev_var rfl) (rv_I hm0)) fun H9 e9 => ?_
        have key : ∀ b o, H b = some o → b ≠ p → H9 b = some o := fun b o hb hbp => e9 _ _ (by rw [upd_ne hbp]; exact e8 _ _ (e7 _ _ (e6 _ _ (kp5 _ _ hb hbp))))
        exact k _ H9 (emod_bd _ _ hm0).1 (emod_bd _ _ hm0).2 ⟨n + 1, _, e9 _ _ upd_same, key _ _ h2 hpl, by omega⟩ key
      · -- mixed
        have b1 := emod_bd c 2147483563 (by decide)
        refine q_asg (ev_op (ev_cb (ea_cons (ev_op (ev_op (ev_op (ev_op (ev_cb (ea_cons (ev_var rfl) ea_nil) rc_int) ev_c (rv_I (by decide))) (ev_op ev_c (ev_var rfl) (rv_I (.inl ⟨by decide, by decide⟩))) rv_I0) ev_c rv_I0) ev_c
          (rv_I ⟨by decide, by decide, by omega⟩)) ea_nil) rc_int) ev_c (rv_I (by decide))) fun H7 e7 => ?_
        generalize hx : (c % 2147483563 + 45729 * (n : Int) + 327) ^ (5 : Int).toNat % 2147483587 = x
        have b2 : 0 ≤ x ∧ x < 2147483587 := by rw [← hx]; exact emod_bd _ _ (by decide)
        have b3 := mul_bd b2.1 (by omega : x ≤ 2147483587) (by omega : 0 ≤ 2 * (n : Int) + 431) (by omega : 2 * (n : Int) + 431 ≤ 100431)
        have b4 := mul_bd (by omega : 0 ≤ 53463 * (n : Int)) (by omega : 53463 * (n : Int) ≤ 2673150000) hn0.1 hn0.2
        refine q_asg (ev_op (ev_cb (ea_cons (ev_op (ev_op (ev_op (ev_op (ev_var rfl) (ev_op (ev_op ev_c (ev_var rfl) (rv_I (.inl ⟨by decide, by decide⟩))) ev_c rv_I0) (rv_I (.inl ⟨by omega, by omega⟩)))
            (ev_op (ev_op ev_c (ev_var rfl) (rv_I (.inl ⟨by decide, by decide⟩))) (ev_var rfl) (rv_I (.inl ⟨by omega, by omega⟩))) rv_I0) ev_c rv_I0) ev_c (rv_I ⟨by decide, by decide, by omega⟩)) ea_nil) rc_int) ev_c (rv_I (by decide))) fun H8 e8 => ?_
        refine s_ret (ev_op (ev_cb (ea_cons (ev_op (ev_var rfl) ev_c (rv_I ⟨by decide, by decide⟩)) ea_nil) rc_int) (ev_var rfl) (rv_I hm0)) fun H9 e9 => ?_
        have k9 := e9 _ _ (e8 _ _ (e7 _ _ (e6 _ _ k1)))
        have key : ∀ b o, H b = some o → b ≠ p → H9 b = some o := fun b o hb hbp => e9 _ _ (e8 _ _ (e7 _ _ (e6 _ _ (kp5 _ _ hb hbp))))
        exact k _ H9 (emod_bd _ _ hm0).1 (emod_bd _ _ hm0).2 ⟨n + 1, _, k9, key _ _ h2 hpl, by omega⟩ key
end
end K05
namespace K05
open PySem L2 Evl
section
variable {P : Program} {w : World} {K : PySem.W.Frag} {mg : Str → Option Value} {base : Heap}
/-! ### _law_pen -/
def spPen (K : PySem.W.Frag) : Sp := fun vs H Q _ => ∃ (a : Addr) (ns : List Int), vs = [.ref a] ∧ SqL K H a (ns.map V.int) ∧ ns.length ≤ 63 ∧
  ∀ p l H', H p = none → H l = none → Ex H H' → PenAt H' p l ns 0 → Q (.ref p) H'
theorem scPen : FnScope ["_law_script"] ["_law_script"] (defScope sPen) := ⟨rfl, rfl, rfl, by decide +kernel, rfl, by decide +kernel, by decide +kernel⟩
theorem cut63 (xs : List V) (h : xs.length ≤ 63) : cutV xs none (some 63) = xs := by
  have e1 : HT.sIx xs.length 0 none = 0 := rfl
  have e2 : HT.sIx xs.length xs.length (some 63) = min 63 xs.length := rfl
  unfold cutV
  rw [e1, e2, List.drop_zero, Nat.sub_zero, Nat.min_eq_right h, List.take_length]
theorem ok_pen {f : Addr} {fd : FuncData} (F : Fun K "_law_pen" "_law_pen" sPen f fd) (T : Glb mg) : FnOk P w K mg base CX0 1 f fd ["_law_script"] (spPen K) := by
  refine F.ok scPen (fun vs H Q E h => ?_) (fun cdv A outer s H vs Q E hr h => ?_)
  · obtain ⟨a, ns, rfl, _⟩ := h
    rfl
  · obtain ⟨a, ns, rfl, hS, hl, k⟩ := h
    refine ⟨_, pss_one (ps_ret (pe_lst (pa_cons (pe_callTy call_list_of (by rfl) T.list (by decide +kernel) (pa_cons (pe_slice sl_list (pv 0) po_none (po_some pe_int)) pa_nil)) (pa_cons pe_int (pa_cons pe_int pa_nil))))), ?_⟩
    have ev := el_sl (K := K) (σ := [some (V.ref a)]) (H := H) (tl := tNoPart) (th := tPart (tC (.int 63))) (ev_var (i := 0) rfl) eo_none (eo_some ev_c) hS
    rw [cut63 _ (by rw [List.length_map]; exact hl)] at ev
    refine ev H (Ex.refl H) _ fun q H1 hq e1 h1 => ?_
    refine ⟨q, _, rfl, .inl (sq_of h1), fun l hl1 => ?_⟩
    refine ⟨by show 3 ≤ sizeLine; decide, fun p hp => ?_⟩
    have hp1 : p ≠ l := fun z => by
      rw [z, upd_same] at hp
      cases hp
    have hpn : H1 p = none := by rw [upd_ne hp1] at hp; exact hp
    exact k p l _ (fresh_back e1 hpn) (fresh_back e1 hl1) ((e1.trans (Ex.new hl1)).trans (Ex.new hp)) ⟨0, 0, upd_same, by rw [upd_ne hp1.symm, upd_same], Nat.le_refl _⟩
/-! ### _law_pick -/
def spPick : Sp := fun vs H Q _ => ∃ (p l a : Addr) (cells : List Int) (m : Nat) (xs : List V), vs = [.ref p, .ref a] ∧ PenAt H p l cells m ∧ m ≤ 50000 ∧ cells.length ≤ 63 ∧ H a = some (.lst xs) ∧ a ≠ p ∧ 0 < xs.length ∧ xs.length ≤ 1000000 ∧
  ∀ (i : Nat) x H', xs[i]? = some x → PenAt H' p l cells (m + 1) → Keep p H H' → Q x H'
theorem scPick : FnScope ["_law_pen_here", "_law_some"] ["_law_pen_here", "_law_some"] (defScope sPick) := ⟨rfl, rfl, rfl, by decide +kernel, rfl, by decide +kernel, by decide +kernel⟩
theorem ok_pick {f fD : Addr} {fd fdD : FuncData} (F : Fun K "_law_pick" "_law_pick" sPick f fd) (T : Glb mg) (FD : Fun K "_law_draw" "_law_draw" sDraw fD fdD) (bD : Binds K fdD ["_law_pen_here", "_law_many"] []) (gD : mg "_law_draw" = some (.ref fD)) :
    FnOk P w K mg base CX0 2 f fd ["_law_pen_here", "_law_some"] spPick := by
  have GD : FnOk P w K mg base CX0 1 fD fdD ["_law_pen_here", "_law_many"] spDraw := ok_draw FD T
  refine F.ok scPick (fun vs H Q E h => ?_) (fun cdv A outer s H vs Q E hr h => ?_)
  · obtain ⟨p, l, a, cells, m, xs, rfl, _⟩ := h
    rfl
  · obtain ⟨p, l, a, cells, m, xs, rfl, hp, hm, h63, ha, hap, hx0, hx1, k⟩ := h
    refine ⟨_, pss_one (ps_ret (pe_ix ix_list (pv 1) (pe_call GD hr (by rfl) gD FD.kp bD .nil pass0 (pa_cons (pv 0) (pa_cons (pe_callB call_len_seq (by rfl) T.len PySem.boot_len (pa_cons (pv 1) pa_nil)) pa_nil))) (fun _ _ => rfl))), ?_⟩
    refine ⟨_, rfl, _, rfl, _, rfl, a, xs, rfl, .inl (sq_of ha), p, l, cells, m, (xs.length : Int), rfl, hp, hm, h63, by omega, by omega, fun d H' d0 d1 hp' kp => ?_⟩
    obtain ⟨i, rfl⟩ := Int.eq_ofNat_of_zero_le d0
    have hi : i < xs.length := by omega
    have ei : xs[i]? = some xs[i] := List.getElem?_eq_getElem hi
    exact ⟨a, xs, (i : Int), xs[i], rfl, rfl, sq_of (kp _ _ ha hap), atI_nat ei, k i _ H' ei hp' kp⟩
end
end K05
namespace Gr
theorem sc_range {k : Int} {t : List Int} : sc k t = (List.range t.length).map fun i => k * at' t i := at_eq_of (by rw [sc_len, List.length_map, List.length_range]) fun i hi => by
  rw [sc_len] at hi
  rw [sc_at, at_map_range hi]
end Gr
namespace K05
open PySem L2 Evl Gr ClX
section
variable {P : Program} {w : World} {K : PySem.W.Frag} {mg : Str → Option Value} {base : Heap}
/-- [k * x for x in s] -/
theorem el_sc {σ : L2.St} {H : Hp} {tl : TE} {a : Addr} {l : List Int} {k : Nat} {i j : Nat} (h : Ev tl σ H (.ref a)) (hs : Sq K H a (vI l)) (hl : l.length ≤ 4000) (hk : k ≤ 1000000) (hw : ∀ x, wipe ((wipe σ [j]).set j (some x)) [j] = wipe σ [j])
    (hi : ∀ x, ((wipe σ [j]).set j (some x))[i]? = some (some (.int (k : Int)))) (hj : ∀ x, ((wipe σ [j]).set j (some x))[j]? = some (some x)) :
    EvL (tLc (iQ K tl) (gName j) tYes (tOp (rI CMul fun i j => .int (i * j)) (tVar i) (tVar j)) [j]) σ H (vI (sc (k : Int) l)) := by
  have c := el_lcQ (K := K) (σ := σ) (H := H) (te := tOp (rI CMul fun i j => .int (i * j)) (tVar i) (tVar j)) (a := a) (xs := vI l) (tl := tl) (j := j) (vs := [j]) (fun n => V.int ((k : Int) * at' l n)) h hs (by rw [vI_len]; omega) hw
    (fun n x H1 e1 hx => by
      have hn : n < l.length := by
        have := (List.getElem?_eq_some_iff.mp hx).1
        rwa [vI_len] at this
      rw [vI_get hn] at hx
      obtain rfl := Option.some.inj hx
      exact ev_op (ev_var (hi _)) (ev_var (hj _)) (rv_I (.inl ⟨by omega, by omega⟩)))
  have e : vI (sc (k : Int) l) = (List.range (vI l).length).map fun n => V.int ((k : Int) * at' l n) := by
    rw [sc_range, vI_len]
    unfold vI
    rw [List.map_map]
    rfl
  rw [e]
  exact c
/-! ### Growth.__mul__, Growth.__rmul__ -/
def spMul (K : PySem.W.Frag) (C : Addr) : Sp := fun vs H Q _ => ∃ (o : Addr) (k : Nat) (f : Nat → Int), vs = [.ref o, .int (k : Int)] ∧ GrF K C H o f ∧ k ≤ 1000000 ∧ Tail (fun n => (k : Int) * f n) 4000000000000000 ∧ RetG K C (fun n => (k : Int) * f n) H Q
theorem scMul : FnScope ["self", "other", "value", "gain"] ["self", "other"] (defScope (sGr 8)) := ⟨rfl, rfl, rfl, by decide +kernel, rfl, by decide +kernel, by decide +kernel⟩
theorem scRMul : FnScope ["self", "other", "value", "gain"] ["self", "other"] (defScope (sGr 9)) := ⟨rfl, rfl, rfl, by decide +kernel, rfl, by decide +kernel, by decide +kernel⟩
/-- what both do -/
theorem mul_run {C o : Addr} {k : Nat} {f1 : Nat → Int} {H : Hp} {Q : VK} (G : GCls K C) (hk : k ≤ 1000000) (h : GrF K C H o f1) (tl : Tail (fun n => (k : Int) * f1 n) 4000000000000000) (kk : RetG K C (fun n => (k : Int) * f1 n) H Q) :
    ∀ H1, Ex H H1 → tMake C (spInit K C) [] E0 (tCons (tLc (iQ K (tFld K (tVar 0) "told")) (gName 2) tYes (tOp (rI CMul fun i j => .int (i * j)) (tVar 1) (tVar 2)) [2])
      (tCons (tLc (iQ K (tFld K (tVar 0) "gains")) (gName 3) tYes (tOp (rI CMul fun i j => .int (i * j)) (tVar 1) (tVar 3)) [3]) tNil)) [some (.ref o), some (.int (k : Int)), none, none] H1 Q := by
  intro H1 e1
  obtain ⟨t, g, hO, pt, v1⟩ := h
  obtain ⟨dx, p, q, r, h1, h2, h3, h4, nf, t2, g2, sm⟩ := hO
  have hv : ∀ n, val (sc (k : Int) t) (sc (k : Int) g) n = (k : Int) * f1 n := fun n => by rw [val_sc, v1]
  refine eg_make (K := K) (C := C) (σ := [some (.ref o), some (.int (k : Int)), none, none]) (H := H1) (t := sc (k : Int) t) (g := sc (k : Int) g)
    (EvP.lists (el_sc (i := 1) (j := 2) (ev_fld (ev_var rfl) (e1 _ _ h1) G.cls G.told rfl) (.inr (ex_t e1 h2)) (by omega) hk (fun _ => rfl) (fun _ => rfl) (fun _ => rfl))
      (el_sc (i := 1) (j := 3) (ev_fld (ev_var rfl) (e1 _ _ h1) G.cls G.gains rfl) (.inr (ex_t e1 h3)) (by omega) hk (fun _ => rfl) (fun _ => rfl) (fun _ => rfl)))
    (by rw [sc_len]; exact nf.told) (by rw [sc_len]; exact t2) (by rw [sc_len]; exact nf.gains) (by rw [sc_len]; exact g2)
    (fun i hi => by
      rw [sc_len] at hi
      rw [sc_at]
      exact Int.mul_nonneg (by omega) (pt i hi))
    (fun i hi => gains_tail (by rw [sc_len]; exact nf.told) hv tl i hi) hv H1 (Ex.refl H1) _ fun x H2 hx e2 gr => kk x H2 (fresh_back e1 hx) (e1.trans e2) gr
theorem ok_Mul {C f fI fW : Addr} {mc : Value} {fd fdI fdW : FuncData} (F : Fun K "__mul__" "Growth.__mul__" (sGr 8) f fd) (N : GName K mg C mc) (G : GCls K C) (M : Mk K C fI)
    (GI : FnOk P w K mg base CX0 4 fI fdI ["self", "told", "gains"] (spInit K C)) (bI : Binds K fdI ["self", "told", "gains"] [])
    (GW : FnOk P w K mg base CX0 2 fW fdW ["value", "least", "most"] (spWithin K)) (kW : PySem.W.keepIn K (.ref fW) = true) (bW : Binds K fdW ["value", "least", "most"] []) (gW : mg "is_within" = some (.ref fW)) :
    FnOk P w K mg base CX0 6 f fd ["self", "other"] (spMul K C) := by
  refine F.ok scMul (fun vs H Q E h => ?_) (fun cdv A outer s H vs Q E hr h => ?_)
  · obtain ⟨o, n, f1, rfl, _⟩ := h
    rfl
  · obtain ⟨o, n, f1, rfl, hO, hn, tl, k⟩ := h
    refine ⟨_, pss_cons (ps_if (pt_not (pt_val (pe_call GW (hr.mono (by decide)) (by rfl) gW kW bW .nil pass0 (pa_cons (pv 1) (pa_cons pe_int (pa_cons (pe_op op_pow pe_int pe_int) pa_nil)))))) (pss_one ps_no) pss_nil)
      (pss_one (ps_ret (pe_make M GI hr (by rfl) N.g bI .nil pass0 (pa_cons (pe_lc (own := [("value", 2)]) (g := gName 2) rfl scMul.nd (pi_seq (pe_fld (pv 0) rfl)) (blkOk_by (own := [("value", 2)]) (N := ["self", "other", "value", "gain"]) (sc := defScope (sGr 8)) (by decide +kernel))
          (fun _ _ _ _ _ => pg_name (i := 2) scMul.nd rfl (Or.inl rfl)) (fun _ _ _ _ _ => pts_nil) (fun _ _ _ _ _ => pe_op op_mul (pv 1) (pv 2)))
        (pa_cons (pe_lc (own := [("gain", 3)]) (g := gName 3) rfl scMul.nd (pi_seq (pe_fld (pv 0) rfl)) (blkOk_by (own := [("gain", 3)]) (N := ["self", "other", "value", "gain"]) (sc := defScope (sGr 8)) (by decide +kernel))
          (fun _ _ _ _ _ => pg_name (i := 3) scMul.nd rfl (Or.inl rfl)) (fun _ _ _ _ _ => pts_nil) (fun _ _ _ _ _ => pe_op op_mul (pv 1) (pv 3))) pa_nil))))), ?_⟩
    refine q_when (b := false) (et_is (et_not (et_B (ev_call (z := .bl true) (ea_cons (ev_var rfl) (ea_cons ev_c (ea_cons (ev_op ev_c ev_c (rv_I ⟨by decide, by decide, by decide⟩)) ea_nil))) fun H1 e Q q E => .inl ⟨_, _, _, rfl, ?_⟩))) rfl) (fun hb => absurd hb (by decide)) (fun _ H1 e1 => ?_)
    · have z : (decide ((0 : Int) ≤ (n : Int)) && decide ((n : Int) ≤ (10 : Int) ^ (6 : Int).toNat)) = true := by
        rw [decide_eq_true (by omega : (0 : Int) ≤ (n : Int)), decide_eq_true (show (n : Int) ≤ (10 : Int) ^ (6 : Int).toNat from by show (n : Int) ≤ 1000000; omega)]
        rfl
      rw [z]
      exact q
    · exact mul_run G hn hO tl k H1 e1
theorem ok_RMul {C f fI fW : Addr} {mc : Value} {fd fdI fdW : FuncData} (F : Fun K "__rmul__" "Growth.__rmul__" (sGr 9) f fd) (N : GName K mg C mc) (G : GCls K C) (M : Mk K C fI)
    (GI : FnOk P w K mg base CX0 4 fI fdI ["self", "told", "gains"] (spInit K C)) (bI : Binds K fdI ["self", "told", "gains"] [])
    (GW : FnOk P w K mg base CX0 2 fW fdW ["value", "least", "most"] (spWithin K)) (kW : PySem.W.keepIn K (.ref fW) = true) (bW : Binds K fdW ["value", "least", "most"] []) (gW : mg "is_within" = some (.ref fW)) :
    FnOk P w K mg base CX0 6 f fd ["self", "other"] (spMul K C) := by
  refine F.ok scRMul (fun vs H Q E h => ?_) (fun cdv A outer s H vs Q E hr h => ?_)
  · obtain ⟨o, n, f1, rfl, _⟩ := h
    rfl
  · obtain ⟨o, n, f1, rfl, hO, hn, tl, k⟩ := h
    refine ⟨_, pss_cons (ps_if (pt_not (pt_val (pe_call GW (hr.mono (by decide)) (by rfl) gW kW bW .nil pass0 (pa_cons (pv 1) (pa_cons pe_int (pa_cons (pe_op op_pow pe_int pe_int) pa_nil)))))) (pss_one ps_no) pss_nil)
      (pss_one (ps_ret (pe_make M GI hr (by rfl) N.g bI .nil pass0 (pa_cons (pe_lc (own := [("value", 2)]) (g := gName 2) rfl scRMul.nd (pi_seq (pe_fld (pv 0) rfl)) (blkOk_by (own := [("value", 2)]) (N := ["self", "other", "value", "gain"]) (sc := defScope (sGr 9)) (by decide +kernel))
          (fun _ _ _ _ _ => pg_name (i := 2) scRMul.nd rfl (Or.inl rfl)) (fun _ _ _ _ _ => pts_nil) (fun _ _ _ _ _ => pe_op op_mul (pv 1) (pv 2)))
        (pa_cons (pe_lc (own := [("gain", 3)]) (g := gName 3) rfl scRMul.nd (pi_seq (pe_fld (pv 0) rfl)) (blkOk_by (own := [("gain", 3)]) (N := ["self", "other", "value", "gain"]) (sc := defScope (sGr 9)) (by decide +kernel))
          (fun _ _ _ _ _ => pg_name (i := 3) scRMul.nd rfl (Or.inl rfl)) (fun _ _ _ _ _ => pts_nil) (fun _ _ _ _ _ => pe_op op_mul (pv 1) (pv 3))) pa_nil))))), ?_⟩
    refine q_when (b := false) (et_is (et_not (et_B (ev_call (z := .bl true) (ea_cons (ev_var rfl) (ea_cons ev_c (ea_cons (ev_op ev_c ev_c (rv_I ⟨by decide, by decide, by decide⟩)) ea_nil))) fun H1 e Q q E => .inl ⟨_, _, _, rfl, ?_⟩))) rfl) (fun hb => absurd hb (by decide)) (fun _ H1 e1 => ?_)
    · have z : (decide ((0 : Int) ≤ (n : Int)) && decide ((n : Int) ≤ (10 : Int) ^ (6 : Int).toNat)) = true := by
        rw [decide_eq_true (by omega : (0 : Int) ≤ (n : Int)), decide_eq_true (show (n : Int) ≤ (10 : Int) ^ (6 : Int).toNat from by show (n : Int) ≤ 1000000; omega)]
        rfl
      rw [z]
      exact q
    · exact mul_run G hn hO tl k H1 e1
end
end K05
namespace K05
open PySem L2 Evl Gr ClX
section
variable {P : Program} {w : World} {K : PySem.W.Frag} {mg : Str → Option Value} {base : Heap}
/-- is_within(e, 0, MOST): yes -/
theorem ev_within {σ : L2.St} {H : Hp} {ta tc : TE} {n hi : Nat} (ha : Ev ta σ H (.int (n : Int))) (hc : Ev tc σ H (.int (hi : Int))) (h : n ≤ hi) : Ev (tCall (spWithin K) [] E0 (tCons ta (tCons (tC (.int 0)) (tCons tc tNil)))) σ H (.bl true) :=
  ev_call (ea_cons ha (ea_cons ev_c (ea_cons hc ea_nil))) fun H1 e Q q E => .inl ⟨_, _, _, rfl, by
    rw [decide_eq_true (by omega : (0 : Int) ≤ (n : Int)), decide_eq_true (by omega : (n : Int) ≤ (hi : Int))]
    exact q⟩
/-! ### Growth.first -/
def spGFirst (K : PySem.W.Frag) (C : Addr) : Sp := fun vs H Q _ => ∃ (o : Addr) (n : Nat) (f : Nat → Int), vs = [.ref o, .int (n : Int)] ∧ GrF K C H o f ∧ n ≤ 2000 ∧ ∀ p H', Ex H H' → SqT K H' p (vI (pT f n)) → Q (.ref p) H'
theorem scGFirst : FnScope ["self", "n"] ["self", "n"] (defScope (sGr 4)) := ⟨rfl, rfl, rfl, by decide +kernel, rfl, by decide +kernel, by decide +kernel⟩
theorem ok_GFirst {C f fF fW : Addr} {mc : Value} {fd fdF fdW : FuncData} (F : Fun K "first" "Growth.first" (sGr 4) f fd) (T : GlbS mg) (N : GName K mg C mc)
    (GW : FnOk P w K mg base CX0 2 fW fdW ["value", "least", "most"] (spWithin K)) (kW : PySem.W.keepIn K (.ref fW) = true) (bW : Binds K fdW ["value", "least", "most"] []) (gW : mg "is_within" = some (.ref fW))
    (GF : FnOk P w K mg base CX0 1 fF fdF ["one", "many"] (spFirst K C)) (kF : PySem.W.keepIn K (.ref fF) = true) (bF : Binds K fdF ["one", "many"] []) (gF : mg "first_values" = some (.ref fF)) :
    FnOk P w K mg base CX0 3 f fd ["self", "n"] (spGFirst K C) := by
  obtain ⟨mu, cm⟩ := N.most
  refine F.ok scGFirst (fun vs H Q E h => ?_) (fun cdv A outer s H vs Q E hr h => ?_)
  · obtain ⟨o, n, f1, rfl, _⟩ := h
    rfl
  · obtain ⟨o, n, f1, rfl, ⟨t, g, hO, pt, v1⟩, hn, k⟩ := h
    refine ⟨_, pss_cons (ps_if (pt_not (pt_val (pe_call GW hr (by rfl) gW kW bW .nil pass0 (pa_cons (pv 1) (pa_cons pe_int (pa_cons (pe_cval (pe_glob (v := .ref C) rfl N.g rfl)) pa_nil)))))) (pss_one ps_no) pss_nil)
      (pss_one (ps_ret (pe_tupleOf (by rfl) T.tuple (pe_call GF (hr.mono (by decide)) (by rfl) gF kF bF .nil pass0 (pa_cons (pv 0) (pa_cons (pv 1) pa_nil)))))), ?_⟩
    refine q_when (et_not (et_B (ev_within (hi := 2000) (ev_var rfl) (ev_cval ev_c N.rd cm) hn))) (fun hb => absurd hb (by decide)) (fun _ H1 e1 => ?_)
    refine ⟨_, rfl, _, rfl, o, n, t, g, rfl, hO.mono e1, by omega, fun p H2 hp e2 h2 => ?_⟩
    have e : val t g = f1 := funext v1
    rw [e] at h2
    exact .inl ⟨p, _, rfl, sq_of h2, fun q hq => k q _ ((e1.trans e2).trans (Ex.new hq)) (st_of upd_same)⟩
/-! ### Growth.shifted -/
def spGShift (K : PySem.W.Frag) (C : Addr) : Sp := fun vs H Q _ => ∃ (o : Addr) (m : Nat) (f : Nat → Int), vs = [.ref o, .int (m : Int)] ∧ GrF K C H o f ∧ m ≤ 2000 ∧ RetG K C (fun n => f (n + m)) H Q
theorem scGShift : FnScope ["self", "k", "told", "gains"] ["self", "k"] (defScope (sGr 11)) := ⟨rfl, rfl, rfl, by decide +kernel, rfl, by decide +kernel, by decide +kernel⟩
theorem ok_GShift {C f fI fS fW : Addr} {mc : Value} {fd fdI fdS fdW : FuncData} (F : Fun K "shifted" "Growth.shifted" (sGr 11) f fd) (N : GName K mg C mc) (M : Mk K C fI)
    (GI : FnOk P w K mg base CX0 4 fI fdI ["self", "told", "gains"] (spInit K C)) (bI : Binds K fdI ["self", "told", "gains"] [])
    (GW : FnOk P w K mg base CX0 2 fW fdW ["value", "least", "most"] (spWithin K)) (kW : PySem.W.keepIn K (.ref fW) = true) (bW : Binds K fdW ["value", "least", "most"] []) (gW : mg "is_within" = some (.ref fW))
    (GS : FnOk P w K mg base CX0 2 fS fdS ["one", "many"] (spShift K C)) (kS : PySem.W.keepIn K (.ref fS) = true) (bS : Binds K fdS ["one", "many"] []) (gS : mg "shifted_parts" = some (.ref fS)) :
    FnOk P w K mg base CX0 6 f fd ["self", "k"] (spGShift K C) := by
  obtain ⟨mu, cm⟩ := N.most
  refine F.ok scGShift (fun vs H Q E h => ?_) (fun cdv A outer s H vs Q E hr h => ?_)
  · obtain ⟨o, n, f1, rfl, _⟩ := h
    rfl
  · obtain ⟨o, m, f1, rfl, ⟨t, g, hO, pt, v1⟩, hm, k⟩ := h
    refine ⟨_, pss_cons (ps_if (pt_not (pt_val (pe_call GW (hr.mono (by decide)) (by rfl) gW kW bW .nil pass0 (pa_cons (pv 1) (pa_cons pe_int (pa_cons (pe_cval (pe_glob (v := .ref C) rfl N.g rfl)) pa_nil)))))) (pss_one ps_no) pss_nil)
      (pss_cons (ps_asg (pe_call GS (hr.mono (by decide)) (by rfl) gS kS bS .nil pass0 (pa_cons (pv 0) (pa_cons (pv 1) pa_nil))) (pg_tup rfl (pgs_cons (pg_name (i := 2) scGShift.nd rfl (.inl rfl)) (pgs_cons (pg_name (i := 3) scGShift.nd rfl (.inl rfl)) pgs_nil))))
      (pss_one (ps_ret (pe_make M GI hr (by rfl) N.g bI .nil pass0 (pa_cons (pv 2) (pa_cons (pv 3) pa_nil)))))), ?_⟩
    have hO' := hO
    obtain ⟨_, _, _, _, _, _, _, _, nf, _, g2, sm⟩ := hO'
    refine q_when (et_not (et_B (ev_within (hi := 2000) (ev_var rfl) (ev_cval ev_c N.rd cm) hm))) (fun hb => absurd hb (by decide)) (fun _ H1 e1 => ?_)
    refine ⟨_, rfl, _, rfl, o, m, t, g, rfl, hO.mono e1, fun r p q t' g' H2 e2 hr2 hp hq t0' t2' gl sm' hv hpos => ?_⟩
    refine ⟨r, [.ref p, .ref q], rfl, hr2, rfl, _, _, rfl, _, _, rfl, rfl, ?_⟩
    refine eg_make (K := K) (C := C) (σ := [some (.ref o), some (.int (m : Int)), some (.ref p), some (.ref q)]) (H := H2) (ta := tCons (tVar 2) (tCons (tVar 3) tNil)) (EvP.pair (ev_var rfl) (ev_var rfl) (.inl hp) (.inr hq)) t0' t2' (by rw [gl]; exact nf.gains) (by rw [gl]; exact g2)
      (fun i hi => by
        obtain ⟨n, hn⟩ := hpos i hi
        rw [hn]
        exact val_nonneg pt nf.told nf.gains sm n) sm' (fun n => by rw [hv, v1]) H2 (Ex.refl H2) _ fun x H3 hx e3 gr => k x H3 (fresh_back (e1.trans e2) hx) ((e1.trans e2).trans e3) gr
end
end K05
namespace Gr
theorem sum_take {g : List Int} : ∀ r, r ≤ g.length → (g.take r).sum = acc (dif g) r
  | 0, _ => by rw [List.take_zero]; rfl
  | r + 1, h => by
    have e : g.take (r + 1) = g.take r ++ [at' g r] := at_eq_of (by rw [List.length_append, List.length_take, List.length_take]; show _ = _ + 1; omega) fun i hi => by
      rw [List.length_take] at hi
      rw [at_take (by omega), at_app, List.length_take]
      by_cases z : i < r
      · rw [if_pos (by omega), at_take z]
      · have : i = r := by omega
        subst this
        rw [if_neg (by omega), show i - min i g.length = 0 by omega]
        rfl
    rw [e, List.sum_append, sum_take r (by omega)]
    show acc (dif g) r + List.sum [at' g r] = acc (dif g) r + dif g r
    rw [dif_lt (by omega), List.sum_cons, List.sum_nil, Int.add_zero]
theorem sum_all {g : List Int} : g.sum = acc (dif g) g.length := by
  have := sum_take (g := g) g.length (Nat.le_refl _)
  rwa [List.take_length] at this
end Gr
namespace K05
open PySem L2 Evl Gr ClX
abbrev sLV : Stmt := top 42
abbrev sLVs : Stmt := top 43
/-- plain parts of a growth: a pair of two lists -/
def Pl (K : PySem.W.Frag) (H : Hp) (a : Addr) (t g : List Int) : Prop := ∃ p q, SqT K H a [.ref p, .ref q] ∧ SqL K H p (vI t) ∧ SqL K H q (vI g) ∧ 0 < t.length ∧ t.length ≤ 2000 ∧ 0 < g.length ∧ g.length ≤ 2000 ∧ Pos t ∧ Small g
theorem Pl.mono {K : PySem.W.Frag} {H H' : Hp} {a : Addr} {t g : List Int} (e : Ex H H') (h : Pl K H a t g) : Pl K H' a t g := by
  obtain ⟨p, q, h1, h2, h3, h4⟩ := h
  exact ⟨p, q, ex_t e h1, ex_l e h2, ex_l e h3, h4⟩
section
variable {P : Program} {w : World} {K : PySem.W.Frag} {mg : Str → Option Value} {base : Heap}
/-! ### _law_value -/
def spLV (K : PySem.W.Frag) : Sp := fun vs H Q _ => ∃ (a : Addr) (n : Nat) (t g : List Int), vs = [.ref a, .int (n : Int)] ∧ Pl K H a t g ∧ RetV (.int (val t g n)) H Q
theorem scLV : FnScope ["_law_plain_here", "_law_n", "_law_told", "_law_gains", "_law_steps", "_law_many"] ["_law_plain_here", "_law_n"] (defScope sLV) := ⟨rfl, rfl, rfl, by decide +kernel, rfl, by decide +kernel, by decide +kernel⟩
theorem ev_sum {σ : L2.St} {H : Hp} {ta : TE} {p : Addr} {l : List Int} (h : Ev ta σ H (.ref p)) (hs : SqL K H p (vI l)) : Ev (tCB (rSum K) (tCons ta tNil)) σ H (.int l.sum) := ev_cb (ea_cons h ea_nil) fun H1 e _ q => ⟨p, l, rfl, ex_l e hs, q H1 (Ex.refl H1)⟩
theorem ev_sumL {σ : L2.St} {H : Hp} {ta : TE} {l : List Int} (h : EvL ta σ H (vI l)) : Ev (tCB (rSum K) (tCons ta tNil)) σ H (.int l.sum) := fun H1 e Q q => h H1 e _ fun p H2 _ e2 h2 => ⟨p, l, rfl, sq_of h2, q H2 e2⟩
theorem ok_LV {f : Addr} {fd : FuncData} (F : Fun K "_law_value" "_law_value" sLV f fd) (T : Glb mg) (sum : mg "sum" = none) : FnOk P w K mg base CX0 1 f fd ["_law_plain_here", "_law_n"] (spLV K) := by
  refine F.ok scLV (fun vs H Q E h => ?_) (fun cdv A outer s H vs Q E hr h => ?_)
  · obtain ⟨a, n, t, g, rfl, _⟩ := h
    rfl
  · obtain ⟨a, n, t, g, rfl, ⟨p, q, hA, hp, hq, t0, t1, g0, g1, pt, sm⟩, k⟩ := h
    refine ⟨_, pss_cons (ps_asg (pv 0) (pg_tup rfl (pgs_cons (pg_name (i := 2) scLV.nd rfl (.inl rfl)) (pgs_cons (pg_name (i := 3) scLV.nd rfl (.inl rfl)) pgs_nil))))
      (pss_cons (ps_if (pt_cmpR op_lt (pv 1) (pe_callB call_len_seq (by rfl) T.len PySem.boot_len (pa_cons (pv 2) pa_nil)) (nomark _)) (pss_one (ps_ret (pe_ix ix_list (pv 2) (pv 1) (fun _ _ => rfl)))) pss_nil)
      (pss_cons (ps_set (i := 4) scLV.nd rfl (.inl rfl) (pe_op op_add (pe_op op_sub (pv 1) (pe_callB call_len_seq (by rfl) T.len PySem.boot_len (pa_cons (pv 2) pa_nil))) pe_int))
      (pss_cons (ps_set (i := 5) scLV.nd rfl (.inl rfl) (pe_callB call_len_seq (by rfl) T.len PySem.boot_len (pa_cons (pv 3) pa_nil)))
      (pss_one (ps_ret (pe_op op_add (pe_op op_add (pe_ix ix_list (pv 2) (pe_un un_neg pe_int) (fun _ _ => rfl))
          (pe_op op_mul (pe_op op_fdiv (pe_callTy call_int1 (by rfl) T.int (by decide +kernel) (pa_cons (pv 4) pa_nil)) (pv 5)) (pe_callB (cr_sum rfl) (by rfl) sum (by decide +kernel) (pa_cons (pv 3) pa_nil))))
        (pe_callB (cr_sum rfl) (by rfl) sum (by decide +kernel) (pa_cons (pe_slice sl_list (pv 3) po_none (po_some (pe_op op_mod (pe_callTy call_int1 (by rfl) T.int (by decide +kernel) (pa_cons (pv 4) pa_nil)) (pv 5)))) pa_nil)))))))), ?_⟩
    refine ⟨_, rfl, a, _, rfl, hA, rfl, _, _, rfl, _, _, rfl, rfl, ?_⟩
    show tSeq _ _ _ _ _
    refine q_when (et_test (ev_op (ev_var rfl) (ev_is (ev_cb (ea_cons (ev_var rfl) ea_nil) (rc_len hp)) (by rw [vI_len])) rv_I0)) (fun ht H1 e1 => ?_) (fun ht H1 e1 => ?_)
    · have hn : n < t.length := by have := of_decide_eq_true ht; omega
      exact s_ret (v := .int (val t g n)) (ev_op (ev_var rfl) (ev_var rfl) (rv_ixL (ex_l e1 hp) (by rw [atI_vI hn, val_lt hn]))) fun H2 e2 => k H2 (e1.trans e2)
    · have hn : t.length ≤ n := by have := of_decide_eq_false ht; omega
      obtain ⟨m, hm⟩ : ∃ m, m = n - t.length + 1 := ⟨_, rfl⟩
      have hr2 : m % g.length < g.length := Nat.mod_lt _ g0
      refine q_asg (v := .int (m : Int)) (ev_is (ev_op (ev_op (ev_var rfl) (ev_is (ev_cb (ea_cons (ev_var rfl) ea_nil) (rc_len (ex_l e1 hp))) (by rw [vI_len])) rv_I0) ev_c rv_I0) (by congr 1; omega)) fun H2 e2 => ?_
      have E2 := e1.trans e2
      refine q_asg (v := .int (g.length : Int)) (ev_is (ev_cb (ea_cons (ev_var rfl) ea_nil) (rc_len (ex_l E2 hq))) (by rw [vI_len])) fun H3 e3 => ?_
      have E3 := E2.trans e3
      have S := acc_small sm g0 g.length
      have sl := el_sl (K := K) (σ := [some (.ref a), some (.int (n : Int)), some (.ref p), some (.ref q), some (.int (m : Int)), some (.int (g.length : Int))]) (H := H3) (te := tVar 3) (tl := tNoPart) (th := tPart (tOp (rI (fun _ j => 0 < j) fun i j => .int (i % j)) (tCB (fun xs H Q => (∃ i, xs = [V.int i] ∧ Q (.int i) H) ∨ ∃ k, xs = [V.bl k] ∧ Q (.int (if k then 1 else 0)) H) (tCons (tVar 4) tNil)) (tVar 5)))
        (lo := none) (hi := some ((m % g.length : Nat) : Int)) (ev_var rfl) eo_none (eo_some (ev_is (ev_op (ev_cb (ea_cons (ev_var rfl) ea_nil) rc_int) (ev_var rfl) (rv_I (by omega))) rfl)) (ex_l E3 hq)
      rw [cut_take (by omega)] at sl
      refine s_ret (v := .int (val t g n)) (ev_is (ev_op (ev_op (ev_op (ev_var rfl) (ev_un ev_c ru_neg) (rv_ixL (ex_l E3 hp) (atI_vlast t0)))
        (ev_op (y := .int g.sum) (ev_op (ev_cb (ea_cons (ev_var rfl) ea_nil) rc_int) (ev_var rfl) (rv_I ⟨by omega, by omega⟩)) (ev_sum (ev_var rfl) (ex_l E3 hq)) (rv_I (.inr ⟨by rw [sum_all]; omega, by rw [sum_all]; omega⟩))) rv_I0) (ev_sumL sl) rv_I0) ?_) fun H4 e4 => k H4 (E3.trans e4)
      rw [sum_take _ (by omega), sum_all, spv_val_far t0 hn, ← hm]
      rfl
end
end K05
namespace K05
open PySem L2 Evl Gr ClX
theorem given_pT {f : Nat → Int} {n : Nat} : given n (fun _ => true) (fun i => V.int (f i)) = vI (pT f n) := by
  rw [given_all]
  unfold vI pT
  rw [List.map_map]
  rfl
section
variable {P : Program} {w : World} {K : PySem.W.Frag} {mg : Str → Option Value} {base : Heap}
theorem spv_LV {H : Hp} {a : Addr} {n : Nat} {t g : List Int} (h : Pl K H a t g) : SpV (spLV K) [.ref a, .int (n : Int)] H (.int (val t g n)) := fun H1 e Q q E => ⟨a, n, t, g, rfl, h.mono e, q⟩
/-! ### _law_values -/
def spLVs (K : PySem.W.Frag) : Sp := fun vs H Q _ => ∃ (a : Addr) (m : Nat) (t g : List Int), vs = [.ref a, .int (m : Int)] ∧ Pl K H a t g ∧ m ≤ 10000 ∧ ∀ p H', H p = none → Ex H H' → H' p = some (.lst (vI (pT (val t g) m))) → Q (.ref p) H'
theorem scLVs : FnScope ["_law_plain_here", "_law_many", "_law_n"] ["_law_plain_here", "_law_many"] (defScope sLVs) := ⟨rfl, rfl, rfl, by decide +kernel, rfl, by decide +kernel, by decide +kernel⟩
theorem ok_LVs {f fV : Addr} {fd fdV : FuncData} (F : Fun K "_law_values" "_law_values" sLVs f fd) (range : mg "range" = none)
    (GV : FnOk P w K mg base CX0 1 fV fdV ["_law_plain_here", "_law_n"] (spLV K)) (kV : PySem.W.keepIn K (.ref fV) = true) (bV : Binds K fdV ["_law_plain_here", "_law_n"] []) (gV : mg "_law_value" = some (.ref fV)) :
    FnOk P w K mg base CX0 2 f fd ["_law_plain_here", "_law_many"] (spLVs K) := by
  refine F.ok scLVs (fun vs H Q E h => ?_) (fun cdv A outer s H vs Q E hr h => ?_)
  · obtain ⟨a, m, t, g, rfl, _⟩ := h
    rfl
  · obtain ⟨a, m, t, g, rfl, hA, hm, k⟩ := h
    refine ⟨_, pss_one (ps_ret (pe_lc (own := [("_law_n", 2)]) (g := gName 2) rfl scLVs.nd (pi_range1 (by rfl) range (pa_cons (pv 1) pa_nil)) (blkOk_by (own := [("_law_n", 2)]) (N := ["_law_plain_here", "_law_many", "_law_n"]) (sc := defScope sLVs) (by decide +kernel))
      (fun _ _ _ _ _ => pg_name (i := 2) scLVs.nd rfl (Or.inl rfl)) (fun _ _ _ _ _ => pts_nil) (fun _ _ _ _ _ => pe_call GV hr (by rfl) gV kV bV .nil pass0 (pa_cons (pv 0) (pa_cons (pv 2) pa_nil))))), ?_⟩
    have c := el_lcR1 (σ := [some (.ref a), some (.int (m : Int)), none]) (H := H) (t := tYes) (te := tCall (spLV K) [] E0 (tCons (tVar 0) (tCons (tVar 2) tNil))) (ta := tCons (tVar 1) tNil) (j := 2) (vs := [2]) (n := (m : Int)) (fun _ => true) (fun i => V.int (val t g i))
      (ea_cons (ev_var rfl) ea_nil) (by omega) (fun _ => rfl) (fun i H1 _ _ => et_none) (fun i H1 e1 _ _ => ev_call (ea_cons (ev_var rfl) (ea_cons (ev_var rfl) ea_nil)) (spv_LV (hA.mono e1)))
    rw [given_pT, Int.toNat_natCast] at c
    exact s_retL c k
end
end K05
namespace K05
open PySem L2 Evl Gr ClX
/-- one part -/
def EvP1 (K : PySem.W.Frag) (ta : TA) (σ : L2.St) (H : Hp) (t : List Int) : Prop := ∀ H1, Ex H H1 → ∀ Q : List V → Hp → Prop, (∀ a H2, Ex H1 H2 → Sq K H2 a (vI t) → Q [.ref a] H2) → ta σ H1 Q
section
variable {K : PySem.W.Frag} {C : Addr} {σ : L2.St} {H : Hp} {ta : TA} {t g : List Int} {f : Nat → Int}
theorem eg_make1 {T0 : Addr} (h : EvP1 K ta σ H t) (hT : ∀ H, Sq K H T0 (vI g)) (t0 : 0 < t.length) (t1 : t.length ≤ 2000) (g0 : 0 < g.length) (g1 : g.length ≤ 2000) (pt : Pos t) (sm : Small g) (hf : ∀ n, val t g n = f n) : EvG K C (tMake C (spInit K C) [.ref T0] E0 ta) σ H f := fun H1 e Q q =>
  h H1 e _ fun a H2 e2 ha x dx hx hd hn => by
    have e3 : Ex H2 (upd (upd H2 dx (.own x)) x (.ins C dx [])) := (Ex.new hd).trans (Ex.new (by rw [upd_ne hn.symm]; exact hx))
    refine ⟨x, a, T0, dx, t, g, rfl, upd_same, ha.mono e3, hT _, t0, t1, g0, g1, pt, sm, fun t' g' H' kp gr pt' hv => ⟨rfl, ?_⟩⟩
    refine q x H' (fresh_back e2 hx) (e2.trans fun c u hc => ?_) ⟨t', g', gr, pt', fun n => (hv n).trans (hf n)⟩
    exact kp c u (e3 _ _ hc) (ne_of_none hc hx)
theorem EvP.tup1 {te tf : TE} {x y : Int} (h : Ev te σ H (.int x)) (h' : ∀ H1, Ex H H1 → Ev tf σ H1 (.int y)) : EvP K (tCons (tTup (tCons te tNil)) (tCons (tTup (tCons tf tNil)) tNil)) σ H [x] [y] := fun H1 e Q q =>
  eu_tup (σ := σ) (H := H) (ea_cons h ea_nil) (Nat.le_of_ble_eq_true rfl) H1 e _ fun p H2 _ e2 h2 => eu_tup (σ := σ) (H := H2) (ea_cons (h' H2 (e.trans e2)) ea_nil) (Nat.le_of_ble_eq_true rfl) H2 (Ex.refl H2) _ fun r H3 _ e3 h3 =>
    q p r H3 (e2.trans e3) (.inr (st_of (e3 _ _ h2))) (.inr (st_of h3))
theorem EvP1.tup {te : TE} {x : Int} (h : Ev te σ H (.int x)) : EvP1 K (tCons (tTup (tCons te tNil)) tNil) σ H [x] := fun H1 e Q q =>
  eu_tup (σ := σ) (H := H) (ea_cons h ea_nil) (Nat.le_of_ble_eq_true rfl) H1 e _ fun p H2 _ e2 h2 => q p H2 e2 (.inr (st_of h2))
end
theorem val_one {x y : Int} (n : Nat) : val [x] [y] n = x + n * y := by
  have a := val_ge (t := [x]) (g := [y]) Nat.one_pos n
  rw [show [x].length - 1 + n = n from Nat.zero_add n] at a
  rw [a]
  have b : ∀ m : Nat, acc (dif [y]) m = m * y := fun m => by
    induction m with
    | zero => show (0 : Int) = ((0 : Nat) : Int) * y; rw [Int.natCast_zero, Int.zero_mul]
    | succ m ih =>
      show acc _ m + dif [y] m = _
      have d : dif [y] m = y := by
        unfold dif
        rw [show m % [y].length = 0 from Nat.mod_one m]
        rfl
      rw [ih, d, show ((m + 1 : Nat) : Int) = (m : Int) + 1 from rfl, Int.add_mul, Int.one_mul]
  rw [b]
  rfl
section
variable {P : Program} {w : World} {K : PySem.W.Frag} {mg : Str → Option Value} {base : Heap}
/-! ### Growth.constant, Growth.ramp -/
def spConst (K : PySem.W.Frag) (C : Addr) : Sp := fun vs H Q _ => ∃ x : Nat, vs = [.int (x : Int)] ∧ RetG K C (fun _ => (x : Int)) H Q
theorem scConst : FnScope ["value"] ["value"] (defScope (sGr 17)) := ⟨rfl, rfl, rfl, by decide +kernel, rfl, by decide +kernel, by decide +kernel⟩
theorem ok_Const {C T0 f fI fZ : Addr} {mc : Value} {fd fdI fdZ : FuncData} {d0 : Value} (F : Fun K "constant" "Growth.constant" (sGr 17) f fd) (N : GName K mg C mc) (M : Mk K C fI)
    (GI : FnOk P w K mg base CX0 4 fI fdI ["self", "told", "gains"] (spInit K C)) (bI : Binds K fdI ["self", "told", "gains"] [.ref T0]) (hT : ∀ H, Sq K H T0 (vI [0]))
    (GZ : FnOk P w K mg base CX0 2 fZ fdZ ["value"] (spFrom0 K)) (kZ : PySem.W.keepIn K (.ref fZ) = true) (bZ : Binds K fdZ ["value"] []) (gZ : mg "is_from_zero" = some (.ref fZ)) :
    FnOk P w K mg base CX0 6 f fd ["value"] (spConst K C) := by
  refine F.ok scConst (fun vs H Q E h => ?_) (fun cdv A outer s H vs Q E hr h => ?_)
  · obtain ⟨x, rfl, _⟩ := h
    rfl
  · obtain ⟨x, rfl, k⟩ := h
    refine ⟨_, pss_cons (ps_if (pt_not (pt_val (pe_call GZ (hr.mono (by decide)) (by rfl) gZ kZ bZ .nil pass0 (pa_cons (pv 0) pa_nil)))) (pss_one ps_no) pss_nil)
      (pss_one (ps_ret (pe_make M GI hr (by rfl) N.g bI (dvs := [.ref T0]) (.cons rfl .nil) pass0 (pa_cons (pe_tup (pa_cons (pv 0) pa_nil)) pa_nil)))), ?_⟩
    refine q_when (b := false) (et_is (et_not (et_B (ev_call (z := .bl true) (ea_cons (ev_var rfl) ea_nil) fun H1 e Q q E => .inl ⟨_, rfl, by rw [decide_eq_true (by omega : (0 : Int) ≤ (x : Int))]; exact q⟩))) rfl) (fun hb => absurd hb (by decide)) (fun _ H1 e1 => ?_)
    refine eg_make1 (K := K) (C := C) (σ := [some (.int (x : Int))]) (H := H1) (t := [(x : Int)]) (g := [0]) (f := fun _ => (x : Int)) (EvP1.tup (ev_var rfl)) hT Nat.one_pos (Nat.le_of_ble_eq_true rfl) Nat.one_pos (Nat.le_of_ble_eq_true rfl)
      (fun i hi => by
        have z : i = 0 := by
          have : i < 1 := hi
          omega
        subst z
        show (0 : Int) ≤ (x : Int)
        omega) (fun i hi => by
        have z : i = 0 := by
          have : i < 1 := hi
          omega
        subst z
        exact ⟨Int.le_refl _, by decide⟩) (fun n => by rw [val_one, Int.mul_zero, Int.add_zero]) H1 (Ex.refl H1) _ fun o H2 ho e2 gr => k o H2 (fresh_back e1 ho) (e1.trans e2) gr
def spRamp (K : PySem.W.Frag) (C : Addr) : Sp := fun vs H Q _ => ∃ x y : Nat, vs = [.int (y : Int), .int (x : Int)] ∧ y ≤ 4000000000000000 ∧ RetG K C (fun n => (x : Int) + n * (y : Int)) H Q
theorem scRamp : FnScope ["gain", "begin"] ["gain", "begin"] (defScope (sGr 18)) := ⟨rfl, rfl, rfl, by decide +kernel, rfl, by decide +kernel, by decide +kernel⟩
theorem ok_Ramp {C f fI fZ : Addr} {mc : Value} {fd fdI fdZ : FuncData} {dvs : List V} (F : FunD K "ramp" "Growth.ramp" (defArgs (sGr 18)) (defBody (sGr 18)) (defScope (sGr 18)) dvs [] f fd) (N : GName K mg C mc) (M : Mk K C fI)
    (GI : FnOk P w K mg base CX0 4 fI fdI ["self", "told", "gains"] (spInit K C)) (bI : Binds K fdI ["self", "told", "gains"] [])
    (GZ : FnOk P w K mg base CX0 2 fZ fdZ ["value"] (spFrom0 K)) (kZ : PySem.W.keepIn K (.ref fZ) = true) (bZ : Binds K fdZ ["value"] []) (gZ : mg "is_from_zero" = some (.ref fZ)) :
    FnOk P w K mg base CX0 6 f fd ["gain", "begin"] (spRamp K C) := by
  refine F.ok scRamp (fun vs H Q E h => ?_) (fun cdv A outer s H vs Q E hr h => ?_)
  · obtain ⟨x, y, rfl, _⟩ := h
    rfl
  · obtain ⟨x, y, rfl, hy, k⟩ := h
    refine ⟨_, pss_cons (ps_if (pt_not (pt_val (pe_call GZ (hr.mono (by decide)) (by rfl) gZ kZ bZ .nil pass0 (pa_cons (pv 0) pa_nil)))) (pss_one ps_no) pss_nil)
      (pss_cons (ps_if (pt_not (pt_val (pe_call GZ (hr.mono (by decide)) (by rfl) gZ kZ bZ .nil pass0 (pa_cons (pv 1) pa_nil)))) (pss_one ps_no) pss_nil)
      (pss_one (ps_ret (pe_make M GI hr (by rfl) N.g bI .nil pass0 (pa_cons (pe_tup (pa_cons (pv 1) pa_nil)) (pa_cons (pe_tup (pa_cons (pv 0) pa_nil)) pa_nil)))))), ?_⟩
    refine q_when (b := false) (et_is (et_not (et_B (ev_call (z := .bl true) (ea_cons (ev_var rfl) ea_nil) fun H1 e Q q E => .inl ⟨_, rfl, by rw [decide_eq_true (by omega : (0 : Int) ≤ (y : Int))]; exact q⟩))) rfl) (fun hb => absurd hb (by decide)) (fun _ H1 e1 => ?_)
    refine q_when (b := false) (et_is (et_not (et_B (ev_call (z := .bl true) (ea_cons (ev_var rfl) ea_nil) fun H1 e Q q E => .inl ⟨_, rfl, by rw [decide_eq_true (by omega : (0 : Int) ≤ (x : Int))]; exact q⟩))) rfl) (fun hb => absurd hb (by decide)) (fun _ H2 e2 => ?_)
    refine eg_make (K := K) (C := C) (σ := [some (.int (y : Int)), some (.int (x : Int))]) (H := H2) (t := [(x : Int)]) (g := [(y : Int)]) (f := fun n => (x : Int) + n * (y : Int)) (EvP.tup1 (ev_var rfl) (fun _ _ => ev_var rfl)) Nat.one_pos (Nat.le_of_ble_eq_true rfl) Nat.one_pos (Nat.le_of_ble_eq_true rfl)
      (fun i hi => by
        have z : i = 0 := by
          have : i < 1 := hi
          omega
        subst z
        show (0 : Int) ≤ (x : Int)
        omega) (fun i hi => by
        have z : i = 0 := by
          have : i < 1 := hi
          omega
        subst z
        show (0 : Int) ≤ (y : Int) ∧ (y : Int) ≤ 4000000000000000
        omega) (fun n => val_one n) H2 (Ex.refl H2) _ fun o H3 ho e3 gr => k o H3 (fresh_back (e1.trans e2) ho) ((e1.trans e2).trans e3) gr
end
end K05
namespace K05
open PySem L2 Evl Gr ClX
/-! ### what draws: it may move the pen, and makes objects -/
def EvW (p l : Addr) (cells : List Int) (n : Nat) (te : TE) (σ : L2.St) (H : Hp) (R : V → Prop) : Prop := ∀ m H1, Keep p H H1 → PenAt H1 p l cells m → m + n ≤ 50000 → ∀ Q : VK, (∀ v H2, R v → PenAt H2 p l cells (m + n) → Keep p H1 H2 → Q v H2) → te σ H1 Q
section
variable {p l : Addr} {cells : List Int} {σ : L2.St} {H : Hp}
theorem w_draw {i : Nat} {tb : TE} {many : Int} (hi : σ[i]? = some (some (.ref p))) (hb : ∀ H1, Keep p H H1 → Ev tb σ H1 (.int many)) (h0 : 0 < many) (h1 : many ≤ 1000000000) (h63 : cells.length ≤ 63) :
    EvW p l cells 1 (tCall spDraw [] E0 (tCons (tVar i) (tCons tb tNil))) σ H (fun v => ∃ d : Nat, v = .int (d : Int) ∧ (d : Int) < many) := fun m H1 kp hP hm Q q =>
  ⟨_, hi, hb H1 kp H1 (Ex.refl H1) _ fun H2 e2 => ⟨p, l, cells, m, many, rfl, hP.mono e2 (Nat.le_refl m), by omega, h63, h0, h1, fun d H3 d0 d1 hP3 k3 => by
    obtain ⟨n, rfl⟩ := Int.eq_ofNat_of_zero_le d0
    exact q _ H3 ⟨n, rfl, d1⟩ hP3 ((Keep.of_ex e2).trans k3)⟩⟩
theorem w_pick {i : Nat} {tr : TA} {ns : List Int} (hi : σ[i]? = some (some (.ref p))) (hr : ∀ H1, EvA tr σ H1 (vI ns)) (h0 : 0 < ns.length) (h1 : ns.length ≤ 1000) (h63 : cells.length ≤ 63) :
    EvW p l cells 1 (tCall spPick [] E0 (tCons (tVar i) (tCons (tLst tr) tNil))) σ H (fun v => ∃ x, v = .int x ∧ x ∈ ns) := fun m H1 kp hP hm Q q =>
  ⟨_, hi, hr H1 H1 (Ex.refl H1) _ fun H2 e2 => ⟨by rw [vI_len]; exact sz_of (by omega), fun a ha => by
    have e3 := e2.trans (Ex.new (o := .lst (vI ns)) ha)
    have hap : a ≠ p := by
      obtain ⟨k, r, hp, _⟩ := hP
      intro z
      rw [z, e2 _ _ hp] at ha
      cases ha
    refine ⟨p, l, a, cells, m, vI ns, rfl, hP.mono e3 (Nat.le_refl m), by omega, h63, upd_same, hap, by rw [vI_len]; exact h0, by rw [vI_len]; omega, fun j x H3 hx hP3 k3 => ?_⟩
    have hj : j < ns.length := by
      have := (List.getElem?_eq_some_iff.mp hx).1
      rwa [vI_len] at this
    rw [vI_get hj] at hx
    obtain rfl := Option.some.inj hx
    refine q _ H3 ⟨_, rfl, ?_⟩ hP3 ((Keep.of_ex e3).trans k3)
    unfold at'
    rw [List.getD_eq_getElem?_getD, List.getElem?_eq_getElem hj]
    exact List.getElem_mem hj⟩⟩
end
abbrev sPlain : Stmt := top 41
theorem scPlain : FnScope ["_law_pen_here", "_law_is_rising", "_law_told", "_law_top", "_law_turn_so", "_law_most", "_law_gains"] ["_law_pen_here", "_law_is_rising"] (defScope sPlain) := ⟨rfl, rfl, rfl, by decide +kernel, rfl, by decide +kernel, by decide +kernel⟩
theorem PenAt.upd' {H : Hp} {p l a : Addr} {cells : List Int} {m : Nat} {o : HO} (h : PenAt H p l cells m) (h1 : a ≠ p) (h2 : a ≠ l) : PenAt (upd H a o) p l cells m := by
  obtain ⟨k, r, q1, q2, q3⟩ := h
  exact ⟨k, r, by rw [upd_ne h1.symm]; exact q1, by rw [upd_ne h2.symm]; exact q2, q3⟩
theorem PenAt.le {H : Hp} {p l : Addr} {cells : List Int} {m n : Nat} (h : PenAt H p l cells m) (hm : m ≤ n) : PenAt H p l cells n := h.mono (Ex.refl H) hm
/-- what is fresh may change -/
theorem Keep.mut {p a : Addr} {H H' : Hp} {o : HO} (h : Keep p H H') (ha : H a = none) : Keep p H (L2.upd H' a o) := fun b u hb hn => by
  have : b ≠ a := fun z => by rw [z, ha] at hb; cases hb
  rw [upd_ne this]
  exact h b u hb hn
section
variable {p l : Addr} {cells : List Int} {σ : L2.St} {H : Hp} {te : TE} {tu tz : TS} {D : Ends} {j m : Nat} {many : Int}
/-- a for over range(1 + what is drawn) -/
theorem q_forW (hw : EvW p l cells 1 te σ H (fun v => ∃ d : Nat, v = .int (d : Int) ∧ (d : Int) < many)) (hP : PenAt H p l cells m) (hm : m + 1 ≤ 50000) (hmany : many ≤ 100) (Pv : Nat → L2.St → Hp → Prop) (h0 : ∀ H1, PenAt H1 p l cells (m + 1) → Keep p H H1 → Pv 0 σ H1)
    (hs : ∀ (i : Nat) σ' H', (i : Int) < many → Pv i σ' H' → tu { D with nx := Pv (i + 1), ct := Pv (i + 1), bk := tz D } (σ'.set j (some (.int (i : Int)))) H') (hd : ∀ (n : Nat) σ' H', 0 < n → (n : Int) ≤ many → Pv n σ' H' → tz D σ' H') :
    tSeq (tFor (iRng1 (tCons (tOp (rI0 fun i j => .int (i + j)) (tC (.int 1)) te) tNil)) (gName j) tu) tz D σ H :=
  hw m H (Keep.of_ex (Ex.refl H)) hP hm _ fun v H2 hv hP2 k2 => by
    obtain ⟨d, rfl, hd'⟩ := hv
    refine ⟨1, (d : Int), rfl, rfl, ?_⟩
    refine ⟨1 + (d : Int), rfl, by omega, by omega, for_range (lo := 0) (n := (1 + (d : Int)).toNat) Pv (h0 H2 hP2 k2) (fun i σ' H' hi q => ?_) (fun σ' H' q => hd _ σ' H' (by omega) (by omega) q)⟩
    have e0 : (0 : Int) + (i : Int) = (i : Int) := Int.zero_add _
    show tu { D with nx := Pv (i + 1), ct := Pv (i + 1), bk := tz D } (σ'.set j (some (.int ((0 : Int) + (i : Int))))) H'
    rw [e0]
    exact hs i σ' H' (by omega) q
end
theorem q_asgR {σ : L2.St} {H : Hp} {te : TE} {i : Nat} {tz : TS} {D : Ends} (h : te σ H fun x H1 => tz D (σ.set i (some x)) H1) : tSeq (tAsg te (gName i)) tz D σ H := h
/-- [what is drawn for j in range(1 + what is drawn)] -/
theorem lc_draws {p l : Addr} {cells : List Int} {σ : L2.St} {H : Hp} {te0 te : TE} {j m : Nat} {many B : Int} {Q : VK} (hw : EvW p l cells 1 te0 σ H (fun v => ∃ d : Nat, v = .int (d : Int) ∧ (d : Int) < many)) (hP : PenAt H p l cells m) (hm : m + 102 ≤ 50000) (hmany : many ≤ 100)
    (hwi : ∀ x, wipe ((wipe σ [j]).set j (some x)) [j] = wipe σ [j]) (ht : ∀ x H1, Keep p H H1 → EvW p l cells 1 te ((wipe σ [j]).set j (some x)) H1 (fun v => ∃ d : Nat, v = .int (d : Int) ∧ (d : Int) < B))
    (k : ∀ a g H', H a = none → Keep p H H' → PenAt H' p l cells (m + 1 + g.length) → H' a = some (.lst (vI g)) → 0 < g.length → (g.length : Int) ≤ many → (∀ i, i < g.length → 0 ≤ at' g i ∧ at' g i < B) → Q (.ref a) H') :
    tLc (iRng1 (tCons (tOp (rI0 fun i j => .int (i + j)) (tC (.int 1)) te0) tNil)) (gName j) tYes te [j] σ H Q :=
  hw m H (Keep.of_ex (Ex.refl H)) hP (by omega) _ fun v H2 hv hP2 k2 => by
    obtain ⟨d, rfl, hd'⟩ := hv
    refine ⟨1, (d : Int), rfl, rfl, ?_⟩
    refine ⟨1 + (d : Int), rfl, by omega, by omega, fun Dl hD => ?_⟩
    have hDp : Dl ≠ p := fun z => by
      obtain ⟨_, _, q, _⟩ := hP2
      rw [z, q] at hD
      cases hD
    have hDl : Dl ≠ l := fun z => by
      obtain ⟨_, _, _, q, _⟩ := hP2
      rw [z, q] at hD
      cases hD
    have hDn : H Dl = none := by
      cases z : H Dl with
      | none => rfl
      | some u =>
        have := k2 _ _ z hDp
        rw [hD] at this
        cases this
    refine lc_range (lo := 0) (n := (1 + (d : Int)).toNat) (fun i H' => ∃ g : List Int, H' Dl = some (.lst (vI g)) ∧ g.length = i ∧ (∀ i', i' < g.length → 0 ≤ at' g i' ∧ at' g i' < B) ∧ PenAt H' p l cells (m + 1 + i) ∧ Keep p H2 H') ⟨[], upd_same, rfl, fun i' h => absurd h (Nat.not_lt_zero _), hP2.upd' hDp hDl, (Keep.of_ex (Ex.refl H2)).mut hD⟩ (fun i H' hi q => ⟨hwi _, ?_⟩) (fun H' q => ?_)
    · obtain ⟨g, hg, hlen, hb, hP3, k3⟩ := q
      show te ((wipe σ [j]).set j (some (.int ((0 : Int) + (i : Int))))) H' fun y H4 => ∃ acc, H4 Dl = some (.lst acc) ∧ acc.length < sizeLine ∧ _
      refine ht _ H' (k2.trans k3) (m + 1 + i) H' (Keep.of_ex (Ex.refl H')) hP3 (by omega) _ fun v H4 hv hP4 k4 => ?_
      obtain ⟨e, rfl, he⟩ := hv
      refine ⟨vI g, k4 _ _ hg hDp, sz_lt (by rw [vI_len]; omega), g ++ [(e : Int)], by rw [upd_same, vI_app], by rw [List.length_append, hlen]; rfl, fun i' hi' => ?_, (hP4.upd' hDp hDl).le (by omega), (k3.trans k4).mut hD⟩
      rw [List.length_append] at hi'
      have hi2 : i' < g.length + 1 := hi'
      rw [at_app]
      by_cases c : i' < g.length
      · rw [if_pos c]
        exact hb _ c
      · rw [if_neg c, show i' - g.length = 0 by omega]
        show 0 ≤ (e : Int) ∧ (e : Int) < B
        omega
    · obtain ⟨g, hg, hlen, hb, hP3, k3⟩ := q
      exact k Dl g H' hDn (k2.trans k3) (hP3.le (by omega)) hg (by omega) (by omega) hb
section
variable {P : Program} {w : World} {K : PySem.W.Frag} {mg : Str → Option Value} {base : Heap}
/-! ### _law_plain -/
/-- plain parts, new ones: at most five told -/
def PlN (H : Hp) (a : Addr) (t g : List Int) : Prop := ∃ p q, H a = some (.tup [.ref p, .ref q]) ∧ H p = some (.lst (vI t)) ∧ H q = some (.lst (vI g)) ∧ t.length ≤ 5
def spPlain (K : PySem.W.Frag) : Sp := fun vs H Q _ => ∃ (p l : Addr) (cells : List Int) (m : Nat) (r : Bool), vs = [.ref p, .bl r] ∧ PenAt H p l cells m ∧ m + 120 ≤ 50000 ∧ cells.length ≤ 63 ∧
  ∀ t g x H', Keep p H H' → PenAt H' p l cells (m + 13) → PlN H' x t g → Pl K H' x t g → g.length ≤ 4 → (∀ i, i < g.length → at' g i ≤ 1000000) → (∀ i, i < t.length → at' t i ≤ 5000000000) → Q (.ref x) H'
theorem ok_Plain {f fD fP : Addr} {fd fdD fdP : FuncData} (F : Fun K "_law_plain" "_law_plain" sPlain f fd) (range : mg "range" = none)
    (GD : FnOk P w K mg base CX0 1 fD fdD ["_law_pen_here", "_law_many"] spDraw) (kD : PySem.W.keepIn K (.ref fD) = true) (bD : Binds K fdD ["_law_pen_here", "_law_many"] []) (gD : mg "_law_draw" = some (.ref fD))
    (GP : FnOk P w K mg base CX0 2 fP fdP ["_law_pen_here", "_law_some"] spPick) (kP : PySem.W.keepIn K (.ref fP) = true) (bP : Binds K fdP ["_law_pen_here", "_law_some"] []) (gP : mg "_law_pick" = some (.ref fP)) :
    FnOk P w K mg base CX0 3 f fd ["_law_pen_here", "_law_is_rising"] (spPlain K) := by
  refine F.ok scPlain (fun vs H Q E h => ?_) (fun cdv A outer s H vs Q E hr h => ?_)
  · obtain ⟨p, l, cells, m, r, rfl, _⟩ := h
    rfl
  · obtain ⟨p, l, cells, m, r, rfl, hP, hm, h63, k⟩ := h
    refine ⟨_, pss_cons (ps_par (i := 2) (j := 3) rfl scPlain.nd rfl rfl (by decide) (by rfl) (by rfl) (pa_cons (pe_lst pa_nil) (pa_cons (pe_call GP hr (by rfl) gP kP bP .nil pass0 (pa_cons (pv 0) (pa_cons (pe_lst (pa_cons pe_int (pa_cons pe_int (pa_cons pe_int (pa_cons pe_int (pa_cons (pe_op op_pow pe_int pe_int) pa_nil)))))) pa_nil))) pa_nil)) (by rfl))
      (pss_cons (ps_for PassesOwn.never rfl (pi_range1 (by rfl) range (pa_cons (pe_op op_add pe_int (pe_call GD (hr.mono (by decide)) (by rfl) gD kD bD .nil pass0 (pa_cons (pv 0) (pa_cons pe_int pa_nil)))) pa_nil)) (pg_name (i := 4) scPlain.nd rfl (.inl rfl))
        (pss_one (ps_expr (pe_bm PySem.F.plainAttrs_list PySem.F.slot_list_append PySem.F.type_list_append mt_append (pv 2) (pa_cons (pe_op op_add (pe_call GD (hr.mono (by decide)) (by rfl) gD kD bD .nil pass0 (pa_cons (pv 0) (pa_cons (pv 3) pa_nil)))
          (pe_ifExp (PW.pt (pw_and (pt_cmpR (op_neD hr.units) (pv 2) (pe_lst pa_nil) (nomark _)) (pw_and1 (pt_val (pv 1))))) (pe_ix ix_list (pv 2) (pe_un un_neg pe_int) (fun _ _ => rfl)) pe_int)) pa_nil)))))
      (pss_cons (ps_set (i := 5) scPlain.nd rfl (.inr rfl) (pe_call GP hr (by rfl) gP kP bP .nil pass0 (pa_cons (pv 0) (pa_cons (pe_lst (pa_cons pe_int (pa_cons pe_int (pa_cons pe_int (pa_cons pe_int (pa_cons (pe_op op_pow pe_int pe_int) pa_nil)))))) pa_nil))))
      (pss_cons (ps_setLc (i := 6) (own := [("_law_turn_so", 4)]) (g := gName 4) rfl scPlain.nd rfl (by rfl) (by rfl) (pi_range1 (by rfl) range (pa_cons (pe_op op_add pe_int (pe_call GD (hr.mono (by decide)) (by rfl) gD kD bD .nil pass0 (pa_cons (pv 0) (pa_cons pe_int pa_nil)))) pa_nil)) (blkOk_by (own := [("_law_turn_so", 4)]) (N := ["_law_pen_here", "_law_is_rising", "_law_told", "_law_top", "_law_turn_so", "_law_most", "_law_gains"]) (sc := defScope sPlain) (by decide +kernel))
          (fun _ _ _ _ _ => pg_name (i := 4) scPlain.nd rfl (Or.inl rfl)) (fun _ _ _ _ _ => pts_nil) (fun _ _ _ _ _ => pe_call GD (hr.mono (by decide)) (by rfl) gD kD bD .nil pass0 (pa_cons (pv 0) (pa_cons (pe_op op_add (pv 5) pe_int) pa_nil))))
      (pss_one (ps_ret (pe_tup (pa_cons (pv 2) (pa_cons (pv 6) pa_nil)))))))), ?_⟩
    have hp0 : ∃ u, H p = some u := let ⟨_, _, q, _⟩ := hP; ⟨_, q⟩
    have hl0 : ∃ u, H l = some u := let ⟨_, _, _, q, _⟩ := hP; ⟨_, q⟩
    have kp0 : Keep p H H := Keep.of_ex (Ex.refl H)
    -- told = [], top = ..
    refine ⟨by decide, fun tl htl => ?_⟩
    have e1 := Ex.new (H := H) (o := .lst []) htl
    have hP1 := hP.mono e1 (Nat.le_refl m)
    have ntp : tl ≠ p := fun z => by
      obtain ⟨u, hu⟩ := hp0
      rw [z, hu] at htl
      cases htl
    have ntl : tl ≠ l := fun z => by
      obtain ⟨u, hu⟩ := hl0
      rw [z, hu] at htl
      cases htl
    refine w_pick (p := p) (l := l) (cells := cells) (σ := L2.start _ [V.ref p, V.bl r]) (H := upd H tl (.lst [])) (i := 0) (ns := [2, 5, 9, 40, (10 : Int) ^ (9 : Int).toNat]) rfl (fun H1 => ea_cons ev_c (ea_cons ev_c (ea_cons ev_c (ea_cons ev_c (ea_cons (ev_op ev_c ev_c (rv_I ⟨by decide, by decide, by decide⟩)) ea_nil))))) (by decide) (by decide) h63 m _ (Keep.of_ex (Ex.refl _)) hP1 (by omega) _ fun v H2 hv hP2 k2 => ?_
    obtain ⟨top, rfl, htop⟩ := hv
    have top2 : 0 < top ∧ top ≤ 1000000000 := by
      have : ∀ z ∈ [2, 5, 9, 40, (10 : Int) ^ (9 : Int).toNat], 0 < z ∧ z ≤ 1000000000 := by decide
      exact this _ htop
    refine ⟨_, _, rfl, ?_⟩
    have kH2 : Keep p H H2 := (Keep.of_ex e1).trans k2
    have htl2 : H2 tl = some (.lst (vI [])) := k2 _ _ upd_same ntp
    show tSeq _ _ _ _ _
    -- the loop of told values
    refine q_forW (p := p) (l := l) (cells := cells) (m := m + 1) (many := 5) (w_draw (i := 0) rfl (fun H1 _ => ev_c) (by decide) (by decide) h63) hP2 (by omega) (by decide)
      (fun i σ' H' => ∃ (x4 : Option V) (t : List Int), σ' = [some (.ref p), some (.bl r), some (.ref tl), some (.int top), x4, none, none] ∧ H' tl = some (.lst (vI t)) ∧ t.length = i ∧ Pos t ∧ PenAt H' p l cells (m + 2 + i) ∧ Keep p H H' ∧ ∀ j, j < t.length → at' t j ≤ 1000000000 * (t.length : Int))
      (fun H3 hP3 k3 => ⟨_, [], rfl, k3 _ _ htl2 ntp, rfl, fun i hi => absurd hi (Nat.not_lt_zero i), hP3, kH2.trans k3, fun j hj => absurd hj (Nat.not_lt_zero j)⟩) ?_ ?_
    · rintro i σ' H3 hi ⟨x4, t, rfl, ht, hlen, pt, hP3, k3, bt⟩
      show tDrop _ _ _ _
      refine ⟨_, rfl, Or.inl ⟨rfl, vI t, sq_of ht⟩, ?_⟩
      refine w_draw (p := p) (l := l) (cells := cells) (σ := [some (.ref p), some (.bl r), some (.ref tl), some (.int top), some (.int (i : Int)), none, none]) (H := H3) (i := 0) (tb := tVar 3) (many := top) rfl (fun H1 _ => ev_var rfl) top2.1 top2.2 h63 (m + 2 + i) H3 (Keep.of_ex (Ex.refl _)) hP3 (by omega) _ fun v H4 hv hP4 k4 => ?_
      obtain ⟨d, rfl, hd⟩ := hv
      have ht4 := k4 _ _ ht ntp
      obtain ⟨bn, evn, hne⟩ := ev_neNil (K := K) (σ := [some (.ref p), some (.bl r), some (.ref tl), some (.int top), some (.int (i : Int)), none, none]) (H := H4) (cells := t) (l := tl) (ta := tVar 2) (ev_var rfl) (sq_of ht4)
      have evi : ∃ z : Int, 0 ≤ z ∧ z ≤ 1000000000 * (t.length : Int) ∧ Ev (tIf (tAnd (tTest (tOp (rNeD K) (tVar 2) (tLst tNil))) (tB (tVar 1))) (tOp (rIxL K) (tVar 2) (tUn (rU fun i => .int (-i)) (tC (.int 1)))) (tC (.int 0))) [some (.ref p), some (.bl r), some (.ref tl), some (.int top), some (.int (i : Int)), none, none] H4 (.int z) := by
        have tst : EvT (tAnd (tTest (tOp (rNeD K) (tVar 2) (tLst tNil))) (tB (tVar 1))) [some (.ref p), some (.bl r), some (.ref tl), some (.int top), some (.int (i : Int)), none, none] H4 (bn && r) := et_and (et_test evn) fun _ => et_B (ev_var rfl)
        cases hbr : (bn && r) with
        | true =>
          rw [hbr] at tst
          have tn : 0 < t.length := List.length_pos_iff.mpr (hne (Bool.and_eq_true_iff.mp hbr).1)
          exact ⟨at' t (t.length - 1), pt _ (by omega), bt _ (by omega), ev_if tst (fun _ => ev_op (ev_var rfl) (ev_un ev_c ru_neg) (rv_ixL (sq_of ht4) (atI_vlast tn))) (fun hb => absurd hb (by decide))⟩
        | false =>
          rw [hbr] at tst
          exact ⟨0, Int.le_refl 0, by omega, ev_if tst (fun hb => absurd hb (by decide)) (fun _ => ev_c)⟩
      obtain ⟨z, z0, z1, evz⟩ := evi
      refine evz H4 (Ex.refl H4) _ fun H5 e5 => ?_
      refine ⟨(d : Int), z, rfl, rfl, tl, vI t, .int ((d : Int) + z), rfl, rfl, e5 _ _ ht4, sz_lt (by rw [vI_len]; omega), ?_⟩
      refine ⟨_, t ++ [(d : Int) + z], rfl, by rw [upd_same, vI_app], by rw [List.length_append, hlen]; rfl, fun i' hi' => ?_, ((hP4.mono e5 (Nat.le_refl _)).upd' ntp ntl).le (by omega), ((k3.trans k4).trans (Keep.of_ex e5)).mut htl, fun i' hi' => ?_⟩
      rotate_left
      · rw [List.length_append] at hi' ⊢
        have hi2 : i' < t.length + 1 := hi'
        show at' (t ++ [(d : Int) + z]) i' ≤ 1000000000 * ((t.length + 1 : Nat) : Int)
        rw [at_app]
        by_cases c : i' < t.length
        · rw [if_pos c]
          have := bt _ c
          omega
        · rw [if_neg c, show i' - t.length = 0 by omega]
          show (d : Int) + z ≤ _
          have := top2.2
          omega
      rw [List.length_append] at hi'
      have hi2 : i' < t.length + 1 := hi'
      rw [at_app]
      by_cases c : i' < t.length
      · rw [if_pos c]
        exact pt _ c
      · rw [if_neg c, show i' - t.length = 0 by omega]
        show 0 ≤ (d : Int) + z
        omega
    · rintro n σ' H3 n0 n5 ⟨x4, t, rfl, ht, hlen, pt, hP3, k3, bt⟩
      refine q_asgR (w_pick (p := p) (l := l) (cells := cells) (σ := [some (.ref p), some (.bl r), some (.ref tl), some (.int top), x4, none, none]) (H := H3) (i := 0) (ns := [1, 2, 3, 7, (10 : Int) ^ (6 : Int).toNat]) rfl (fun H1 => ea_cons ev_c (ea_cons ev_c (ea_cons ev_c (ea_cons ev_c (ea_cons (ev_op ev_c ev_c (rv_I ⟨by decide, by decide, by decide⟩)) ea_nil))))) (by decide) (by decide) h63 (m + 2 + n) H3 (Keep.of_ex (Ex.refl _)) hP3 (by omega) _ fun v H4 hv hP4 k4 => ?_)
      obtain ⟨most, rfl, hmost⟩ := hv
      have most2 : 0 < most ∧ most ≤ 1000000 := by
        have : ∀ z ∈ [1, 2, 3, 7, (10 : Int) ^ (6 : Int).toNat], 0 < z ∧ z ≤ 1000000 := by decide
        exact this _ hmost
      have ht4 := k4 _ _ ht ntp
      refine q_asgR (lc_draws (p := p) (l := l) (cells := cells) (σ := [some (.ref p), some (.bl r), some (.ref tl), some (.int top), x4, some (.int most), none]) (H := H4) (j := 4) (m := m + 2 + n + 1) (many := 4) (B := most + 1) (w_draw (i := 0) rfl (fun H1 _ => ev_c) (by decide) (by decide) h63) hP4 (by omega) (by decide) (fun _ => rfl)
        (fun x H1 _ => w_draw (i := 0) rfl (fun H2 _ => ev_op (ev_var rfl) ev_c rv_I0) (by omega) (by omega) h63) fun a g H5 ha k5 hP5 hg g0 g4 hb => ?_)
      show tRet _ _ _ _
      refine ⟨_, rfl, _, rfl, by show 2 ≤ sizeLine; decide, fun x hx => ?_⟩
      have e6 := Ex.new (H := H5) (o := .tup [.ref tl, .ref a]) hx
      have sg : Small g := fun i hi => ⟨(hb i hi).1, by have := (hb i hi).2; omega⟩
      refine k t g x _ (((k3.trans k4).trans k5).trans (Keep.of_ex e6)) ((hP5.mono e6 (Nat.le_refl _)).le (by omega)) ⟨tl, a, upd_same, e6 _ _ (k5 _ _ ht4 ntp), e6 _ _ hg, by omega⟩ ⟨tl, a, st_of upd_same, sq_of (e6 _ _ (k5 _ _ ht4 ntp)), sq_of (e6 _ _ hg), by omega, by omega, g0, by omega, pt, sg⟩ (by omega) (fun i hi => by have := (hb i hi).2; omega) (fun i hi => by have := bt i hi; omega)
end
end K05
namespace K05
open PySem L2 Evl Gr ClX OwX StX
/-! ### the text of a growth -/
def tx (x : Int) : Str := toString x
def tv : V → V
  | .int i => .str (tx i)
  | x => x
def wordsG (t g : List Int) : List Str := t.map tx ++ (("then" : Str) :: g.map tx)
def strG (t g : List Int) : Str := Txt.join " " (wordsG t g)
/-- a number that is not too great, or a short text -/
def okV (x : V) : Prop := (∃ i : Int, x = .int i ∧ 0 ≤ i ∧ i < 10 ^ 60) ∨ x = .str "then"
theorem given_map {l : List V} {f : V → V} : given l.length (fun _ => true) (fun n => f (l.getD n .non)) = l.map f := by
  rw [given_all]
  refine List.ext_getElem (by rw [List.length_map, List.length_map, List.length_range]) fun i h1 h2 => ?_
  rw [List.length_map] at h2
  rw [List.getElem_map, List.getElem_map, List.getElem_range, List.getD_eq_getElem?_getD, List.getElem?_eq_getElem h2]
  rfl
theorem words_tv {t g : List Int} : (vI t ++ (V.str "then" :: vI g)).map tv = (wordsG t g).map V.str := by
  unfold wordsG vI
  rw [List.map_append, List.map_append, List.map_cons, List.map_cons, List.map_map, List.map_map, List.map_map, List.map_map]
  rfl
theorem tx_len {x : Int} (h0 : 0 ≤ x) (h1 : x < 10 ^ 60) : (tx x).length ≤ 60 := PyProof.Rows.toString_length_le h0 (by decide) h1
theorem log_small {x : Int} (h0 : 0 ≤ x) (h1 : x < 10 ^ 60) : x.natAbs.log2 < 1920 := by
  have e : (10 : Int) ^ 60 = 1000000000000000000000000000000000000000000000000000000000000 := by decide
  rw [e] at h1
  have z : x.natAbs < 2 ^ 200 := by
    have : (2 : Nat) ^ 200 = 1606938044258990275541962092341162602522202993782792835301376 := by decide
    rw [this]
    omega
  exact Nat.lt_trans (PySem.Flt.log2_lt_of (by decide) z) (by decide)
theorem sum_le {ys : List Str} (h : ∀ y ∈ ys, y.length ≤ 60) : (ys.map (·.length)).sum ≤ 60 * ys.length := by
  induction ys with
  | nil => exact Nat.le_refl _
  | cons y ys ih =>
    rw [List.map_cons, List.sum_cons, List.length_cons]
    have a := h y (List.mem_cons_self ..)
    have b := ih fun z hz => h z (List.mem_cons_of_mem _ hz)
    omega
section
variable {K : PySem.W.Frag} {σ : L2.St} {H : Hp} {te : TE} {t : TA}
theorem ea_star {p : Addr} {xs ys : List V} (h : Ev te σ H (.ref p)) (hs : Sq K H p xs) (hr : EvA t σ H ys) : EvA (tStar K te t) σ H (xs ++ ys) := fun H1 e Q q =>
  h H1 e _ fun H2 e2 => ⟨p, xs, rfl, (hs.mono (e.trans e2)).symm, hr H2 (e.trans e2) _ fun H3 e3 => q H3 (e2.trans e3)⟩
abbrev rStrV : List V → Hp → VK → Prop := fun xs H Q => (∃ i, xs = [V.int i] ∧ i.natAbs.log2 < 1920 ∧ Q (.str (toString i)) H) ∨ ∃ a, xs = [V.str a] ∧ Q (.str a) H
theorem rc_strV {x : V} (h : okV x) : RC rStrV [x] H (tv x) := fun H1 e Q q => by
  rcases h with ⟨i, rfl, h0, h1⟩ | rfl
  · exact .inl ⟨i, rfl, log_small h0 h1, q H1 (Ex.refl H1)⟩
  · exact .inr ⟨_, rfl, q H1 (Ex.refl H1)⟩
end
section
variable {P : Program} {w : World} {K : PySem.W.Frag} {mg : Str → Option Value} {base : Heap}
/-! ### Growth.__str__ -/
def spStr (K : PySem.W.Frag) (C : Addr) : Sp := fun vs H Q _ => ∃ (o : Addr) (t g : List Int), vs = [.ref o] ∧ GrAt K C H o t g ∧ Pos t ∧ (∀ i, i < t.length → at' t i < 10 ^ 60) ∧ RetV (.str (strG t g)) H Q
theorem scStr : FnScope ["self", "value"] ["self"] (defScope (sGr 21)) := ⟨rfl, rfl, rfl, by decide +kernel, rfl, by decide +kernel, by decide +kernel⟩
theorem ok_Str {C f : Addr} {fd : FuncData} (F : Fun K "__str__" "Growth.__str__" (sGr 21) f fd) (G : GCls K C) (TT : GlbT mg) : FnOk P w K mg base CX0 1 f fd ["self"] (spStr K C) := by
  refine F.ok scStr (fun vs H Q E h => ?_) (fun cdv A outer s H vs Q E hr h => ?_)
  · obtain ⟨o, t, g, rfl, _⟩ := h
    rfl
  · obtain ⟨o, t, g, rfl, hO, pt, bt, k⟩ := h
    refine ⟨_, pss_one (ps_ret (pe_join pe_str (pe_lc (own := [("value", 1)]) (g := gName 1) rfl scStr.nd (pi_list (pe_lst (pa_star (pe_fld (pv 0) rfl) (pa_cons pe_str (pa_star (pe_fld (pv 0) rfl) pa_nil)))))
      (blkOk_by (own := [("value", 1)]) (N := ["self", "value"]) (sc := defScope (sGr 21)) (by decide +kernel)) (fun _ _ _ _ _ => pg_name (i := 1) scStr.nd rfl (Or.inl rfl)) (fun _ _ _ _ _ => pts_nil)
      (fun _ _ _ _ _ => pe_callTy call_strV (by rfl) TT.str (by decide +kernel) (pa_cons (pv 1) pa_nil))))), ?_⟩
    obtain ⟨dx, p, q, r, h1, h2, h3, h4, nf, t2, g2, sm⟩ := hO
    have L : EvL (tLst (tStar K (tFld K (tVar 0) "told") (tCons (tC (.str "then")) (tStar K (tFld K (tVar 0) "gains") tNil)))) [some (.ref o), none] H (vI t ++ (V.str "then" :: (vI g ++ []))) :=
      el_lst (ea_star (ev_fld (ev_var rfl) h1 G.cls G.told rfl) (.inr h2) (ea_cons ev_c (ea_star (ev_fld (ev_var rfl) h1 G.cls G.gains rfl) (.inr h3) ea_nil))) (by
        rw [List.append_nil, List.length_append, List.length_cons, vI_len, vI_len]
        omega)
    rw [List.append_nil] at L
    have all : ∀ x ∈ vI t ++ (V.str "then" :: vI g), okV x := fun x hx => by
      have num : ∀ {l : List Int}, (∀ i, i < l.length → 0 ≤ at' l i ∧ at' l i < 10 ^ 60) → x ∈ vI l → okV x := fun {l} hl hm => by
        obtain ⟨z, hz, rfl⟩ := List.mem_map.mp hm
        obtain ⟨i, hi, rfl⟩ := List.getElem_of_mem hz
        have b := hl i hi
        have e : at' l i = l[i] := by
          unfold at'
          rw [List.getD_eq_getElem?_getD, List.getElem?_eq_getElem hi]
          rfl
        rw [e] at b
        exact .inl ⟨_, rfl, b.1, b.2⟩
      rcases List.mem_append.mp hx with hm | hm
      · exact num (fun i hi => ⟨pt i hi, bt i hi⟩) hm
      · rcases List.mem_cons.mp hm with rfl | hm
        · exact .inr rfl
        · refine num (fun i hi => ⟨(sm i hi).1, Int.lt_of_le_of_lt (sm i hi).2 (by decide)⟩) hm
    have M := el_lcNL (K := K) (σ := [some (.ref o), none]) (H := H) (t := tYes) (te := tCB rStrV (tCons (tVar 1) tNil)) (j := 1) (vs := [1]) (fun _ => true) (fun n => tv ((vI t ++ (V.str "then" :: vI g)).getD n .non)) L (by
        rw [List.length_append, List.length_cons, vI_len, vI_len]
        omega) (fun _ => rfl) (fun i x H1 _ _ => et_none) (fun i x H1 e1 hx _ => by
        have e : (vI t ++ (V.str "then" :: vI g)).getD i .non = x := by
          rw [List.getD_eq_getElem?_getD, hx]
          rfl
        rw [e]
        exact ev_cb (ea_cons (ev_var rfl) ea_nil) (rc_strV (all x (List.mem_of_getElem? hx))))
    rw [given_map, words_tv] at M
    refine ⟨⟨_, rfl⟩, M H (Ex.refl H) _ fun a H1 ha e1 h => ⟨" ", a, wordsG t g, rfl, rfl, .inl (sq_of h), ?_, k H1 e1⟩⟩
    have wl : (wordsG t g).length ≤ 4001 := by
      unfold wordsG
      rw [List.length_append, List.length_cons, List.length_map, List.length_map]
      omega
    have sl := sum_le (ys := wordsG t g) fun y hy => by
      have hm : V.str y ∈ (wordsG t g).map V.str := List.mem_map.mpr ⟨y, hy, rfl⟩
      rw [← words_tv] at hm
      obtain ⟨x, hx, ex⟩ := List.mem_map.mp hm
      rcases all x hx with ⟨i, rfl, h0, h1⟩ | rfl
      · cases ex
        exact tx_len h0 h1
      · cases ex
        decide
    have one : (" " : Str).length = 1 := rfl
    rw [one]
    omega
end
end K05
namespace Gr
theorem Tail.sc {f : Nat → Int} {B : Int} (h : Tail f B) {k : Nat} : Tail (fun n => (k : Int) * f n) ((k : Int) * B) := by
  obtain ⟨m, hm⟩ := h
  refine ⟨m, fun n hn => ?_⟩
  obtain ⟨a, b⟩ := hm n hn
  show 0 ≤ (k : Int) * f (n + 1) - (k : Int) * f n ∧ (k : Int) * f (n + 1) - (k : Int) * f n ≤ (k : Int) * B
  rw [← Int.mul_sub]
  exact ⟨Int.mul_nonneg (by omega) a, Int.mul_le_mul_of_nonneg_left b (by omega)⟩
theorem acc_le {d : Nat → Int} {B : Int} (h : ∀ k, d k ≤ B) : ∀ n : Nat, acc d n ≤ (n : Int) * B
  | 0 => by rw [show ((0 : Nat) : Int) = 0 from rfl, Int.zero_mul]; exact Int.le_refl 0
  | n + 1 => by
    show acc d n + d n ≤ _
    rw [show ((n + 1 : Nat) : Int) = (n : Int) + 1 from rfl, Int.add_mul, Int.one_mul]
    exact Int.add_le_add (acc_le h n) (h n)
theorem val_le {t g : List Int} {A B : Int} (t0 : 0 < t.length) (g0 : 0 < g.length) (B0 : 0 ≤ B) (ht : ∀ i, i < t.length → at' t i ≤ A) (hg : ∀ i, i < g.length → at' g i ≤ B) (n : Nat) : val t g n ≤ A + (n : Int) * B := by
  unfold val
  by_cases h : n < t.length
  · rw [if_pos h]
    have a := ht n h
    have b := Int.mul_nonneg (show (0 : Int) ≤ (n : Int) by omega) B0
    omega
  · rw [if_neg h]
    have a : lst t ≤ A := ht _ (by omega)
    have b := acc_le (d := dif g) (fun k => hg _ (Nat.mod_lt _ g0)) (n - t.length + 1)
    have c : ((n - t.length + 1 : Nat) : Int) * B ≤ (n : Int) * B := Int.mul_le_mul_of_nonneg_right (by omega) B0
    omega
theorem dvd12 {n : Nat} (h0 : 0 < n) (h4 : n ≤ 4) : n ∣ 12 := by
  have : n = 1 ∨ n = 2 ∨ n = 3 ∨ n = 4 := by omega
  rcases this with rfl | rfl | rfl | rfl <;> decide
end Gr
namespace K05
open PySem L2 Evl Gr ClX OpX StX OwX
theorem q_call {σ : L2.St} {H : Hp} {sp : Sp} {dvs vs : List V} {E : XK} {ta : TA} {i : Nat} {tz : TS} {D : Ends} (h : EvA ta σ H vs) (k : ∀ H1, Ex H H1 → sp (vs ++ dvs) H1 (fun v H2 => tz D (σ.set i (some v)) H2) E) :
    tSeq (tAsg (tCall sp dvs E ta) (gName i)) tz D σ H := h H (Ex.refl H) _ k
theorem lst_i {t : TA} {Q : VK} {σ : L2.St} {H : Hp} (h : t σ H fun xs H1 => xs.length ≤ sizeLine ∧ ∀ l, H1 l = none → Q (.ref l) (upd H1 l (.lst xs))) : tLst t σ H Q := h
theorem cons_i {te : TE} {tr : TA} {σ : L2.St} {H : Hp} {Q : List V → Hp → Prop} (h : te σ H fun x H1 => tr σ H1 fun xs H2 => Q (x :: xs) H2) : tCons te tr σ H Q := h
theorem op_i {r : R2} {ta tb : TE} {σ : L2.St} {H : Hp} {Q : VK} (h : ta σ H fun x H1 => tb σ H1 fun y H2 => r x y H2 Q) : tOp r ta tb σ H Q := h
theorem fnR0 {P : Program} {w : World} {K : PySem.W.Frag} {mg : Str → Option Value} {base : Heap} {CX : CXT} {k : Nat} {f : Addr} {fd : FuncData} {ps : List Str} {sp : Sp} (F : FnOk P w K mg base CX k f fd ps sp) (b : Binds K fd ps []) : FnR P w K mg base CX k f sp :=
  (F.raw b .nil).imp fun vs H Q E h => by rw [List.append_nil]; exact h
theorem gr_ins {X : Cx} {C : Addr} {H : Hp} {o : Addr} {f : Nat → Int} (h : GrF X.K C H o f) : InsC X H o C := by
  obtain ⟨t, g, ⟨dx, p, q, r, h1, _⟩, _⟩ := h
  exact .inr ⟨dx, _, h1⟩
/-- a def of the module, found by its name -/
def Gfn (P : Program) (w : World) (K : PySem.W.Frag) (mg : Str → Option Value) (base : Heap) (k : Nat) (name : Str) (ps : List Str) (sp : Sp) : Prop :=
  ∃ f fd, FnOk P w K mg base CX0 k f fd ps sp ∧ PySem.W.keepIn K (.ref f) = true ∧ Binds K fd ps [] ∧ mg name = some (.ref f)
/-- what != asks of the class -/
structure GNe (K : PySem.W.Frag) (C fE : Addr) : Prop where
  has : Has K C fE "__eq__"
  ne : PySem.W.findIn K (.ref C) "__ne__" = some (some (.builtin "object.__ne__"))
  ob : PySem.W.mroIn K C (.type "object") = some true
  nf : PySem.W.notFirst K C (.ref C) = true
section
variable {p l : Addr} {cells : List Int} {σ : L2.St} {H : Hp}
/-- one of some things, one of which is drawn -/
theorem w_pickD {i : Nat} {tr : TA} {R : List Int → Prop} (hi : σ[i]? = some (some (.ref p)))
    (hr : ∀ m H1, Keep p H H1 → PenAt H1 p l cells m → m + 1 ≤ 50000 → ∀ Q : List V → Hp → Prop, (∀ ns H2, R ns → PenAt H2 p l cells (m + 1) → Keep p H1 H2 → Q (vI ns) H2) → tr σ H1 Q) (hR : ∀ ns, R ns → 0 < ns.length ∧ ns.length ≤ 1000) (h63 : cells.length ≤ 63) :
    EvW p l cells 2 (tCall spPick [] E0 (tCons (tVar i) (tCons (tLst tr) tNil))) σ H (fun v => ∃ x ns, v = .int x ∧ R ns ∧ x ∈ ns) := fun m H1 kp hP hm Q q =>
  ⟨_, hi, hr m H1 kp hP (by omega) _ fun ns H2 rn hP2 k2 => ⟨by rw [vI_len]; exact sz_of (by have := (hR ns rn).2; omega), fun a ha => by
    have e3 := Ex.new (H := H2) (o := .lst (vI ns)) ha
    have hap : a ≠ p := by
      obtain ⟨k, r, hp, _⟩ := hP2
      intro z
      rw [z, hp] at ha
      cases ha
    refine ⟨p, l, a, cells, m + 1, vI ns, rfl, hP2.mono e3 (Nat.le_refl _), by omega, h63, upd_same, hap, by rw [vI_len]; exact (hR ns rn).1, by rw [vI_len]; have := (hR ns rn).2; omega, fun j x H3 hx hP3 k3 => ?_⟩
    have hj : j < ns.length := by
      have := (List.getElem?_eq_some_iff.mp hx).1
      rwa [vI_len] at this
    rw [vI_get hj] at hx
    obtain rfl := Option.some.inj hx
    refine q _ H3 ⟨_, ns, rfl, rn, ?_⟩ hP3 ((k2.trans (Keep.of_ex e3)).trans k3)
    unfold at'
    rw [List.getD_eq_getElem?_getD, List.getElem?_eq_getElem hj]
    exact List.getElem_mem hj⟩⟩
theorem c_i {x : V} {Q : VK} (h : Q x H) : tC x σ H Q := h
theorem q_par {ta : TA} {i j : Nat} {tz : TS} {D : Ends} (h : ta σ H fun vs H1 => ∃ u v, vs = [u, v] ∧ tz D ((σ.set i (some u)).set j (some v)) H1) : tSeq (tPar i j ta) tz D σ H := h
theorem q_par3 {ta : TA} {i j n : Nat} {tz : TS} {D : Ends} (h : ta σ H fun vs H1 => ∃ u v w, vs = [u, v, w] ∧ tz D (((σ.set i (some u)).set j (some v)).set n (some w)) H1) : tSeq (tPar3 i j n ta) tz D σ H := h
theorem etu_tuple {K : PySem.W.Frag} {te : TE} {xs : List V} (h : EvL te σ H xs) : EvTu K (tThen te (kTup K)) σ H xs := fun H1 e Q q =>
  h H1 e _ fun p H2 _ e2 h2 => .inl ⟨p, xs, rfl, sq_of h2, fun r hr => q r _ (e2.trans (Ex.new hr)) (st_of upd_same)⟩
end
end K05
/-! a static method called off its class -/
namespace StM
open PySem PySem.Spec PyProof.Rows L2 ClX
/-- C.m is a staticmethod: its record at p, its def at g -/
structure SMet (K : PySem.W.Frag) (C : Addr) (mc : Value) (m : Str) (p g : Addr) : Prop where
  at_ : PySem.W.findCls K (.ref C) mc m = some (.get (.builtin "staticmethod.__get__") (.ref p) .none (.ref C))
  rc : ∃ rest, PySem.W.recIn K p "staticmethod" = some (.ref g :: rest)
  kp : PySem.W.keepIn K (.ref g) = true
/-- e.m(..), e the class at C -/
def tSMeth (C : Addr) (sp : Sp) (E : XK) (ta : TE) (t : TA) : TE := fun σ H Q => ta σ H fun x H1 => x = .ref C ∧ t σ H1 fun vs H2 => sp vs H2 Q E
section
variable {X : Cx} {CX : CXT} {k : Nat} {C p g : Addr} {mc : Value} {sp : Sp} {E : XK} {o e : Expr} {es : List Expr} {m : Str} {pos apos : Pos} {ta : TE} {t : TA} {pl : Sem Bool}
theorem pe_smeth (he : PE X o ta) (r : CRead X.K C mc) (c : SMet X.K C mc m p g) (F : FnR X.prog X.w X.K X.mg X.base CX k g sp) (hr : Room k X.A) (hx : Passes CX X E) (ha : PA X (e :: es) t)
    (hst : starEach (e :: es) X.env = (false, eval e X.env) :: starEach es X.env := by rfl) (hpl : (backTo pos (starEach es X.env)).any (·.1) = false := by rfl)
    (ht : eval (.Call (.Attribute o m apos) (e :: es) [] pos) X.env = (do
      let ov ← eval o X.env
      standAt apos.atName
      let (f, first) ← holding [ov] (getMethod ov m pl)
      callWith pos f first (backTo pos (starEach (e :: es) X.env)) (backToKw pos (keywordEach [] X.env))) := by rfl) :
    PE X (.Call (.Attribute o m apos) (e :: es) [] pos) (tSMeth C sp E ta t) := by
  refine ⟨fun pins s σ H Q I h => ?_⟩
  refine PySem.W.methodCall_KW (pl := pl) (thn (he.run pins s σ H _ I h) fun u s1 ⟨x, H1, I1, rx, ex, q⟩ => ?_) ht
  subst ex
  obtain rfl : u = Value.ref C := rx
  obtain ⟨rest, hp⟩ := c.rc
  refine PySem.W.method_cls I1.kIn r.ga (PySem.W.cls_bind I1.kIn r.rd c.at_ ?_)
  refine wpAny_call (PySem.W.sm_get (s := { s1 with toks := s1.toks + 1 }) I1.kIn hp (PySem.W.handed_on rfl ?_))
  have I2 : Inv X pins σ H1 { s1 with toks := s1.toks + 1 } := I1.tok _
  refine PySem.W.callWith_K (h₀ := X.base) I2.ok.mod.kin c.kp (thn (ha.run pos pins _ σ H1 _ I2 q) fun us s3 ⟨vs, H2, I3, rv, q2⟩ => ⟨I3.kIn, ?_⟩) hst hpl
  exact wpAny_call (run_fnR (us := us) (vs := vs) F hr hx I3 rv q2)
end
end StM
namespace K05
open PySem L2 Evl Gr ClX OpX StX OwX StM
/-! ### growths as they are, old or new -/
/-- gives a growth of these values -/
def EvR (K : PySem.W.Frag) (C : Addr) (te : TE) (σ : L2.St) (H : Hp) (f : Nat → Int) : Prop := ∀ H1, Ex H H1 → ∀ Q : VK, (∀ o H2, Ex H1 H2 → GrF K C H2 o f → Q (.ref o) H2) → te σ H1 Q
section
variable {K : PySem.W.Frag} {C : Addr} {σ : L2.St} {H H' : Hp} {te : TE} {f g : Nat → Int}
theorem EvG.any (h : EvG K C te σ H f) : EvR K C te σ H f := fun H1 e Q q => h H1 e Q fun o H2 _ e2 gr => q o H2 e2 gr
theorem er_var {i : Nat} {o : Addr} (h0 : σ[i]? = some (some (.ref o))) (h : GrF K C H o f) : EvR K C (tVar i) σ H f := fun H1 e Q q => ⟨_, h0, q o H1 (Ex.refl H1) (h.mono e)⟩
theorem EvR.mono (h : EvR K C te σ H f) (e : Ex H H') : EvR K C te σ H' f := fun H1 e1 => h H1 (e.trans e1)
theorem EvR.is (h : EvR K C te σ H f) (e : ∀ n, f n = g n) : EvR K C te σ H g := (funext e : f = g) ▸ h
theorem GrF.is {o : Addr} (h : GrF K C H o f) (e : ∀ n, f n = g n) : GrF K C H o g := (funext e : f = g) ▸ h
theorem GrF.ins {o : Addr} (h : GrF K C H o f) : ∃ dx p q r, H o = some (.ins C dx [("told", .ref p), ("gains", .ref q), ("rises", .ref r)]) := by
  obtain ⟨t, g, ⟨dx, p, q, r, h1, _⟩, _⟩ := h
  exact ⟨dx, p, q, r, h1⟩
end
section
variable {X : Cx} {C : Addr} {σ : L2.St} {H : Hp} {ta tb : TE} {f g : Nat → Int}
theorem er_add {l : Nat} (ha : EvR X.K C ta σ H f) (hb : EvR X.K C tb σ H g) (l0 : 0 < l) (l1 : l ≤ 2000) (d1 : PerT f l) (d2 : PerT g l) (tl : Tail (fun n => f n + g n) 4000000000000000) (nn : ∀ n, 0 ≤ f n + g n) :
    EvR X.K C (tOp (rS X C (spAdd X.K C) E0) ta tb) σ H (fun n => f n + g n) := fun H1 e Q q =>
  ha H1 e _ fun o H2 e2 go => hb H2 (e.trans e2) _ fun u H3 e3 gu => ⟨o, u, rfl, rfl, gr_ins (go.mono e3), gr_ins gu, o, u, f, g, l, rfl, go.mono e3, gu, l0, l1, d1, d2, tl, nn, fun a H4 _ e4 gr => q a H4 ((e2.trans e3).trans e4) gr⟩
theorem er_rmul {k : Nat} (ha : Ev ta σ H (.int (k : Int))) (hb : EvR X.K C tb σ H f) (hk : k ≤ 1000000) (tl : Tail (fun n => (k : Int) * f n) 4000000000000000) : EvR X.K C (tOp (rR X C (spMul X.K C) E0) ta tb) σ H (fun n => (k : Int) * f n) := fun H1 e Q q =>
  ha H1 e _ fun H2 e2 => hb H2 (e.trans e2) _ fun u H3 e3 gu => ⟨u, (k : Int), rfl, rfl, gr_ins gu, u, k, f, rfl, gu, hk, tl, fun a H4 _ e4 gr => q a H4 ((e2.trans e3).trans e4) gr⟩
theorem er_mul {k : Nat} (ha : EvR X.K C ta σ H f) (hb : Ev tb σ H (.int (k : Int))) (hk : k ≤ 1000000) (tl : Tail (fun n => (k : Int) * f n) 4000000000000000) : EvR X.K C (tOp (OpX.rI X C (spMul X.K C) E0) ta tb) σ H (fun n => (k : Int) * f n) := fun H1 e Q q =>
  ha H1 e _ fun o H2 e2 go => hb H2 (e.trans e2) _ fun H3 e3 => ⟨o, (k : Int), rfl, rfl, gr_ins (go.mono e3), o, k, f, rfl, go.mono e3, hk, tl, fun a H4 _ e4 gr => q a H4 ((e2.trans e3).trans e4) gr⟩
/-- two of the same values are not unlike -/
theorem ev_neR (ha : EvR X.K C ta σ H f) (hb : EvR X.K C tb σ H f) (_n1 : PySem.W.notFirst X.K C (.ref C) = true) : Ev (tOp (rNeO X C (spGEq X.K C) E0) ta tb) σ H (.bl false) := fun H1 e Q q =>
  ha H1 e _ fun o H2 e2 go => hb H2 (e.trans e2) _ fun u H3 e3 gu => ⟨o, u, rfl, rfl, gr_ins (go.mono e3), gr_ins gu, o, u, f, f, rfl, go.mono e3, gu, fun b hb => by
    obtain rfl : b = true := hb.mpr fun _ => rfl
    exact fun H4 e4 => ⟨true, rfl, q H4 ((e2.trans e3).trans e4)⟩⟩
theorem ev_eqR (ha : EvR X.K C ta σ H f) (hb : EvR X.K C tb σ H f) (n1 : PySem.W.notFirst X.K C (.ref C) = true) : Ev (tOp (rEqO X C (spGEq X.K C) E0) ta tb) σ H (.bl true) := fun H1 e Q q =>
  ha H1 e _ fun o H2 e2 go => hb H2 (e.trans e2) _ fun u H3 e3 gu => ⟨o, u, C, rfl, rfl, gr_ins (go.mono e3), gr_ins gu, n1, o, u, f, f, rfl, go.mono e3, gu, fun b hb => by
    obtain rfl : b = true := hb.mpr fun _ => rfl
    exact fun H4 e4 => q H4 ((e2.trans e3).trans e4)⟩
theorem ev_callG {n : Nat} (ha : EvR X.K C ta σ H f) (hn : Ev tb σ H (.int (n : Int))) (h : (n : Int) ≤ 10 ^ 40) : Ev (tCallO X C (spGCall X.K C) E0 ta (tCons tb tNil)) σ H (.int (f n)) := fun H1 e Q q =>
  ha H1 e _ fun o H2 e2 go => ⟨o, rfl, hn H2 (e.trans e2) _ fun H3 e3 => ⟨gr_ins (go.mono e3), o, n, f, rfl, go.mono e3, h, fun H4 e4 => q H4 ((e2.trans e3).trans e4)⟩⟩
/-- the text of a growth is that of its normal form -/
theorem ev_strR {t' g' : List Int} (ha : EvR X.K C ta σ H f) (nf : NF t' g') (hv : ∀ n, val t' g' n = f n) (bd : ∀ i, i < t'.length → f i < 10 ^ 60) :
    Ev (tCB (fun xs H Q => ∃ a, xs = [V.ref a] ∧ InsC X H a C ∧ spStr X.K C [.ref a] H (fun v H' => ∃ y, v = .str y ∧ Q v H') E0) (tCons ta tNil)) σ H (.str (strG t' g')) := fun H1 e Q q =>
  ha H1 e _ fun o H2 e2 go => by
    obtain ⟨t, g, hG, pt, v⟩ := go
    have nf2 : NF t g := let ⟨_, _, _, _, _, _, _, _, z, _⟩ := hG; z
    obtain ⟨rfl, rfl⟩ := nf_one nf2 nf fun n => by rw [v, hv]
    exact ⟨o, rfl, gr_ins ⟨_, _, hG, pt, v⟩, o, _, _, rfl, hG, pt, fun i hi => by
      have := bd i hi
      rw [← v, val_lt hi] at this
      exact this, fun H3 e3 => ⟨_, rfl, q H3 (e2.trans e3)⟩⟩
end
section
variable {K : PySem.W.Frag} {C : Addr} {σ : L2.St} {H : Hp} {ta tb : TE} {tk : TA} {f g : Nat → Int}
theorem er_shift {m : Nat} (ha : EvR K C ta σ H f) (hb : Ev tb σ H (.int (m : Int))) (hm : m ≤ 2000) : EvR K C (tMeth C "shifted" (spGShift K C) [] E0 ta (tCons tb tNil)) σ H (fun n => f (n + m)) := fun H1 e Q q =>
  ha H1 e _ fun o H2 e2 go => by
    obtain ⟨dx, p, q', r, h1⟩ := go.ins
    exact ⟨o, dx, _, rfl, h1, rfl, hb H2 (e.trans e2) _ fun H3 e3 => ⟨o, m, f, rfl, go.mono e3, hm, fun a H4 _ e4 gr => q a H4 ((e2.trans e3).trans e4) gr⟩⟩
theorem er_shiftK {m : Nat} (ha : EvR K C ta σ H f) (hb : EvA tk σ H [.int (m : Int)]) (hm : m ≤ 2000) :
    EvR K C (fun σ H Q => ta σ H fun x H1 => ∃ a dx fs, x = .ref a ∧ H1 a = some (.ins C dx fs) ∧ fs.lookup ("shifted" : Str) = none ∧ tk σ H1 fun zs H2 => zs.length = (["k"] : List Str).length ∧ spGShift K C ((fun vs zs => vs ++ zs) [V.ref a] zs) H2 Q E0) σ H (fun n => f (n + m)) := fun H1 e Q q =>
  ha H1 e _ fun o H2 e2 go => by
    obtain ⟨dx, p, q', r, h1⟩ := go.ins
    exact ⟨o, dx, _, rfl, h1, rfl, hb H2 (e.trans e2) _ fun H3 e3 => ⟨rfl, o, m, f, rfl, go.mono e3, hm, fun a H4 _ e4 gr => q a H4 ((e2.trans e3).trans e4) gr⟩⟩
theorem etu_first {n : Nat} (ha : EvR K C ta σ H f) (hb : Ev tb σ H (.int (n : Int))) (hn : n ≤ 2000) : EvTu K (tMeth C "first" (spGFirst K C) [] E0 ta (tCons tb tNil)) σ H (vI (pT f n)) := fun H1 e Q q =>
  ha H1 e _ fun o H2 e2 go => by
    obtain ⟨dx, p, q', r, h1⟩ := go.ins
    exact ⟨o, dx, _, rfl, h1, rfl, hb H2 (e.trans e2) _ fun H3 e3 => ⟨o, n, f, rfl, go.mono e3, hn, fun a H4 e4 h => q a H4 ((e2.trans e3).trans e4) h⟩⟩
/-- a growth made of the parts of one -/
theorem ep_parts {o : Addr} {i : Nat} (G : GCls K C) (h0 : σ[i]? = some (some (.ref o))) {t g : List Int} (h : GrAt K C H o t g) : EvP K (tCons (tFld K (tVar i) "told") (tCons (tFld K (tVar i) "gains") tNil)) σ H t g := by
  obtain ⟨dx, p, q, r, h1, h2, h3, _⟩ := h
  exact EvP.pair (ev_fld (ev_var h0) h1 G.cls G.told rfl) (ev_fld (ev_var h0) h1 G.cls G.gains rfl) (.inr h2) (.inr h3)
theorem er_again {o : Addr} {i : Nat} (G : GCls K C) (h0 : σ[i]? = some (some (.ref o))) (h : GrF K C H o f) :
    EvR K C (tMake C (spInit K C) [] E0 (tCons (tFld K (tVar i) "told") (tCons (tFld K (tVar i) "gains") tNil))) σ H f := by
  obtain ⟨t, g, hG, pt, v⟩ := h
  have hG' := hG
  obtain ⟨_, _, _, _, _, _, _, _, nf, t2, g2, sm⟩ := hG'
  exact (eg_make (ep_parts G h0 hG) nf.told t2 nf.gains g2 pt sm v).any
/-- a growth made of plain parts -/
theorem er_plain {a : Addr} {i : Nat} {t g : List Int} (h0 : σ[i]? = some (some (.ref a))) (h : Pl K H a t g) : EvG K C (tMake C (spInit K C) [] E0 (tCons (tOp (rIx K) (tVar i) (tC (.int 0))) (tCons (tOp (rIx K) (tVar i) (tC (.int 1))) tNil))) σ H (val t g) := by
  obtain ⟨p, q, h1, h2, h3, t0, t1, g0, g1, pt, sm⟩ := h
  exact eg_make (EvP.pair (ev_op (ev_var h0) ev_c (rv_ix (.inr h1) rfl)) (ev_op (ev_var h0) ev_c (rv_ix (.inr h1) rfl)) (.inl h2) (.inl h3)) t0 t1 g0 g1 pt sm fun _ => rfl
/-- two tuples of the same ints -/
theorem ev_eqTu {xs : List Int} (ha : EvTu K ta σ H (vI xs)) (hb : EvTu K tb σ H (vI xs)) : Ev (tOp (rEqD K) ta tb) σ H (.bl true) := fun H1 e Q q =>
  ha H1 e _ fun p H2 e2 hp => hb H2 (e.trans e2) _ fun r H3 e3 hr => ⟨.tuple (xs.map PyData.int), .tuple (xs.map PyData.int), .tup (ex_t e3 hp) (dpAll_ints xs), .tup hr (dpAll_ints xs), shaped_tup xs, shaped_tup xs, by
    have e2' : PyData.eqv (.tuple (xs.map PyData.int)) (.tuple (xs.map PyData.int)) = true := by
      have := eqv_ints xs xs
      rw [decide_eq_true rfl] at this
      simpa [PyData.eqv] using this
    rw [e2']
    exact q H3 (e2.trans e3)⟩
/-- two lists of the same ints -/
theorem ev_neLs {xs : List Int} (ha : EvL ta σ H (vI xs)) (hb : EvL tb σ H (vI xs)) : Ev (tOp (rNeD K) ta tb) σ H (.bl false) := fun H1 e Q q =>
  ha H1 e _ fun p H2 _ e2 hp => hb H2 (e.trans e2) _ fun r H3 _ e3 hr => ⟨.list (xs.map PyData.int), .list (xs.map PyData.int), .lst (sq_of (e3 _ _ hp)) (dpAll_ints xs), .lst (sq_of hr) (dpAll_ints xs), shaped_ints xs, shaped_ints xs, by
    have e2' : PyData.eqv (.list (xs.map PyData.int)) (.list (xs.map PyData.int)) = true := by
      have := eqv_ints xs xs
      rw [decide_eq_true rfl] at this
      simpa [PyData.eqv] using this
    rw [e2']
    exact q H3 (e2.trans e3)⟩
end
/-! ### what stands while the pen moves -/
section
variable {K : PySem.W.Frag} {C : Addr} {H H' : Hp} {p l : Addr} {cells : List Int} {m : Nat}
theorem sqt_keep {q : Addr} {xs : List V} (hP : PenAt H p l cells m) (kp : Keep p H H') (h : SqT K H q xs) : SqT K H' q xs := by
  obtain ⟨_, _, hp, _⟩ := hP
  rcases h with (h | ⟨o, h⟩) | h
  · exact .inl (.inl (kp _ _ h fun z => by rw [z, hp] at h; cases h))
  · exact .inl (.inr ⟨o, kp _ _ h fun z => by rw [z, hp] at h; cases h⟩)
  · exact .inr h
theorem sql_keep {q : Addr} {xs : List Int} (hP : PenAt H p l cells m) (kp : Keep p H H') (h : SqL K H q (vI xs)) : SqL K H' q (vI xs) := by
  obtain ⟨_, _, hp, _⟩ := hP
  have no : ∀ {k r : Int}, ¬ [V.ref l, V.int k, V.int r] = vI xs := fun e => by
    cases xs with
    | nil => cases e
    | cons x xs => cases e
  rcases h with (h | ⟨o, h⟩) | h
  · exact .inl (.inl (kp _ _ h fun z => by rw [z, hp] at h; exact no (HO.lst.inj (Option.some.inj h))))
  · exact .inl (.inr ⟨o, kp _ _ h fun z => by rw [z, hp] at h; cases h⟩)
  · exact .inr h
theorem Pl.keep {a : Addr} {t g : List Int} (hP : PenAt H p l cells m) (kp : Keep p H H') (h : Pl K H a t g) : Pl K H' a t g := by
  obtain ⟨x, y, h1, h2, h3, h4⟩ := h
  exact ⟨x, y, sqt_keep hP kp h1, sql_keep hP kp h2, sql_keep hP kp h3, h4⟩
theorem GrF.keep {o : Addr} {f : Nat → Int} (hP : PenAt H p l cells m) (kp : Keep p H H') (h : GrF K C H o f) : GrF K C H' o f := by
  obtain ⟨t, g, ⟨dx, x, y, z, h1, h2, h3, h4, h5⟩, h6⟩ := h
  refine ⟨t, g, ⟨dx, x, y, z, kp _ _ h1 fun e => ?_, sqt_keep hP kp h2, sqt_keep hP kp h3, sqt_keep hP kp h4, h5⟩, h6⟩
  obtain ⟨_, _, hp, _⟩ := hP
  rw [e, hp] at h1
  cases h1
end
section
variable {K : PySem.W.Frag}
/-- plain parts as they are drawn -/
def PlB (K : PySem.W.Frag) (H : Hp) (a : Addr) (t g : List Int) : Prop := Pl K H a t g ∧ g.length ≤ 4 ∧ (∀ i, i < g.length → at' g i ≤ 1000000) ∧ ∀ i, i < t.length → at' t i ≤ 5000000000
structure Drawn (f : Nat → Int) : Prop where
  per : PerT f 12
  tail : Tail f 1000000
  pos : ∀ n, 0 ≤ f n
  le : ∀ n : Nat, f n ≤ 5000000000 + (n : Int) * 1000000
theorem PlB.drawn {H : Hp} {a : Addr} {t g : List Int} (h : PlB K H a t g) : Drawn (val t g) := by
  obtain ⟨⟨p, q, h1, h2, h3, t0, t1, g0, g1, pt, sm⟩, g4, bg, bt⟩ := h
  exact ⟨perT_val t0 (dvd12 g0 g4), tail_val t0 g0 fun i hi => ⟨(sm i hi).1, bg i hi⟩, val_nonneg pt t0 g0 sm, val_le t0 g0 (by decide) bt bg⟩
end
section
variable {K : PySem.W.Frag} {C : Addr} {σ : L2.St} {H : Hp} {te : TE} {ta : TA} {f : Nat → Int}
theorem er_of {o : Addr} (h : Ev te σ H (.ref o)) (g : GrF K C H o f) : EvR K C te σ H f := fun H1 e Q q => h H1 e _ fun H2 e2 => q o H2 e2 (g.mono (e.trans e2))
theorem er_const {x : Nat} : EvR K C (tSMeth C (spConst K C) E0 (tC (.ref C)) (tCons (tC (.int (x : Int))) tNil)) σ H (fun _ => (x : Int)) := fun H1 e Q q =>
  ⟨rfl, x, rfl, fun a H3 _ e4 gr => q a H3 e4 gr⟩
theorem gr_updL {o Dl : Addr} {xs : List V} {u : HO} (h : GrF K C H o f) (hD : H Dl = some (.lst xs)) : GrF K C (L2.upd H Dl u) o f := by
  obtain ⟨t, g, ⟨dx, x, y, z, h1, h2, h3, h4, h5⟩, h6⟩ := h
  have tup : ∀ {q : Addr} {ys : List V}, SqT K H q ys → SqT K (L2.upd H Dl u) q ys := fun {q ys} s => by
    rcases s with (s | ⟨w, s⟩) | s
    · exact .inl (.inl (by rw [upd_ne (fun e => by rw [e, hD] at s; cases s)]; exact s))
    · exact .inl (.inr ⟨w, by rw [upd_ne (fun e => by rw [e, hD] at s; cases s)]; exact s⟩)
    · exact .inr s
  exact ⟨t, g, ⟨dx, x, y, z, by rw [upd_ne (fun e => by rw [e, hD] at h1; cases h1)]; exact h1, tup h2, tup h3, tup h4, h5⟩, h6⟩
end
theorem PlB.keep {K : PySem.W.Frag} {H H' : Hp} {p l a : Addr} {cells : List Int} {m : Nat} {t g : List Int} (h : PlB K H a t g) (hP : PenAt H p l cells m) (kp : Keep p H H') : PlB K H' a t g := ⟨Pl.keep hP kp h.1, h.2⟩
theorem yes_i {σ : L2.St} {H : Hp} {A B : Hp → Prop} (h : A H) : tYes σ H (fun b H3 => if b = true then A H3 else B H3) := iteT (A := A H) (B := B H) h
end K05
namespace K05
open PySem L2 Evl Gr ClX
/-- one, and nought behind it -/
def stp (n : Nat) : List Int := (List.range n).map fun i => if i = 0 then 1 else 0
theorem stp_len {n : Nat} : (stp n).length = n := by unfold stp; rw [List.length_map, List.length_range]
section
variable {K : PySem.W.Frag} {σ : L2.St} {H : Hp}
theorem EvP.tupL {te tb : TE} {x : Int} {g : List Int} (h : Ev te σ H (.int x)) (h' : ∀ H1, Ex H H1 → EvL tb σ H1 (vI g)) : EvP K (tCons (tTup (tCons te tNil)) (tCons tb tNil)) σ H [x] g := fun H1 e Q q =>
  eu_tup (σ := σ) (H := H) (ea_cons h ea_nil) (Nat.le_of_ble_eq_true rfl) H1 e _ fun p H2 _ e2 h2 => h' H2 (e.trans e2) H2 (Ex.refl H2) _ fun r H3 _ e3 h3 =>
    q p r H3 (e2.trans e3) (.inr (st_of (e3 _ _ h2))) (.inl (sq_of h3))
end
section
variable {P : Program} {w : World} {K : PySem.W.Frag} {mg : Str → Option Value} {base : Heap}
/-! ### Growth.steps -/
def spSteps (K : PySem.W.Frag) (C : Addr) : Sp := fun vs H Q _ => ∃ m : Nat, vs = [.int (m : Int)] ∧ 0 < m ∧ m ≤ 2000 ∧ RetG K C (val [0] (stp m)) H Q
theorem scSteps : FnScope ["many", "at"] ["many"] (defScope (sGr 19)) := ⟨rfl, rfl, rfl, by decide +kernel, rfl, by decide +kernel, by decide +kernel⟩
theorem ok_Steps {C f fI fZ : Addr} {mc : Value} {fd fdI fdZ : FuncData} (F : Fun K "steps" "Growth.steps" (sGr 19) f fd) (range : mg "range" = none) (N : GName K mg C mc) (M : Mk K C fI)
    (GI : FnOk P w K mg base CX0 4 fI fdI ["self", "told", "gains"] (spInit K C)) (bI : Binds K fdI ["self", "told", "gains"] [])
    (GZ : FnOk P w K mg base CX0 1 fZ fdZ ["value"] (spIsInt K)) (kZ : PySem.W.keepIn K (.ref fZ) = true) (bZ : Binds K fdZ ["value"] []) (gZ : mg "is_integer" = some (.ref fZ)) :
    FnOk P w K mg base CX0 6 f fd ["many"] (spSteps K C) := by
  obtain ⟨mu, cm⟩ := N.most
  refine F.ok scSteps (fun vs H Q E h => ?_) (fun cdv A outer s H vs Q E hr h => ?_)
  · obtain ⟨x, rfl, _⟩ := h
    rfl
  · obtain ⟨m, rfl, m0, m1, k⟩ := h
    refine ⟨_, pss_cons (ps_if (PW.pt (pw_or (pt_not (pt_val (pe_call GZ (hr.mono (by decide)) (by rfl) gZ kZ bZ .nil pass0 (pa_cons (pv 0) pa_nil)))) (pw_or1 (pt_not (pt_chain op_le op_le pe_int (pv 0) (pe_cval (pe_glob (v := .ref C) rfl N.g rfl))))))) (pss_one ps_no) pss_nil)
      (pss_one (ps_ret (pe_make M GI hr (by rfl) N.g bI .nil pass0 (pa_cons (pe_tup (pa_cons pe_int pa_nil)) (pa_cons (pe_lc (own := [("at", 1)]) (g := gName 1) rfl scSteps.nd (pi_range1 (by rfl) range (pa_cons (pv 0) pa_nil)) (blkOk_by (own := [("at", 1)]) (N := ["many", "at"]) (sc := defScope (sGr 19)) (by decide +kernel))
        (fun _ _ _ _ _ => pg_name (i := 1) scSteps.nd rfl (Or.inl rfl)) (fun _ _ _ _ _ => pts_nil) (fun _ _ _ _ _ => pe_ifExp (pt_cmpR op_eq (pv 1) pe_int (nomark _)) pe_int pe_int)) pa_nil))))), ?_⟩
    refine q_when (b := false) (et_is (et_or (et_not (et_B (ev_call (z := .bl true) (ea_cons (ev_var rfl) ea_nil) (spv_isInt (.base (.int _)) kit_int_int kit_int_bool)))) (fun _ => et_not (et_test (ev_chain ev_c (ev_var rfl) (ev_cval ev_c N.rd cm))))) (by
      rw [decide_eq_true (by omega : (1 : Int) ≤ (m : Int)), decide_eq_true (by omega : (m : Int) ≤ 2000)]
      rfl)) (fun hb => absurd hb (by decide)) (fun _ H1 e1 => ?_)
    have c1 : ∀ H2, Ex H1 H2 → EvL (tLc (iRng1 (tCons (tVar 0) tNil)) (gName 1) tYes (tIf (tTest (tOp rEq (tVar 1) (tC (.int 0)))) (tC (.int 1)) (tC (.int 0))) [1]) [some (.int (m : Int)), none] H2 (vI (stp m)) := fun H2 _ => by
      have z := el_lcR1 (σ := [some (.int (m : Int)), none]) (H := H2) (t := tYes) (te := tIf (tTest (tOp rEq (tVar 1) (tC (.int 0)))) (tC (.int 1)) (tC (.int 0))) (ta := tCons (tVar 0) tNil) (j := 1) (vs := [1]) (n := (m : Int)) (fun _ => true) (fun i => V.int (if i = 0 then 1 else 0))
        (ea_cons (ev_var rfl) ea_nil) (by omega) (fun _ => rfl) (fun i H1 _ _ => et_none) (fun i H3 _ _ _ => by
          by_cases h : i = 0
          · subst h
            exact ev_if (b := true) (et_is (et_test (ev_op (ev_var rfl) ev_c (rv_eq rfl))) (by rw [vint_inj]; rfl)) (fun _ => ev_c) (fun hb => absurd hb (by decide))
          · rw [if_neg h]
            exact ev_if (b := false) (et_is (et_test (ev_op (ev_var rfl) ev_c (rv_eq rfl))) (by rw [vint_inj, decide_eq_false (by omega)])) (fun hb => absurd hb (by decide)) (fun _ => ev_c))
      rw [given_all, Int.toNat_natCast] at z
      have e : vI (stp m) = (List.range m).map fun i => V.int (if i = 0 then 1 else 0) := by
        unfold vI stp
        rw [List.map_map]
        rfl
      rw [e]
      exact z
    refine eg_make (K := K) (C := C) (σ := [some (.int (m : Int)), none]) (H := H1) (t := [0]) (g := stp m) (f := val [0] (stp m)) (EvP.tupL ev_c c1) Nat.one_pos (Nat.le_of_ble_eq_true rfl) (by rw [stp_len]; exact m0) (by rw [stp_len]; exact m1)
      (fun i hi => by
        have z : i = 0 := by
          have : i < 1 := hi
          omega
        subst z
        exact Int.le_refl 0) (fun i hi => by
        rw [stp_len] at hi
        have e : at' (stp m) i = if i = 0 then 1 else 0 := at_map_range hi
        rw [e]
        by_cases h : i = 0
        · rw [if_pos h]; decide
        · rw [if_neg h]; decide) (fun n => rfl) H1 (Ex.refl H1) _ fun o H2 ho e2 gr => k o H2 (fresh_back e1 ho) (e1.trans e2) gr
end
end K05
namespace K05
open PySem L2 Evl Gr ClX OpX StX OwX StM
theorem tup_i {t : TA} {σ : L2.St} {H : Hp} {Q : VK} (h : t σ H fun xs H1 => xs.length ≤ sizeLine ∧ ∀ l, H1 l = none → Q (.ref l) (upd H1 l (.tup xs))) : tTup t σ H Q := h
theorem call_i {sp : Sp} {dvs : List V} {E : XK} {ta : TA} {σ : L2.St} {H : Hp} {Q : VK} (h : ta σ H fun vs H1 => sp (vs ++ dvs) H1 Q E) : tCall sp dvs E ta σ H Q := h
theorem s_retR {te : TE} {σ : L2.St} {H : Hp} {D : Ends} (h : te σ H D.rt) : tRet te D σ H := h
theorem rc_gcd {a b : Nat} {H : Hp} : RC rGcd [.int (a : Int), .int (b : Int)] H (.int ((Nat.gcd a b : Nat) : Int)) := fun H1 _ Q q => ⟨_, _, rfl, by rw [Int.natAbs_natCast, Int.natAbs_natCast]; exact q H1 (Ex.refl H1)⟩
section
variable {P : Program} {w : World} {K : PySem.W.Frag} {mg : Str → Option Value} {base : Heap}
/-! ### composed_parts -/
abbrev sComp : Stmt := top 29
abbrev nComp : List Str := ["one", "other", "turns", "length", "values", "begin", "value"]
theorem scComp : FnScope nComp ["one", "other"] (defScope sComp) := ⟨rfl, rfl, rfl, by decide +kernel, rfl, by decide +kernel, by decide +kernel⟩
def spComp (K : PySem.W.Frag) (C : Addr) : Sp := fun vs H Q _ => ∃ (o u : Addr) (t g t' g' : List Int), vs = [.ref o, .ref u] ∧ GrAt K C H o t g ∧ GrAt K C H u t' g' ∧ Pos t' ∧ g'.length * g.length ≤ 2000 ∧ t'.length + t.length * g'.length ≤ 2000 ∧
  ∀ r p q ts gs H', Ex H H' → SqT K H' r [.ref p, .ref q] → Sq K H' p (vI ts) → Sq K H' q (vI gs) → 0 < ts.length → ts.length ≤ 2000 → 0 < gs.length → gs.length ≤ 2000 → (∀ n, val ts gs n = cmp (val t g) (val t' g') n) → Q (.ref r) H'
theorem ok_Comp {C f fV fF fP : Addr} {fd fdV fdF fdP : FuncData} (F : Fun K "composed_parts" "composed_parts" sComp f fd) (T : GlbS mg) (gcd_ : mg "gcd" = some (.builtin "math.gcd")) (most : ∃ t, mg "MOST_PARTS" = some (.int 2000 t)) (G : GCls K C)
    (GV : FnOk P w K mg base CX0 1 fV fdV ["one", "n"] (spVal K C)) (kV : PySem.W.keepIn K (.ref fV) = true) (bV : Binds K fdV ["one", "n"] []) (gV : mg "value_at" = some (.ref fV))
    (GF : FnOk P w K mg base CX0 1 fF fdF ["one", "many"] (spFirst K C)) (kF : PySem.W.keepIn K (.ref fF) = true) (bF : Binds K fdF ["one", "many"] []) (gF : mg "first_values" = some (.ref fF))
    (GP : FnOk P w K mg base CX0 1 fP fdP ["values", "many"] (spPart K)) (kP : PySem.W.keepIn K (.ref fP) = true) (bP : Binds K fdP ["values", "many"] []) (gP : mg "parted" = some (.ref fP)) :
    FnOk P w K mg base CX0 2 f fd ["one", "other"] (spComp K C) := by
  obtain ⟨mt, gm⟩ := most
  refine F.ok scComp (fun vs H Q E h => ?_) (fun cdv A outer s H vs Q E hr h => ?_)
  · obtain ⟨o, u, t, g, t', g', rfl, _⟩ := h
    rfl
  · obtain ⟨o, u, t, g, t', g', rfl, hO, hU, pt', few, near, k⟩ := h
    refine ⟨_, pss_cons (ps_if (pt_cmpR op_eq (pe_ix ix_seq (pe_fld (pv 1) rfl) (pe_un un_neg pe_int) (fun _ _ => rfl)) pe_int (nomark _))
        (pss_one (ps_ret (pe_tup (pa_cons (pe_lc (own := [("value", 6)]) (g := gName 6) rfl scComp.nd (pi_seq (pe_fld (pv 1) rfl)) (blkOk_by (own := [("value", 6)]) (N := nComp) (sc := defScope sComp) (by decide +kernel))
              (fun _ _ _ _ _ => pg_name (i := 6) scComp.nd rfl (Or.inl rfl)) (fun _ _ _ _ _ => pts_nil) (fun _ _ _ _ _ => pe_call GV hr (by rfl) gV kV bV .nil pass0 (pa_cons (pv 0) (pa_cons (pv 6) pa_nil))))
            (pa_cons (pe_tup (pa_cons pe_int pa_nil)) pa_nil))))) pss_nil)
      (pss_cons (ps_set (i := 2) scComp.nd rfl (.inl rfl) (pe_op op_fdiv (pe_callB call_len_seq (by rfl) T.len PySem.boot_len (pa_cons (pe_fld (pv 0) rfl) pa_nil)) (pe_callBfun cr_gcd (by rfl) gcd_ (pa_cons (pe_callB call_len_seq (by rfl) T.len PySem.boot_len (pa_cons (pe_fld (pv 0) rfl) pa_nil)) (pa_cons (pe_ix ix_seq (pe_fld (pv 1) rfl) (pe_un un_neg pe_int) (fun _ _ => rfl)) pa_nil)))))
      (pss_cons (ps_set (i := 3) scComp.nd rfl (.inl rfl) (pe_op op_mul (pe_callB call_len_seq (by rfl) T.len PySem.boot_len (pa_cons (pe_fld (pv 1) rfl) pa_nil)) (pv 2)))
      (pss_cons (ps_if (pt_cmpR op_gt (pv 3) (pe_glob (v := .int 2000) (by rfl) gm ⟨_, rfl⟩) (nomark _)) (pss_one ps_no) pss_nil)
      (pss_cons (ps_set (i := 4) scComp.nd rfl (.inl rfl) (pe_call GF hr (by rfl) gF kF bF .nil pass0 (pa_cons (pv 1) (pa_cons (pe_glob (v := .int 2000) (by rfl) gm ⟨_, rfl⟩) pa_nil))))
      (pss_cons (ps_set (i := 5) scComp.nd rfl (.inl rfl) (pe_callB call_len_seq (by rfl) T.len PySem.boot_len (pa_cons (pe_fld (pv 1) rfl) pa_nil)))
      (pss_cons (ps_while PassesOwn.never (PW.pt (pw_and (pt_cmpR op_le (pv 5) (pe_glob (v := .int 2000) (by rfl) gm ⟨_, rfl⟩) (nomark _)) (pw_and1 (pt_cmpR op_lt (pe_ix ix_list (pv 4) (pe_op op_sub (pv 5) pe_int) (fun _ _ => rfl)) (pe_op op_sub (pe_callB call_len_seq (by rfl) T.len PySem.boot_len (pa_cons (pe_fld (pv 0) rfl) pa_nil)) pe_int) (nomark _)))))
          (pss_one (ps_aug (i := 5) scComp.nd rfl (.inl rfl) pe_int ip_add)))
      (pss_cons (ps_if (pt_cmpR op_gt (pv 5) (pe_glob (v := .int 2000) (by rfl) gm ⟨_, rfl⟩) (nomark _)) (pss_one ps_no) pss_nil)
      (pss_one (ps_ret (pe_call GP hr (by rfl) gP kP bP .nil pass0 (pa_cons (pe_lc (own := [("value", 6)]) (g := gName 6) rfl scComp.nd (pi_list (pe_call GF hr (by rfl) gF kF bF .nil pass0 (pa_cons (pv 1) (pa_cons (pe_op op_add (pv 5) (pv 3)) pa_nil)))) (blkOk_by (own := [("value", 6)]) (N := nComp) (sc := defScope sComp) (by decide +kernel))
              (fun _ _ _ _ _ => pg_name (i := 6) scComp.nd rfl (Or.inl rfl)) (fun _ _ _ _ _ => pts_nil) (fun _ _ _ _ _ => pe_call GV hr (by rfl) gV kV bV .nil pass0 (pa_cons (pv 0) (pa_cons (pv 6) pa_nil)))) (pa_cons (pv 5) pa_nil)))))))))))), ?_⟩
    have hO0 := hO
    have hU0 := hU
    obtain ⟨dx, p, q, r, h1, h2, h3, h4, nf, t2, g2, sm⟩ := hO
    obtain ⟨dx', p', q', r', h1', h2', h3', h4', nf', t2', g2', sm'⟩ := hU
    have t0 := nf.told
    have g0 := nf.gains
    have t0' := nf'.told
    have g0' := nf'.gains
    have pos' := fun i hi => (sm' i hi).1
    obtain ⟨S, hS⟩ := Int.eq_ofNat_of_zero_le (acc_nn g0' pos' g'.length)
    have evS : ∀ {σ : L2.St} {H' : Hp}, σ[1]? = some (some (.ref u)) → Ex H H' → Ev (tOp (rIx K) (tFld K (tVar 1) "rises") (tUn (rU fun i => .int (-i)) (tC (.int 1)))) σ H' (.int (S : Int)) := fun {σ H'} h0 e => by
      refine ev_op (ev_fld (ev_var h0) (e _ _ h1') G.cls G.rises rfl) (ev_un ev_c ru_neg) (rv_ix (v := .int (S : Int)) (.inr (ex_t e h4')) ?_)
      have rl := ris_len (g := g')
      have z := atI_vlast (g := ris g') (by omega)
      rw [ris_at (by omega), show (ris g').length - 1 = g'.length by omega, hS] at z
      exact z
    have lenO : ∀ {σ : L2.St} {H' : Hp}, σ[0]? = some (some (.ref o)) → Ex H H' → Ev (tCB (fun xs H Q => ∃ p ys, xs = [V.ref p] ∧ (SqL K H p ys ∨ SqT K H p ys) ∧ Q (.int ys.length) H) (tCons (tFld K (tVar 0) "gains") tNil)) σ H' (.int (g.length : Int)) := fun h0 e => ev_lenF (ev_var h0) (e _ _ h1) G.cls G.gains rfl (ex_t e h3)
    have inner : ∀ {σ : L2.St} {H' : Hp} {x : Int}, σ[0]? = some (some (.ref o)) → σ[6]? = some (some (.int x)) → 0 ≤ x → Ex H H' → Ev (tCall (spVal K C) [] E0 (tCons (tVar 0) (tCons (tVar 6) tNil))) σ H' (.int (val t g x.toNat)) := fun {σ H' x} h0 h6 hx e H1 e1 Q1 q1 =>
      ⟨_, h0, _, h6, o, x.toNat, t, g, by rw [Int.toNat_of_nonneg hx]; rfl, hO0.mono (e.trans e1), q1⟩
    refine q_when (et_test (ev_op (evS rfl (Ex.refl H)) ev_c (rv_eq rfl))) (fun hb H1 e1 => ?_) (fun hb H1 e1 => ?_)
    · have z : S = 0 := by
        have := V.int.inj (of_decide_eq_true hb)
        omega
      subst z
      have L := el_lcQ (K := K) (σ := [some (.ref o), some (.ref u), none, none, none, none, none]) (H := H1) (te := tCall (spVal K C) [] E0 (tCons (tVar 0) (tCons (tVar 6) tNil))) (tl := tFld K (tVar 1) "told") (j := 6) (vs := [6]) (fun i => V.int (val t g (at' t' i).toNat))
        (ev_fld (ev_var rfl) (e1 _ _ h1') G.cls G.told rfl) (.inr (ex_t e1 h2')) (by rw [vI_len]; omega) (fun _ => rfl) (fun i x H2 e2 hx => by
          have hi : i < t'.length := by
            have := (List.getElem?_eq_some_iff.mp hx).1
            rwa [vI_len] at this
          rw [vI_get hi] at hx
          obtain rfl := Option.some.inj hx
          exact inner rfl rfl (pt' i hi) (e1.trans e2))
      have ee : (List.range (vI t').length).map (fun i => V.int (val t g (at' t' i).toNat)) = vI (t'.map fun v => val t g v.toNat) := by
        unfold vI
        rw [List.map_map]
        refine List.ext_getElem (by rw [List.length_map, List.length_range, List.length_map, List.length_map]) fun i a1 a2 => ?_
        rw [List.length_map] at a2
        rw [List.getElem_map, List.getElem_map, List.getElem_range]
        show V.int (val t g (at' t' i).toNat) = V.int (val t g (t'[i]).toNat)
        unfold at'
        rw [List.getD_eq_getElem?_getD, List.getElem?_eq_getElem a2]
        rfl
      rw [ee] at L
      refine s_retR (tup_i (cons_i (L H1 (Ex.refl H1) _ fun a H2 ha e2 ha2 => cons_i (tup_i (cons_i (c_i ⟨by show 1 ≤ sizeLine; decide, fun b hb => ⟨by show 2 ≤ sizeLine; decide, fun rr hr => ?_⟩⟩))))))
      have e3 := Ex.new (o := .tup [V.int 0]) hb
      have e4 := Ex.new (o := .tup [V.ref a, V.ref b]) hr
      exact k rr a b (t'.map fun v => val t g v.toNat) [0] _ ((e1.trans e2).trans (e3.trans e4)) (st_of upd_same) (.inl (sq_of (e4 _ _ (e3 _ _ ha2)))) (.inr (st_of (e4 _ _ upd_same))) (by rw [List.length_map]; exact t0') (by rw [List.length_map]; exact t2') (by decide) (by decide)
        (cmp_flat t0' g0' pos' (by rw [hS]; rfl))
    · have s1 : 0 < S := Nat.pos_of_ne_zero fun z => by
        subst z
        exact absurd (of_decide_eq_false hb) (fun h => h rfl)
      obtain ⟨T, hT⟩ : ∃ T, T = g.length / Nat.gcd g.length S := ⟨_, rfl⟩
      have gg := Nat.gcd_pos_of_pos_left S g0
      have gle : Nat.gcd g.length S ≤ g.length := Nat.le_of_dvd g0 (Nat.gcd_dvd_left _ _)
      have T0 : 0 < T := by rw [hT]; exact Nat.div_pos gle gg
      have Tle : T ≤ g.length := by rw [hT]; exact Nat.div_le_self _ _
      have M2 : g'.length * T ≤ 2000 := Nat.le_trans (Nat.mul_le_mul_left _ Tle) few
      have M0 : 0 < T * g'.length := Nat.mul_pos T0 g0'
      have M2' : T * g'.length ≤ 2000 := by rw [Nat.mul_comm]; exact M2
      have turn : (T : Int) * acc (dif g') g'.length = ((S / Nat.gcd g.length S * g.length : Nat) : Int) := by
        rw [hS, hT, ← gcd_turn g0]
        rfl
      refine q_asg (v := .int (T : Int)) (ev_is (ev_op (lenO rfl e1) (ev_cb (ea_cons (lenO rfl e1) (ea_cons (evS rfl e1) ea_nil)) rc_gcd) (rv_I ⟨by omega, by omega⟩)) (by rw [hT]; rfl)) fun H2 e2 => ?_
      have E2 := e1.trans e2
      refine q_asg (v := .int ((T * g'.length : Nat) : Int)) (ev_is (ev_op (ev_lenF (ev_var rfl) (E2 _ _ h1') G.cls G.gains rfl (ex_t E2 h3')) (ev_var rfl) (rv_I (.inl ⟨by omega, by omega⟩))) (by rw [Nat.mul_comm T]; rfl)) fun H3 e3 => ?_
      have E3 := E2.trans e3
      refine q_when (et_test (ev_op (ev_var rfl) ev_c rv_I0)) (fun ht H4 e4 => ?_) (fun _ H4 e4 => ?_)
      · have := of_decide_eq_true ht
        omega
      have E4 := E3.trans e4
      refine q_call (vs := [.ref u, .int ((2000 : Nat) : Int)]) (ea_cons (ev_var rfl) (ea_cons ev_c ea_nil)) fun H5 e5 => ⟨u, 2000, t', g', rfl, hU0.mono (E4.trans e5), by decide, fun vl H6 _ e6 hvl => ?_⟩
      have E6 := (E4.trans e5).trans e6
      refine q_asg (v := .int (t'.length : Int)) (ev_lenF (ev_var rfl) (E6 _ _ h1') G.cls G.told rfl (ex_t E6 h2')) fun H7 e7 => ?_
      have E7 := E6.trans e7
      have rc := reach t0' g0' pt' (by rw [hS]; omega) t.length
      refine q_while (fun m σ' H' => ∃ b : Nat, m = t'.length + t.length * g'.length - b ∧ t'.length ≤ b ∧ b ≤ t'.length + t.length * g'.length ∧ σ' = [some (.ref o), some (.ref u), some (.int (T : Int)), some (.int ((T * g'.length : Nat) : Int)), some (.ref vl), some (.int (b : Int)), none] ∧ Ex H7 H') _ ⟨t'.length, rfl, Nat.le_refl _, Nat.le_add_right _ _, rfl, Ex.refl H7⟩ ?_
      rintro m σ' H8 ⟨b, rfl, b1, b2, rfl, e8⟩
      have E8 := E7.trans e8
      have hvl8 : SqL K H8 vl (vI (pT (val t' g') 2000)) := sq_of ((e7.trans e8) _ _ hvl)
      refine ⟨decide ((b : Int) ≤ 2000) && decide (val t' g' (b - 1) < (t.length : Int) - 1), et_and (et_test (ev_op (ev_var rfl) ev_c rv_I0)) fun hbb => et_test (ev_op (x := .int (val t' g' (b - 1))) (ev_op (y := .int ((b - 1 : Nat) : Int)) (ev_var rfl) (ev_is (ev_op (ev_var rfl) ev_c rv_I0) (by congr 1; omega)) (rv_ixL hvl8 (atI_nat (by
          have := of_decide_eq_true hbb
          rw [vI_get (by rw [pT_len]; omega), pT_at (by omega)])))) (ev_op (ev_lenF (ev_var rfl) (E8 _ _ h1) G.cls G.told rfl (ex_t E8 h2)) ev_c rv_I0) rv_I0), fun hb2 H9 e9 => ?_, fun hb2 H9 e9 => ?_⟩
      · obtain ⟨_, c2⟩ := Bool.and_eq_true_iff.mp hb2
        have c2 := of_decide_eq_true c2
        have lt : b < t'.length + t.length * g'.length := by
          rcases Nat.lt_or_ge b (t'.length + t.length * g'.length) with h | h
          · exact h
          · have : b - 1 = t'.length - 1 + t.length * g'.length := by omega
            rw [this] at c2
            omega
        refine ⟨fun σ2 H2 => ∃ c : Nat, c = b + 1 ∧ σ2 = [some (.ref o), some (.ref u), some (.int (T : Int)), some (.int ((T * g'.length : Nat) : Int)), some (.ref vl), some (.int (c : Int)), none] ∧ Ex H7 H2, ?_, ?_⟩
        · rintro σ2 H10 ⟨c, rfl, rfl, e10⟩
          exact ⟨_, by omega, b + 1, rfl, by omega, lt, rfl, e10⟩
        · exact s_aug (a := (b : Int)) (b := 1) rfl ev_c fun H10 e10 => ⟨b + 1, rfl, rfl, (e8.trans e9).trans e10⟩
      · have b2000 : b ≤ 2000 := by omega
        have hv : (t.length : Int) - 1 ≤ val t' g' (b - 1) := by
          rcases Bool.and_eq_false_iff.mp hb2 with h | h
          · exact absurd (show (b : Int) ≤ 2000 by omega) (of_decide_eq_false h)
          · have := of_decide_eq_false h
            omega
        have E9 := E8.trans e9
        refine q_when (et_test (ev_op (ev_var rfl) ev_c rv_I0)) (fun ht H10 e10 => ?_) (fun _ H10 e10 => ?_)
        · have := of_decide_eq_true ht
          omega
        have E10 := E9.trans e10
        have rise_ := cmp_rise t0 t0' g0' pos' b1 hv turn
        have L := el_lcNL (K := K) (σ := [some (.ref o), some (.ref u), some (.int (T : Int)), some (.int ((T * g'.length : Nat) : Int)), some (.ref vl), some (.int (b : Int)), none]) (H := H10) (t := tYes) (te := tCall (spVal K C) [] E0 (tCons (tVar 0) (tCons (tVar 6) tNil))) (tl := tCall (spFirst K C) [] E0 (tCons (tVar 1) (tCons (tOp (rI0 fun i j => .int (i + j)) (tVar 5) (tVar 3)) tNil))) (j := 6) (vs := [6]) (xs := vI (pT (val t' g') (b + T * g'.length))) (fun _ => true) (fun i => V.int (cmp (val t g) (val t' g') i))
          (fun H11 e11 Q11 q11 => ⟨_, rfl, _, rfl, _, rfl, ⟨b, ((T * g'.length : Nat) : Int), rfl, rfl, u, b + T * g'.length, t', g', rfl, hU0.mono (E10.trans e11), by omega, fun a H12 ha e12 h12 => q11 a H12 ha e12 h12⟩⟩) (by rw [vI_len, pT_len]; omega) (fun _ => rfl) (fun _ _ _ _ _ => et_none)
          (fun i x H11 e11 hx _ => by
            have hi : i < b + T * g'.length := by
              have := (List.getElem?_eq_some_iff.mp hx).1
              rwa [vI_len, pT_len] at this
            rw [vI_get (by rw [pT_len]; exact hi), pT_at hi] at hx
            obtain rfl := Option.some.inj hx
            exact inner rfl rfl (val_nn t0' g0' pos' pt' i) (E10.trans e11))
        rw [given_all, vI_len, pT_len] at L
        have ee : (List.range (b + T * g'.length)).map (fun i => V.int (cmp (val t g) (val t' g') i)) = vI (pT (cmp (val t g) (val t' g')) (b + T * g'.length)) := by
          unfold vI pT
          rw [List.map_map]
          rfl
        rw [ee] at L
        refine s_retR (call_i (cons_i (L H10 (Ex.refl H10) _ fun x H11 _ e11 hx => ⟨_, rfl, x, b, T * g'.length, cmp (val t g) (val t' g'), rfl, sq_of hx, by omega, by omega, fun r2 p2 q2 H12 e12 hr2 hp2 hq2 => ?_⟩)))
        exact k r2 p2 q2 _ _ H12 ((E10.trans e11).trans e12) hr2 (.inl hp2) (.inl hq2) (by rw [pT_len]; omega) (by rw [pT_len]; exact b2000) (by rw [pG_len]; exact M0) (by rw [pG_len]; exact M2') (val_parted (by omega) M0 rise_)
end
end K05
namespace K05
open PySem L2 Evl Gr ClX OpX StX OwX StM
section
variable {P : Program} {w : World} {K : PySem.W.Frag} {mg : Str → Option Value} {base : Heap}
/-! ### Growth.after -/
def spAfter (K : PySem.W.Frag) (C : Addr) : Sp := fun vs H Q _ => ∃ (o u : Addr) (f h : Nat → Int) (a l r a' l' r' : Nat), vs = [.ref o, .ref u] ∧ GrF K C H o f ∧ GrF K C H u h ∧ Fm f a l r ∧ Fm h a' l' r' ∧ 0 < l ∧ 0 < l' ∧ l' * l ≤ 2000 ∧ a' + a * l' ≤ 2000 ∧ r' * r ≤ 4000000000000000 ∧ RetG K C (cmp f h) H Q
theorem scAfter : FnScope ["self", "other", "told", "gains"] ["self", "other"] (defScope (sGr 10)) := ⟨rfl, rfl, rfl, by decide +kernel, rfl, by decide +kernel, by decide +kernel⟩
theorem ok_After {C f fI fS : Addr} {mc : Value} {fd fdI fdS : FuncData} (F : Fun K "after" "Growth.after" (sGr 10) f fd) (N : GName K mg C mc) (G : GCls K C) (I : GIsi K C) (TT : GlbT mg) (M : Mk K C fI)
    (GI : FnOk P w K mg base CX0 4 fI fdI ["self", "told", "gains"] (spInit K C)) (bI : Binds K fdI ["self", "told", "gains"] [])
    (GS : FnOk P w K mg base CX0 2 fS fdS ["one", "other"] (spComp K C)) (kS : PySem.W.keepIn K (.ref fS) = true) (bS : Binds K fdS ["one", "other"] []) (gS : mg "composed_parts" = some (.ref fS)) :
    FnOk P w K mg base CX0 6 f fd ["self", "other"] (spAfter K C) := by
  refine F.ok scAfter (fun vs H Q E h => ?_) (fun cdv A outer s H vs Q E hr h => ?_)
  · obtain ⟨o, u, f1, f2, a, l, r, a', l', r', rfl, _⟩ := h
    rfl
  · obtain ⟨o, u, f1, f2, a, l, r, a', l', r', rfl, ⟨t, g, hO, p1, v1⟩, ⟨t', g', hU, p2, v2⟩, F1, F2, l0, l0', few, near, low, k⟩ := h
    refine ⟨_, pss_cons (ps_if (pt_not (pt_val (pe_callB call_isi (by rfl) TT.inst (by decide +kernel) (pa_cons (pv 1) (pa_cons (pe_glob (v := .ref C) rfl N.g rfl) pa_nil))))) (pss_one ps_no) pss_nil)
      (pss_cons (ps_asg (pe_call GS (hr.mono (by decide)) (by rfl) gS kS bS .nil pass0 (pa_cons (pv 0) (pa_cons (pv 1) pa_nil))) (pg_tup rfl (pgs_cons (pg_name (i := 2) scAfter.nd rfl (.inl rfl)) (pgs_cons (pg_name (i := 3) scAfter.nd rfl (.inl rfl)) pgs_nil))))
      (pss_one (ps_ret (pe_make M GI hr (by rfl) N.g bI .nil pass0 (pa_cons (pv 2) (pa_cons (pv 3) pa_nil)))))), ?_⟩
    have hO' := hO
    have hU' := hU
    obtain ⟨_, _, _, _, _, _, _, _, nf1, _, _, _⟩ := hO'
    obtain ⟨_, _, _, _, _, _, _, _, nf2, _, _, _⟩ := hU'
    obtain ⟨x1, x2, x3⟩ := F1.nf nf1 v1
    obtain ⟨y1, y2, y3⟩ := F2.nf nf2 v2
    have x2' := Nat.le_of_dvd l0 x2
    have y2' := Nat.le_of_dvd l0' y2
    have e1 : val t g = f1 := funext v1
    have e2 : val t' g' = f2 := funext v2
    have FC := F1.cmp F2 l0'
    refine q_when (et_not (et_B (ev_isG G I (ev_var rfl) hU))) (fun hb => absurd hb (by decide)) (fun _ H1 e1' => ?_)
    refine ⟨_, rfl, _, rfl, o, u, t, g, t', g', rfl, hO.mono e1', hU.mono e1', p2, Nat.le_trans (Nat.mul_le_mul y2' x2') few, Nat.le_trans (Nat.add_le_add y1 (Nat.mul_le_mul x1 y2')) near, fun rr pp qq ts gs H2 e2' hr2 hp hq b0 b1 l0x l1x hv => ?_⟩
    rw [e1, e2] at hv
    refine ⟨rr, [.ref pp, .ref qq], rfl, hr2, rfl, _, _, rfl, _, _, rfl, rfl, ?_⟩
    refine eg_make (K := K) (C := C) (σ := [some (.ref o), some (.ref u), some (.ref pp), some (.ref qq)]) (H := H2) (ta := tCons (tVar 2) (tCons (tVar 3) tNil)) (EvP.pair (ev_var rfl) (ev_var rfl) hp hq) b0 b1 l0x l1x
      (fun i hi => by
        have := hv i
        rw [val_lt hi] at this
        rw [this]
        exact FC.nn i) (fun i hi => gains_tail b0 hv (FC.tail.mono (by omega)) i hi) hv H2 (Ex.refl H2) _ fun x H3 hx e3 gr => k x H3 (fresh_back (e1'.trans e2') hx) ((e1'.trans e2').trans e3) gr
end
section
variable {K : PySem.W.Frag} {C : Addr} {σ : L2.St} {H : Hp} {ta tb : TE} {tk : TA} {f h : Nat → Int} {a l r a' l' r' : Nat}
theorem er_after (ha : EvR K C ta σ H f) (hb : EvR K C tb σ H h) (F1 : Fm f a l r) (F2 : Fm h a' l' r') (l0 : 0 < l) (l0' : 0 < l') (few : l' * l ≤ 2000) (near : a' + a * l' ≤ 2000) (low : r' * r ≤ 4000000000000000) :
    EvR K C (tMeth C "after" (spAfter K C) [] E0 ta (tCons tb tNil)) σ H (cmp f h) := fun H1 e Q q => ha H1 e _ fun o H2 e2 g1 => by
  obtain ⟨dx, p, q', r', h1⟩ := g1.ins
  exact ⟨o, dx, _, rfl, h1, rfl, hb H2 (e.trans e2) _ fun u H3 e3 g2 => ⟨o, u, f, h, _, _, _, _, _, _, rfl, g1.mono e3, g2, F1, F2, l0, l0', few, near, low, fun x H4 _ e4 gr => q x H4 ((e2.trans e3).trans e4) gr⟩⟩
theorem er_afterK {o : Addr} (ha : EvR K C ta σ H f) (hb : EvR K C tb σ H h) (F1 : Fm f a l r) (F2 : Fm h a' l' r') (l0 : 0 < l) (l0' : 0 < l') (few : l' * l ≤ 2000) (near : a' + a * l' ≤ 2000) (low : r' * r ≤ 4000000000000000) :
    EvR K C (fun σ H Q => ta σ H fun x H1 => ∃ a dx fs, x = .ref a ∧ H1 a = some (.ins C dx fs) ∧ fs.lookup ("after" : Str) = none ∧ (tCons tb tNil) σ H1 fun zs H2 => zs.length = (["other"] : List Str).length ∧ spAfter K C ([.ref a] ++ zs) H2 Q E0) σ H (cmp f h) := fun H1 e Q q => ha H1 e _ fun o H2 e2 g1 => by
  obtain ⟨dx, p, q', r', h1⟩ := g1.ins
  exact ⟨o, dx, _, rfl, h1, rfl, hb H2 (e.trans e2) _ fun u H3 e3 g2 => ⟨rfl, o, u, f, h, _, _, _, _, _, _, rfl, g1.mono e3, g2, F1, F2, l0, l0', few, near, low, fun x H4 _ e4 gr => q x H4 ((e2.trans e3).trans e4) gr⟩⟩
end
end K05
namespace K05
open PySem L2 Evl Gr ClX OpX StX OwX StM
theorem el_catI {σ : L2.St} {H : Hp} {ta tb : TE} {xs ys : List Int} (ha : EvL ta σ H (vI xs)) (hb : EvL tb σ H (vI ys)) (hz : xs.length + ys.length ≤ 100000) : EvL (tOp rCat ta tb) σ H (vI (xs ++ ys)) := fun H1 e Q k =>
  ha H1 e _ fun p H2 _ e2 hp => hb H2 (e.trans e2) _ fun r H3 _ e3 hr => ⟨p, r, vI xs, vI ys, rfl, rfl, e3 _ _ hp, hr, by rw [vI_len, vI_len]; exact sz_of hz, fun a ha => k a _ (fresh_back (e2.trans e3) ha) ((e2.trans e3).trans (Ex.new ha)) (by rw [upd_same]; unfold vI; rw [List.map_append])⟩
theorem flat_rep {α : Type} (c : Nat) (x : α) : (List.replicate c [x]).flatten = List.replicate c x := by
  induction c with
  | zero => rfl
  | succ c ih => rw [List.replicate_succ, List.flatten_cons, ih, List.replicate_succ]; rfl
theorem el_rep1 {σ : L2.St} {H : Hp} {ta tb : TE} {x : Int} {c : Nat} (ha : EvL ta σ H (vI [x])) (hb : ∀ H1, Ex H H1 → Ev tb σ H1 (.int (c : Int))) (hz : c ≤ 100000) : EvL (tOp rRep ta tb) σ H (vI (List.replicate c x)) := fun H1 e Q q =>
  ha H1 e _ fun p H2 hp e2 h2 => hb H2 (e.trans e2) H2 (Ex.refl H2) _ fun H3 e3 => ⟨p, (c : Int), vI [x], rfl, rfl, e3 _ _ h2, by omega, by omega, by rw [vI_len, Int.toNat_natCast]; show 1 * c ≤ _; exact sz_of (n := 1 * c) (by omega), fun a ha => q a _ (fresh_back (e2.trans e3) ha) ((e2.trans e3).trans (Ex.new ha)) (by
    rw [upd_same, Int.toNat_natCast]
    unfold vI
    show some (HO.lst (List.replicate c [V.int x]).flatten) = _
    rw [flat_rep, List.map_replicate])⟩
theorem map_mod {t : List Int} {c : Int} : (List.range (vI t).length).map (fun i => V.int (at' t i % c)) = vI (t.map fun v => v % c) := by
  unfold vI
  rw [List.map_map]
  refine List.ext_getElem (by rw [List.length_map, List.length_range, List.length_map, List.length_map]) fun i a1 a2 => ?_
  rw [List.length_map] at a2
  rw [List.getElem_map, List.getElem_map, List.getElem_range]
  show V.int (at' t i % c) = V.int (t[i] % c)
  unfold at'
  rw [List.getD_eq_getElem?_getD, List.getElem?_eq_getElem a2]
  rfl
theorem at_mod {t : List Int} {c : Int} {i : Nat} (hi : i < t.length) : at' (t.map fun v => v % c) i = at' t i % c := by
  unfold at'
  rw [List.getD_eq_getElem?_getD, List.getD_eq_getElem?_getD, List.getElem?_map, List.getElem?_eq_getElem hi]
  rfl
theorem q_asgG {σ : L2.St} {H : Hp} {te : TE} {g : TG} {tz : TS} {D : Ends} (h : te σ H fun x H1 => g x σ H1 fun σ2 H2 => tz D σ2 H2) : tSeq (tAsg te g) tz D σ H := h
/-- plain parts of the law's kinds: told ones below 30, gains below 5 -/
def Kd (K : PySem.W.Frag) (H : Hp) (x : Addr) (t g : List Int) : Prop := Pl K H x t g ∧ t.length ≤ 5 ∧ g.length ≤ 8 ∧ (∀ i, i < t.length → at' t i ≤ 29) ∧ ∀ i, i < g.length → at' g i ≤ 4
section
variable {P : Program} {w : World} {K : PySem.W.Frag} {mg : Str → Option Value} {base : Heap}
/-! ### _law_kind -/
abbrev sKind : Stmt := top 44
abbrev nKind : List Str := ["_law_pen_here", "_law_way", "_law_many", "_law_told", "_law_gains", "_law_value_here", "_law_gain"]
theorem scKind : FnScope nKind ["_law_pen_here"] (defScope sKind) := ⟨rfl, rfl, rfl, by decide +kernel, rfl, by decide +kernel, by decide +kernel⟩
def spKind (K : PySem.W.Frag) : Sp := fun vs H Q _ => ∃ (p l : Addr) (cells : List Int) (m : Nat), vs = [.ref p] ∧ PenAt H p l cells m ∧ m + 130 ≤ 50000 ∧ cells.length ≤ 63 ∧ ∀ t g x H', Keep p H H' → PenAt H' p l cells (m + 16) → Kd K H' x t g → Q (.ref x) H'
theorem ok_Kind {f fD fL : Addr} {fd fdD fdL : FuncData} (F : Fun K "_law_kind" "_law_kind" sKind f fd) (T : Glb mg)
    (GD : FnOk P w K mg base CX0 1 fD fdD ["_law_pen_here", "_law_many"] spDraw) (kD : PySem.W.keepIn K (.ref fD) = true) (bD : Binds K fdD ["_law_pen_here", "_law_many"] []) (gD : mg "_law_draw" = some (.ref fD))
    (GL : FnOk P w K mg base CX0 3 fL fdL ["_law_pen_here", "_law_is_rising"] (spPlain K)) (kL : PySem.W.keepIn K (.ref fL) = true) (bL : Binds K fdL ["_law_pen_here", "_law_is_rising"] []) (gL : mg "_law_plain" = some (.ref fL)) :
    FnOk P w K mg base CX0 4 f fd ["_law_pen_here"] (spKind K) := by
  refine F.ok scKind (fun vs H Q E h => ?_) (fun cdv A outer s H vs Q E hr h => ?_)
  · obtain ⟨p, l, cells, m, rfl, _⟩ := h
    rfl
  · obtain ⟨p, l, cells, m, rfl, hP, hm, h63, k⟩ := h
    have r1 := hr.mono (show 1 ≤ 3 by decide)
    refine ⟨_, pss_cons (ps_par (i := 1) (j := 2) rfl scKind.nd rfl rfl (by decide) (by rfl) (by rfl) (pa_cons (pe_call GD r1 (by rfl) gD kD bD .nil pass0 (pa_cons (pv 0) (pa_cons pe_int pa_nil))) (pa_cons (pe_op op_add pe_int (pe_call GD r1 (by rfl) gD kD bD .nil pass0 (pa_cons (pv 0) (pa_cons pe_int pa_nil)))) pa_nil)) (by rfl))
      (pss_cons (ps_if (pt_cmpR op_eq (pv 1) pe_int (nomark _)) (pss_one (ps_ret (pe_tup (pa_cons (pe_lst (pa_cons pe_int pa_nil)) (pa_cons (pe_op op_cat (pe_lst (pa_cons pe_int pa_nil)) (pe_op op_rep (pe_lst (pa_cons pe_int pa_nil)) (pe_op op_sub (pv 2) pe_int))) pa_nil))))) pss_nil)
      (pss_cons (ps_if (pt_cmpR op_eq (pv 1) pe_int (nomark _)) (pss_one (ps_ret (pe_tup (pa_cons (pe_lst (pa_cons (pe_call GD r1 (by rfl) gD kD bD .nil pass0 (pa_cons (pv 0) (pa_cons pe_int pa_nil))) pa_nil)) (pa_cons (pe_lst (pa_cons (pe_call GD r1 (by rfl) gD kD bD .nil pass0 (pa_cons (pv 0) (pa_cons pe_int pa_nil))) pa_nil)) pa_nil))))) pss_nil)
      (pss_cons (ps_asg (pe_call GL hr (by rfl) gL kL bL .nil pass0 (pa_cons (pv 0) (pa_cons (pe_cmpR op_gt (pe_call GD r1 (by rfl) gD kD bD .nil pass0 (pa_cons (pv 0) (pa_cons pe_int pa_nil))) pe_int (nomark _)) pa_nil))) (pg_tup rfl (pgs_cons (pg_name (i := 3) scKind.nd rfl (.inl rfl)) (pgs_cons (pg_name (i := 4) scKind.nd rfl (.inl rfl)) pgs_nil))))
      (pss_cons (ps_setLc (i := 3) (own := [("_law_value_here", 5)]) (g := gName 5) rfl scKind.nd rfl (by rfl) (by rfl) (pi_seq (pv 3)) (blkOk_by (own := [("_law_value_here", 5)]) (N := nKind) (sc := defScope sKind) (by decide +kernel))
            (fun _ _ _ _ _ => pg_name (i := 5) scKind.nd rfl (Or.inl rfl)) (fun _ _ _ _ _ => pts_nil) (fun _ _ _ _ _ => pe_op op_mod (pe_callTy call_int1 (by rfl) T.int (by decide +kernel) (pa_cons (pv 5) pa_nil)) pe_int))
      (pss_cons (ps_if (pt_cmpR op_eq (pv 1) pe_int (nomark _)) (pss_one (ps_ret (pe_tup (pa_cons (pv 3) (pa_cons (pe_lst (pa_cons pe_int pa_nil)) pa_nil))))) pss_nil)
      (pss_one (ps_ret (pe_tup (pa_cons (pv 3) (pa_cons (pe_lc (own := [("_law_gain", 6)]) (g := gName 6) rfl scKind.nd (pi_seq (pv 4)) (blkOk_by (own := [("_law_gain", 6)]) (N := nKind) (sc := defScope sKind) (by decide +kernel))
            (fun _ _ _ _ _ => pg_name (i := 6) scKind.nd rfl (Or.inl rfl)) (fun _ _ _ _ _ => pts_nil) (fun _ _ _ _ _ => pe_op op_mod (pe_callTy call_int1 (by rfl) T.int (by decide +kernel) (pa_cons (pv 6) pa_nil)) pe_int)) pa_nil)))))))))), ?_⟩
    have kr := Keep.of_ex (p := p) (Ex.refl H)
    have fin : ∀ {a b : Addr} {H5 : Hp} {t g : List Int} {c : Nat}, Keep p H H5 → PenAt H5 p l cells (m + c) → c ≤ 16 → H5 a = some (.lst (vI t)) → H5 b = some (.lst (vI g)) → 0 < t.length → t.length ≤ 5 → 0 < g.length → g.length ≤ 8 → (∀ i, i < t.length → 0 ≤ at' t i ∧ at' t i ≤ 29) → (∀ i, i < g.length → 0 ≤ at' g i ∧ at' g i ≤ 4) →
        [V.ref a, V.ref b].length ≤ sizeLine ∧ ∀ r, H5 r = none → Q (.ref r) (upd H5 r (.tup [.ref a, .ref b])) := fun {a b H5 t g c} kp P5 hc ha hb t0 t5 g0 g8 bt bg => ⟨by show 2 ≤ sizeLine; decide, fun r hr =>
      k t g r _ (kp.trans (Keep.of_ex (Ex.new hr))) ((P5.mono (Ex.new hr) (Nat.le_refl _)).le (by omega)) ⟨⟨a, b, st_of upd_same, sq_of (Ex.new hr _ _ ha), sq_of (Ex.new hr _ _ hb), t0, by omega, g0, by omega, fun i hi => (bt i hi).1, fun i hi => ⟨(bg i hi).1, Int.le_trans (bg i hi).2 (by decide)⟩⟩, t5, g8, fun i hi => (bt i hi).2, fun i hi => (bg i hi).2⟩⟩
    refine q_par (cons_i (w_draw (many := 5) (H := H) rfl (fun _ _ => ev_c) (by decide) (by decide) h63 m H kr hP (by omega) _ fun v H1 hv P1 k1 => ?_))
    obtain ⟨d, rfl, hd⟩ := hv
    refine cons_i (w_draw (many := 8) (H := H) rfl (fun _ _ => ev_c) (by decide) (by decide) h63 (m + 1) H1 k1 P1 (by omega) _ fun v H2 hv P2 k2 => ?_)
    obtain ⟨e, rfl, he⟩ := hv
    refine ⟨1, (e : Int), rfl, rfl, _, _, rfl, ?_⟩
    have K2 := k1.trans k2
    show tSeq _ _ _ [some (.ref p), some (.int (d : Int)), some (.int (1 + (e : Int))), none, none, none, none] H2
    refine q_when (et_test (ev_op (ev_var rfl) ev_c (rv_eq rfl))) (fun _ H3 e3 => ?_) (fun _ H3 e3 => ?_)
    · have L1 : EvL (tLst (tCons (tC (.int 0)) tNil)) [some (.ref p), some (.int (d : Int)), some (.int (1 + (e : Int))), none, none, none, none] H3 (vI [0]) := el_lst (ta := tCons (tC (.int 0)) tNil) (vs := vI [0]) (ea_cons ev_c ea_nil) (by show 1 ≤ 100000; decide)
      refine s_retR (tup_i (cons_i (L1 H3 (Ex.refl H3) _ fun a H4 _ e4 ha => cons_i ?_)))
      have L2 := el_catI (σ := [some (.ref p), some (.int (d : Int)), some (.int (1 + (e : Int))), none, none, none, none]) (H := H4) (ta := tLst (tCons (tC (.int 1)) tNil)) (xs := [1]) (el_lst (ta := tCons (tC (.int 1)) tNil) (vs := vI [1]) (ea_cons ev_c ea_nil) (by show 1 ≤ 100000; decide))
        (el_rep1 (x := 0) (c := e) (el_lst (ta := tCons (tC (.int 0)) tNil) (vs := vI [0]) (ea_cons ev_c ea_nil) (by show 1 ≤ 100000; decide)) (tb := tOp (rI0 fun i j => .int (i - j)) (tVar 2) (tC (.int 1))) (fun H5 _ => ev_is (ev_op (ev_var rfl) ev_c rv_I0) (by congr 1; omega)) (by omega)) (by rw [List.length_replicate]; show 1 + e ≤ _; omega)
      refine L2 H4 (Ex.refl H4) _ fun b H5 _ e5 hb => ?_
      refine fin (c := 2) (K2.trans (Keep.of_ex ((e3.trans e4).trans e5))) (P2.mono ((e3.trans e4).trans e5) (Nat.le_refl _)) (by decide) (e5 _ _ ha) hb (by decide) (by decide) (by rw [List.length_append]; show 0 < 1 + _; omega) (by rw [List.length_append, List.length_replicate]; show 1 + e ≤ 8; omega) (fun i hi => ?_) (fun i hi => ?_)
      · have : i = 0 := by
          have : i < 1 := hi
          omega
        subst this
        decide
      · unfold at'
        rw [List.getD_eq_getElem?_getD]
        have mm : ([1] ++ List.replicate e (0 : Int))[i]? = some ([1] ++ List.replicate e (0 : Int))[i] := List.getElem?_eq_getElem hi
        rw [mm]
        have hm : ([1] ++ List.replicate e (0 : Int))[i] ∈ [1] ++ List.replicate e (0 : Int) := List.getElem_mem hi
        generalize ([1] ++ List.replicate e (0 : Int))[i] = z at hm
        show 0 ≤ z ∧ z ≤ 4
        rcases List.mem_append.mp hm with h | h
        · rw [List.mem_singleton.mp h]
          decide
        · rw [(List.mem_replicate.mp h).2]
          decide
    refine q_when (et_test (ev_op (ev_var rfl) ev_c (rv_eq rfl))) (fun _ H4 e4 => ?_) (fun _ H4 e4 => ?_)
    · have one : ∀ {x : Nat} {b : Int}, ((x : Nat) : Int) ≤ b → ∀ i, i < [(x : Int)].length → 0 ≤ at' [(x : Int)] i ∧ at' [(x : Int)] i ≤ b := fun {x b} hx i hi => by
        have : i = 0 := by
          have : i < 1 := hi
          omega
        subst this
        show 0 ≤ (x : Int) ∧ (x : Int) ≤ b
        omega
      have P4 := P2.mono (e3.trans e4) (Nat.le_refl _)
      refine s_retR (tup_i (cons_i (lst_i (cons_i (w_draw (many := 9) (H := H4) rfl (fun _ _ => ev_c) (by decide) (by decide) h63 (m + 1 + 1) H4 (Keep.of_ex (Ex.refl H4)) P4 (by omega) _ fun v H5 hv P5 k5 => ?_)))))
      obtain ⟨x, rfl, hx⟩ := hv
      refine ⟨by show 1 ≤ sizeLine; decide, fun a ha => cons_i (lst_i (cons_i (w_draw (many := 5) (H := upd H5 a (.lst [.int (x : Int)])) rfl (fun _ _ => ev_c) (by decide) (by decide) h63 (m + 1 + 1 + 1) _ (Keep.of_ex (Ex.refl _)) (P5.mono (Ex.new ha) (Nat.le_refl _)) (by omega) _ fun v H6 hv P6 k6 => ?_)))⟩
      obtain ⟨y, rfl, hy⟩ := hv
      refine ⟨by show 1 ≤ sizeLine; decide, fun b hb => ?_⟩
      have nap : a ≠ p := fun z => by
        obtain ⟨_, _, hp, _⟩ := P5
        rw [z, hp] at ha
        cases ha
      have ha6 : H6 a = some (.lst (vI [(x : Int)])) := k6 _ _ upd_same nap
      exact fin (c := 4) (K2.trans ((Keep.of_ex (e3.trans e4)).trans (k5.trans ((Keep.of_ex (Ex.new ha)).trans (k6.trans (Keep.of_ex (Ex.new hb))))))) (P6.mono (Ex.new hb) (Nat.le_refl _)) (by decide) (Ex.new hb _ _ ha6) (t := [(x : Int)]) (g := [(y : Int)]) upd_same (show 0 < 1 by decide) (show 1 ≤ 5 by decide) (show 0 < 1 by decide) (show 1 ≤ 8 by decide) (one (by omega)) (one (by omega))
    have P4 := P2.mono (e3.trans e4) (Nat.le_refl _)
    refine q_asgG (call_i ⟨_, rfl, w_draw (many := 3) (H := H4) rfl (fun _ _ => ev_c) (by decide) (by decide) h63 (m + 1 + 1) H4 (Keep.of_ex (Ex.refl H4)) P4 (by omega) _ fun v H5 hv P5 k5 => ?_⟩)
    obtain ⟨z, rfl, _⟩ := hv
    refine ⟨(z : Int), 0, rfl, rfl, p, l, cells, m + 1 + 1 + 1, _, rfl, P5, by omega, h63, fun t g x H6 k6 P6 N6 A6 g4 bg bt => ?_⟩
    obtain ⟨xp, xq, n1, n2, n3, t5⟩ := N6
    obtain ⟨_, _, _, _, _, t0, _, g0, _, pt, lo⟩ := A6
    refine ⟨x, [.ref xp, .ref xq], rfl, st_of n1, rfl, _, _, rfl, _, _, rfl, rfl, ?_⟩
    have K6 := K2.trans ((Keep.of_ex (e3.trans e4)).trans (k5.trans k6))
    show tSeq _ _ _ [some (.ref p), some (.int (d : Int)), some (.int (1 + (e : Int))), some (.ref xp), some (.ref xq), none, none] H6
    have L1 := el_lcQ (K := K) (σ := [some (.ref p), some (.int (d : Int)), some (.int (1 + (e : Int))), some (.ref xp), some (.ref xq), none, none]) (H := H6) (te := tOp (L2.rI (fun _ j => 0 < j) fun i j => .int (i % j)) (tCB (fun xs H Q => (∃ i, xs = [V.int i] ∧ Q (.int i) H) ∨ ∃ k, xs = [V.bl k] ∧ Q (.int (if k then 1 else 0)) H) (tCons (tVar 5) tNil)) (tC (.int 30))) (tl := tVar 3) (j := 5) (vs := [5]) (fun i => V.int (at' t i % 30))
      (ev_var rfl) (.inl (sq_of n2)) (by rw [vI_len]; omega) (fun _ => rfl) (fun i y H7 e7 hy => by
        have hi : i < t.length := by
          have := (List.getElem?_eq_some_iff.mp hy).1
          rwa [vI_len] at this
        rw [vI_get hi] at hy
        obtain rfl := Option.some.inj hy
        exact ev_op (ev_cb (ea_cons (ev_var rfl) ea_nil) rc_int) ev_c (rv_I (by decide)))
    rw [map_mod] at L1
    refine q_asgL L1 fun a H7 _ e7 h7 => ?_
    show tSeq _ _ _ [some (.ref p), some (.int (d : Int)), some (.int (1 + (e : Int))), some (.ref a), some (.ref xq), none, none] H7
    have tl : (t.map fun v => v % 30).length = t.length := List.length_map _
    have btm : ∀ i, i < (t.map fun v => v % 30).length → 0 ≤ at' (t.map fun v => v % 30) i ∧ at' (t.map fun v => v % 30) i ≤ 29 := fun i hi => by
      rw [tl] at hi
      rw [at_mod hi]
      omega
    refine q_when (et_test (ev_op (ev_var rfl) ev_c (rv_eq rfl))) (fun _ H8 e8 => ?_) (fun _ H8 e8 => ?_)
    · refine s_retR (tup_i (cons_i ⟨_, rfl, cons_i (el_lst (ta := tCons (tC (.int 0)) tNil) (vs := vI [0]) (ea_cons ev_c ea_nil) (by show 1 ≤ 100000; decide) H8 (Ex.refl H8) _ fun b H9 _ e9 hb => ?_)⟩))
      exact fin (c := 16) (K6.trans (Keep.of_ex ((e7.trans e8).trans e9))) ((P6.mono ((e7.trans e8).trans e9) (Nat.le_refl _)).le (by omega)) (by decide) (e9 _ _ (e8 _ _ h7)) hb (by rw [tl]; exact t0) (by rw [tl]; exact t5) (by decide) (by decide) btm fun i hi => by
        have : i = 0 := by
          have : i < 1 := hi
          omega
        subst this
        decide
    · have n3' := e8 _ _ (e7 _ _ n3)
      have L2 := el_lcQ (K := K) (σ := [some (.ref p), some (.int (d : Int)), some (.int (1 + (e : Int))), some (.ref a), some (.ref xq), none, none]) (H := H8) (te := tOp (L2.rI (fun _ j => 0 < j) fun i j => .int (i % j)) (tCB (fun xs H Q => (∃ i, xs = [V.int i] ∧ Q (.int i) H) ∨ ∃ k, xs = [V.bl k] ∧ Q (.int (if k then 1 else 0)) H) (tCons (tVar 6) tNil)) (tC (.int 4))) (tl := tVar 4) (j := 6) (vs := [6]) (fun i => V.int (at' g i % 4))
        (ev_var rfl) (.inl (sq_of n3')) (by rw [vI_len]; omega) (fun _ => rfl) (fun i y H9 e9 hy => by
          have hi : i < g.length := by
            have := (List.getElem?_eq_some_iff.mp hy).1
            rwa [vI_len] at this
          rw [vI_get hi] at hy
          obtain rfl := Option.some.inj hy
          exact ev_op (ev_cb (ea_cons (ev_var rfl) ea_nil) rc_int) ev_c (rv_I (by decide)))
      rw [map_mod] at L2
      have gl : (g.map fun v => v % 4).length = g.length := List.length_map _
      refine s_retR (tup_i (cons_i ⟨_, rfl, cons_i (L2 H8 (Ex.refl H8) _ fun b H9 _ e9 hb => ?_)⟩))
      exact fin (c := 16) (K6.trans (Keep.of_ex ((e7.trans e8).trans e9))) ((P6.mono ((e7.trans e8).trans e9) (Nat.le_refl _)).le (by omega)) (by decide) (e9 _ _ (e8 _ _ h7)) hb (by rw [tl]; exact t0) (by rw [tl]; exact t5) (by rw [gl]; exact g0) (by rw [gl]; omega) btm fun i hi => by
        rw [gl] at hi
        rw [at_mod hi]
        omega
end
end K05
namespace K05
open PySem L2 Evl Gr ClX OpX StX OwX StM
theorem Kd.fm {K : PySem.W.Frag} {H : Hp} {x : Addr} {t g : List Int} (h : Kd K H x t g) : Fm (val t g) 5 g.length 4 := by
  obtain ⟨⟨p, q, h1, h2, h3, t0, t1, g0, g1, pt, lo⟩, t5, g8, bt, bg⟩ := h
  exact ⟨t, g, t0, t5, g0, Nat.dvd_refl _, fun i hi => ⟨(lo i hi).1, bg i hi⟩, pt, fun _ => rfl⟩
theorem Kd.g0 {K : PySem.W.Frag} {H : Hp} {x : Addr} {t g : List Int} (h : Kd K H x t g) : 0 < g.length := by
  obtain ⟨⟨p, q, h1, h2, h3, t0, t1, g0, _⟩, _⟩ := h
  exact g0
theorem Kd.mono {K : PySem.W.Frag} {H H' : Hp} {x : Addr} {t g : List Int} (e : Ex H H') (h : Kd K H x t g) : Kd K H' x t g := ⟨h.1.mono e, h.2⟩
theorem Kd.keep {K : PySem.W.Frag} {H H' : Hp} {p l x : Addr} {cells : List Int} {m : Nat} {t g : List Int} (h : Kd K H x t g) (hP : PenAt H p l cells m) (kp : Keep p H H') : Kd K H' x t g := ⟨Pl.keep hP kp h.1, h.2⟩
theorem for_i {K : PySem.W.Frag} {σ : L2.St} {H : Hp} {tl : TE} {g : TG} {tu tz : TS} {D : Ends} (h : tl σ H fun x H1 => ∃ a, x = .ref a ∧ (∃ xs, SqL K H1 a xs) ∧ tFor (fun _ _ R => R (Itl K a) H1) g tu { D with nx := tz D } σ H1) : tSeq (tFor (iList K tl) g tu) tz D σ H := h
theorem rgN (c : Nat) : rgV 0 (c : Int) = vI (pT (fun i => (i : Int)) c) := by
  unfold rgV vI pT
  rw [List.map_map]
  have : ((c : Int) - 0).toNat = c := by omega
  rw [this]
  refine List.map_congr_left fun i _ => ?_
  show V.int (0 + (i : Int)) = V.int (i : Int)
  rw [Int.zero_add]
section
variable {P : Program} {w : World} {K : PySem.W.Frag} {mg : Str → Option Value} {base : Heap}
/-! ### _law_right -/
abbrev sRi : Stmt := top 45
abbrev nRi : List Str := ["_law_pen_here", "_law_one", "_law_other", "_law_first_so", "_law_second_so", "_law_both", "_law_n"]
theorem scRi : FnScope nRi ["_law_pen_here", "_law_one", "_law_other"] (defScope sRi) := ⟨rfl, rfl, rfl, by decide +kernel, rfl, by decide +kernel, by decide +kernel⟩
def spRi (K : PySem.W.Frag) : Sp := fun vs H Q _ => ∃ (p l a c : Addr) (cells : List Int) (m : Nat) (t g t' g' : List Int), vs = [.ref p, .ref a, .ref c] ∧ PenAt H p l cells m ∧ m + 10 ≤ 50000 ∧ cells.length ≤ 63 ∧ Kd K H a t g ∧ Kd K H c t' g' ∧ ∀ H', Keep p H H' → PenAt H' p l cells (m + 3) → Q (.bl true) H'
theorem ok_Ri {C f fI fE fA fC fF : Addr} {mc : Value} {fd fdI fdE fdA fdC fdF : FuncData} (F : Fun K "_law_right" "_law_right" sRi f fd) (T : GlbS mg) (N : GName K mg C mc) (G : GCls K C) (M : Mk K C fI) (NE : GNe K C fE) (CO : CallO K C fC)
    (MAf : Meth K C "after" fA) (MFi : Meth K C "first" fF)
    (GI : FnOk P w K mg base CX0 4 fI fdI ["self", "told", "gains"] (spInit K C)) (bI : Binds K fdI ["self", "told", "gains"] [])
    (GE : FnOk P w K mg base CX0 1 fE fdE ["self", "other"] (spGEq K C)) (bE : Binds K fdE ["self", "other"] [])
    (GA : FnOk P w K mg base CX0 6 fA fdA ["self", "other"] (spAfter K C)) (bA : Binds K fdA ["self", "other"] []) (kA : KBn K fdA ["self", "other"] 1 ["other"] (fun us ws => us ++ ws) (fun vs zs => vs ++ zs))
    (GC : FnOk P w K mg base CX0 3 fC fdC ["self", "n"] (spGCall K C)) (bC : Binds K fdC ["self", "n"] []) (GF : FnOk P w K mg base CX0 3 fF fdF ["self", "n"] (spGFirst K C)) (bF : Binds K fdF ["self", "n"] [])
    (LD : Gfn P w K mg base 1 "_law_draw" ["_law_pen_here", "_law_many"] spDraw) (LV : Gfn P w K mg base 1 "_law_value" ["_law_plain_here", "_law_n"] (spLV K)) (LW : Gfn P w K mg base 2 "_law_values" ["_law_plain_here", "_law_many"] (spLVs K)) :
    FnOk P w K mg base CX0 8 f fd ["_law_pen_here", "_law_one", "_law_other"] (spRi K) := by
  obtain ⟨fD, fdD, GD, kD, bD, gD⟩ := LD
  obtain ⟨fV, fdV, GV, kV, bV, gV⟩ := LV
  obtain ⟨fW, fdW, GW, kW, bW, gW⟩ := LW
  refine F.ok scRi (fun vs H Q E h => ?_) (fun cdv A outer s H vs Q E hr h => ?_)
  · obtain ⟨p, l, a, c, cells, m, t, g, t', g', rfl, _⟩ := h
    rfl
  · obtain ⟨p, l, a, c, cells, m, t, g, t', g', rfl, hP, hm, h63, hA, hC, k⟩ := h
    have r5 := hr.mono (show 5 ≤ 7 by decide)
    have r6 := hr.mono (show 6 ≤ 7 by decide)
    have r3 := hr.mono (show 3 ≤ 7 by decide)
    have r2 := hr.mono (show 2 ≤ 7 by decide)
    have r1 := hr.mono (show 1 ≤ 7 by decide)
    refine ⟨_, pss_cons (ps_par (i := 3) (j := 4) rfl scRi.nd rfl rfl (by decide) (by rfl) (by rfl)
        (pa_cons (pe_make M GI r5 (by rfl) N.g bI .nil pass0 (pa_cons (pe_ix ix_seq (pv 1) pe_int (fun _ _ => rfl)) (pa_cons (pe_ix ix_seq (pv 1) pe_int (fun _ _ => rfl)) pa_nil)))
        (pa_cons (pe_make M GI r5 (by rfl) N.g bI .nil pass0 (pa_cons (pe_ix ix_seq (pv 2) pe_int (fun _ _ => rfl)) (pa_cons (pe_ix ix_seq (pv 2) pe_int (fun _ _ => rfl)) pa_nil))) pa_nil)) (by rfl))
      (pss_cons (ps_set (i := 5) scRi.nd rfl (.inl rfl) (pe_meth (pv 3) G.cls MAf GA r6 bA .nil pass0 (pa_cons (pv 4) pa_nil)))
      (pss_cons (ps_if (PW.pt (pw_or (pt_cmpR (op_neO (E := E0) NE.has NE.ne NE.ob (fnR0 GE bE) r2 pass0) (pv 5) (pe_methKw (pv 3) G.cls MAf GA r6 kA (pk_cons (pv 4) pk_nil)) (nomark _))
          (pw_or1 (pt_cmpR (op_neO (E := E0) NE.has NE.ne NE.ob (fnR0 GE bE) r2 pass0) (pe_make M GI r5 (by rfl) N.g bI .nil pass0 (pa_cons (pe_fld (pv 5) rfl) (pa_cons (pe_fld (pv 5) rfl) pa_nil))) (pv 5) (nomark _))))) (pss_one ps_no) pss_nil)
      (pss_cons (ps_for PassesOwn.never rfl (pi_list (pe_op op_cat (pe_listRg rfl (by rfl) T.list (prg_1 (by rfl) T.range pe_int)) (pe_lst (pa_cons (pe_call GD r1 (by rfl) gD kD bD .nil pass0 (pa_cons (pv 0) (pa_cons (pe_op op_pow pe_int pe_int) pa_nil)))
            (pa_cons (pe_op op_add (pe_op op_pow pe_int pe_int) (pe_call GD r1 (by rfl) gD kD bD .nil pass0 (pa_cons (pv 0) (pa_cons pe_int pa_nil)))) (pa_cons (pe_op op_pow pe_int pe_int) (pa_cons (pe_op op_add (pe_op op_pow pe_int pe_int) (pe_call GD r1 (by rfl) gD kD bD .nil pass0 (pa_cons (pv 0) (pa_cons pe_int pa_nil)))) pa_nil))))))) (pg_name (i := 6) scRi.nd rfl (.inl rfl))
          (pss_one (ps_if (pt_cmpR op_ne (pe_callO (pv 5) CO (fnR0 GC bC) r3 pass0 (pa_cons (pv 6) pa_nil)) (pe_call GV r1 (by rfl) gV kV bV .nil pass0 (pa_cons (pv 1) (pa_cons (pe_call GV r1 (by rfl) gV kV bV .nil pass0 (pa_cons (pv 2) (pa_cons (pv 6) pa_nil))) pa_nil))) (nomark _)) (pss_one ps_no) pss_nil)))
      (pss_one (ps_ret (pe_cmpR (op_eqD hr.units) (pe_meth (pv 3) G.cls MFi GF r3 bF .nil pass0 (pa_cons pe_int pa_nil)) (pe_tupleOf (by rfl) T.tuple (pe_call GW r2 (by rfl) gW kW bW .nil pass0 (pa_cons (pv 1) (pa_cons pe_int pa_nil)))) (nomark _))))))), ?_⟩
    refine q_par (cons_i ((er_plain rfl hA.1) H (Ex.refl H) _ fun o1 H1 _ e1 g1 => cons_i ((er_plain rfl (hC.1.mono e1)) H1 (Ex.refl H1) _ fun o2 H2 _ e2 g2 => ⟨_, _, rfl, ?_⟩)))
    have E2 := e1.trans e2
    have F1 := hA.fm
    have F2 := hC.fm
    have A0 := hA.g0
    have C0 := hC.g0
    have A8 : g.length ≤ 8 := hA.2.2.1
    have C8 : g'.length ≤ 8 := hC.2.2.1
    have few : g'.length * g.length ≤ 2000 := Nat.le_trans (Nat.mul_le_mul C8 A8) (by decide)
    have near : 5 + 5 * g'.length ≤ 2000 := by omega
    have G1 := g1.mono e2
    have G2 := g2
    show tSeq _ _ _ [some (.ref p), some (.ref a), some (.ref c), some (.ref o1), some (.ref o2), none, none] H2
    refine q_asgR ((er_after (a := 5) (r := 4) (a' := 5) (r' := 4) (er_var rfl G1) (er_var rfl G2) F1 F2 A0 C0 few near (by decide)) H2 (Ex.refl H2) _ fun ob H3 e3 g3 => ?_)
    have G13 := G1.mono e3
    have G23 := G2.mono e3
    show tSeq _ _ _ [some (.ref p), some (.ref a), some (.ref c), some (.ref o1), some (.ref o2), some (.ref ob), none] H3
    refine q_when (et_is (et_or (et_test (ev_neR (er_var rfl g3) (er_afterK (o := o1) (a := 5) (r := 4) (a' := 5) (r' := 4) (er_var rfl G13) (er_var rfl G23) F1 F2 A0 C0 few near (by decide)) NE.nf)) fun _ => et_test (ev_neR (er_again G rfl g3) (er_var rfl g3) NE.nf)) rfl) (fun hb => absurd hb (by decide)) (fun _ H4 e4 => ?_)
    have E4 := (E2.trans e3).trans e4
    have P4 := hP.mono E4 (Nat.le_refl _)
    have pw : ∀ {a b : Int} {σ : L2.St} {H1 : Hp}, CPow a b → Ev (tOp (L2.rI CPow fun i j => .int (i ^ j.toNat)) (tC (.int a)) (tC (.int b))) σ H1 (.int (a ^ b.toNat)) := fun h => ev_op ev_c ev_c (rv_I h)
    refine for_i (op_i ⟨60, rfl, ⟨by decide, by decide, by decide, by decide, by decide⟩, fun q hq => ?_⟩)
    have nqp : q ≠ p := fun z => by
      obtain ⟨_, _, u, _⟩ := P4
      rw [z, u] at hq
      cases hq
    have e0 := Ex.new (H := H4) (o := .lst (rgV 0 60)) hq
    have hq0 : (upd H4 q (.lst (rgV 0 60))) q = some (.lst (rgV 0 60)) := upd_same
    have hP0 := P4.mono e0 (Nat.le_refl m)
    generalize upd H4 q (.lst (rgV 0 60)) = J0 at e0 hq0 hP0 ⊢
    refine lst_i (cons_i (w_draw (p := p) (l := l) (cells := cells) (H := J0) (i := 0) (many := (10 : Int) ^ (9 : Int).toNat) rfl (fun H1 _ => pw ⟨by decide, by decide, by decide⟩) (by decide) (by decide) h63 m J0 (Keep.of_ex (Ex.refl J0)) hP0 (by omega) _ fun v H5 hv P5 k5 => ?_))
    obtain ⟨d1, rfl, hd1⟩ := hv
    refine cons_i (op_i (pw ⟨by decide, by decide, by decide⟩ H5 (Ex.refl H5) _ fun H6 e6 => w_draw (p := p) (l := l) (cells := cells) (H := H6) (i := 0) (many := 99) rfl (fun H1 _ => ev_c) (by decide) (by decide) h63 (m + 1) H6 (Keep.of_ex (Ex.refl H6)) (P5.mono e6 (Nat.le_refl _)) (by omega) _ fun v H7 hv P7 k7 => ?_))
    obtain ⟨d2, rfl, hd2⟩ := hv
    refine ⟨_, _, rfl, rfl, ?_⟩
    refine cons_i (pw ⟨by decide, by decide, by decide⟩ H7 (Ex.refl H7) _ fun H8 e8 => ?_)
    refine cons_i (op_i (pw ⟨by decide, by decide, by decide⟩ H8 (Ex.refl H8) _ fun H9 e9 => w_draw (p := p) (l := l) (cells := cells) (H := H9) (i := 0) (many := 9) rfl (fun H1 _ => ev_c) (by decide) (by decide) h63 (m + 1 + 1) H9 (Keep.of_ex (Ex.refl H9)) (P7.mono (e8.trans e9) (Nat.le_refl _)) (by omega) _ fun v H10 hv P10 k10 => ?_))
    obtain ⟨d3, rfl, hd3⟩ := hv
    refine ⟨_, _, rfl, rfl, ?_⟩
    refine ⟨by show 4 ≤ sizeLine; decide, fun b hb => ?_⟩
    have K10 : Keep p J0 H10 := (k5.trans (Keep.of_ex e6)).trans (k7.trans ((Keep.of_ex (e8.trans e9)).trans k10))
    have hq10 := K10 _ _ hq0 nqp
    have e11 := Ex.new (H := H10) (o := .lst [.int (d1 : Int), .int ((10 : Int) ^ (12 : Int).toNat + (d2 : Int)), .int ((10 : Int) ^ (40 : Int).toNat), .int ((10 : Int) ^ (30 : Int).toNat + (d3 : Int))]) hb
    refine ⟨q, b, rgV 0 60, _, rfl, rfl, e11 _ _ hq10, upd_same, by rw [rgV_length]; exact sz_of (show 60 + 4 ≤ 100000 by decide), fun al hal => ?_⟩
    have e12 := Ex.new (o := .lst (rgV 0 60 ++ [.int (d1 : Int), .int ((10 : Int) ^ (12 : Int).toNat + (d2 : Int)), .int ((10 : Int) ^ (40 : Int).toNat), .int ((10 : Int) ^ (30 : Int).toNat + (d3 : Int))])) hal
    obtain ⟨ns, hns⟩ : ∃ ns : List Int, ns = pT (fun i => (i : Int)) 60 ++ [(d1 : Int), (10 : Int) ^ (12 : Int).toNat + (d2 : Int), (10 : Int) ^ (40 : Int).toNat, (10 : Int) ^ (30 : Int).toNat + (d3 : Int)] := ⟨_, rfl⟩
    have hl : (upd (upd H10 b (.lst [.int (d1 : Int), .int ((10 : Int) ^ (12 : Int).toNat + (d2 : Int)), .int ((10 : Int) ^ (40 : Int).toNat), .int ((10 : Int) ^ (30 : Int).toNat + (d3 : Int))])) al (.lst (rgV 0 60 ++ [.int (d1 : Int), .int ((10 : Int) ^ (12 : Int).toNat + (d2 : Int)), .int ((10 : Int) ^ (40 : Int).toNat), .int ((10 : Int) ^ (30 : Int).toNat + (d3 : Int))]))) al = some (.lst (vI ns)) := by
      rw [upd_same, hns, show rgV 0 60 = vI (pT (fun i => (i : Int)) 60) from rgN 60]
      unfold vI
      rw [List.map_append]
      rfl
    have P12 := (P10.mono e11 (Nat.le_refl _)).mono e12 (Nat.le_refl _)
    have K12 : Keep p H4 _ := (Keep.of_ex e0).trans (K10.trans ((Keep.of_ex e11).trans (Keep.of_ex e12)))
    generalize upd (upd H10 b (.lst [.int (d1 : Int), .int ((10 : Int) ^ (12 : Int).toNat + (d2 : Int)), .int ((10 : Int) ^ (40 : Int).toNat), .int ((10 : Int) ^ (30 : Int).toNat + (d3 : Int))])) al (.lst (rgV 0 60 ++ [.int (d1 : Int), .int ((10 : Int) ^ (12 : Int).toNat + (d2 : Int)), .int ((10 : Int) ^ (40 : Int).toNat), .int ((10 : Int) ^ (30 : Int).toNat + (d3 : Int))])) = H12 at hl P12 K12 ⊢
    have far : ∀ z ∈ ns, 0 ≤ z ∧ z ≤ 10 ^ 40 := fun z hz => by
      have x1 : (10 : Int) ^ (30 : Int).toNat = 1000000000000000000000000000000 := by decide
      have x2 : (10 : Int) ^ (40 : Int).toNat = 10000000000000000000000000000000000000000 := by decide
      have x3 : (10 : Int) ^ (9 : Int).toNat = 1000000000 := by decide
      have x4 : (10 : Int) ^ (12 : Int).toNat = 1000000000000 := by decide
      have x5 : (10 : Int) ^ 40 = 10000000000000000000000000000000000000000 := by decide
      rw [hns, x1, x2, x4] at hz
      rw [x3] at hd1
      rw [x5]
      rcases List.mem_append.mp hz with h | h
      · obtain ⟨n, hn, rfl⟩ := List.mem_map.mp h
        have := List.mem_range.mp hn
        omega
      · simp only [List.mem_cons, List.not_mem_nil, or_false] at h
        rcases h with rfl | rfl | rfl | rfl <;> omega
    have A12 := (hA.mono E4).keep P4 K12
    have C12 := (hC.mono E4).keep P4 K12
    have B12 := GrF.keep P4 K12 (g3.mono e4)
    have O12 := GrF.keep P4 K12 (G13.mono e4)
    refine ⟨al, rfl, ⟨_, sq_of hl⟩, ?_⟩
    refine for_list (xs := vI ns) (fun _ σ' H' => ∃ x : Option V, σ' = [some (.ref p), some (.ref a), some (.ref c), some (.ref o1), some (.ref o2), some (.ref ob), x] ∧ Ex H12 H') ⟨none, rfl, Ex.refl _⟩ (fun _ _ H' _ ⟨_, _, e⟩ => ex_l e (sq_of hl)) ?_ ?_
    · rintro i x σ' H13 hx ⟨x0, rfl, e13⟩
      have hi : i < ns.length := by
        have := (List.getElem?_eq_some_iff.mp hx).1
        rwa [vI_len] at this
      rw [vI_get hi] at hx
      obtain rfl := Option.some.inj hx
      have hm : at' ns i ∈ ns := by
        unfold at'
        rw [List.getD_eq_getElem?_getD, List.getElem?_eq_getElem hi]
        exact List.getElem_mem hi
      obtain ⟨f0, f40⟩ := far _ hm
      obtain ⟨n, en⟩ := Int.eq_ofNat_of_zero_le f0
      rw [en] at f40 ⊢
      have v1 := ev_call (sp := spLV K) (E := E0) (σ := [some (.ref p), some (.ref a), some (.ref c), some (.ref o1), some (.ref o2), some (.ref ob), some (.int (n : Int))]) (H := H13) (ta := tCons (tVar 2) (tCons (tVar 6) tNil)) (ea_cons (ev_var rfl) (ea_cons (ev_var rfl) ea_nil)) (spv_LV (n := n) (C12.1.mono e13))
      have nn := F2.nn n
      obtain ⟨y, hy⟩ := Int.eq_ofNat_of_zero_le nn
      rw [hy] at v1
      have v2 := ev_call (sp := spLV K) (E := E0) (σ := [some (.ref p), some (.ref a), some (.ref c), some (.ref o1), some (.ref o2), some (.ref ob), some (.int (n : Int))]) (H := H13) (ta := tCons (tVar 1) (tCons (tCall (spLV K) [] E0 (tCons (tVar 2) (tCons (tVar 6) tNil))) tNil)) (ea_cons (ev_var rfl) (ea_cons v1 ea_nil)) (spv_LV (n := y) (A12.1.mono e13))
      have ec : cmp (val t g) (val t' g') n = val t g y := by
        unfold cmp
        rw [hy, Int.toNat_natCast]
      refine s_if (et_is (et_test (ev_op (ev_callG (f := cmp (val t g) (val t' g')) (n := n) (er_var rfl (B12.mono e13)) (ev_var rfl) f40) v2 (rv_ne rfl))) (by rw [ec, decide_eq_true rfl])) (fun hb => absurd hb (by decide)) (fun _ H14 e14 => ⟨_, rfl, e13.trans e14⟩)
    · rintro σ' H13 ⟨x0, rfl, e13⟩
      dsimp only
      have lw : EvL (tCall (spLVs K) [] E0 (tCons (tVar 1) (tCons (tC (.int 5)) tNil))) [some (.ref p), some (.ref a), some (.ref c), some (.ref o1), some (.ref o2), some (.ref ob), x0] H13 (vI (pT (val t g) 5)) := fun H14 e Q q =>
        ⟨_, rfl, a, 5, t, g, rfl, (A12.1.mono e13).mono e, by decide, fun r H2 hr2 e2 h2 => q r H2 hr2 e2 h2⟩
      refine s_ret (v := .bl true) (ev_eqTu (etu_first (n := 5) (er_var rfl (O12.mono e13)) (ev_c (v := .int 5)) (by decide)) (etu_tuple lw)) fun H14 e14 => ?_
      exact k H14 ((Keep.of_ex E4).trans (K12.trans (Keep.of_ex (e13.trans e14)))) ((P12.mono (e13.trans e14) (Nat.le_refl _)).le (by omega))
end
end K05
namespace Gr
theorem tail_many {f : Nat → Int} {m : Nat} {B : Int} (h : ∀ n, m ≤ n → 0 ≤ f (n + 1) - f n ∧ f (n + 1) - f n ≤ B) {n : Nat} (hn : m ≤ n) : ∀ k : Nat, 0 ≤ f (n + k) - f n ∧ f (n + k) - f n ≤ (k : Int) * B
  | 0 => by rw [Nat.add_zero, show ((0 : Nat) : Int) = 0 from rfl, Int.zero_mul]; omega
  | k + 1 => by
    have a := tail_many h hn k
    have b := h (n + k) (by omega)
    rw [show ((k + 1 : Nat) : Int) = (k : Int) + 1 from rfl, Int.add_mul, Int.one_mul, ← Nat.add_assoc]
    omega
theorem rate_tail {t g : List Int} (t0 : 0 < t.length) (g0 : 0 < g.length) {L : Nat} (h : g.length ∣ L) {B : Int} (tl : Tail (val t g) B) : 0 ≤ rate g L ∧ rate g L ≤ (L : Int) * B := by
  obtain ⟨m, hm⟩ := tl
  have a := tail_many hm (n := max m (t.length - 1)) (by omega) L
  rw [val_round t0 g0 h (by omega)] at a
  omega
theorem perT_pk {up : Bool} {f f' : Nat → Int} (h : EqR f f' ∨ Ord f f') (p : PerT f 12) (p' : PerT f' 12) : PerT (fun n => pk up (f n) (f' n)) 12 := by
  obtain ⟨a, ha⟩ := p
  obtain ⟨c, hc⟩ := p'
  rcases h with ⟨m, hm⟩ | h | h
  · refine ⟨max a (max c m), fun n hn => ?_⟩
    have h1 := hm n (by omega)
    have h2 := hm (n + 1) (by omega)
    have h3 := ha n (by omega)
    show pk up (f (n + 12 + 1)) (f' (n + 12 + 1)) - pk up (f (n + 12)) (f' (n + 12)) = pk up (f (n + 1)) (f' (n + 1)) - pk up (f n) (f' n)
    rw [show n + 1 + 12 = n + 12 + 1 by omega] at h2
    rw [show f (n + 12 + 1) = f (n + 1) + (f (n + 12) - f n) by omega, show f' (n + 12 + 1) = f' (n + 1) + (f (n + 12) - f n) by omega, pk_add, show f' (n + 12) = f' n + (f (n + 12) - f n) by omega]
    have : pk up (f (n + 12)) (f' n + (f (n + 12) - f n)) = pk up (f n) (f' n) + (f (n + 12) - f n) := by
      rw [← pk_add]
      congr 1
      omega
    rw [this]
    omega
  · refine ⟨max 1999 (max a c), fun n hn => ?_⟩
    show pk up (f (n + 12 + 1)) (f' (n + 12 + 1)) - pk up (f (n + 12)) (f' (n + 12)) = pk up (f (n + 1)) (f' (n + 1)) - pk up (f n) (f' n)
    rw [pk_ge (h _ (by omega)), pk_ge (h _ (by omega)), pk_ge (h _ (by omega)), pk_ge (h n (by omega))]
    cases up
    · exact hc n (by omega)
    · exact ha n (by omega)
  · refine ⟨max 1999 (max a c), fun n hn => ?_⟩
    show pk up (f (n + 12 + 1)) (f' (n + 12 + 1)) - pk up (f (n + 12)) (f' (n + 12)) = pk up (f (n + 1)) (f' (n + 1)) - pk up (f n) (f' n)
    rw [pk_le (h _ (by omega)), pk_le (h _ (by omega)), pk_le (h _ (by omega)), pk_le (h n (by omega))]
    cases up
    · exact ha n (by omega)
    · exact hc n (by omega)
theorem tail_pk {up : Bool} {f f' : Nat → Int} {B : Int} (h : Tail f B) (h' : Tail f' B) : Tail (fun n => pk up (f n) (f' n)) B := by
  obtain ⟨m, hm⟩ := h
  obtain ⟨c, hc⟩ := h'
  exact ⟨max m c, fun n hn => pk_step (hm n (by omega)) (hc n (by omega))⟩
theorem le_high {a b : Int} : a ≤ pk true a b ∧ b ≤ pk true a b := by
  show a ≤ (if b > a then b else a) ∧ b ≤ (if b > a then b else a)
  split <;> omega
theorem low_le {a b : Int} : pk false a b ≤ a ∧ pk false a b ≤ b := by
  show (if b < a then b else a) ≤ a ∧ (if b < a then b else a) ≤ b
  split <;> omega
theorem high_low {a b : Int} : pk true a b + pk false a b = a + b := by
  show (if b > a then b else a) + (if b < a then b else a) = a + b
  split <;> split <;> omega
theorem high_one {a b : Int} : pk true (pk true a b) a = pk true a b := pk_ge le_high.1
theorem high_low1 {a b : Int} : pk false (pk true a b) a = a := pk_ge le_high.1
theorem pk_self {up : Bool} {a : Int} : pk up a a = a := by
  rw [pk_ge (Int.le_refl a)]
  cases up <;> rfl
end Gr
namespace Gr
theorem Fm.of {f : Nat → Int} {b l r : Nat} (b0 : 0 < b) (l0 : 0 < l) (nn : ∀ n, 0 ≤ f n) (ri : ∀ n, b - 1 ≤ n → f (n + l + 1) - f (n + l) = f (n + 1) - f n) (st : ∀ n, b - 1 ≤ n → 0 ≤ f (n + 1) - f n ∧ f (n + 1) - f n ≤ (r : Int)) : Fm f b l r := by
  refine ⟨pT f b, pG f b l, by rw [pT_len]; exact b0, by rw [pT_len]; exact Nat.le_refl _, by rw [pG_len]; exact l0, by rw [pG_len]; exact Nat.dvd_refl _, fun i hi => ?_, fun i hi => ?_, val_parted b0 l0 ri⟩
  · rw [pG_len] at hi
    have ea : at' (pG f b l) i = f (b + i) - f (b + i - 1) := at_map_range hi
    rw [ea]
    have := st (b + i - 1) (by omega)
    rwa [show b + i - 1 + 1 = b + i by omega] at this
  · rw [pT_len] at hi
    rw [pT_at hi]
    exact nn i
theorem Fm.rise {f : Nat → Int} {a l r : Nat} (h : Fm f a l r) (n : Nat) (hn : a - 1 ≤ n) : f (n + l + 1) - f (n + l) = f (n + 1) - f n := by
  obtain ⟨t, g, t0, t1, g0, d, bg, pt, e⟩ := h
  have := rise_pd (t := t) (g := g) t0 d (n := n) (by omega)
  rw [← e, ← e, ← e, ← e]
  exact this
theorem Fm.step {f : Nat → Int} {a l r : Nat} (h : Fm f a l r) (n : Nat) (hn : a - 1 ≤ n) : 0 ≤ f (n + 1) - f n ∧ f (n + 1) - f n ≤ (r : Int) := by
  obtain ⟨t, g, t0, t1, g0, d, bg, pt, e⟩ := h
  have q := rise_ge (g := g) t0 (n := n) (by omega)
  unfold Gr.rise at q
  rw [← e, ← e, q]
  exact bg _ (Nat.mod_lt _ g0)
theorem Fm.pd {f : Nat → Int} {a l r : Nat} (h : Fm f a l r) (n : Nat) (hn : a - 1 ≤ n) : ∀ j, f (n + j * l + 1) - f (n + j * l) = f (n + 1) - f n
  | 0 => by rw [Nat.zero_mul]; rfl
  | j + 1 => by
    rw [Nat.succ_mul, ← Nat.add_assoc, h.rise (n + j * l) (by omega)]
    exact h.pd n hn j
theorem Fm.pdv {f : Nat → Int} {a l r L : Nat} (h : Fm f a l r) (hL : l ∣ L) (n : Nat) (hn : a - 1 ≤ n) : f (n + L + 1) - f (n + L) = f (n + 1) - f n := by
  obtain ⟨j, rfl⟩ := hL
  rw [Nat.mul_comm]
  exact h.pd n hn j
theorem Fm.a0 {f : Nat → Int} {a l r : Nat} (h : Fm f a l r) : 0 < a := by
  obtain ⟨t, g, t0, t1, _⟩ := h
  omega
theorem Fm.add {f g : Nat → Int} {a l r l' r' L : Nat} (h : Fm f a l r) (h' : Fm g a l' r') (L0 : 0 < L) (hL : l ∣ L) (hL' : l' ∣ L) : Fm (fun n => f n + g n) a L (r + r') := by
  refine .of h.a0 L0 (fun n => Int.add_nonneg (h.nn n) (h'.nn n)) (fun n hn => ?_) (fun n hn => ?_)
  · have x := h.pdv hL n hn
    have y := h'.pdv hL' n hn
    show f (n + L + 1) + g (n + L + 1) - (f (n + L) + g (n + L)) = f (n + 1) + g (n + 1) - (f n + g n)
    omega
  · have x := h.step n hn
    have y := h'.step n hn
    show 0 ≤ f (n + 1) + g (n + 1) - (f n + g n) ∧ f (n + 1) + g (n + 1) - (f n + g n) ≤ _
    omega
theorem Fm.sc3 {f : Nat → Int} {a l r : Nat} (h : Fm f a l r) (l0 : 0 < l) : Fm (fun n => ((3 : Nat) : Int) * f n) a l (3 * r) := by
  refine .of h.a0 l0 (fun n => by have := h.nn n; show 0 ≤ (3 : Int) * f n; omega) (fun n hn => ?_) (fun n hn => ?_)
  · have x := h.rise n hn
    show (3 : Int) * f (n + l + 1) - 3 * f (n + l) = 3 * f (n + 1) - 3 * f n
    omega
  · have x := h.step n hn
    show 0 ≤ (3 : Int) * f (n + 1) - 3 * f n ∧ (3 : Int) * f (n + 1) - 3 * f n ≤ _
    omega
theorem Fm.tail_eq {f g : Nat → Int} {a l r b : Nat} (h : Fm f a l r) (l0 : 0 < l) (b0 : 0 < b) (nn : ∀ n, 0 ≤ g n) (e : ∀ n, b - 1 ≤ n → g n = f n) (hb : a ≤ b) : Fm g b l r := by
  refine .of b0 l0 nn (fun n hn => ?_) (fun n hn => ?_)
  · rw [e _ (by omega), e _ (by omega), e _ (by omega), e _ hn]
    exact h.rise n (by omega)
  · rw [e _ (by omega), e _ hn]
    exact h.step n (by omega)
/-- how two growths stand to each other -/
def Rel (f g : Nat → Int) : Prop := (∀ n, 4 ≤ n → f n ≤ g n) ∨ (∀ n, 4 ≤ n → g n ≤ f n) ∨ ∀ x y, f x - f y = g x - g y
theorem pk_up (a b : Int) : pk true a b = if a ≤ b then b else a := by
  unfold pk
  by_cases h : a ≤ b
  · rw [if_pos h]
    by_cases h2 : a = b
    · subst h2
      simp
    · simp
      omega
  · rw [if_neg h]
    simp
    omega
theorem Fm.pk {f g : Nat → Int} {a l r l' r' L R : Nat} (h : Fm f a l r) (h' : Fm g a l' r') (a5 : a ≤ 5) (L0 : 0 < L) (hL : l ∣ L) (hL' : l' ∣ L) (hR : r ≤ R) (hR' : r' ≤ R) (x : Rel f g) : Fm (fun n => Gr.pk true (f n) (g n)) 5 L R := by
  have nn : ∀ n, 0 ≤ Gr.pk true (f n) (g n) := fun n => by
    rw [pk_up]
    have := h.nn n
    have := h'.nn n
    split <;> omega
  have H := h.mono (Nat.le_refl a) hL hR
  have H' := h'.mono (Nat.le_refl a) hL' hR'
  rcases x with x | x | x
  · exact H'.tail_eq L0 (by decide) nn (fun n hn => by rw [pk_up, if_pos (x n hn)]) a5
  · refine H.tail_eq L0 (by decide) nn (fun n hn => ?_) a5
    rw [pk_up]
    have := x n hn
    split <;> omega
  · by_cases c : f 0 ≤ g 0
    · exact H'.tail_eq L0 (by decide) nn (fun n hn => by
        have := x n 0
        rw [pk_up, if_pos (by omega)]) a5
    · refine H.tail_eq L0 (by decide) nn (fun n hn => ?_) a5
      have := x n 0
      rw [pk_up, if_neg (by omega)]
theorem Rel.ord {f g : Nat → Int} (x : Rel f g) : EqR f g ∨ Ord f g := by
  rcases x with x | x | x
  · exact .inr (.inr fun n hn => x n (by omega))
  · exact .inr (.inl fun n hn => x n (by omega))
  · exact .inl ⟨0, fun n _ => x _ _⟩
theorem Rel.cmp {f g h : Nat → Int} (x : Rel f g) (hh : ∀ n, 1998 < n → 4 ≤ h n) : EqR (cmp f h) (cmp g h) ∨ Ord (cmp f h) (cmp g h) := by
  rcases x with x | x | x
  · exact .inr (.inr fun n hn => x _ (by have := hh n hn; omega))
  · exact .inr (.inl fun n hn => x _ (by have := hh n hn; omega))
  · exact .inl ⟨0, fun n _ => x _ _⟩
theorem Fm.ramp (x : Nat) : Fm (fun n => (x : Int) + n * ((1 : Nat) : Int)) 1 1 1 := by
  refine .of Nat.one_pos Nat.one_pos (fun n => ?_) (fun n _ => ?_) (fun n _ => ?_)
  · show 0 ≤ (x : Int) + (n : Int) * 1
    omega
  · show (x : Int) + ((n + 1 + 1 : Nat) : Int) * 1 - ((x : Int) + ((n + 1 : Nat) : Int) * 1) = (x : Int) + ((n + 1 : Nat) : Int) * 1 - ((x : Int) + (n : Int) * 1)
    omega
  · show 0 ≤ (x : Int) + ((n + 1 : Nat) : Int) * 1 - ((x : Int) + (n : Int) * 1) ∧ (x : Int) + ((n + 1 : Nat) : Int) * 1 - ((x : Int) + (n : Int) * 1) ≤ 1
    omega
end Gr
namespace Gr
theorem lead_le {f f' : Nat → Int} {b L : Nat} {D D' : Int} (h : ∀ n, f n ≤ f' n) (hf : Rnd f b L D) (hf' : Rnd f' b L D') : D ≤ D' := by
  rcases Int.lt_or_le D' D with lt | le
  · have := ord_lead (Or.inr fun n _ => h n) hf hf' lt
    exfalso
    obtain ⟨j, hj⟩ : ∃ j : Nat, f' (b + 1999) - f (b + 1999) < (j : Int) := ⟨(f' (b + 1999) - f (b + 1999)).toNat + 1, by omega⟩
    have a : f (b + 1999 + j * L) - f' (b + 1999 + j * L) = f (b + 1999) - f' (b + 1999) + (j : Int) * (D - D') := (hf.sub hf').many j (b + 1999) (by omega)
    have c := h (b + 1999 + j * L)
    have d : (j : Int) ≤ (j : Int) * (D - D') := by
      have : (j : Int) * 1 ≤ (j : Int) * (D - D') := Int.mul_le_mul_of_nonneg_left (by omega) (by omega)
      rwa [Int.mul_one] at this
    omega
  · exact le
end Gr
namespace K05
open PySem L2 Evl Gr ClX OpX StX OwX
abbrev sGaps : Stmt := top 25
abbrev sLead : Stmt := top 26
abbrev sLastAb : Stmt := top 27
section
variable {K : PySem.W.Frag} {σ : L2.St} {H : Hp}
/-- for i, x in enumerate(a list) -/
theorem q_forN {a : Addr} {xs : List V} {ta : TA} {g : TG} {tu tz : TS} {D : Ends} (h : EvA ta σ H [.ref a]) (hx : SqL K H a xs) (Pv : Nat → L2.St → Hp → Prop) (h0 : ∀ H1, Ex H H1 → Pv 0 σ H1) (hl : ∀ i σ' H', i ≤ xs.length → Pv i σ' H' → SqL K H' a xs)
    (hs : ∀ i x σ' H' T, xs[i]? = some x → Pv i σ' H' → H' T = none → g (.ref T) σ' (L2.upd H' T (.tup [.int (i : Nat), x])) fun σ2 H2 => tu { D with nx := Pv (i + 1), ct := Pv (i + 1), bk := tz D } σ2 H2)
    (hd : ∀ σ' H', Pv xs.length σ' H' → tz D σ' H') : tSeq (tFor (iEnum K ta) g tu) tz D σ H :=
  h H (Ex.refl H) _ fun H1 e1 => ⟨a, xs, rfl, ex_l e1 hx, for_it (D := { D with nx := tz D }) walk_enum Pv (h0 H1 e1) hl (fun i v σ' H' H2 hi p y => by
    obtain ⟨T, x, z, rfl, hn, rfl, ex, ez⟩ := y
    obtain rfl := Option.some.inj ex
    exact hs i z σ' H' T ez p hn) hd⟩
theorem q_join {tt tz : TS} {D : Ends} (M : L2.St → Hp → Prop) (k : ∀ σ' H', M σ' H' → tz D σ' H') (h : (∀ σ' H', M σ' H' → tz D σ' H') → tSeq tt tz D σ H) : tSeq tt tz D σ H := h k
end
section
variable {P : Program} {w : World} {K : PySem.W.Frag} {mg : Str → Option Value} {base : Heap}
/-! ### gaps_of -/
/-- two growths, and the numbers that both know -/
structure Two (K : PySem.W.Frag) (C : Addr) (H : Hp) (o u : Addr) (t g t' g' : List Int) (b L : Nat) : Prop where
  one : GrAt K C H o t g
  other : GrAt K C H u t' g'
  hb : b = max t.length t'.length
  hL : L = Nat.lcm g.length g'.length
  few : L ≤ 2000
section
variable {C o u : Addr} {H H' : Hp} {t g t' g' : List Int} {b L : Nat}
theorem Two.mono (e : Ex H H') (h : Two K C H o u t g t' g' b L) : Two K C H' o u t g t' g' b L := ⟨h.one.mono e, h.other.mono e, h.hb, h.hL, h.few⟩
theorem grAt_nf (h : GrAt K C H o t g) : NF t g ∧ t.length ≤ 2000 ∧ g.length ≤ 2000 ∧ Small g := by
  obtain ⟨_, _, _, _, _, _, _, _, nf, a, b, c⟩ := h
  exact ⟨nf, a, b, c⟩
theorem Two.l0 (h : Two K C H o u t g t' g' b L) : 0 < L := h.hL ▸ Nat.lcm_pos (grAt_nf h.one).1.gains (grAt_nf h.other).1.gains
theorem Two.b0 (h : Two K C H o u t g t' g' b L) : 0 < b := by
  have := (grAt_nf h.one).1.told
  have := h.hb
  omega
theorem Two.b1 (h : Two K C H o u t g t' g' b L) : b ≤ 2000 := by
  have := (grAt_nf h.one).2.1
  have := (grAt_nf h.other).2.1
  have := h.hb
  omega
theorem Two.rnd1 (h : Two K C H o u t g t' g' b L) : Rnd (val t g) b L (rate g L) := rnd_val (grAt_nf h.one).1.told (grAt_nf h.one).1.gains (by rw [h.hb]; omega) (h.hL ▸ Nat.dvd_lcm_left _ _)
theorem Two.rnd2 (h : Two K C H o u t g t' g' b L) : Rnd (val t' g') b L (rate g' L) := rnd_val (grAt_nf h.other).1.told (grAt_nf h.other).1.gains (by rw [h.hb]; omega) (h.hL ▸ Nat.dvd_lcm_right _ _)
theorem Two.swap (h : Two K C H o u t g t' g' b L) : Two K C H u o t' g' t g b L := ⟨h.other, h.one, by rw [h.hb, Nat.max_comm], by rw [h.hL, Nat.lcm_comm], h.few⟩
end
def spGaps (K : PySem.W.Frag) (C : Addr) : Sp := fun vs H Q _ => ∃ (o u : Addr) (t g t' g' : List Int) (b L : Nat), vs = [.ref o, .ref u] ∧ Two K C H o u t g t' g' b L ∧
  ∀ p H', H p = none → Ex H H' → H' p = some (.lst (vI (pT (fun n => val t g n - val t' g' n) (b + L)))) → Q (.ref p) H'
abbrev nGaps : List Str := ["one", "other", "many", "left", "right"]
theorem scGaps : FnScope nGaps ["one", "other"] (defScope sGaps) := ⟨rfl, rfl, rfl, by decide +kernel, rfl, by decide +kernel, by decide +kernel⟩
/-- the values of both, side by side -/
theorem el_both {C o u : Addr} {σ : L2.St} {H : Hp} {t g t' g' : List Int} {m i j : Nat} {ta : TA} {te : TE} {f : Nat → Int}
    (ha : ∀ H1, Ex H H1 → ∀ Q : List V → Hp → Prop, (∀ x y H2, Ex H1 H2 → SqL K H2 x (vI (pT (val t g) m)) → SqL K H2 y (vI (pT (val t' g') m)) → Q [.ref x, .ref y] H2) → ta σ H1 Q) (hm : m ≤ 10000)
    (hw : ∀ x y, wipe (((wipe σ [i, j]).set i (some x)).set j (some y)) [i, j] = wipe σ [i, j])
    (he : ∀ n H1, Ex H H1 → n < m → Ev te (((wipe σ [i, j]).set i (some (.int (val t g n)))).set j (some (.int (val t' g' n)))) H1 (.int (f n))) :
    EvL (tLc (iZip K ta) (gTup K 2 (gCons (gName i) (gCons (gName j) gNil))) tYes te [i, j]) σ H (vI (pT f m)) := by
  have c := el_lcZ (K := K) (σ := σ) (H := H) (te := te) (i := i) (j := j) (vs := [i, j]) (ta := ta) (xs := vI (pT (val t g) m)) (ys := vI (pT (val t' g') m)) (fun n => V.int (f n)) ha (by rw [vI_len, vI_len, pT_len, pT_len]) (by rw [vI_len, pT_len]; omega) hw
    (fun n x y H3 e3 hx hy => by
      have hn : n < m := by
        have := (List.getElem?_eq_some_iff.mp hx).1
        rwa [vI_len, pT_len] at this
      rw [vI_get (by rw [pT_len]; exact hn), pT_at hn] at hx hy
      obtain rfl := Option.some.inj hx
      obtain rfl := Option.some.inj hy
      exact he n H3 e3 hn)
  have e4 : (List.range (vI (pT (val t g) m)).length).map (fun n => V.int (f n)) = vI (pT f m) := by
    rw [vI_len, pT_len]
    unfold vI pT
    rw [List.map_map]
    rfl
  rw [e4] at c
  exact c
theorem ok_Gaps {C f : Addr} {fd : FuncData} (F : Fun K "gaps_of" "gaps_of" sGaps f fd) (DV : GlbV mg)
    (LB : Gfn P w K mg base 1 "begin_of_both" ["one", "other"] (spBegin K C)) (LC : Gfn P w K mg base 1 "common_length" ["one", "other"] (spCommon K C)) (LF : Gfn P w K mg base 1 "first_values" ["one", "many"] (spFirst K C)) :
    FnOk P w K mg base CX0 2 f fd ["one", "other"] (spGaps K C) := by
  obtain ⟨fB, fdB, GB, kB, bB, gB⟩ := LB
  obtain ⟨fC, fdC, GC, kC, bC, gC⟩ := LC
  obtain ⟨fF, fdF, GF, kF, bF, gF⟩ := LF
  refine F.ok scGaps (fun vs H Q E h => ?_) (fun cdv A outer s H vs Q E hr h => ?_)
  · obtain ⟨o, u, t, g, t', g', b, L, rfl, _⟩ := h
    rfl
  · obtain ⟨o, u, t, g, t', g', b, L, rfl, hT, k⟩ := h
    refine ⟨_, pss_cons (ps_set (i := 2) scGaps.nd rfl (.inl rfl) (pe_op op_add (pe_call GB hr (by rfl) gB kB bB .nil pass0 (pa_cons (pv 0) (pa_cons (pv 1) pa_nil))) (pe_call GC hr (by rfl) gC kC bC .nil pass0 (pa_cons (pv 0) (pa_cons (pv 1) pa_nil)))))
      (pss_one (ps_ret (pe_lc (own := [("left", 3), ("right", 4)]) (g := gTup K 2 (gCons (gName 3) (gCons (gName 4) gNil))) rfl scGaps.nd
          (pi_zip (by rfl) DV.zip (pa_cons (pe_call GF hr (by rfl) gF kF bF .nil pass0 (pa_cons (pv 0) (pa_cons (pv 2) pa_nil))) (pa_cons (pe_call GF hr (by rfl) gF kF bF .nil pass0 (pa_cons (pv 1) (pa_cons (pv 2) pa_nil))) pa_nil)))
          (blkOk_by (own := [("left", 3), ("right", 4)]) (N := nGaps) (sc := defScope sGaps) (by decide +kernel))
          (fun _ _ _ _ _ => pg_tup rfl (pgs_cons (pg_name (i := 3) scGaps.nd rfl (Or.inl rfl)) (pgs_cons (pg_name (i := 4) scGaps.nd rfl (Or.inl rfl)) pgs_nil))) (fun _ _ _ _ _ => pts_nil) (fun _ _ _ _ _ => pe_op op_sub (pv 3) (pv 4))))), ?_⟩
    have b1 := hT.b1
    have few := hT.few
    refine q_asg (v := .int ((b + L : Nat) : Int)) (ev_is (ev_op (x := .int (b : Int)) (y := .int (L : Int)) (ev_call (ea_cons (ev_var rfl) (ea_cons (ev_var rfl) ea_nil)) (fun H1 e Q q E => ⟨o, u, t, g, t', g', rfl, hT.one.mono e, hT.other.mono e, by rw [← hT.hb]; exact q⟩))
      (ev_call (ea_cons (ev_var rfl) (ea_cons (ev_var rfl) ea_nil)) (fun H1 e Q q E => ⟨o, u, t, g, t', g', rfl, hT.one.mono e, hT.other.mono e, by rw [← hT.hL]; exact hT.few, by rw [← hT.hL]; exact q⟩)) rv_I0) rfl) fun H1 e1 => ?_
    refine s_retL (el_both (K := K) (C := C) (o := o) (u := u) (t := t) (g := g) (t' := t') (g' := g') (m := b + L) (f := fun n => val t g n - val t' g' n)
      (fun H3 e3 Q3 q3 => ⟨_, rfl, _, rfl, o, b + L, t, g, rfl, hT.one.mono (e1.trans e3), by omega, fun x H4 _ e4 hx => ⟨_, rfl, _, rfl, u, b + L, t', g', rfl, hT.other.mono ((e1.trans e3).trans e4), by omega, fun y H5 _ e5 hy => q3 x y H5 (e4.trans e5) (sq_of (e5 _ _ hx)) (sq_of hy)⟩⟩)
      (by omega) (fun _ _ => rfl) (fun n H3 _ _ => ev_op (ev_var rfl) (ev_var rfl) rv_I0)) fun p H2 hp e2 h2 => k p H2 (fresh_back e1 hp) (e1.trans e2) h2
/-! ### lead_of -/
def spLead (K : PySem.W.Frag) (C : Addr) : Sp := fun vs H Q _ => ∃ (o u : Addr) (t g t' g' : List Int) (b L : Nat), vs = [.ref o, .ref u] ∧ Two K C H o u t g t' g' b L ∧ RetV (.int (rate g L - rate g' L)) H Q
theorem scLead : FnScope ["one", "other", "length"] ["one", "other"] (defScope sLead) := ⟨rfl, rfl, rfl, by decide +kernel, rfl, by decide +kernel, by decide +kernel⟩
theorem ok_Lead {C f : Addr} {fd : FuncData} (F : Fun K "lead_of" "lead_of" sLead f fd) (T : GlbS mg) (G : GCls K C) (LC : Gfn P w K mg base 1 "common_length" ["one", "other"] (spCommon K C)) : FnOk P w K mg base CX0 2 f fd ["one", "other"] (spLead K C) := by
  obtain ⟨fC, fdC, GC, kC, bC, gC⟩ := LC
  refine F.ok scLead (fun vs H Q E h => ?_) (fun cdv A outer s H vs Q E hr h => ?_)
  · obtain ⟨o, u, t, g, t', g', b, L, rfl, _⟩ := h
    rfl
  · obtain ⟨o, u, t, g, t', g', b, L, rfl, hT, k⟩ := h
    refine ⟨_, pss_cons (ps_set (i := 2) scLead.nd rfl (.inl rfl) (pe_call GC hr (by rfl) gC kC bC .nil pass0 (pa_cons (pv 0) (pa_cons (pv 1) pa_nil))))
      (pss_one (ps_ret (pe_op op_sub (pe_op op_mul (pe_ix ix_seq (pe_fld (pv 0) rfl) (pe_un un_neg pe_int) (fun _ _ => rfl)) (pe_op op_fdiv (pv 2) (pe_callB call_len_seq (by rfl) T.len PySem.boot_len (pa_cons (pe_fld (pv 0) rfl) pa_nil))))
        (pe_op op_mul (pe_ix ix_seq (pe_fld (pv 1) rfl) (pe_un un_neg pe_int) (fun _ _ => rfl)) (pe_op op_fdiv (pv 2) (pe_callB call_len_seq (by rfl) T.len PySem.boot_len (pa_cons (pe_fld (pv 1) rfl) pa_nil))))))), ?_⟩
    refine q_asg (v := .int (L : Int)) (ev_call (ea_cons (ev_var rfl) (ea_cons (ev_var rfl) ea_nil)) (fun H1 e Q q E => ⟨o, u, t, g, t', g', rfl, hT.one.mono e, hT.other.mono e, by rw [← hT.hL]; exact hT.few, by rw [← hT.hL]; exact q⟩)) fun H1 e1 => ?_
    have few := hT.few
    have half : ∀ {i : Nat} {x : Addr} {tt gg : List Int}, [some (V.ref o), some (.ref u), some (.int (L : Int))][i]? = some (some (.ref x)) → GrAt K C H1 x tt gg →
        Ev (tOp (L2.rI CMul fun i j => .int (i * j)) (tOp (rIx K) (tFld K (tVar i) "rises") (tUn (rU fun i => .int (-i)) (tC (.int 1)))) (tOp (L2.rI CDiv fun i j => .int (i / j)) (tVar 2) (tCB (fun xs H Q => ∃ p ys, xs = [V.ref p] ∧ (SqL K H p ys ∨ SqT K H p ys) ∧ Q (.int ys.length) H) (tCons (tFld K (tVar i) "gains") tNil))))
          [some (.ref o), some (.ref u), some (.int (L : Int))] H1 (.int (rate gg L)) := fun {i x tt gg} h0 hx => by
      obtain ⟨dx, p, q, r, h1, h2, h3, h4, nf, t2, g2, sm⟩ := hx
      have g0 := nf.gains
      have ac := acc_small sm g0 gg.length
      have rl := ris_len (g := gg)
      have div : (L : Int) / (gg.length : Int) = ((L / gg.length : Nat) : Int) := rfl
      have dl : L / gg.length ≤ L := Nat.div_le_self _ _
      have d0 : (0 : Int) ≤ (L : Int) / (gg.length : Int) := Int.ediv_nonneg (by omega) (by omega)
      have d1 : (L : Int) / (gg.length : Int) ≤ 2000 := by rw [div]; omega
      refine ev_op (y := .int ((L / gg.length : Nat) : Int)) (ev_op (ev_fld (ev_var h0) h1 G.cls G.rises rfl) (ev_un ev_c ru_neg) (rv_ix (v := .int (acc (dif gg) gg.length)) (.inr h4) ?_)) (ev_op (ev_var rfl) (ev_lenF (ev_var h0) h1 G.cls G.gains rfl h3) (rv_I ⟨by omega, by omega⟩)) (rv_I (.inr ⟨by omega, by omega⟩))
      have z := atI_vlast (g := ris gg) (by omega)
      rw [ris_at (by omega), show (ris gg).length - 1 = gg.length by omega] at z
      exact z
    exact s_ret (v := .int (rate g L - rate g' L)) (ev_op (half (i := 0) rfl (hT.one.mono e1)) (half (i := 1) rfl (hT.other.mono e1)) rv_I0) fun H2 e2 => k H2 (e1.trans e2)
end
end K05
namespace K05
open PySem L2 Evl Gr ClX OpX StX OwX
section
variable {P : Program} {w : World} {K : PySem.W.Frag} {mg : Str → Option Value} {base : Heap}
/-! ### last_number_above -/
def spLast (K : PySem.W.Frag) (C : Addr) : Sp := fun vs H Q _ => ∃ (o u : Addr) (t g t' g' : List Int) (b L : Nat), vs = [.ref o, .ref u] ∧ Two K C H o u t g t' g' b L ∧ rate g L < rate g' L ∧ rate g' L - rate g L < 1073741824 ∧
  ∀ last : Int, LA (fun n => val t g n - val t' g' n) b L (b + L) last → RetV (.int last) H Q
abbrev nLast : List Str := ["one", "other", "gaps", "loss", "length", "last", "at", "gap"]
theorem scLast : FnScope nLast ["one", "other"] (defScope sLastAb) := ⟨rfl, rfl, rfl, by decide +kernel, rfl, by decide +kernel, by decide +kernel⟩
theorem ok_Last {C f : Addr} {fd : FuncData} (F : Fun K "last_number_above" "last_number_above" sLastAb f fd) (T : GlbS mg) (DV : GlbV mg) (enum_ : mg "enumerate" = none)
    (LG : Gfn P w K mg base 2 "gaps_of" ["one", "other"] (spGaps K C)) (LL : Gfn P w K mg base 2 "lead_of" ["one", "other"] (spLead K C)) (LC : Gfn P w K mg base 1 "common_length" ["one", "other"] (spCommon K C)) :
    FnOk P w K mg base CX0 3 f fd ["one", "other"] (spLast K C) := by
  obtain ⟨fG, fdG, GG, kG, bG, gG⟩ := LG
  obtain ⟨fL, fdL, GL, kL, bL, gL⟩ := LL
  obtain ⟨fC, fdC, GC, kC, bC, gC⟩ := LC
  refine F.ok scLast (fun vs H Q E h => ?_) (fun cdv A outer s H vs Q E hr h => ?_)
  · obtain ⟨o, u, t, g, t', g', b, L, rfl, _⟩ := h
    rfl
  · obtain ⟨o, u, t, g, t', g', b, L, rfl, hT, hlt, hfew, k⟩ := h
    have r1 := hr.mono (show 1 ≤ 2 by decide)
    refine ⟨_, pss_cons (ps_set (i := 2) scLast.nd rfl (.inl rfl) (pe_call GG hr (by rfl) gG kG bG .nil pass0 (pa_cons (pv 0) (pa_cons (pv 1) pa_nil))))
      (pss_cons (ps_set (i := 3) scLast.nd rfl (.inl rfl) (pe_un un_neg (pe_call GL hr (by rfl) gL kL bL .nil pass0 (pa_cons (pv 0) (pa_cons (pv 1) pa_nil)))))
      (pss_cons (ps_set (i := 4) scLast.nd rfl (.inl rfl) (pe_call GC r1 (by rfl) gC kC bC .nil pass0 (pa_cons (pv 0) (pa_cons (pv 1) pa_nil))))
      (pss_cons (ps_set (i := 5) scLast.nd rfl (.inl rfl) (pe_un un_neg pe_int))
      (pss_cons (ps_for PassesOwn.never rfl (pi_enum (by rfl) enum_ (pa_cons (pv 2) pa_nil)) (pg_tup rfl (pgs_cons (pg_name (i := 6) scLast.nd rfl (.inl rfl)) (pgs_cons (pg_name (i := 7) scLast.nd rfl (.inl rfl)) pgs_nil)))
        (pss_one (ps_if (PW.pt (pw_and (pt_cmpR op_gt (pv 7) pe_int (nomark _)) (pw_and1 (pt_cmpR op_lt (pv 6) (pe_op op_sub (pe_callB call_len_seq (by rfl) T.len PySem.boot_len (pa_cons (pv 2) pa_nil)) (pv 4)) (nomark _)))))
            (pss_one (ps_set (i := 5) scLast.nd rfl (.inl rfl) (pv 6)))
          (pss_one (ps_if (pt_cmpR op_gt (pv 7) pe_int (nomark _))
            (pss_one (ps_set (i := 5) scLast.nd rfl (.inl rfl) (pe_callB (call_max2 rfl) (by rfl) DV.max (by decide +kernel) (pa_cons (pv 5) (pa_cons (pe_op op_add (pv 6) (pe_op op_mul (pe_op op_fdiv (pe_op op_sub (pv 7) pe_int) (pv 3)) (pv 4))) pa_nil))))) pss_nil)))))
      (pss_one (ps_ret (pv 5))))))), ?_⟩
    have few := hT.few
    have b1 := hT.b1
    have L0 := hT.l0
    refine q_call (vs := [.ref o, .ref u]) (ea_cons (ev_var rfl) (ea_cons (ev_var rfl) ea_nil)) fun H1 e1 => ⟨o, u, t, g, t', g', b, L, rfl, hT.mono e1, fun p H2 hp e2 h2 => ?_⟩
    have T2 := hT.mono (e1.trans e2)
    show tSeq _ _ _ [some (.ref o), some (.ref u), some (.ref p), none, none, none, none, none] H2
    have lg : ∀ {x : Int} {σ' : L2.St} {H' : Hp}, Ex H2 H' → σ'[0]? = some (some (.ref o)) → σ'[1]? = some (some (.ref u)) → x = rate g L - rate g' L → Ev (tCall (spLead K C) [] E0 (tCons (tVar 0) (tCons (tVar 1) tNil))) σ' H' (.int x) := fun {x σ' H'} e h0 h1 hx =>
      hx ▸ ev_call (ea_cons (ev_var h0) (ea_cons (ev_var h1) ea_nil)) (fun H1 e' Q q E => ⟨o, u, t, g, t', g', b, L, rfl, T2.mono (e.trans e'), q⟩)
    obtain ⟨loss, hloss⟩ : ∃ loss : Int, loss = rate g' L - rate g L := ⟨_, rfl⟩
    have l0 : 0 < loss := by omega
    refine q_asg (v := .int loss) (ev_is (ev_un (lg (Ex.refl H2) rfl rfl rfl) ru_neg) (by congr 1; omega)) fun H3 e3 => ?_
    refine q_asg (v := .int (L : Int)) (ev_call (ea_cons (ev_var rfl) (ea_cons (ev_var rfl) ea_nil)) (fun H1 e Q q E => ⟨o, u, t, g, t', g', rfl, T2.one.mono (e3.trans e), T2.other.mono (e3.trans e), by rw [← hT.hL]; exact hT.few, by rw [← hT.hL]; exact q⟩)) fun H4 e4 => ?_
    refine q_asg (v := .int (-1)) (ev_un (x := .int 1) ev_c ru_neg) fun H5 e5 => ?_
    have E5 : Ex H2 H5 := (e3.trans e4).trans e5
    have P : Rnd (fun n => val t g n - val t' g' n) b L (-loss) := by
      have := hT.rnd1.sub hT.rnd2
      rwa [show rate g L - rate g' L = -loss by omega] at this
    have h5 := E5 _ _ h2
    refine q_forN (K := K) (a := p) (xs := vI (pT (fun n => val t g n - val t' g' n) (b + L))) (ea_cons (ev_var rfl) ea_nil) (sq_of h5)
      (fun i σ' H' => ∃ (x6 x7 : Option V) (last : Int), σ' = [some (.ref o), some (.ref u), some (.ref p), some (.int loss), some (.int (L : Int)), some (.int last), x6, x7] ∧ Ex H5 H' ∧ LA (fun n => val t g n - val t' g' n) b L i last)
      (fun H6 e6 => ⟨none, none, -1, rfl, e6, la_start⟩) (fun _ _ H' _ ⟨_, _, _, _, e, _⟩ => sq_of (e _ _ h5)) ?_ ?_
    · rintro i x σ' H6 Tn hx ⟨x6, x7, last, rfl, e6, la⟩ hTn
      have hi : i < b + L := by
        have := (List.getElem?_eq_some_iff.mp hx).1
        rwa [vI_len, pT_len] at this
      rw [vI_get (by rw [pT_len]; exact hi), pT_at hi] at hx
      obtain rfl := Option.some.inj hx
      have e7 := Ex.new (o := .tup [.int (i : Nat), .int (val t g i - val t' g' i)]) hTn
      have p7 := (e6.trans e7) _ _ h5
      refine ⟨Tn, [.int (i : Nat), .int (val t g i - val t' g' i)], rfl, st_of upd_same, rfl, _, _, rfl, _, _, rfl, rfl, ?_⟩
      obtain ⟨G, hG⟩ : ∃ G : Int, G = val t g i - val t' g' i := ⟨_, rfl⟩
      rw [← hG] at p7 e7 ⊢
      generalize L2.upd H6 Tn (.tup [.int (i : Nat), .int G]) = H7 at p7 e7 ⊢
      have E7 := e6.trans e7
      show tIfS _ _ _ _ [some (.ref o), some (.ref u), some (.ref p), some (.int loss), some (.int (L : Int)), some (.int last), some (.int (i : Int)), some (.int G)] H7
      have len : Ev (tCB (fun xs H Q => ∃ p ys, xs = [V.ref p] ∧ (SqL K H p ys ∨ SqT K H p ys) ∧ Q (.int ys.length) H) (tCons (tVar 2) tNil)) [some (.ref o), some (.ref u), some (.ref p), some (.int loss), some (.int (L : Int)), some (.int last), some (.int (i : Int)), some (.int G)] H7 (.int ((b + L : Nat) : Int)) :=
        ev_is (ev_cb (ea_cons (ev_var rfl) ea_nil) (rc_lenQ (.inl (sq_of p7)))) (by rw [vI_len, pT_len])
      refine s_if (et_and (et_test (ev_op (ev_var rfl) ev_c rv_I0)) fun _ => et_test (ev_op (ev_var rfl) (ev_op len (ev_var rfl) rv_I0) rv_I0)) (fun hb H8 e8 => ?_) (fun hb H8 e8 => ?_)
      · rw [Bool.and_eq_true_iff] at hb
        have g0 := of_decide_eq_true hb.1
        have ib := of_decide_eq_true hb.2
        refine s_asg (v := .int (i : Int)) (ev_var rfl) fun H9 e9 => ⟨_, _, (i : Int), rfl, (E7.trans e8).trans e9, la_near (by omega) (by show 0 < val t g i - val t' g' i; omega)⟩
      · refine s_if (et_test (ev_op (ev_var rfl) ev_c rv_I0)) (fun hg H9 e9 => ?_) (fun hg H9 e9 => ?_)
        · have g0 := of_decide_eq_true hg
          have bi : b ≤ i := by
            rcases Nat.lt_or_ge i b with z | z
            · exfalso
              rw [decide_eq_true g0, decide_eq_true (show (i : Int) < ((b + L : Nat) : Int) - (L : Int) by omega)] at hb
              cases hb
            · exact z
          have q0 : 0 ≤ (G - 1) / loss := Int.ediv_nonneg (by omega) (by omega)
          have step := la_far (x := (i : Int) + (G - 1) / loss * (L : Int)) la P l0 bi (by show 0 < val t g i - val t' g' i; omega) (by rw [hG])
          refine s_asg (ev_max2 (ev_var rfl) (ev_op (ev_var rfl) (ev_op (ev_op (ev_op (ev_var rfl) ev_c rv_I0) (ev_var rfl) (rv_I ⟨by omega, by omega⟩)) (ev_var rfl) (rv_I (.inr ⟨by omega, by omega⟩))) rv_I0)) fun H10 e10 => ⟨_, _, _, rfl, ((E7.trans e8).trans e9).trans e10, step⟩
        · exact ⟨_, _, last, rfl, (E7.trans e8).trans e9, la_no la P l0 (fun z => by
            have z' : 0 < val t g i - val t' g' i := z
            rw [decide_eq_true (show G > 0 by omega)] at hg
            cases hg)⟩
    · rintro σ' H6 ⟨x6, x7, last, rfl, e6, la⟩
      rw [vI_len, pT_len] at la
      exact s_ret (ev_var rfl) fun H7 e7 => k last la H7 (((e1.trans e2).trans E5).trans (e6.trans e7))
end
end K05
namespace K05
open PySem L2 Evl Gr ClX OpX StX OwX
abbrev sOuter : Stmt := top 28
section
variable {K : PySem.W.Frag} {σ : L2.St} {H : Hp} {ta tb : TE}
abbrev rMinV : List V → Hp → VK → Prop := fun xs H Q => ∃ i j, xs = [V.int i, V.int j] ∧ Q (.int (if j < i then j else i)) H
theorem ev_min2 {i j : Int} (ha : Ev ta σ H (.int i)) (hb : Ev tb σ H (.int j)) : Ev (tCB rMinV (tCons ta (tCons tb tNil))) σ H (.int (if j < i then j else i)) := fun H1 e Q q =>
  ha H1 e _ fun H2 e2 => hb H2 (e.trans e2) _ fun H3 e3 => ⟨i, j, rfl, q H3 (e2.trans e3)⟩
/-- one of two pairs, taken apart -/
theorem q_pair {tt : TT} {tx ty tx' ty' : TE} {c : Bool} {x y x' y' : V} {i j : Nat} {tz : TS} {D : Ends} (h : EvT tt σ H c) (hx : c = true → Ev tx σ H x ∧ Ev ty σ H y) (hy : c = false → Ev tx' σ H x' ∧ Ev ty' σ H y')
    (k : ∀ H1, Ex H H1 → tz D ((σ.set i (some (if c then x else x'))).set j (some (if c then y else y'))) H1) :
    tSeq (tAsg (tIf tt (tTup (tCons tx (tCons ty tNil))) (tTup (tCons tx' (tCons ty' tNil)))) (gTup K 2 (gCons (gName i) (gCons (gName j) gNil)))) tz D σ H := h H (Ex.refl H) _ fun H1 e1 => by
  have fin : ∀ {a b : V} {t1 t2 : TE}, Ev t1 σ H a → Ev t2 σ H b → (∀ H1, Ex H H1 → tz D ((σ.set i (some a)).set j (some b)) H1) → tTup (tCons t1 (tCons t2 tNil)) σ H1 fun v H2 => gTup K 2 (gCons (gName i) (gCons (gName j) gNil)) v σ H2 fun σ' H' => tz D σ' H' := fun {a b t1 t2} h1 h2 kk =>
    eu_tup (σ := σ) (H := H) (ea_cons h1 (ea_cons h2 ea_nil)) (Nat.le_of_ble_eq_true rfl) H1 e1 _ fun p H2 _ e2 hp => ⟨p, [a, b], rfl, st_of hp, rfl, _, _, rfl, _, _, rfl, rfl, kk H2 (e1.trans e2)⟩
  cases c with
  | true => exact fin (hx rfl).1 (hx rfl).2 k
  | false => exact fin (hy rfl).1 (hy rfl).2 k
end
section
variable {P : Program} {w : World} {K : PySem.W.Frag} {mg : Str → Option Value} {base : Heap}
/-! ### outer_parts -/
def spOuter (K : PySem.W.Frag) (C : Addr) : Sp := fun vs H Q _ => ∃ (o u : Addr) (up : Bool) (t g t' g' : List Int) (b L : Nat), vs = [.ref o, .ref u, .bl up] ∧ Two K C H o u t g t' g' b L ∧ (rate g L = rate g' L ∨ Ord (val t g) (val t' g')) ∧
  (rate g L - rate g' L < 1073741824 ∧ rate g' L - rate g L < 1073741824) ∧
  ∀ r p q b' l' H', Ex H H' → SqT K H' r [.ref p, .ref q] → SqL K H' p (vI (pT (fun n => pk up (val t g n) (val t' g' n)) b')) → SqL K H' q (vI (pG (fun n => pk up (val t g n) (val t' g' n)) b' l')) → 0 < b' → b' ≤ 2000 → 0 < l' → l' ≤ 2000 →
    (∀ n, val (pT (fun n => pk up (val t g n) (val t' g' n)) b') (pG (fun n => pk up (val t g n) (val t' g' n)) b' l') n = pk up (val t g n) (val t' g' n)) → Q (.ref r) H'
abbrev nOuter : List Str := ["one", "other", "is_greatest", "lead", "begin", "many", "fast", "slow", "last", "crossing", "lefts", "rights", "left", "right"]
theorem scOuter : FnScope nOuter ["one", "other", "is_greatest"] (defScope sOuter) := ⟨rfl, rfl, rfl, by decide +kernel, rfl, by decide +kernel, by decide +kernel⟩
theorem ok_Outer {C f : Addr} {fd : FuncData} (F : Fun K "outer_parts" "outer_parts" sOuter f fd) (T : GlbS mg) (DV : GlbV mg) (min_ : mg "min" = none) (GL : GlbL mg) (G : GCls K C)
    (LL : Gfn P w K mg base 2 "lead_of" ["one", "other"] (spLead K C)) (LB : Gfn P w K mg base 1 "begin_of_both" ["one", "other"] (spBegin K C)) (LC : Gfn P w K mg base 1 "common_length" ["one", "other"] (spCommon K C))
    (LA' : Gfn P w K mg base 3 "last_number_above" ["one", "other"] (spLast K C)) (LF : Gfn P w K mg base 1 "first_values" ["one", "many"] (spFirst K C)) (LP : Gfn P w K mg base 1 "parted" ["values", "many"] (spPart K)) :
    FnOk P w K mg base CX0 4 f fd ["one", "other", "is_greatest"] (spOuter K C) := by
  obtain ⟨fL, fdL, GLd, kL, bL, gL⟩ := LL
  obtain ⟨fB, fdB, GB, kB, bB, gB⟩ := LB
  obtain ⟨fC, fdC, GC, kC, bC, gC⟩ := LC
  obtain ⟨fA, fdA, GA, kA, bA, gA⟩ := LA'
  obtain ⟨fF, fdF, GF, kF, bF, gF⟩ := LF
  obtain ⟨fP, fdP, GP, kP, bP, gP⟩ := LP
  obtain ⟨mt, gm⟩ := GL.most
  refine F.ok scOuter (fun vs H Q E h => ?_) (fun cdv A outer s H vs Q E hr h => ?_)
  · obtain ⟨o, u, up, t, g, t', g', b, L, rfl, _⟩ := h
    rfl
  · obtain ⟨o, u, up, t, g, t', g', b, L, rfl, hT, hX, hD, k⟩ := h
    have r1 := hr.mono (show 1 ≤ 3 by decide)
    have r2 := hr.mono (show 2 ≤ 3 by decide)
    refine ⟨_, pss_cons (ps_set (i := 3) scOuter.nd rfl (.inl rfl) (pe_call GLd r2 (by rfl) gL kL bL .nil pass0 (pa_cons (pv 0) (pa_cons (pv 1) pa_nil))))
      (pss_cons (ps_set (i := 4) scOuter.nd rfl (.inl rfl) (pe_call GB r1 (by rfl) gB kB bB .nil pass0 (pa_cons (pv 0) (pa_cons (pv 1) pa_nil))))
      (pss_cons (ps_set (i := 5) scOuter.nd rfl (.inl rfl) (pe_op op_add (pv 4) (pe_call GC r1 (by rfl) gC kC bC .nil pass0 (pa_cons (pv 0) (pa_cons (pv 1) pa_nil)))))
      (pss_cons (ps_if (pt_cmpR op_ne (pv 3) pe_int (nomark _))
        (pss_cons (ps_asg (pe_ifExp (pt_cmpR op_gt (pv 3) pe_int (nomark _)) (pe_tup (pa_cons (pv 0) (pa_cons (pv 1) pa_nil))) (pe_tup (pa_cons (pv 1) (pa_cons (pv 0) pa_nil)))) (pg_tup rfl (pgs_cons (pg_name (i := 6) scOuter.nd rfl (.inl rfl)) (pgs_cons (pg_name (i := 7) scOuter.nd rfl (.inl rfl)) pgs_nil))))
        (pss_cons (ps_set (i := 8) scOuter.nd rfl (.inl rfl) (pe_ifExp (pt_val (pv 2)) (pv 6) (pv 7)))
        (pss_cons (ps_set (i := 9) scOuter.nd rfl (.inl rfl) (pe_call GA hr (by rfl) gA kA bA .nil pass0 (pa_cons (pv 7) (pa_cons (pv 6) pa_nil))))
        (pss_cons (ps_if (pt_cmpR op_gt (pe_op op_add (pv 9) pe_int) (pe_glob (v := .int 2000) rfl gm ⟨_, rfl⟩) (nomark _)) (pss_one ps_no) pss_nil)
        (pss_cons (ps_set (i := 4) scOuter.nd rfl (.inl rfl) (pe_callB (call_max2 rfl) (by rfl) DV.max (by decide +kernel) (pa_cons (pe_callB call_len_seq (by rfl) T.len PySem.boot_len (pa_cons (pe_fld (pv 8) rfl) pa_nil)) (pa_cons (pe_op op_add (pv 9) pe_int) pa_nil))))
        (pss_one (ps_set (i := 5) scOuter.nd rfl (.inl rfl) (pe_op op_add (pv 4) (pe_callB call_len_seq (by rfl) T.len PySem.boot_len (pa_cons (pe_fld (pv 8) rfl) pa_nil)))))))))) pss_nil)
      (pss_cons (ps_par (i := 10) (j := 11) rfl scOuter.nd rfl rfl (by decide) (by rfl) (by rfl) (pa_cons (pe_call GF r1 (by rfl) gF kF bF .nil pass0 (pa_cons (pv 0) (pa_cons (pv 5) pa_nil))) (pa_cons (pe_call GF r1 (by rfl) gF kF bF .nil pass0 (pa_cons (pv 1) (pa_cons (pv 5) pa_nil))) pa_nil)) (by rfl))
      (pss_cons (ps_if (pt_val (pv 2))
        (pss_one (ps_ret (pe_call GP r1 (by rfl) gP kP bP .nil pass0 (pa_cons (pe_lc (own := [("left", 12), ("right", 13)]) (g := gTup K 2 (gCons (gName 12) (gCons (gName 13) gNil))) rfl scOuter.nd (pi_zip (by rfl) DV.zip (pa_cons (pv 10) (pa_cons (pv 11) pa_nil)))
            (blkOk_by (own := [("left", 12), ("right", 13)]) (N := nOuter) (sc := defScope sOuter) (by decide +kernel))
            (fun _ _ _ _ _ => pg_tup rfl (pgs_cons (pg_name (i := 12) scOuter.nd rfl (Or.inl rfl)) (pgs_cons (pg_name (i := 13) scOuter.nd rfl (Or.inl rfl)) pgs_nil))) (fun _ _ _ _ _ => pts_nil)
            (fun _ _ _ _ _ => pe_callB (call_max2 rfl) (by rfl) DV.max (by decide +kernel) (pa_cons (pv 12) (pa_cons (pv 13) pa_nil)))) (pa_cons (pv 4) pa_nil))))) pss_nil)
      (pss_one (ps_ret (pe_call GP r1 (by rfl) gP kP bP .nil pass0 (pa_cons (pe_lc (own := [("left", 12), ("right", 13)]) (g := gTup K 2 (gCons (gName 12) (gCons (gName 13) gNil))) rfl scOuter.nd (pi_zip (by rfl) DV.zip (pa_cons (pv 10) (pa_cons (pv 11) pa_nil)))
            (blkOk_by (own := [("left", 12), ("right", 13)]) (N := nOuter) (sc := defScope sOuter) (by decide +kernel))
            (fun _ _ _ _ _ => pg_tup rfl (pgs_cons (pg_name (i := 12) scOuter.nd rfl (Or.inl rfl)) (pgs_cons (pg_name (i := 13) scOuter.nd rfl (Or.inl rfl)) pgs_nil))) (fun _ _ _ _ _ => pts_nil)
            (fun _ _ _ _ _ => pe_callB (call_min2 rfl) (by rfl) min_ (by decide +kernel) (pa_cons (pv 12) (pa_cons (pv 13) pa_nil)))) (pa_cons (pv 4) pa_nil)))))))))), ?_⟩
    have few := hT.few
    have b1 := hT.b1
    have b0 := hT.b0
    have L0 := hT.l0
    obtain ⟨nf1, t2, g2, sm1⟩ := grAt_nf hT.one
    obtain ⟨nf2, t2', g2', sm2⟩ := grAt_nf hT.other
    obtain ⟨ld, hld⟩ : ∃ ld : Int, ld = rate g L - rate g' L := ⟨_, rfl⟩
    refine q_asg (v := .int ld) (hld ▸ ev_call (ea_cons (ev_var rfl) (ea_cons (ev_var rfl) ea_nil)) (fun H1 e Q q E => ⟨o, u, t, g, t', g', b, L, rfl, hT.mono e, q⟩)) fun H1 e1 => ?_
    refine q_asg (v := .int (b : Int)) (ev_call (ea_cons (ev_var rfl) (ea_cons (ev_var rfl) ea_nil)) (fun H2 e Q q E => ⟨o, u, t, g, t', g', rfl, hT.one.mono (e1.trans e), hT.other.mono (e1.trans e), by rw [← hT.hb]; exact q⟩)) fun H2 e2 => ?_
    refine q_asg (v := .int ((b + L : Nat) : Int)) (ev_is (ev_op (y := .int (L : Int)) (ev_var rfl) (ev_call (ea_cons (ev_var rfl) (ea_cons (ev_var rfl) ea_nil)) (fun H3 e Q q E => ⟨o, u, t, g, t', g', rfl, hT.one.mono ((e1.trans e2).trans e), hT.other.mono ((e1.trans e2).trans e), by rw [← hT.hL]; exact hT.few, by rw [← hT.hL]; exact q⟩)) rv_I0) rfl) fun H3 e3 => ?_
    have E3 := (e1.trans e2).trans e3
    have T3 := hT.mono E3
    refine q_join (fun σ' H' => ∃ (x6 x7 x8 x9 : Option V) (b' l' : Nat), σ' = [some (.ref o), some (.ref u), some (.bl up), some (.int ld), some (.int (b' : Int)), some (.int ((b' + l' : Nat) : Int)), x6, x7, x8, x9, none, none, none, none] ∧ Ex H3 H' ∧ 0 < b' ∧ b' ≤ 2000 ∧ 0 < l' ∧ l' ≤ 2000 ∧
      ∀ n, val (pT (fun n => pk up (val t g n) (val t' g' n)) b') (pG (fun n => pk up (val t g n) (val t' g' n)) b' l') n = pk up (val t g n) (val t' g' n)) ?_ fun rest => ?_
    · -- the values of both, and the parts
      rintro σ' H4 ⟨x6, x7, x8, x9, b', l', rfl, e4, b0', b1', l0', l1', hv⟩
      refine q_par (cons_i ⟨_, rfl, _, rfl, o, b' + l', t, g, rfl, T3.one.mono e4, by omega, fun x H5 _ e5 hx => cons_i ⟨_, rfl, _, rfl, u, b' + l', t', g', rfl, (T3.other.mono e4).mono e5, by omega, fun y H6 _ e6 hy => ⟨_, _, rfl, ?_⟩⟩⟩)
      have hx6 := sq_of (K := K) (e6 _ _ hx)
      have hy6 := sq_of (K := K) hy
      have E6 := (e4.trans e5).trans e6
      show tSeq _ _ _ [some (.ref o), some (.ref u), some (.bl up), some (.int ld), some (.int (b' : Int)), some (.int ((b' + l' : Nat) : Int)), x6, x7, x8, x9, some (.ref x), some (.ref y), none, none] H6
      have two : ∀ {te : TE} {H7 : Hp}, Ex H6 H7 → (∀ n H8, Ev te [some (.ref o), some (.ref u), some (.bl up), some (.int ld), some (.int (b' : Int)), some (.int ((b' + l' : Nat) : Int)), x6, x7, x8, x9, some (.ref x), some (.ref y), some (.int (val t g n)), some (.int (val t' g' n))] H8 (.int (pk up (val t g n) (val t' g' n)))) →
          EvL (tLc (iZip K (tCons (tVar 10) (tCons (tVar 11) tNil))) (gTup K 2 (gCons (gName 12) (gCons (gName 13) gNil))) tYes te [12, 13]) [some (.ref o), some (.ref u), some (.bl up), some (.int ld), some (.int (b' : Int)), some (.int ((b' + l' : Nat) : Int)), x6, x7, x8, x9, some (.ref x), some (.ref y), none, none] H7 (vI (pT (fun n => pk up (val t g n) (val t' g' n)) (b' + l'))) := fun {te H7} e7 ht =>
        el_both (K := K) (C := C) (o := o) (u := u) (t := t) (g := g) (t' := t') (g' := g') (m := b' + l') (f := fun n => pk up (val t g n) (val t' g' n))
          (fun H8 e8 Q8 q8 => ⟨_, rfl, _, rfl, q8 x y H8 (Ex.refl H8) (ex_l (e7.trans e8) hx6) (ex_l (e7.trans e8) hy6)⟩) (by omega) (fun _ _ => rfl) (fun n H8 _ _ => ht n H8)
      have fin : ∀ {te : TE} {H7 : Hp} {D : Ends}, Ex H6 H7 → EvL te [some (.ref o), some (.ref u), some (.bl up), some (.int ld), some (.int (b' : Int)), some (.int ((b' + l' : Nat) : Int)), x6, x7, x8, x9, some (.ref x), some (.ref y), none, none] H7 (vI (pT (fun n => pk up (val t g n) (val t' g' n)) (b' + l'))) → D.rt = Q →
          tRet (tCall (spPart K) [] E0 (tCons te (tCons (tVar 4) tNil))) D [some (.ref o), some (.ref u), some (.bl up), some (.int ld), some (.int (b' : Int)), some (.int ((b' + l' : Nat) : Int)), x6, x7, x8, x9, some (.ref x), some (.ref y), none, none] H7 := fun {te H7 D} e7 hl hQ =>
        hl H7 (Ex.refl H7) _ fun z H8 _ e8 hz => ⟨_, rfl, z, b', l', fun n => pk up (val t g n) (val t' g' n), rfl, sq_of hz, b0', by omega, fun r p q H9 e9 hr9 hp9 hq9 => by
          rw [hQ]
          exact k r p q b' l' H9 (E3.trans (E6.trans ((e7.trans e8).trans e9))) hr9 hp9 hq9 b0' b1' l0' l1' hv⟩
      cases up with
      | true =>
        refine q_when (et_B (b := true) (ev_var rfl)) (fun _ H7 e7 => ?_) (fun hb => absurd hb (by decide))
        exact fin e7 (two e7 fun n H8 => ev_max2 (ev_var rfl) (ev_var rfl)) rfl
      | false =>
        refine q_when (et_B (b := false) (ev_var rfl)) (fun hb => absurd hb (by decide)) (fun _ H7 e7 => ?_)
        exact fin e7 (two e7 fun n H8 => ev_min2 (ev_var rfl) (ev_var rfl)) rfl
    · -- where they cross
      have Two3 := hT.mono E3
      refine q_if (b := !decide (V.int ld = V.int 0)) (et_test (ev_op (ev_var rfl) ev_c (rv_ne rfl))) (fun hb H4 e4 => ?_) (fun hb H4 e4 => ?_)
      · have ld0 : ld ≠ 0 := fun z => by rw [z, decide_eq_true rfl] at hb; cases hb
        have hO : Ord (val t g) (val t' g') := hX.resolve_left fun z => ld0 (by omega)
        obtain ⟨x, y, tf, gf, ts, gs, hx6, hx7, TF, lt, fw, ord, hpk⟩ : ∃ (x y : Addr) (tf gf ts gs : List Int), (if decide (ld > 0) then V.ref o else V.ref u) = V.ref x ∧ (if decide (ld > 0) then V.ref u else V.ref o) = V.ref y ∧ Two K C H4 x y tf gf ts gs b L ∧ rate gs L < rate gf L ∧ rate gf L - rate gs L < 1073741824 ∧
            (∀ n, 1998 < n → val ts gs n ≤ val tf gf n) ∧ (∀ n, pk up (val t g n) (val t' g' n) = pk up (val tf gf n) (val ts gs n)) := by
          by_cases c : ld > 0
          · rw [decide_eq_true c]
            exact ⟨o, u, t, g, t', g', rfl, rfl, Two3.mono e4, by omega, by omega, ord_lead hO hT.rnd1 hT.rnd2 (by omega), fun n => rfl⟩
          · rw [decide_eq_false c]
            exact ⟨u, o, t', g', t, g, rfl, rfl, (Two3.mono e4).swap, by omega, by omega, ord_lead hO.symm hT.rnd2 hT.rnd1 (by omega), fun n => pk_comm⟩
        dsimp only
        refine q_pair (c := decide (ld > 0)) (x := .ref o) (y := .ref u) (x' := .ref u) (y' := .ref o) (et_test (ev_op (ev_var rfl) ev_c rv_I0)) (fun _ => ⟨ev_var rfl, ev_var rfl⟩) (fun _ => ⟨ev_var rfl, ev_var rfl⟩) fun H5 e5 => ?_
        rw [hx6, hx7]
        have T5 := TF.mono e5
        obtain ⟨z, tz, gz, hz8, hz, zb, hzv⟩ : ∃ (z : Addr) (tz gz : List Int), (if up then V.ref x else V.ref y) = V.ref z ∧ GrAt K C H5 z tz gz ∧ tz.length ≤ b ∧ ∀ n, val ts gs n ≤ val tf gf n → pk up (val t g n) (val t' g' n) = val tz gz n := by
          have hb' := T5.hb
          cases up with
          | true => exact ⟨x, tf, gf, rfl, T5.one, by omega, fun n h => (hpk n).trans (pk_ge h)⟩
          | false => exact ⟨y, ts, gs, rfl, T5.other, by omega, fun n h => (hpk n).trans (pk_ge h)⟩
        refine q_asg (v := .ref z) (ev_if (b := up) (et_B (ev_var rfl)) (fun h => by subst h; rw [← hz8]; exact ev_var rfl) (fun h => by subst h; rw [← hz8]; exact ev_var rfl)) fun H6 e6 => ?_
        have T6 := T5.mono e6
        obtain ⟨znf, zt2, zg2, _⟩ := grAt_nf hz
        refine q_call (vs := [.ref y, .ref x]) (ea_cons (ev_var rfl) (ea_cons (ev_var rfl) ea_nil)) fun H7 e7 => ⟨y, x, ts, gs, tf, gf, b, L, rfl, (T6.mono e7).swap, lt, fw, fun last la H8 e8 => ?_⟩
        have above : ∀ n : Nat, 0 < val ts gs n - val tf gf n → (n : Int) ≤ last := fun n h => la_end la L0 n h
        have ends : -1 ≤ last ∧ last ≤ 1998 := by
          rcases la.is with h | ⟨m, h, hm⟩
          · omega
          · have hm' : 0 < val ts gs m - val tf gf m := hm
            have : ¬ 1998 < m := fun z => by have := ord m z; omega
            omega
        obtain ⟨c, hc⟩ := Int.eq_ofNat_of_zero_le (show 0 ≤ last + 1 by omega)
        have hc1 : c ≤ 1999 := by omega
        have hl : last = (c : Int) - 1 := by omega
        subst hl
        refine q_when (et_test (ev_op (ev_op (ev_var rfl) ev_c rv_I0) ev_c rv_I0)) (fun hb9 H9 e9 => ?_) (fun hb9 H9 e9 => ?_)
        · have := of_decide_eq_true hb9
          omega
        have hz9 := (((hz.mono e6).mono e7).mono e8).mono e9
        obtain ⟨dx, p, q, r, h1, h2, h3, h4, nf, t2', g2', sm⟩ := hz9
        obtain ⟨b', hb'⟩ : ∃ b' : Nat, b' = max tz.length (c + 1) := ⟨_, rfl⟩
        refine q_asg (v := .int (b' : Int)) (ev_is (ev_max2 (ev_lenF (ev_var rfl) h1 G.cls G.told rfl h2) (ev_op (ev_var rfl) ev_c rv_I0)) ?_) fun H10 e10 => ?_
        · congr 1
          split <;> omega
        have z0 := znf.told
        have zg0 := znf.gains
        refine s_asg (ev_is (ev_op (ev_var rfl) (ev_lenF (ev_var rfl) (e10 _ _ h1) G.cls G.gains rfl (ex_t e10 h3)) rv_I0) (show V.int _ = V.int ((b' + gz.length : Nat) : Int) from rfl)) fun H11 e11 => rest _ _ ⟨some (.ref x), some (.ref y), some (.ref z), some (.int ((c : Int) - 1)), b', gz.length, rfl, ?_, by omega, by omega, zg0, by omega, ?_⟩
        · exact e4.trans (e5.trans (e6.trans (e7.trans (e8.trans (e9.trans (e10.trans e11))))))
        · exact val_outer z0 zg0 (c := c) (fun n hn => hzv n (by
            have : ¬ 0 < val ts gs n - val tf gf n := fun z => by have := above n z; omega
            omega)) (by omega) (by omega)
      · have ld0 : ld = 0 := by
          rcases Decidable.em (ld = 0) with z | z
          · exact z
          · rw [decide_eq_false (fun h => z (V.int.inj h))] at hb
            cases hb
        exact rest _ _ ⟨none, none, none, none, b, L, rfl, e4, b0, b1, L0, few, fun n => val_rnd b0 L0 (rnd_pk hT.rnd1 (by rw [show rate g L = rate g' L by omega]; exact hT.rnd2)) n⟩
end
end K05
namespace K05
open PySem L2 Evl Gr ClX OpX StX OwX
section
variable {P : Program} {w : World} {K : PySem.W.Frag} {mg : Str → Option Value} {base : Heap}
theorem two_of {C o u : Addr} {H : Hp} {t g t' g' : List Int} {f f' : Nat → Int} {l : Nat} (hO : GrAt K C H o t g) (hU : GrAt K C H u t' g') (v : ∀ n, val t g n = f n) (v' : ∀ n, val t' g' n = f' n) (l0 : 0 < l) (l1 : l ≤ 2000) (d : PerT f l) (d' : PerT f' l) :
    Nat.lcm g.length g'.length ∣ l ∧ Two K C H o u t g t' g' (max t.length t'.length) (Nat.lcm g.length g'.length) := by
  have a := Nat.lcm_dvd (nf_dvd (grAt_nf hO).1 v d) (nf_dvd (grAt_nf hU).1 v' d')
  exact ⟨a, hO, hU, rfl, rfl, Nat.le_trans (Nat.le_of_dvd l0 a) l1⟩
def spPk (up : Bool) (K : PySem.W.Frag) (C : Addr) : Sp := fun vs H Q _ => ∃ (o u : Addr) (f f' : Nat → Int), vs = [.ref o, .ref u] ∧ GrF K C H o f ∧ GrF K C H u f' ∧ PerT f 12 ∧ PerT f' 12 ∧ Tail f 1000000 ∧ Tail f' 1000000 ∧ (EqR f f' ∨ Ord f f') ∧ (∀ n, 0 ≤ f n) ∧ (∀ n, 0 ≤ f' n) ∧
  RetG K C (fun n => pk up (f n) (f' n)) H Q
theorem scPk (up : Bool) : FnScope ["self", "other", "told", "gains"] ["self", "other"] (defScope (sGr (if up then 6 else 7))) := by cases up <;> exact ⟨rfl, rfl, rfl, by decide +kernel, rfl, by decide +kernel, by decide +kernel⟩
/-- both read alike -/
theorem pk_read {up : Bool} {C o u : Addr} {H : Hp} {t g t' g' : List Int} {f f' : Nat → Int} {Q : VK} {D : Ends} {tu : TS} (G : GCls K C) (I : GIsi K C) (hO : GrAt K C H o t g) (hU : GrAt K C H u t' g') (p1 : Pos t) (p2 : Pos t') (v1 : ∀ n, val t g n = f n) (v2 : ∀ n, val t' g' n = f' n)
    (d1 : PerT f 12) (d2 : PerT f' 12) (tl1 : Tail f 1000000) (tl2 : Tail f' 1000000) (hx : EqR f f' ∨ Ord f f') (n1 : ∀ n, 0 ≤ f n) (n2 : ∀ n, 0 ≤ f' n) (k : RetG K C (fun n => pk up (f n) (f' n)) H Q) (hQ : D.rt = Q) :
    tSeq (tIfS (tNot (tB (tCB (rIsi K) (tCons (tVar 1) (tCons (tC (.ref C)) tNil))))) tu tNext) (tSeq (tAsg (tCall (spOuter K C) [] E0 (tCons (tVar 0) (tCons (tVar 1) (tCons (tC (.bl up)) tNil)))) (gTup K 2 (gCons (gName 2) (gCons (gName 3) gNil))))
      (tRet (tMake C (spInit K C) [] E0 (tCons (tVar 2) (tCons (tVar 3) tNil))))) D [some (.ref o), some (.ref u), none, none] H := by
  obtain ⟨lc, T⟩ := two_of hO hU v1 v2 (by decide) (by decide) d1 d2
  have e1 : val t g = f := funext v1
  have e2 : val t' g' = f' := funext v2
  have q1 := (grAt_nf hO).1
  have q2 := (grAt_nf hU).1
  have L12 : Nat.lcm g.length g'.length ≤ 12 := Nat.le_of_dvd (by decide) lc
  have r1 := rate_tail q1.told q1.gains (Nat.dvd_lcm_left g.length g'.length) (e1 ▸ tl1)
  have r2 := rate_tail q2.told q2.gains (Nat.dvd_lcm_right g.length g'.length) (e2 ▸ tl2)
  have hX : rate g (Nat.lcm g.length g'.length) = rate g' (Nat.lcm g.length g'.length) ∨ Ord (val t g) (val t' g') := by
    rw [e1, e2]
    refine hx.imp (fun h => ?_) id
    have a := T.rnd1
    have b := T.rnd2
    rw [e1] at a
    rw [e2] at b
    exact lead_zero h a b
  refine q_when (et_not (et_B (ev_isG G I (ev_var rfl) hU))) (fun hb => absurd hb (by decide)) (fun _ H1 e3 => ?_)
  refine ⟨_, rfl, _, rfl, o, u, up, t, g, t', g', _, _, rfl, T.mono e3, hX, ⟨by omega, by omega⟩, fun r p q b l' H2 e4 hr2 hp hq b0 b1 l0' l1' hv => ?_⟩
  rw [e1, e2] at hp hq hv
  refine ⟨r, [.ref p, .ref q], rfl, hr2, rfl, _, _, rfl, _, _, rfl, rfl, ?_⟩
  refine eg_make (K := K) (C := C) (σ := [some (.ref o), some (.ref u), some (.ref p), some (.ref q)]) (H := H2) (ta := tCons (tVar 2) (tCons (tVar 3) tNil)) (EvP.pair (ev_var rfl) (ev_var rfl) (.inl hp) (.inl hq)) (by rw [pT_len]; exact b0) (by rw [pT_len]; exact b1) (by rw [pG_len]; exact l0') (by rw [pG_len]; exact l1')
    (fun i hi => by
      rw [pT_len] at hi
      rw [pT_at hi]
      exact pk_pos (n1 i) (n2 i)) (fun i hi => ?_) hv H2 (Ex.refl H2) _ fun x H3 hx e5 gr => by
        rw [hQ]
        exact k x H3 (fresh_back (e3.trans e4) hx) ((e3.trans e4).trans e5) gr
  have := gains_tail (by rw [pT_len]; exact b0) hv (tail_pk (up := up) tl1 tl2) i hi
  exact ⟨this.1, Int.le_trans this.2 (by decide)⟩
theorem ok_Or {C f fI : Addr} {mc : Value} {fd fdI : FuncData} (F : Fun K "__or__" "Growth.__or__" (sGr 6) f fd) (N : GName K mg C mc) (G : GCls K C) (I : GIsi K C) (TT : GlbT mg) (M : Mk K C fI)
    (GI : FnOk P w K mg base CX0 4 fI fdI ["self", "told", "gains"] (spInit K C)) (bI : Binds K fdI ["self", "told", "gains"] [])
    (LO : Gfn P w K mg base 4 "outer_parts" ["one", "other", "is_greatest"] (spOuter K C)) : FnOk P w K mg base CX0 6 f fd ["self", "other"] (spPk true K C) := by
  obtain ⟨fO, fdO, GO, kO, bO, gO⟩ := LO
  refine F.ok (scPk true) (fun vs H Q E h => ?_) (fun cdv A outer s H vs Q E hr h => ?_)
  · obtain ⟨o, u, f1, f2, rfl, _⟩ := h
    rfl
  · obtain ⟨o, u, f1, f2, rfl, ⟨t, g, hO, p1, v1⟩, ⟨t', g', hU, p2, v2⟩, d1, d2, tl1, tl2, hx, n1, n2, k⟩ := h
    refine ⟨_, pss_cons (ps_if (pt_not (pt_val (pe_callB call_isi (by rfl) TT.inst (by decide +kernel) (pa_cons (pv 1) (pa_cons (pe_glob (v := .ref C) rfl N.g rfl) pa_nil))))) (pss_one ps_no) pss_nil)
      (pss_cons (ps_asg (pe_call GO (hr.mono (by decide)) (by rfl) gO kO bO .nil pass0 (pa_cons (pv 0) (pa_cons (pv 1) (pa_cons pe_bl pa_nil)))) (pg_tup rfl (pgs_cons (pg_name (i := 2) (scPk true).nd rfl (.inl rfl)) (pgs_cons (pg_name (i := 3) (scPk true).nd rfl (.inl rfl)) pgs_nil))))
      (pss_one (ps_ret (pe_make M GI hr (by rfl) N.g bI .nil pass0 (pa_cons (pv 2) (pa_cons (pv 3) pa_nil)))))), ?_⟩
    exact pk_read G I hO hU p1 p2 v1 v2 d1 d2 tl1 tl2 hx n1 n2 k rfl
theorem ok_And {C f fI : Addr} {mc : Value} {fd fdI : FuncData} (F : Fun K "__and__" "Growth.__and__" (sGr 7) f fd) (N : GName K mg C mc) (G : GCls K C) (I : GIsi K C) (TT : GlbT mg) (M : Mk K C fI)
    (GI : FnOk P w K mg base CX0 4 fI fdI ["self", "told", "gains"] (spInit K C)) (bI : Binds K fdI ["self", "told", "gains"] [])
    (LO : Gfn P w K mg base 4 "outer_parts" ["one", "other", "is_greatest"] (spOuter K C)) : FnOk P w K mg base CX0 6 f fd ["self", "other"] (spPk false K C) := by
  obtain ⟨fO, fdO, GO, kO, bO, gO⟩ := LO
  refine F.ok (scPk false) (fun vs H Q E h => ?_) (fun cdv A outer s H vs Q E hr h => ?_)
  · obtain ⟨o, u, f1, f2, rfl, _⟩ := h
    rfl
  · obtain ⟨o, u, f1, f2, rfl, ⟨t, g, hO, p1, v1⟩, ⟨t', g', hU, p2, v2⟩, d1, d2, tl1, tl2, hx, n1, n2, k⟩ := h
    refine ⟨_, pss_cons (ps_if (pt_not (pt_val (pe_callB call_isi (by rfl) TT.inst (by decide +kernel) (pa_cons (pv 1) (pa_cons (pe_glob (v := .ref C) rfl N.g rfl) pa_nil))))) (pss_one ps_no) pss_nil)
      (pss_cons (ps_asg (pe_call GO (hr.mono (by decide)) (by rfl) gO kO bO .nil pass0 (pa_cons (pv 0) (pa_cons (pv 1) (pa_cons pe_bl pa_nil)))) (pg_tup rfl (pgs_cons (pg_name (i := 2) (scPk false).nd rfl (.inl rfl)) (pgs_cons (pg_name (i := 3) (scPk false).nd rfl (.inl rfl)) pgs_nil))))
      (pss_one (ps_ret (pe_make M GI hr (by rfl) N.g bI .nil pass0 (pa_cons (pv 2) (pa_cons (pv 3) pa_nil)))))), ?_⟩
    exact pk_read G I hO hU p1 p2 v1 v2 d1 d2 tl1 tl2 hx n1 n2 k rfl
end
end K05
namespace K05
open PySem L2 Evl Gr ClX OpX StX OwX StM
structure GOps (K : PySem.W.Frag) (C fA fO fM fR : Addr) : Prop where
  first : PySem.W.selfFirst K C = true
  add : Has K C fA (PySem.dunder "add")
  or_ : Has K C fO (PySem.dunder "or")
  mul : PySem.W.findIn K (.ref C) (PySem.dunder "mul") = some (some (.ref fM))
  rmul : Has K C fR (PySem.dunderR "mul")
  noInt : PySem.W.subIn K (.ref C) (.type "int") = some false
section
variable {X : Cx} {C : Addr} {σ : L2.St} {H : Hp} {ta tb : TE} {f f' : Nat → Int}
theorem er_pk {up : Bool} (ha : EvR X.K C ta σ H f) (hb : EvR X.K C tb σ H f') (d1 : PerT f 12) (d2 : PerT f' 12) (t1 : Tail f 1000000) (t2 : Tail f' 1000000) (hx : EqR f f' ∨ Ord f f') (n1 : ∀ n, 0 ≤ f n) (n2 : ∀ n, 0 ≤ f' n) :
    EvR X.K C (tOp (rS X C (spPk up X.K C) E0) ta tb) σ H (fun n => pk up (f n) (f' n)) := fun H1 e Q q =>
  ha H1 e _ fun o H2 e2 go => hb H2 (e.trans e2) _ fun u H3 e3 gu => ⟨o, u, rfl, rfl, gr_ins (go.mono e3), gr_ins gu, o, u, f, f', rfl, go.mono e3, gu, d1, d2, t1, t2, hx, n1, n2, fun a H4 _ e4 gr => q a H4 ((e2.trans e3).trans e4) gr⟩
end
section
variable {P : Program} {w : World} {K : PySem.W.Frag} {mg : Str → Option Value} {base : Heap}
/-! ### _law_through_right -/
abbrev sTh : Stmt := top 46
abbrev nTh : List Str := ["_law_one", "_law_other", "_law_third", "_law_a", "_law_b", "_law_c"]
theorem scTh : FnScope nTh ["_law_one", "_law_other", "_law_third"] (defScope sTh) := ⟨rfl, rfl, rfl, by decide +kernel, rfl, by decide +kernel, by decide +kernel⟩
def spTh (K : PySem.W.Frag) : Sp := fun vs H Q _ => ∃ (a c d : Addr) (t1 g1 t2 g2 t3 g3 : List Int), vs = [.ref a, .ref c, .ref d] ∧ Pl K H a t1 g1 ∧ Pl K H c t2 g2 ∧ Pl K H d t3 g3 ∧ Fm (val t1 g1) 5 2 4 ∧ Fm (val t2 g2) 5 1 4 ∧ Fm (val t3 g3) 5 3 4 ∧ Rel (val t1 g1) (val t2 g2) ∧ (∀ n, 1998 < n → 4 ≤ val t3 g3 n) ∧ RetV (.bl true) H Q
theorem ok_Th {C f fI fE fA fS fD fO fM fR fRa pRa : Addr} {mc u0 : Value} {fd fdI fdE fdA fdS fdD fdO fdR fdRa : FuncData} (F : Fun K "_law_through_right" "_law_through_right" sTh f fd) (N : GName K mg C mc) (G : GCls K C) (M : Mk K C fI) (NE : GNe K C fE) (O : GOps K C fD fO fM fR)
    (MAf : Meth K C "after" fA) (MSh : Meth K C "shifted" fS) (SRa : SMet K C mc "ramp" pRa fRa)
    (GI : FnOk P w K mg base CX0 4 fI fdI ["self", "told", "gains"] (spInit K C)) (bI : Binds K fdI ["self", "told", "gains"] [])
    (GE : FnOk P w K mg base CX0 1 fE fdE ["self", "other"] (spGEq K C)) (bE : Binds K fdE ["self", "other"] [])
    (GA : FnOk P w K mg base CX0 6 fA fdA ["self", "other"] (spAfter K C)) (bA : Binds K fdA ["self", "other"] []) (GS : FnOk P w K mg base CX0 6 fS fdS ["self", "k"] (spGShift K C)) (bS : Binds K fdS ["self", "k"] [])
    (GD : FnOk P w K mg base CX0 6 fD fdD ["self", "other"] (spAdd K C)) (bD : Binds K fdD ["self", "other"] []) (GO : FnOk P w K mg base CX0 6 fO fdO ["self", "other"] (spPk true K C)) (bO : Binds K fdO ["self", "other"] [])
    (GR : FnOk P w K mg base CX0 6 fR fdR ["self", "other"] (spMul K C)) (bR : Binds K fdR ["self", "other"] [])
    (GRa : FnOk P w K mg base CX0 6 fRa fdRa ["gain", "begin"] (spRamp K C)) (bRa : Binds K fdRa ["gain", "begin"] [u0]) (hu : Vals [.int 0] [u0]) (bRa2 : Binds K fdRa ["gain", "begin"] []) :
    FnOk P w K mg base CX0 8 f fd ["_law_one", "_law_other", "_law_third"] (spTh K) := by
  refine F.ok scTh (fun vs H Q E h => ?_) (fun cdv A outer s H vs Q E hr h => ?_)
  · obtain ⟨a, c, d, t1, g1, t2, g2, t3, g3, rfl, _⟩ := h
    rfl
  · obtain ⟨a, c, d, t1, g1, t2, g2, t3, g3, rfl, p1, p2, p3, F1, F2, F3, rel, far, k⟩ := h
    have r5 := hr.mono (show 5 ≤ 7 by decide)
    have r6 := hr.mono (show 6 ≤ 7 by decide)
    have r2 := hr.mono (show 2 ≤ 7 by decide)
    have r1 := hr.mono (show 1 ≤ 7 by decide)
    refine ⟨_, pss_cons (ps_par3 (i := 3) (j := 4) (l := 5) rfl scTh.nd rfl rfl rfl (by decide) (by decide) (by decide) (by rfl) (by rfl) (by rfl)
        (pa_cons (pe_make M GI r5 (by rfl) N.g bI .nil pass0 (pa_cons (pe_ix ix_seq (pv 0) pe_int (fun _ _ => rfl)) (pa_cons (pe_ix ix_seq (pv 0) pe_int (fun _ _ => rfl)) pa_nil)))
        (pa_cons (pe_make M GI r5 (by rfl) N.g bI .nil pass0 (pa_cons (pe_ix ix_seq (pv 1) pe_int (fun _ _ => rfl)) (pa_cons (pe_ix ix_seq (pv 1) pe_int (fun _ _ => rfl)) pa_nil)))
        (pa_cons (pe_make M GI r5 (by rfl) N.g bI .nil pass0 (pa_cons (pe_ix ix_seq (pv 2) pe_int (fun _ _ => rfl)) (pa_cons (pe_ix ix_seq (pv 2) pe_int (fun _ _ => rfl)) pa_nil))) pa_nil))) (by rfl))
      (pss_cons (ps_if (PW.pt (pw_or (pt_cmpR (op_neO (E := E0) NE.has NE.ne NE.ob (fnR0 GE bE) r2 pass0) (pe_meth (pv 3) G.cls MAf GA r6 bA .nil pass0 (pa_cons (pe_meth (pv 4) G.cls MAf GA r6 bA .nil pass0 (pa_cons (pv 5) pa_nil)) pa_nil)) (pe_meth (pe_meth (pv 3) G.cls MAf GA r6 bA .nil pass0 (pa_cons (pv 4) pa_nil)) G.cls MAf GA r6 bA .nil pass0 (pa_cons (pv 5) pa_nil)) (nomark _))
          (pw_or1 (pt_cmpR (op_neO (E := E0) NE.has NE.ne NE.ob (fnR0 GE bE) r2 pass0) (pe_meth (pe_op (op_binS (E := E0) (op := .Add) O.first O.add (fnR0 GD bD) r6 pass0) (pv 3) (pv 4)) G.cls MAf GA r6 bA .nil pass0 (pa_cons (pv 5) pa_nil))
            (pe_op (op_binS (E := E0) (op := .Add) O.first O.add (fnR0 GD bD) r6 pass0) (pe_meth (pv 3) G.cls MAf GA r6 bA .nil pass0 (pa_cons (pv 5) pa_nil)) (pe_meth (pv 4) G.cls MAf GA r6 bA .nil pass0 (pa_cons (pv 5) pa_nil))) (nomark _))))) (pss_one ps_no) pss_nil)
      (pss_cons (ps_if (PW.pt (pw_or (pt_cmpR (op_neO (E := E0) NE.has NE.ne NE.ob (fnR0 GE bE) r2 pass0) (pe_meth (pe_op (op_binS (E := E0) (op := .BitOr) O.first O.or_ (fnR0 GO bO) r6 pass0) (pv 3) (pv 4)) G.cls MAf GA r6 bA .nil pass0 (pa_cons (pv 5) pa_nil))
            (pe_op (op_binS (E := E0) (op := .BitOr) O.first O.or_ (fnR0 GO bO) r6 pass0) (pe_meth (pv 3) G.cls MAf GA r6 bA .nil pass0 (pa_cons (pv 5) pa_nil)) (pe_meth (pv 4) G.cls MAf GA r6 bA .nil pass0 (pa_cons (pv 5) pa_nil))) (nomark _))
          (pw_or1 (pt_cmpR (op_neO (E := E0) NE.has NE.ne NE.ob (fnR0 GE bE) r2 pass0) (pe_meth (pe_op (op_rmul (E := E0) O.first O.mul O.rmul O.noInt (fnR0 GR bR) r6 pass0) pe_int (pv 3)) G.cls MAf GA r6 bA .nil pass0 (pa_cons (pv 5) pa_nil))
            (pe_op (op_rmul (E := E0) O.first O.mul O.rmul O.noInt (fnR0 GR bR) r6 pass0) pe_int (pe_meth (pv 3) G.cls MAf GA r6 bA .nil pass0 (pa_cons (pv 5) pa_nil))) (nomark _))))) (pss_one ps_no) pss_nil)
      (pss_one (ps_ret (pe_and (pe_cmpR (op_eqO (E := E0) (op := .Eq) (fun _ _ => rfl) NE.has (fnR0 GE bE) r1 pass0) (pe_meth (pv 3) G.cls MAf GA r6 bA .nil pass0 (pa_cons (pe_smeth (pe_glob (v := .ref C) (by rfl) N.g (by rfl)) N.rd SRa (GRa.raw bRa hu) r6 pass0 (pa_cons pe_int pa_nil)) pa_nil)) (pv 3) (nomark _))
        (pe_and (pe_cmpR (op_eqO (E := E0) (op := .Eq) (fun _ _ => rfl) NE.has (fnR0 GE bE) r1 pass0) (pe_meth (pe_smeth (pe_glob (v := .ref C) (by rfl) N.g (by rfl)) N.rd SRa (GRa.raw bRa hu) r6 pass0 (pa_cons pe_int pa_nil)) G.cls MAf GA r6 bA .nil pass0 (pa_cons (pv 3) pa_nil)) (pv 3) (nomark _))
        (pe_one (pe_cmpR (op_eqO (E := E0) (op := .Eq) (fun _ _ => rfl) NE.has (fnR0 GE bE) r1 pass0) (pe_meth (pv 3) G.cls MAf GA r6 bA .nil pass0 (pa_cons (pe_smeth (pe_glob (v := .ref C) (by rfl) N.g (by rfl)) N.rd SRa (fnR0 GRa bRa2) r6 pass0 (pa_cons pe_int (pa_cons pe_int pa_nil))) pa_nil)) (pe_meth (pv 3) G.cls MSh GS r6 bS .nil pass0 (pa_cons pe_int pa_nil)) (nomark _))))))))), ?_⟩
    refine q_par3 (cons_i ((er_plain rfl p1) H (Ex.refl H) _ fun o1 H1 _ e1 x1 => cons_i ((er_plain rfl (p2.mono e1)) H1 (Ex.refl H1) _ fun o2 H2 _ e2 x2 => cons_i ((er_plain rfl (p3.mono (e1.trans e2))) H2 (Ex.refl H2) _ fun o3 H3 _ e3 x3 => ⟨_, _, _, rfl, ?_⟩))))
    have y1 := x1.mono (e2.trans e3)
    have y2 := x2.mono e3
    generalize val t1 g1 = f1 at *
    generalize val t2 g2 = f2 at *
    generalize val t3 g3 = f3 at *
    have F12 := F1.cmp F2 (by decide)
    have F13 := F1.cmp F3 (by decide)
    have F23 := F2.cmp F3 (by decide)
    have S12 := F1.add F2 (L := 2) (by decide) (by decide) (by decide)
    have S13 := F13.add F23 (L := 6) (by decide) (by decide) (by decide)
    have PK := F1.pk F2 (L := 2) (R := 4) (by decide) (by decide) (by decide) (by decide) (by decide) (by decide) rel
    have M1 := F1.sc3 (by decide)
    have M13 := F13.sc3 (by decide)
    have v1 : ∀ {H' : Hp}, Ex H3 H' → EvR K C (tVar 3) [some (.ref a), some (.ref c), some (.ref d), some (.ref o1), some (.ref o2), some (.ref o3)] H' f1 := fun e => er_var rfl (y1.mono e)
    have v2 : ∀ {H' : Hp}, Ex H3 H' → EvR K C (tVar 4) [some (.ref a), some (.ref c), some (.ref d), some (.ref o1), some (.ref o2), some (.ref o3)] H' f2 := fun e => er_var rfl (y2.mono e)
    have v3 : ∀ {H' : Hp}, Ex H3 H' → EvR K C (tVar 5) [some (.ref a), some (.ref c), some (.ref d), some (.ref o1), some (.ref o2), some (.ref o3)] H' f3 := fun e => er_var rfl (x3.mono e)
    have a13 : ∀ {H' : Hp}, Ex H3 H' → EvR K C (tMeth C "after" (spAfter K C) [] E0 (tVar 3) (tCons (tVar 5) tNil)) [some (.ref a), some (.ref c), some (.ref d), some (.ref o1), some (.ref o2), some (.ref o3)] H' (cmp f1 f3) := fun e => er_after (v1 e) (v3 e) F1 F3 (by decide) (by decide) (by decide) (by decide) (by decide)
    have a23 : ∀ {H' : Hp}, Ex H3 H' → EvR K C (tMeth C "after" (spAfter K C) [] E0 (tVar 4) (tCons (tVar 5) tNil)) [some (.ref a), some (.ref c), some (.ref d), some (.ref o1), some (.ref o2), some (.ref o3)] H' (cmp f2 f3) := fun e => er_after (v2 e) (v3 e) F2 F3 (by decide) (by decide) (by decide) (by decide) (by decide)
    show tSeq _ _ _ [some (.ref a), some (.ref c), some (.ref d), some (.ref o1), some (.ref o2), some (.ref o3)] H3
    refine q_when (et_is (et_or (et_test (ev_neR (er_after (v1 (Ex.refl H3)) (a23 (Ex.refl H3)) F1 F23 (by decide) (by decide) (by decide) (by decide) (by decide)) ((er_after (er_after (v1 (Ex.refl H3)) (v2 (Ex.refl H3)) F1 F2 (by decide) (by decide) (by decide) (by decide) (by decide)) (v3 (Ex.refl H3)) F12 F3 (by decide) (by decide) (by decide) (by decide) (by decide)).is fun n => rfl) NE.nf))
      fun _ => et_test (ev_neR (er_after (er_add (v1 (Ex.refl H3)) (v2 (Ex.refl H3)) (l := 12) (by decide) (by decide) (F1.per (by decide)) (F2.per (by decide)) (S12.tail.mono (by decide)) S12.nn) (v3 (Ex.refl H3)) S12 F3 (by decide) (by decide) (by decide) (by decide) (by decide))
        ((er_add (a13 (Ex.refl H3)) (a23 (Ex.refl H3)) (l := 12) (by decide) (by decide) (F13.per (by decide)) (F23.per (by decide)) (S13.tail.mono (by decide)) S13.nn).is fun n => rfl) NE.nf)) rfl) (fun hb => absurd hb (by decide)) (fun _ H4 e4 => ?_)
    refine q_when (et_is (et_or (et_test (ev_neR (er_after (er_pk (up := true) (v1 e4) (v2 e4) (F1.per (by decide)) (F2.per (by decide)) (F1.tail.mono (by decide)) (F2.tail.mono (by decide)) rel.ord F1.nn F2.nn) (v3 e4) PK F3 (by decide) (by decide) (by decide) (by decide) (by decide))
        ((er_pk (up := true) (a13 e4) (a23 e4) (F13.per (by decide)) (F23.per (by decide)) (F13.tail.mono (by decide)) (F23.tail.mono (by decide)) (rel.cmp far) F13.nn F23.nn).is fun n => rfl) NE.nf))
      fun _ => et_test (ev_neR (er_after (er_rmul (k := 3) (ev_c (v := .int 3)) (v1 e4) (by decide) (M1.tail.mono (by decide))) (v3 e4) M1 F3 (by decide) (by decide) (by decide) (by decide) (by decide)) ((er_rmul (k := 3) (ev_c (v := .int 3)) (a13 e4) (by decide) (M13.tail.mono (by decide))).is fun n => rfl) NE.nf)) rfl) (fun hb => absurd hb (by decide)) (fun _ H5 e5 => ?_)
    have E5 := e4.trans e5
    refine s_ret (v := .bl true) (ev_is (ev_andV (ev_eqR ((er_after (h := fun n => ((0 : Nat) : Int) + n * ((1 : Nat) : Int)) (v1 E5) (fun H1 e Q q => ⟨rfl, 0, 1, rfl, by decide, fun o H2 _ e2 gr => q o H2 e2 gr⟩) F1 (Fm.ramp 0) (by decide) (by decide) (by decide) (by decide) (by decide)).is fun n => by
          unfold cmp
          congr 1
          show (((0 : Nat) : Int) + (n : Int) * ((1 : Nat) : Int)).toNat = n
          omega) (v1 E5) NE.nf)
      fun _ => ev_andV (ev_eqR ((er_after (f := fun n => ((0 : Nat) : Int) + n * ((1 : Nat) : Int)) (fun H1 e Q q => ⟨rfl, 0, 1, rfl, by decide, fun o H2 _ e2 gr => q o H2 e2 gr⟩) (v1 E5) (Fm.ramp 0) F1 (by decide) (by decide) (by decide) (by decide) (by decide)).is fun n => by
          have := F1.nn n
          unfold cmp
          show ((0 : Nat) : Int) + (((f1 n).toNat : Nat) : Int) * ((1 : Nat) : Int) = f1 n
          omega) (v1 E5) NE.nf)
      fun _ => ev_eqR ((er_after (h := fun n => ((4 : Nat) : Int) + n * ((1 : Nat) : Int)) (v1 E5) (fun H1 e Q q => ⟨rfl, 4, 1, rfl, by decide, fun o H2 _ e2 gr => q o H2 e2 gr⟩) F1 (Fm.ramp 4) (by decide) (by decide) (by decide) (by decide) (by decide)).is fun n => by
          unfold cmp
          congr 1
          show (((4 : Nat) : Int) + (n : Int) * ((1 : Nat) : Int)).toNat = n + 4
          omega) (er_shift (m := 4) (v1 E5) (ev_c (v := .int 4)) (by decide)) NE.nf) rfl) fun H6 e6 => k H6 (((e1.trans e2).trans e3).trans (E5.trans e6))
end
end K05
namespace Gr
theorem val0 {x : Int} {g : List Int} (n : Nat) : val [x] g n = x + acc (dif g) n := by
  have a := val_ge (t := [x]) (g := g) Nat.one_pos n
  rw [show [x].length - 1 + n = n from Nat.zero_add n] at a
  exact a
theorem dif4 {a b c d : Int} (n : Nat) : dif [a, b, c, d] n = at' [a, b, c, d] (n % 4) := rfl
theorem least_3 : Least (dif [3, 0, 0, 0]) 4 := ⟨by decide, dif_pd, fun q q0 h => by
  rcases Nat.lt_or_ge q 4 with z | z
  · have : q = 1 ∨ q = 2 ∨ q = 3 := by omega
    rcases this with rfl | rfl | rfl <;> exact absurd (h 0) (by decide)
  · exact z⟩
theorem least_1 : Least (dif [1, 1, 1, 0]) 4 := ⟨by decide, dif_pd, fun q q0 h => by
  rcases Nat.lt_or_ge q 4 with z | z
  · have : q = 1 ∨ q = 2 ∨ q = 3 := by omega
    rcases this with rfl | rfl | rfl <;> exact absurd (h 3) (by decide)
  · exact z⟩
theorem nf_3 : NF [0] [3, 0, 0, 0] := ⟨Nat.one_pos, by decide, least_3, .inl rfl⟩
theorem nf_1 : NF [0] [1, 1, 1, 0] := ⟨Nat.one_pos, by decide, least_1, .inl rfl⟩
theorem four (n : Nat) : n % 4 = 0 ∨ n % 4 = 1 ∨ n % 4 = 2 ∨ n % 4 = 3 := by omega
theorem sum_3 : ∀ n : Nat, acc (dif [3, 0, 0, 0]) n = acc (dif [1, 0, 0, 0]) n * 3
  | 0 => rfl
  | n + 1 => by
    show acc _ n + dif [3, 0, 0, 0] n = (acc _ n + dif [1, 0, 0, 0] n) * 3
    rw [sum_3 n, dif4, dif4]
    rcases four n with h | h | h | h <;> rw [h]
    · show _ + (3 : Int) = (_ + (1 : Int)) * 3; omega
    · show _ + (0 : Int) = (_ + (0 : Int)) * 3; omega
    · show _ + (0 : Int) = (_ + (0 : Int)) * 3; omega
    · show _ + (0 : Int) = (_ + (0 : Int)) * 3; omega
theorem sum_1 : ∀ n : Nat, acc (dif [1, 1, 1, 0]) n = acc (dif [1, 0, 0, 0]) (n * 3)
  | 0 => rfl
  | n + 1 => by
    rw [Nat.succ_mul]
    show acc _ n + dif [1, 1, 1, 0] n = acc _ (n * 3) + dif [1, 0, 0, 0] (n * 3) + dif [1, 0, 0, 0] (n * 3 + 1) + dif [1, 0, 0, 0] (n * 3 + 2)
    rw [sum_1 n, dif4, dif4, dif4, dif4]
    rcases four n with a | a | a | a
    · rw [a, show n * 3 % 4 = 0 by omega, show (n * 3 + 1) % 4 = 1 by omega, show (n * 3 + 2) % 4 = 2 by omega]
      show _ + (1 : Int) = _ + (1 : Int) + (0 : Int) + (0 : Int); omega
    · rw [a, show n * 3 % 4 = 3 by omega, show (n * 3 + 1) % 4 = 0 by omega, show (n * 3 + 2) % 4 = 1 by omega]
      show _ + (1 : Int) = _ + (0 : Int) + (1 : Int) + (0 : Int); omega
    · rw [a, show n * 3 % 4 = 2 by omega, show (n * 3 + 1) % 4 = 3 by omega, show (n * 3 + 2) % 4 = 0 by omega]
      show _ + (1 : Int) = _ + (0 : Int) + (0 : Int) + (1 : Int); omega
    · rw [a, show n * 3 % 4 = 1 by omega, show (n * 3 + 1) % 4 = 2 by omega, show (n * 3 + 2) % 4 = 3 by omega]
      show _ + (0 : Int) = _ + (0 : Int) + (0 : Int) + (0 : Int); omega
theorem Fm.line (x y : Nat) : Fm (fun n => (x : Int) + n * (y : Int)) 1 1 y := by
  have st : ∀ n : Nat, ((n + 1 : Nat) : Int) * (y : Int) = (n : Int) * (y : Int) + (y : Int) := fun n => by
    rw [show ((n + 1 : Nat) : Int) = (n : Int) + 1 from rfl, Int.add_mul, Int.one_mul]
  refine .of Nat.one_pos Nat.one_pos (fun n => ?_) (fun n _ => ?_) (fun n _ => ?_)
  · have := Int.mul_nonneg (show (0 : Int) ≤ (n : Int) by omega) (show (0 : Int) ≤ (y : Int) by omega)
    show 0 ≤ (x : Int) + (n : Int) * (y : Int)
    omega
  · show (x : Int) + ((n + 1 + 1 : Nat) : Int) * (y : Int) - ((x : Int) + ((n + 1 : Nat) : Int) * (y : Int)) = (x : Int) + ((n + 1 : Nat) : Int) * (y : Int) - ((x : Int) + (n : Int) * (y : Int))
    rw [st (n + 1), st n]
    omega
  · show 0 ≤ (x : Int) + ((n + 1 : Nat) : Int) * (y : Int) - ((x : Int) + (n : Int) * (y : Int)) ∧ (x : Int) + ((n + 1 : Nat) : Int) * (y : Int) - ((x : Int) + (n : Int) * (y : Int)) ≤ (y : Int)
    rw [st n]
    omega
theorem val_line {x y : Int} (n : Nat) : val [x] [y] n = x + n * y := by
  rw [val0]
  have : ∀ n : Nat, acc (dif [y]) n = (n : Int) * y := fun n => by
    induction n with
    | zero => rw [show ((0 : Nat) : Int) = 0 from rfl, Int.zero_mul]; rfl
    | succ n ih =>
      show acc (dif [y]) n + dif [y] n = _
      rw [ih, show ((n + 1 : Nat) : Int) = (n : Int) + 1 from rfl, Int.add_mul, Int.one_mul]
      have : dif [y] n = y := by
        show at' [y] (n % 1) = y
        rw [Nat.mod_one]
        rfl
      rw [this]
  rw [this]
theorem Fm.parts {t g : List Int} {r : Nat} (t0 : 0 < t.length) (g0 : 0 < g.length) (bg : (g.all fun z => decide (0 ≤ z ∧ z ≤ (r : Int))) = true) (bt : (t.all fun z => decide (0 ≤ z)) = true) : Fm (val t g) t.length g.length r :=
  ⟨t, g, t0, Nat.le_refl _, g0, Nat.dvd_refl _, fun i hi => by
    have := List.all_eq_true.mp bg g[i] (List.getElem_mem hi)
    unfold at'
    rw [List.getD_eq_getElem?_getD, List.getElem?_eq_getElem hi]
    exact of_decide_eq_true this, fun i hi => by
    have := List.all_eq_true.mp bt t[i] (List.getElem_mem hi)
    unfold at'
    rw [List.getD_eq_getElem?_getD, List.getElem?_eq_getElem hi]
    exact of_decide_eq_true this, fun _ => rfl⟩
/-- one cell of two: the half, rounded up -/
theorem half : ∀ n : Nat, acc (dif [1, 0]) n = ((n + 1) / 2 : Nat)
  | 0 => rfl
  | n + 1 => by
    show acc _ n + at' [1, 0] (n % 2) = _
    rw [half n]
    have : n % 2 = 0 ∨ n % 2 = 1 := by omega
    rcases this with h | h <;> rw [h]
    · show ((n + 1) / 2 : Nat) + (1 : Int) = ((n + 1 + 1) / 2 : Nat); omega
    · show ((n + 1) / 2 : Nat) + (0 : Int) = ((n + 1 + 1) / 2 : Nat); omega
theorem third : ∀ n : Nat, acc (dif [1, 0, 0]) n = ((n + 2) / 3 : Nat)
  | 0 => rfl
  | n + 1 => by
    show acc _ n + at' [1, 0, 0] (n % 3) = _
    rw [third n]
    have : n % 3 = 0 ∨ n % 3 = 1 ∨ n % 3 = 2 := by omega
    rcases this with h | h | h <;> rw [h]
    · show ((n + 2) / 3 : Nat) + (1 : Int) = ((n + 1 + 2) / 3 : Nat); omega
    · show ((n + 2) / 3 : Nat) + (0 : Int) = ((n + 1 + 2) / 3 : Nat); omega
    · show ((n + 2) / 3 : Nat) + (0 : Int) = ((n + 1 + 2) / 3 : Nat); omega
/-- the two small growths of the law: ([d], [1 + e]) -/
theorem rel_half {d e : Nat} : Rel (val [0] [1, 0]) (val [(d : Int)] [1 + (e : Int)]) := .inl fun n _ => by
  rw [val0, half, val_line]
  have : 0 ≤ (n : Int) * (e : Int) := Int.mul_nonneg (by omega) (by omega)
  rw [Int.mul_add, Int.mul_one]
  omega
theorem rel_small {d e : Nat} (hd : d ≤ 4) (he : e ≤ 2) : Rel (val [(d : Int)] [1 + (e : Int)]) (val [1, 3] [2]) := by
  have two : ∀ n, val [1, 3] [2] n = 1 + (n : Int) * 2 := fun n => by
    rcases Nat.eq_zero_or_pos n with z | z
    · subst z
      rfl
    · obtain ⟨k, rfl⟩ : ∃ k, n = [(1 : Int), 3].length - 1 + k := ⟨n - 1, by show n = 1 + (n - 1); omega⟩
      rw [val_ge (by decide)]
      have v := val_line (x := 0) (y := 2) k
      rw [val0] at v
      show (3 : Int) + acc (dif [2]) k = 1 + ((1 + k : Nat) : Int) * 2
      omega
  have : e = 0 ∨ e = 1 ∨ e = 2 := by omega
  rcases this with rfl | rfl | rfl
  · refine .inl fun n hn => ?_
    rw [two, val_line]
    show (d : Int) + (n : Int) * 1 ≤ _
    omega
  · refine .inr (.inr fun x y => ?_)
    rw [two, two, val_line, val_line]
    show (d : Int) + (x : Int) * 2 - ((d : Int) + (y : Int) * 2) = _
    omega
  · refine .inr (.inl fun n hn => ?_)
    rw [two, val_line]
    show _ ≤ (d : Int) + (n : Int) * 3
    omega
theorem fm_small {d e : Nat} (he : e ≤ 2) : Fm (val [(d : Int)] [1 + (e : Int)]) 1 1 4 := by
  have z : (fun n : Nat => ((d : Int) + (n : Int) * ((1 + e : Nat) : Int))) = val [(d : Int)] [1 + (e : Int)] := funext fun n => by
    rw [val_line]
    rfl
  have := Fm.line d (1 + e)
  rw [z] at this
  exact this.mono (Nat.le_refl _) (Nat.dvd_refl _) (by omega)
end Gr
namespace K05
open PySem L2 Evl Gr ClX OpX StX OwX StM
theorem Pl.updL {K : PySem.W.Frag} {H : Hp} {D x : Addr} {t g : List Int} {xs : List Addr} {u : HO} (h : Pl K H x t g) (hD : H D = some (.lst (xs.map V.ref))) : Pl K (upd H D u) x t g := by
  obtain ⟨p, q, h1, h2, h3, t0, t1, g0, g1, pt, lo⟩ := h
  have lst : ∀ {a : Addr} {l : List Int}, 0 < l.length → SqL K H a (vI l) → SqL K (upd H D u) a (vI l) := fun {a l} l0 s => by
    rcases s with (s | ⟨w, s⟩) | s
    · have ne : a ≠ D := fun e => by
        rw [e, hD] at s
        have z := HO.lst.inj (Option.some.inj s)
        cases l with
        | nil => exact absurd l0 (by decide)
        | cons y ys =>
          cases xs with
          | nil => cases z
          | cons b bs =>
            have := (List.cons.inj z).1
            cases this
      exact .inl (.inl (by rw [upd_ne ne]; exact s))
    · exact .inl (.inr ⟨w, by rw [upd_ne (fun e => by rw [e, hD] at s; cases s)]; exact s⟩)
    · exact .inr s
  refine ⟨p, q, ?_, lst t0 h2, lst g0 h3, t0, t1, g0, g1, pt, lo⟩
  rcases h1 with (s | ⟨w, s⟩) | s
  · exact .inl (.inl (by rw [upd_ne (fun e => by rw [e, hD] at s; cases s)]; exact s))
  · exact .inl (.inr ⟨w, by rw [upd_ne (fun e => by rw [e, hD] at s; cases s)]; exact s⟩)
  · exact .inr s
def EvPl (K : PySem.W.Frag) (te : TE) (σ : L2.St) (H : Hp) (t g : List Int) : Prop := ∀ H1, Ex H H1 → ∀ Q : VK, (∀ x H2, Ex H1 H2 → Pl K H2 x t g → Q (.ref x) H2) → te σ H1 Q
section
variable {K : PySem.W.Frag} {σ : L2.St} {H : Hp} {ta tb te t1 t2 t3 : TE}
theorem epl_of {x : Addr} {t g : List Int} (h : Ev te σ H (.ref x)) (p : Pl K H x t g) : EvPl K te σ H t g := fun H1 e Q q => h H1 e _ fun H2 e2 => q x H2 e2 (p.mono (e.trans e2))
theorem epl_new {t g : List Int} (ha : ∀ H1, EvL ta σ H1 (vI t)) (hb : ∀ H1, EvL tb σ H1 (vI g)) (t0 : 0 < t.length) (t1 : t.length ≤ 2000) (g0 : 0 < g.length) (g1 : g.length ≤ 2000) (pt : Pos t) (lo : Small g) : EvPl K (tTup (tCons ta (tCons tb tNil))) σ H t g := fun H1 e Q q =>
  tup_i (cons_i (ha H1 H1 (Ex.refl H1) _ fun a H2 _ e2 h2 => cons_i (hb H2 H2 (Ex.refl H2) _ fun b H3 _ e3 h3 => ⟨by show 2 ≤ sizeLine; decide, fun x hx => q x _ ((e2.trans e3).trans (Ex.new hx)) ⟨a, b, st_of upd_same, sq_of (Ex.new hx _ _ (e3 _ _ h2)), sq_of (Ex.new hx _ _ h3), t0, t1, g0, g1, pt, lo⟩⟩)))
theorem et_through {u1 v1 u2 v2 u3 v3 : List Int} (h1 : EvPl K t1 σ H u1 v1) (h2 : EvPl K t2 σ H u2 v2) (h3 : EvPl K t3 σ H u3 v3) (F1 : Fm (val u1 v1) 5 2 4) (F2 : Fm (val u2 v2) 5 1 4) (F3 : Fm (val u3 v3) 5 3 4) (rel : Rel (val u1 v1) (val u2 v2)) (far : ∀ n, 1998 < n → 4 ≤ val u3 v3 n) :
    EvT (tNot (tB (tCall (spTh K) [] E0 (tCons t1 (tCons t2 (tCons t3 tNil)))))) σ H false := fun H1 e Q q =>
  h1 H1 e _ fun a H2 e2 p1 => h2 H2 (e.trans e2) _ fun b H3 e3 p2 => h3 H3 ((e.trans e2).trans e3) _ fun c H4 e4 p3 => ⟨a, b, c, _, _, _, _, _, _, rfl, p1.mono (e3.trans e4), p2.mono e4, p3, F1, F2, F3, rel, far, fun H5 e5 => ⟨true, rfl, q H5 ((e2.trans e3).trans (e4.trans e5))⟩⟩
end
abbrev sLw : Stmt := top 47
abbrev nLw : List Str := ["_law_script", "_law_pen_here", "_law_turn_so", "_law_one", "_law_other", "_law_small", "_law_cells", "_law_three"]
theorem scLw : FnScope nLw ["_law_script"] (defScope sLw) := ⟨rfl, rfl, rfl, by decide +kernel, rfl, by decide +kernel, by decide +kernel⟩
def spLaw (K : PySem.W.Frag) : Sp := fun vs H Q _ => ∃ (a : Addr) (ns : List Int), vs = [.ref a] ∧ SqL K H a (ns.map V.int) ∧ ns.length ≤ 63 ∧ ∀ H', Q (.bl true) H'
section
variable {P : Program} {w : World} {K : PySem.W.Frag} {mg : Str → Option Value} {base : Heap}
theorem ok_Lw {f fE fA fS pSp fSp pRa fRa pCo fCo : Addr} {mc u0 : Value} {fd fdE fdA fdSp fdRa fdCo : FuncData} {C : Addr} (F : Fun K "law" "law" sLw f fd) (T : GlbS mg) (TT : GlbT mg) (N : GName K mg C mc) (G : GCls K C) (NE : GNe K C fE) (MAf : Meth K C "after" fA)
    (SSp : SMet K C mc "steps" pSp fSp) (SRa : SMet K C mc "ramp" pRa fRa) (SCo : SMet K C mc "constant" pCo fCo) (SI : StrIn K C fS) (GSt : FnR P w K mg base CX0 1 fS (spStr K C))
    (GE : FnOk P w K mg base CX0 1 fE fdE ["self", "other"] (spGEq K C)) (bE : Binds K fdE ["self", "other"] [])
    (GA : FnOk P w K mg base CX0 6 fA fdA ["self", "other"] (spAfter K C)) (bA : Binds K fdA ["self", "other"] [])
    (GSp : FnOk P w K mg base CX0 6 fSp fdSp ["many"] (spSteps K C)) (bSp : Binds K fdSp ["many"] []) (GRa : FnOk P w K mg base CX0 6 fRa fdRa ["gain", "begin"] (spRamp K C)) (bRa : Binds K fdRa ["gain", "begin"] [u0]) (hu : Vals [.int 0] [u0])
    (GCo : FnOk P w K mg base CX0 6 fCo fdCo ["value"] (spConst K C)) (bCo : Binds K fdCo ["value"] [])
    (LPe : Gfn P w K mg base 1 "_law_pen" ["_law_script"] (spPen K)) (LD : Gfn P w K mg base 1 "_law_draw" ["_law_pen_here", "_law_many"] spDraw) (LK : Gfn P w K mg base 4 "_law_kind" ["_law_pen_here"] (spKind K)) (LR : Gfn P w K mg base 8 "_law_right" ["_law_pen_here", "_law_one", "_law_other"] (spRi K)) (LT : Gfn P w K mg base 8 "_law_through_right" ["_law_one", "_law_other", "_law_third"] (spTh K)) :
    FnOk P w K mg base CX0 9 f fd ["_law_script"] (spLaw K) := by
  obtain ⟨fP, fdP, GP, kP, bP, gP⟩ := LPe
  obtain ⟨fD, fdD, GD, kD, bD, gD⟩ := LD
  obtain ⟨fK, fdK, GK, kK, bK, gK⟩ := LK
  obtain ⟨fR, fdR, GR, kR, bR, gR⟩ := LR
  obtain ⟨fT, fdT, GT, kT, bT, gT⟩ := LT
  refine F.ok scLw (fun vs H Q E h => ?_) (fun cdv A outer s H vs Q E hr h => ?_)
  · obtain ⟨a, ns, rfl, _⟩ := h
    rfl
  · obtain ⟨a, ns, rfl, hS, h63, k⟩ := h
    have r4 := hr.mono (show 4 ≤ 8 by decide)
    have r6 := hr.mono (show 6 ≤ 8 by decide)
    have r3 := hr.mono (show 3 ≤ 8 by decide)
    have r1 := hr.mono (show 1 ≤ 8 by decide)
    refine ⟨_, pss_cons (ps_set (i := 1) scLw.nd rfl (.inr rfl) (pe_call GP r1 (by rfl) gP kP bP .nil pass0 (pa_cons (pv 0) pa_nil)))
      (pss_cons (ps_for PassesOwn.never rfl (pi_range1 (by rfl) T.range (pa_cons pe_int pa_nil)) (pg_name (i := 2) scLw.nd rfl (.inl rfl))
        (pss_cons (ps_par (i := 3) (j := 4) rfl scLw.nd rfl rfl (by decide) (by rfl) (by rfl) (pa_cons (pe_call GK r4 (by rfl) gK kK bK .nil pass0 (pa_cons (pv 1) pa_nil)) (pa_cons (pe_call GK r4 (by rfl) gK kK bK .nil pass0 (pa_cons (pv 1) pa_nil)) pa_nil)) (by rfl))
        (pss_one (ps_if (PW.pt (pw_or (pt_not (pt_val (pe_call GR hr (by rfl) gR kR bR .nil pass0 (pa_cons (pv 1) (pa_cons (pv 3) (pa_cons (pv 4) pa_nil))))))
            (pw_or (pt_not (pt_val (pe_call GR hr (by rfl) gR kR bR .nil pass0 (pa_cons (pv 1) (pa_cons (pv 4) (pa_cons (pv 3) pa_nil)))))) (pw_or1 (pt_not (pt_val (pe_call GR hr (by rfl) gR kR bR .nil pass0 (pa_cons (pv 1) (pa_cons (pv 3) (pa_cons (pv 3) pa_nil)))))))))) (pss_one ps_no) pss_nil))))
      (pss_cons (ps_setLc (i := 5) (own := [("_law_turn_so", 2)]) (g := gName 2) rfl scLw.nd rfl (by rfl) (by rfl) (pi_range1 (by rfl) T.range (pa_cons pe_int pa_nil)) (blkOk_by (own := [("_law_turn_so", 2)]) (N := nLw) (sc := defScope sLw) (by decide +kernel))
            (fun _ _ _ _ _ => pg_name (i := 2) scLw.nd rfl (Or.inl rfl)) (fun _ _ _ _ _ => pts_nil)
            (fun _ _ _ _ _ => pe_tup (pa_cons (pe_lst (pa_cons (pe_call GD r1 (by rfl) gD kD bD .nil pass0 (pa_cons (pv 1) (pa_cons pe_int pa_nil))) pa_nil)) (pa_cons (pe_lst (pa_cons (pe_op op_add pe_int (pe_call GD r1 (by rfl) gD kD bD .nil pass0 (pa_cons (pv 1) (pa_cons pe_int pa_nil)))) pa_nil)) pa_nil))))
      (pss_cons (ps_if (PW.pt (pw_or (pt_not (pt_val (pe_call GT hr (by rfl) gT kT bT .nil pass0 (pa_cons (pe_tup (pa_cons (pe_lst (pa_cons pe_int pa_nil)) (pa_cons (pe_lst (pa_cons pe_int (pa_cons pe_int pa_nil))) pa_nil))) (pa_cons (pe_ix ix_list (pv 5) pe_int (fun _ _ => rfl)) (pa_cons (pe_ix ix_list (pv 5) pe_int (fun _ _ => rfl)) pa_nil))))))
          (pw_or1 (pt_not (pt_val (pe_call GT hr (by rfl) gT kT bT .nil pass0 (pa_cons (pe_ix ix_list (pv 5) pe_int (fun _ _ => rfl)) (pa_cons (pe_tup (pa_cons (pe_lst (pa_cons pe_int (pa_cons pe_int pa_nil))) (pa_cons (pe_lst (pa_cons pe_int pa_nil)) pa_nil))) (pa_cons (pe_tup (pa_cons (pe_lst (pa_cons pe_int pa_nil)) (pa_cons (pe_lst (pa_cons pe_int (pa_cons pe_int (pa_cons pe_int pa_nil)))) pa_nil))) pa_nil))))))))) (pss_one ps_no) pss_nil)
      (pss_cons (ps_par (i := 6) (j := 7) rfl scLw.nd rfl rfl (by decide) (by rfl) (by rfl) (pa_cons (pe_smeth (pe_glob (v := .ref C) (by rfl) N.g (by rfl)) N.rd SSp (fnR0 GSp bSp) r6 pass0 (pa_cons pe_int pa_nil)) (pa_cons (pe_smeth (pe_glob (v := .ref C) (by rfl) N.g (by rfl)) N.rd SRa (GRa.raw bRa hu) r6 pass0 (pa_cons pe_int pa_nil)) pa_nil)) (by rfl))
      (pss_one (ps_ret (pe_and (pe_cmpR op_eq (pe_callTy (call_strI (E := E0) SI GSt r3 pass0) (by rfl) TT.str (by decide +kernel) (pa_cons (pe_meth (pv 7) G.cls MAf GA r6 bA .nil pass0 (pa_cons (pv 6) pa_nil)) pa_nil)) pe_str (nomark _))
        (pe_and (pe_cmpR op_eq (pe_callTy (call_strI (E := E0) SI GSt r3 pass0) (by rfl) TT.str (by decide +kernel) (pa_cons (pe_meth (pv 6) G.cls MAf GA r6 bA .nil pass0 (pa_cons (pv 7) pa_nil)) pa_nil)) pe_str (nomark _))
        (pe_one (pe_cmpR (op_eqO (E := E0) (op := .Eq) (fun _ _ => rfl) NE.has (fnR0 GE bE) r1 pass0) (pe_meth (pv 6) G.cls MAf GA r6 bA .nil pass0 (pa_cons (pe_smeth (pe_glob (v := .ref C) (by rfl) N.g (by rfl)) N.rd SCo (fnR0 GCo bCo) r6 pass0 (pa_cons pe_int pa_nil)) pa_nil)) (pe_smeth (pe_glob (v := .ref C) (by rfl) N.g (by rfl)) N.rd SCo (fnR0 GCo bCo) r6 pass0 (pa_cons pe_int pa_nil)) (nomark _))))))))))), ?_⟩
    refine ⟨_, rfl, a, ns, rfl, hS, h63, fun p l H1 _ _ e1 hP => ?_⟩
    refine ⟨6, rfl, by decide, by decide, for_range (lo := 0) (n := 6) (fun i σ' H' => (∃ x2 x3 x4 : Option V, σ' = [some (.ref a), some (.ref p), x2, x3, x4, none, none, none]) ∧ PenAt H' p l ns (60 * i)) ⟨⟨none, none, none, rfl⟩, hP⟩ ?_ ?_⟩
    · rintro i σ' H2 hi ⟨⟨x2, x3, x4, rfl⟩, P2⟩
      show tSeq _ _ _ [some (.ref a), some (.ref p), some (.int (0 + (i : Int))), x3, x4, none, none, none] H2
      refine q_par (cons_i ⟨_, rfl, p, l, ns, 60 * i, rfl, P2, by omega, h63, fun t1 g1 a1 H3 k3 P3 A3 => cons_i ⟨_, rfl, p, l, ns, 60 * i + 16, rfl, P3, by omega, h63, fun t2 g2 a2 H4 k4 P4 A4 => ⟨_, _, rfl, ?_⟩⟩⟩)
      have B1 := A3.keep P3 k4
      show tIfS _ _ _ _ [some (.ref a), some (.ref p), some (.int (0 + (i : Int))), some (.ref a1), some (.ref a2), none, none, none] H4
      refine ⟨_, rfl, _, rfl, _, rfl, p, l, a1, a2, ns, 60 * i + 16 + 16, t1, g1, t2, g2, rfl, P4, by omega, h63, B1, A4, fun H5 k5 P5 => ⟨true, rfl, iteF ?_⟩⟩
      have C1 := B1.keep P4 k5
      have C2 := A4.keep P4 k5
      refine ⟨_, rfl, _, rfl, _, rfl, p, l, a2, a1, ns, 60 * i + 16 + 16 + 3, t2, g2, t1, g1, rfl, P5, by omega, h63, C2, C1, fun H6 k6 P6 => ⟨true, rfl, iteF ?_⟩⟩
      have D1 := C1.keep P5 k6
      exact ⟨_, rfl, _, rfl, _, rfl, p, l, a1, a1, ns, 60 * i + 16 + 16 + 3 + 3, t1, g1, t1, g1, rfl, P6, by omega, h63, D1, D1, fun H7 k7 P7 => ⟨true, rfl, iteF ⟨⟨_, _, _, rfl⟩, P7.le (by omega)⟩⟩⟩
    · rintro σ' H3 ⟨⟨x2, x3, x4, rfl⟩, P3⟩
      dsimp only
      refine q_asgR (σ := [some (.ref a), some (.ref p), x2, x3, x4, none, none, none]) (H := H3) ?_
      refine ⟨2, rfl, by decide, by decide, fun Dl hD => lc_range (lo := 0) (n := 2) (fun i H' => ∃ xs : List Addr, H' Dl = some (.lst (xs.map V.ref)) ∧ xs.length = i ∧ Dl ≠ p ∧ Dl ≠ l ∧ (∀ x ∈ xs, ∃ d e : Nat, d ≤ 4 ∧ e ≤ 2 ∧ Pl K H' x [(d : Int)] [1 + (e : Int)]) ∧ PenAt H' p l ns (60 * 6 + 2 * i))
        ⟨[], upd_same, rfl, (fun z => by
          obtain ⟨_, _, hp, _⟩ := P3
          rw [z, hp] at hD
          cases hD), (fun z => by
          obtain ⟨_, _, _, hl, _⟩ := P3
          rw [z, hl] at hD
          cases hD), (fun x hx => by cases hx), P3.mono (Ex.new hD) (Nat.le_refl _)⟩ ?_ ?_⟩
      · rintro i H4 hi ⟨xs, h1, h2, h3, h3l, h4, P4⟩
        refine ⟨rfl, yes_i (tup_i (cons_i (lst_i (cons_i (w_draw (p := p) (l := l) (cells := ns) (H := H4) (i := 1) (many := 5) rfl (fun _ _ => ev_c) (by decide) (by decide) h63 (60 * 6 + 2 * i) H4 (Keep.of_ex (Ex.refl H4)) P4 (by omega) _ fun v H5 hv P5 k5 => ?_)))))⟩
        obtain ⟨d, rfl, hd⟩ := hv
        refine ⟨by show 1 ≤ sizeLine; decide, fun b1 hb1 => cons_i (lst_i (cons_i (w_draw (p := p) (l := l) (cells := ns) (H := upd H5 b1 (.lst [.int (d : Int)])) (i := 1) (many := 3) rfl (fun _ _ => ev_c) (by decide) (by decide) h63 (60 * 6 + 2 * i + 1) _ (Keep.of_ex (Ex.refl _)) (P5.mono (Ex.new hb1) (Nat.le_refl _)) (by omega) _ fun v H6 hv P6 k6 => ?_)))⟩
        obtain ⟨e, rfl, he⟩ := hv
        refine ⟨1, (e : Int), rfl, rfl, by show 1 ≤ sizeLine; decide, fun b2 hb2 => ⟨by show 2 ≤ sizeLine; decide, fun x hx => ?_⟩⟩
        have nb : ∀ {b : Addr} {Hx : Hp} {mm : Nat}, PenAt Hx p l ns mm → Hx b = none → b ≠ p := fun {b Hx mm} hq hb z => by
          obtain ⟨_, _, hp, _⟩ := hq
          rw [z, hp] at hb
          cases hb
        have n1 := nb P5 hb1
        have K5 := k5.trans ((Keep.of_ex (Ex.new (o := .lst [V.int (d : Int)]) hb1)).trans k6)
        have K6 := (Keep.of_ex (p := p) (Ex.new (o := .lst [V.int (1 + (e : Int))]) hb2)).trans (Keep.of_ex (Ex.new (o := .tup [V.ref b1, V.ref b2]) hx))
        have K7 := K5.trans K6
        have P6' := P6.mono (Ex.new (o := .lst [V.int (1 + (e : Int))]) hb2) (Nat.le_refl _)
        have P7 := P6'.mono (Ex.new (o := .tup [V.ref b1, V.ref b2]) hx) (Nat.le_refl _)
        have hD7 := K7 _ _ h1 h3
        have hb1' := K6 _ _ (k6 _ _ (show upd H5 b1 (.lst [V.int (d : Int)]) b1 = some (.lst (vI [(d : Int)])) from upd_same) n1) n1
        have hb2' := Ex.new (o := .tup [V.ref b1, V.ref b2]) hx _ _ (show upd H6 b2 (.lst [V.int (1 + (e : Int))]) b2 = some (.lst (vI [1 + (e : Int)])) from upd_same)
        have one : ∀ {z B : Int}, 0 ≤ z → z ≤ B → ∀ n, n < [z].length → 0 ≤ at' [z] n ∧ at' [z] n ≤ B := fun {z B} h0 hB n hn => by
          have : n = 0 := by
            have : n < 1 := hn
            omega
          subst this
          exact ⟨h0, hB⟩
        have px : Pl K _ x [(d : Int)] [1 + (e : Int)] := ⟨b1, b2, st_of upd_same, sq_of hb1', sq_of hb2', Nat.one_pos, show 1 ≤ 2000 by decide, Nat.one_pos, show 1 ≤ 2000 by decide, fun n hn => (one (z := (d : Int)) (B := (d : Int)) (by omega) (Int.le_refl _) n hn).1, one (by omega) (by omega)⟩
        generalize upd (upd H6 b2 (.lst [V.int (1 + (e : Int))])) x (.tup [V.ref b1, V.ref b2]) = H8 at K7 P7 hD7 px ⊢
        refine ⟨xs.map V.ref, hD7, by rw [List.length_map]; exact Nat.lt_of_le_of_lt (show xs.length ≤ 2 by omega) (by decide), xs ++ [x], by rw [upd_same, List.map_append]; rfl, by rw [List.length_append]; show xs.length + 1 = i + 1; omega, h3, h3l, fun y hy => ?_, ?_⟩
        · rcases List.mem_append.mp hy with h | h
          · obtain ⟨d', e', hd', he', pp⟩ := h4 y h
            exact ⟨d', e', hd', he', Pl.updL (Pl.keep P4 K7 pp) hD7⟩
          · rw [List.mem_singleton.mp h]
            exact ⟨d, e, by omega, by omega, Pl.updL px hD7⟩
        · exact (P7.upd' h3 h3l).le (by omega)
      · rintro H4 ⟨xs, h1, h2, _, _, h4, P4⟩
        obtain ⟨x0, x1, rfl⟩ : ∃ x0 x1, xs = [x0, x1] := match xs, h2 with | [x0, x1], _ => ⟨x0, x1, rfl⟩
        obtain ⟨d0, e0, hd0, he0, p0⟩ := h4 x0 (List.mem_cons_self ..)
        obtain ⟨d1, e1, hd1, he1, p1⟩ := h4 x1 (List.mem_cons_of_mem _ (List.mem_cons_self ..))
        have ix0 : Ev (tOp (rIxL K) (tVar 5) (tC (.int 0))) [some (.ref a), some (.ref p), x2, x3, x4, some (.ref Dl), none, none] H4 (.ref x0) := ev_op (ev_var rfl) ev_c (rv_ixL (K := K) (sq_of h1) rfl)
        have ix1 : Ev (tOp (rIxL K) (tVar 5) (tC (.int 1))) [some (.ref a), some (.ref p), x2, x3, x4, some (.ref Dl), none, none] H4 (.ref x1) := ev_op (ev_var rfl) ev_c (rv_ixL (K := K) (sq_of h1) rfl)
        have bd : ∀ {l : List Int}, (l.all fun z => decide (0 ≤ z ∧ z ≤ 3)) = true → ∀ n, n < l.length → 0 ≤ at' l n ∧ at' l n ≤ 3 := fun {l} h n hn => by
          have := List.all_eq_true.mp h l[n] (List.getElem_mem hn)
          unfold at'
          rw [List.getD_eq_getElem?_getD, List.getElem?_eq_getElem hn]
          exact of_decide_eq_true this
        have sm : ∀ {l : List Int}, (l.all fun z => decide (0 ≤ z ∧ z ≤ 3)) = true → Small l := fun {l} h n hn => ⟨(bd h n hn).1, Int.le_trans (bd h n hn).2 (by decide)⟩
        have ps : ∀ {l : List Int}, (l.all fun z => decide (0 ≤ z ∧ z ≤ 3)) = true → Pos l := fun {l} h n hn => (bd h n hn).1
        have far1 : ∀ n, 1998 < n → 4 ≤ val [(d1 : Int)] [1 + (e1 : Int)] n := fun n hn => by
          have : 0 ≤ (n : Int) * (e1 : Int) := Int.mul_nonneg (by omega) (by omega)
          rw [val_line, Int.mul_add, Int.mul_one]
          omega
        have far2 : ∀ n, 1998 < n → 4 ≤ val [0] [1, 0, 0] n := fun n hn => by
          rw [val0, third]
          omega
        have L : ∀ {l : List Int} {ta : TA}, (∀ H', EvA ta [some (.ref a), some (.ref p), x2, x3, x4, some (.ref Dl), none, none] H' (vI l)) → l.length ≤ 100 → ∀ H', EvL (tLst ta) [some (.ref a), some (.ref p), x2, x3, x4, some (.ref Dl), none, none] H' (vI l) := fun {l ta} h hl H' => el_lst (h H') (by rw [vI_len]; omega)
        show tSeq _ _ _ [some (.ref a), some (.ref p), x2, x3, x4, some (.ref Dl), none, none] H4
        refine q_when (et_is (et_or (et_through (epl_new (t := [0]) (g := [1, 0]) (L (fun _ => ea_cons ev_c ea_nil) (by decide)) (L (fun _ => ea_cons ev_c (ea_cons ev_c ea_nil)) (by decide)) (by decide) (by decide) (by decide) (by decide) (ps (by decide)) (sm (by decide))) (epl_of ix0 p0) (epl_of ix1 p1)
            ((Fm.parts (t := [0]) (g := [1, 0]) (r := 1) (by decide) (by decide) (by decide) (by decide)).mono (by decide) (by decide) (by decide)) ((fm_small he0).mono (by decide) (by decide) (by decide)) ((fm_small he1).mono (by decide) (by decide) (by decide)) rel_half far1)
          fun _ => et_through (epl_of ix1 p1) (epl_new (t := [1, 3]) (g := [2]) (L (fun _ => ea_cons ev_c (ea_cons ev_c ea_nil)) (by decide)) (L (fun _ => ea_cons ev_c ea_nil) (by decide)) (by decide) (by decide) (by decide) (by decide) (ps (by decide)) (sm (by decide))) (epl_new (t := [0]) (g := [1, 0, 0]) (L (fun _ => ea_cons ev_c ea_nil) (by decide)) (L (fun _ => ea_cons ev_c (ea_cons ev_c (ea_cons ev_c ea_nil))) (by decide)) (by decide) (by decide) (by decide) (by decide) (ps (by decide)) (sm (by decide)))
            ((fm_small he1).mono (by decide) (by decide) (by decide)) ((Fm.parts (t := [1, 3]) (g := [2]) (r := 2) (by decide) (by decide) (by decide) (by decide)).mono (by decide) (by decide) (by decide)) ((Fm.parts (t := [0]) (g := [1, 0, 0]) (r := 1) (by decide) (by decide) (by decide) (by decide)).mono (by decide) (by decide) (by decide)) (rel_small hd1 he1) far2) rfl) (fun hb => absurd hb (by decide)) (fun _ H5 e5 => ?_)
        refine q_par (cons_i ⟨rfl, 4, rfl, by decide, by decide, fun oc H6 _ e6 gc => cons_i ⟨rfl, 0, 3, rfl, by decide, fun ot H7 _ e7 gt => ⟨_, _, rfl, ?_⟩⟩⟩)
        have gc7 := gc.mono e7
        have FL := Fm.line 0 3
        have FS : Fm (val [0] (stp 4)) 1 4 1 := Fm.parts (t := [0]) (g := stp 4) (r := 1) (by decide) (by decide) (by decide) (by decide)
        have FC : Fm (fun _ => ((9 : Nat) : Int)) 1 1 0 := .of (by decide) (by decide) (fun n => by show (0 : Int) ≤ 9; decide) (fun n _ => rfl) (fun n _ => by show (0 : Int) ≤ 9 - 9 ∧ (9 : Int) - 9 ≤ 0; decide)
        have hv1 : ∀ n, val [0] [3, 0, 0, 0] n = cmp (fun n => ((0 : Nat) : Int) + n * ((3 : Nat) : Int)) (val [0] (stp 4)) n := fun n => by
          have nn := FS.nn n
          unfold cmp
          show _ = ((0 : Nat) : Int) + (((val [0] (stp 4) n).toNat : Nat) : Int) * ((3 : Nat) : Int)
          rw [Int.toNat_of_nonneg nn, val0, val0, sum_3]
          show _ = ((0 : Nat) : Int) + (0 + acc (dif [1, 0, 0, 0]) n) * ((3 : Nat) : Int)
          omega
        have hv2 : ∀ n, val [0] [1, 1, 1, 0] n = cmp (val [0] (stp 4)) (fun n => ((0 : Nat) : Int) + n * ((3 : Nat) : Int)) n := fun n => by
          unfold cmp
          show _ = val [0] (stp 4) (((0 : Nat) : Int) + (n : Int) * ((3 : Nat) : Int)).toNat
          rw [show (((0 : Nat) : Int) + (n : Int) * ((3 : Nat) : Int)).toNat = n * 3 by omega, val0, val0, sum_1]
          rfl
        have s1 : strG [0] [3, 0, 0, 0] = "0 then 3 0 0 0" := by decide +kernel
        have s2 : strG [0] [1, 1, 1, 0] = "0 then 1 1 1 0" := by decide +kernel
        refine s_ret (σ := [some (.ref a), some (.ref p), x2, x3, x4, some (.ref Dl), some (.ref oc), some (.ref ot)]) (H := H7) (v := .bl true) (ev_is (ev_andV (ev_op (ev_strR (er_after (er_var rfl gt) (er_var rfl gc7) FL FS (by decide) (by decide) (by decide) (by decide) (by decide)) nf_3 hv1 (fun i hi => ?_)) ev_c (rv_eq rfl))
          fun _ => ev_andV (ev_op (ev_strR (er_after (er_var rfl gc7) (er_var rfl gt) FS FL (by decide) (by decide) (by decide) (by decide) (by decide)) nf_1 hv2 (fun i hi => ?_)) ev_c (rv_eq rfl))
          fun _ => ev_eqR (f := fun _ => ((3 : Nat) : Int)) ((er_after (h := fun _ => ((9 : Nat) : Int)) (er_var rfl gc7) (fun H8 e Q q => ⟨rfl, 9, rfl, fun o H9 _ e2 gr => q o H9 e2 gr⟩) FS FC (by decide) (by decide) (by decide) (by decide) (by decide)).is fun n => by show val [0] (stp 4) ((9 : Nat) : Int).toNat = ((3 : Nat) : Int); decide +kernel) (fun H8 e Q q => ⟨rfl, 3, rfl, fun o H9 _ e2 gr => q o H9 e2 gr⟩) NE.nf) (by rw [s1, s2, decide_eq_true rfl, decide_eq_true rfl]; rfl)) fun H8 e8 => k H8
        · have : i = 0 := by
            have : i < 1 := hi
            omega
          subst this
          show (0 : Int) < _
          decide
        · have : i = 0 := by
            have : i < 1 := hi
            omega
          subst this
          show (0 : Int) < _
          decide
end
end K05
namespace K05
open PySem L2 Evl Gr ClX OpX StX StM OwX
/-- a def of the text named x, its full name y, where it stands -/
structure FQ (K : PySem.W.Frag) (x y : Str) (st : Stmt) (f : Addr) : Prop where
  l : ∃ (oc : Value) (od : Option Addr) (kV doc pm : Value) (an : Option Addr) (cdv ct : Value) (osl : Array (Option Value)),
    K.lookup f = some ⟨oc, od, .func (PySem.W.fnOf x y (defArgs st) (defBody st) (defScope st) .none kV doc pm an cdv ct), osl⟩ ∧ PySem.W.codeIn K cdv y = true
  k : PySem.W.keepIn K (.ref f) = true
theorem FQ.fn {K : PySem.W.Frag} {x y : Str} {st : Stmt} {f : Addr} (h : FQ K x y st f) : ∃ fd, Fun K x y st f fd := by
  obtain ⟨oc, od, kV, doc, pm, an, cdv, ct, osl, h1, h2⟩ := h.l
  exact ⟨_, fun_mk h1 h2 h.k⟩
/-- .. with defaults -/
structure FW (K : PySem.W.Frag) (x y : Str) (st : Stmt) (dvs : List V) (f : Addr) : Prop where
  l : ∃ (oc : Value) (od : Option Addr) (dV kV doc pm : Value) (an : Option Addr) (cdv ct : Value) (osl : Array (Option Value)),
    K.lookup f = some ⟨oc, od, .func (PySem.W.fnOf x y (defArgs st) (defBody st) (defScope st) dV kV doc pm an cdv ct), osl⟩ ∧ PySem.W.codeIn K cdv y = true ∧ DflV K dV dvs
  k : PySem.W.keepIn K (.ref f) = true
theorem FW.fn {K : PySem.W.Frag} {x y : Str} {st : Stmt} {dvs : List V} {f : Addr} (h : FW K x y st dvs f) : ∃ fd, FunD K x y (defArgs st) (defBody st) (defScope st) dvs [] f fd := by
  obtain ⟨oc, od, dV, kV, doc, pm, an, cdv, ct, osl, h1, h2, h3⟩ := h.l
  exact ⟨_, ⟨⟨oc, od, dV, kV, doc, pm, an, cdv, ct, osl, rfl, h1, h2, h3, .inl rfl⟩, h.k⟩⟩
theorem kit_self {K : PySem.W.Frag} {C : Addr} : PySem.W.kitOne K (.ref C) (.ref C) = some true := by
  unfold PySem.W.kitOne
  rw [if_pos (by simp)]
theorem kit_sub {K : PySem.W.Frag} {C : Addr} {t : String} {b : Bool} (m : PySem.W.kitMeta t = true) (h : PySem.W.subIn K (.ref C) (.type t) = some b) : PySem.W.kitOne K (.ref C) (.type t) = some b := by
  unfold PySem.W.kitOne PySem.W.kitCls
  rw [if_neg (by simp)]
  show (if PySem.W.kitMeta t = true then PySem.W.subIn K (.ref C) (.type t) else none) = some b
  rw [if_pos m]
  exact h
theorem all_mk {l : PySem.W.OpenLaw} {w : World} {K : PySem.W.Frag} {h : Heap} {mg : Str → Option Value} {fa fInt fWi fZ fLp fSp fNf fRi fVa fFi fPa fHs fCo fBe fSu fGa fLe fLs fOu fCp fAp fPe fDr fPi fPl fLV fLW fLK fLR fLT fLa mEq mCa mFs mAd mOr mMu mRm mAf mSh mCn mSs mTx mIn mRa C T0 pCn pSs pRa : Addr} {mc : Value} (X : K.In h) (G : h.Ns mainGlobals mg) (hfa : mg "law" = some (.ref fa))
    (aInt : PySem.W.nsIn K mainGlobals "is_integer" = some (some (.ref fInt))) (hInt : FQ K "is_integer" "is_integer" (top 3) fInt)
    (aWi : PySem.W.nsIn K mainGlobals "is_within" = some (some (.ref fWi))) (hWi : FQ K "is_within" "is_within" (top 4) fWi)
    (aZ : PySem.W.nsIn K mainGlobals "is_from_zero" = some (some (.ref fZ))) (hZ : FQ K "is_from_zero" "is_from_zero" (top 5) fZ)
    (aLp : PySem.W.nsIn K mainGlobals "least_period" = some (some (.ref fLp))) (hLp : FQ K "least_period" "least_period" (top 14) fLp)
    (aSp : PySem.W.nsIn K mainGlobals "spare_told" = some (some (.ref fSp))) (hSp : FQ K "spare_told" "spare_told" (top 15) fSp)
    (aNf : PySem.W.nsIn K mainGlobals "normal_form" = some (some (.ref fNf))) (hNf : FQ K "normal_form" "normal_form" (top 16) fNf)
    (aRi : PySem.W.nsIn K mainGlobals "rises_of" = some (some (.ref fRi))) (hRi : FQ K "rises_of" "rises_of" (top 17) fRi)
    (aVa : PySem.W.nsIn K mainGlobals "value_at" = some (some (.ref fVa))) (hVa : FQ K "value_at" "value_at" (top 18) fVa)
    (aFi : PySem.W.nsIn K mainGlobals "first_values" = some (some (.ref fFi))) (hFi : FQ K "first_values" "first_values" (top 19) fFi)
    (aPa : PySem.W.nsIn K mainGlobals "parted" = some (some (.ref fPa))) (hPa : FQ K "parted" "parted" (top 20) fPa)
    (aHs : PySem.W.nsIn K mainGlobals "shifted_parts" = some (some (.ref fHs))) (hHs : FQ K "shifted_parts" "shifted_parts" (top 21) fHs)
    (aCo : PySem.W.nsIn K mainGlobals "common_length" = some (some (.ref fCo))) (hCo : FQ K "common_length" "common_length" (top 22) fCo)
    (aBe : PySem.W.nsIn K mainGlobals "begin_of_both" = some (some (.ref fBe))) (hBe : FQ K "begin_of_both" "begin_of_both" (top 23) fBe)
    (aSu : PySem.W.nsIn K mainGlobals "summed_parts" = some (some (.ref fSu))) (hSu : FQ K "summed_parts" "summed_parts" (top 24) fSu)
    (aGa : PySem.W.nsIn K mainGlobals "gaps_of" = some (some (.ref fGa))) (hGa : FQ K "gaps_of" "gaps_of" (top 25) fGa)
    (aLe : PySem.W.nsIn K mainGlobals "lead_of" = some (some (.ref fLe))) (hLe : FQ K "lead_of" "lead_of" (top 26) fLe)
    (aLs : PySem.W.nsIn K mainGlobals "last_number_above" = some (some (.ref fLs))) (hLs : FQ K "last_number_above" "last_number_above" (top 27) fLs)
    (aOu : PySem.W.nsIn K mainGlobals "outer_parts" = some (some (.ref fOu))) (hOu : FQ K "outer_parts" "outer_parts" (top 28) fOu)
    (aCp : PySem.W.nsIn K mainGlobals "composed_parts" = some (some (.ref fCp))) (hCp : FQ K "composed_parts" "composed_parts" (top 29) fCp)
    (aAp : PySem.W.nsIn K mainGlobals "are_parts" = some (some (.ref fAp))) (hAp : FQ K "are_parts" "are_parts" (top 34) fAp)
    (aPe : PySem.W.nsIn K mainGlobals "_law_pen" = some (some (.ref fPe))) (hPe : FQ K "_law_pen" "_law_pen" (top 38) fPe)
    (aDr : PySem.W.nsIn K mainGlobals "_law_draw" = some (some (.ref fDr))) (hDr : FQ K "_law_draw" "_law_draw" (top 39) fDr)
    (aPi : PySem.W.nsIn K mainGlobals "_law_pick" = some (some (.ref fPi))) (hPi : FQ K "_law_pick" "_law_pick" (top 40) fPi)
    (aPl : PySem.W.nsIn K mainGlobals "_law_plain" = some (some (.ref fPl))) (hPl : FQ K "_law_plain" "_law_plain" (top 41) fPl)
    (aLV : PySem.W.nsIn K mainGlobals "_law_value" = some (some (.ref fLV))) (hLV : FQ K "_law_value" "_law_value" (top 42) fLV)
    (aLW : PySem.W.nsIn K mainGlobals "_law_values" = some (some (.ref fLW))) (hLW : FQ K "_law_values" "_law_values" (top 43) fLW)
    (aLK : PySem.W.nsIn K mainGlobals "_law_kind" = some (some (.ref fLK))) (hLK : FQ K "_law_kind" "_law_kind" (top 44) fLK)
    (aLR : PySem.W.nsIn K mainGlobals "_law_right" = some (some (.ref fLR))) (hLR : FQ K "_law_right" "_law_right" (top 45) fLR)
    (aLT : PySem.W.nsIn K mainGlobals "_law_through_right" = some (some (.ref fLT))) (hLT : FQ K "_law_through_right" "_law_through_right" (top 46) fLT)
    (aLa : PySem.W.nsIn K mainGlobals "law" = some (some (.ref fLa))) (hLa : FQ K "law" "law" (top 47) fLa)
    (aC : PySem.W.nsIn K mainGlobals "Growth" = some (some (.ref C))) (rd : PySem.W.readsIn K C mc = true) (ga : PySem.W.specialIn K (.ref C) "__getattribute__" = some (some (.builtin "type.__getattribute__"))) (most : ∃ t, PySem.W.findCls K (.ref C) mc "MOST" = some (.val (.int 2000 t)))
    (cls : Cls K C) (nt : NoAttr K C "told") (ng : NoAttr K C "gains") (nr : NoAttr K C "rises") (makes : PySem.W.makesIn K C = true) (kC : PySem.W.keepIn K (.ref C) = true) (aIn : PySem.W.findIn K (.ref C) "__init__" = some (some (.ref mIn))) (tIn : PySem.W.isFn K (.ref mIn) = true) (hIn : FW K "__init__" "Growth.__init__" (sGr 1) [.ref T0] mIn)
    (hT0 : ∃ (o : Obj) (its : Array Value) (n : Nat), K.lookup T0 = some o ∧ o.cls = .type "tuple" ∧ o.data = .seq its n ∧ its.size ≤ sizeLine ∧ Vals [.int 0] its.toList)
    (aEq : PySem.W.findIn K (.ref C) "__eq__" = some (some (.ref mEq))) (tEq : PySem.W.isFn K (.ref mEq) = true) (hEq : FQ K "__eq__" "Growth.__eq__" (sGr 2) mEq)
    (aCa : PySem.W.findIn K (.ref C) "__call__" = some (some (.ref mCa))) (tCa : PySem.W.isFn K (.ref mCa) = true) (hCa : FQ K "__call__" "Growth.__call__" (sGr 3) mCa)
    (aFs : PySem.W.findIn K (.ref C) "first" = some (some (.ref mFs))) (tFs : PySem.W.isFn K (.ref mFs) = true) (hFs : FQ K "first" "Growth.first" (sGr 4) mFs)
    (aAd : PySem.W.findIn K (.ref C) "__add__" = some (some (.ref mAd))) (tAd : PySem.W.isFn K (.ref mAd) = true) (hAd : FQ K "__add__" "Growth.__add__" (sGr 5) mAd)
    (aOr : PySem.W.findIn K (.ref C) "__or__" = some (some (.ref mOr))) (tOr : PySem.W.isFn K (.ref mOr) = true) (hOr : FQ K "__or__" "Growth.__or__" (sGr 6) mOr)
    (aMu : PySem.W.findIn K (.ref C) "__mul__" = some (some (.ref mMu))) (tMu : PySem.W.isFn K (.ref mMu) = true) (hMu : FQ K "__mul__" "Growth.__mul__" (sGr 8) mMu)
    (aRm : PySem.W.findIn K (.ref C) "__rmul__" = some (some (.ref mRm))) (tRm : PySem.W.isFn K (.ref mRm) = true) (hRm : FQ K "__rmul__" "Growth.__rmul__" (sGr 9) mRm)
    (aAf : PySem.W.findIn K (.ref C) "after" = some (some (.ref mAf))) (tAf : PySem.W.isFn K (.ref mAf) = true) (hAf : FQ K "after" "Growth.after" (sGr 10) mAf)
    (aSh : PySem.W.findIn K (.ref C) "shifted" = some (some (.ref mSh))) (tSh : PySem.W.isFn K (.ref mSh) = true) (hSh : FQ K "shifted" "Growth.shifted" (sGr 11) mSh)
    (aTx : PySem.W.findIn K (.ref C) "__str__" = some (some (.ref mTx))) (tTx : PySem.W.isFn K (.ref mTx) = true) (hTx : FQ K "__str__" "Growth.__str__" (sGr 21) mTx)
    (iCa : PySem.W.fnIn K mCa = true)
    (sCn : SMet K C mc "constant" pCn mCn) (hCn : FQ K "constant" "Growth.constant" (sGr 17) mCn)
    (sSs : SMet K C mc "steps" pSs mSs) (hSs : FQ K "steps" "Growth.steps" (sGr 19) mSs)
    (sRa : SMet K C mc "ramp" pRa mRa) (hRa : FW K "ramp" "Growth.ramp" (sGr 18) [.int 0] mRa)
    (first : PySem.W.selfFirst K C = true) (noInt : PySem.W.subIn K (.ref C) (.type "int") = some false) (noBool : PySem.W.subIn K (.ref C) (.type "bool") = some false)
    (ne : PySem.W.findIn K (.ref C) "__ne__" = some (some (.builtin "object.__ne__"))) (ob : PySem.W.mroIn K C (.type "object") = some true) (nf : PySem.W.notFirst K C (.ref C) = true)
    (cc : PySem.W.findIn K (.ref C) "__class__" = some (some (.builtin "object.__class__"))) (cs : PySem.W.specialIn K (.builtin "object.__class__") "__get__" = some (some (.builtin "getset_descriptor.__get__"))) (ct : PySem.W.takesIn K (.builtin "object.__class__") = some true)
    (zl : PySem.W.nsIn K mainGlobals "lcm" = some (some (.builtin "math.lcm"))) (zg : PySem.W.nsIn K mainGlobals "gcd" = some (some (.builtin "math.gcd"))) (zm : ∃ t, PySem.W.nsIn K mainGlobals "MOST_PARTS" = some (some (.int 2000 t)))
    (z_isinstance : PySem.W.nsIn K mainGlobals "isinstance" = some none)
    (z_int : PySem.W.nsIn K mainGlobals "int" = some none)
    (z_bool : PySem.W.nsIn K mainGlobals "bool" = some none)
    (z_str : PySem.W.nsIn K mainGlobals "str" = some none)
    (z_len : PySem.W.nsIn K mainGlobals "len" = some none)
    (z_abs : PySem.W.nsIn K mainGlobals "abs" = some none)
    (z_list : PySem.W.nsIn K mainGlobals "list" = some none)
    (z_range : PySem.W.nsIn K mainGlobals "range" = some none)
    (z_tuple : PySem.W.nsIn K mainGlobals "tuple" = some none)
    (z_divmod : PySem.W.nsIn K mainGlobals "divmod" = some none)
    (z_max : PySem.W.nsIn K mainGlobals "max" = some none)
    (z_min : PySem.W.nsIn K mainGlobals "min" = some none)
    (z_zip : PySem.W.nsIn K mainGlobals "zip" = some none)
    (z_all : PySem.W.nsIn K mainGlobals "all" = some none)
    (z_sum : PySem.W.nsIn K mainGlobals "sum" = some none)
    (z_enumerate : PySem.W.nsIn K mainGlobals "enumerate" = some none)
    : ∃ fd : FuncData, (∀ (s : Shared) (v : Value), BindsTo s fd ⟨[v], []⟩ [("_law_script", v)]) ∧ ∀ base : Heap, K.In base → base.Ns mainGlobals mg → FnOk l.prog w K mg base CX0 9 fa fd ["_law_script"] (spLaw K) := by
  have eLa := hfa.symm.trans (PySem.W.mg_of X G aLa)
  cases eLa
  have gInt := PySem.W.mg_of X G aInt
  obtain ⟨dInt, FInt⟩ := hInt.fn
  have bInt : Binds K dInt ["value"] [] := FInt.binds fun _ _ _ _ _ _ us hl => match us, hl with | [_], _ => rfl
  have gWi := PySem.W.mg_of X G aWi
  obtain ⟨dWi, FWi⟩ := hWi.fn
  have bWi : Binds K dWi ["value", "least", "most"] [] := FWi.binds fun _ _ _ _ _ _ us hl => match us, hl with | [_, _, _], _ => rfl
  have gZ := PySem.W.mg_of X G aZ
  obtain ⟨dZ, FZ⟩ := hZ.fn
  have bZ : Binds K dZ ["value"] [] := FZ.binds fun _ _ _ _ _ _ us hl => match us, hl with | [_], _ => rfl
  have gLp := PySem.W.mg_of X G aLp
  obtain ⟨dLp, FLp⟩ := hLp.fn
  have bLp : Binds K dLp ["gains"] [] := FLp.binds fun _ _ _ _ _ _ us hl => match us, hl with | [_], _ => rfl
  have gSp := PySem.W.mg_of X G aSp
  obtain ⟨dSp, FSp⟩ := hSp.fn
  have bSp : Binds K dSp ["told", "gains"] [] := FSp.binds fun _ _ _ _ _ _ us hl => match us, hl with | [_, _], _ => rfl
  have gNf := PySem.W.mg_of X G aNf
  obtain ⟨dNf, FNf⟩ := hNf.fn
  have bNf : Binds K dNf ["told", "gains"] [] := FNf.binds fun _ _ _ _ _ _ us hl => match us, hl with | [_, _], _ => rfl
  have gRi := PySem.W.mg_of X G aRi
  obtain ⟨dRi, FRi⟩ := hRi.fn
  have bRi : Binds K dRi ["gains"] [] := FRi.binds fun _ _ _ _ _ _ us hl => match us, hl with | [_], _ => rfl
  have gVa := PySem.W.mg_of X G aVa
  obtain ⟨dVa, FVa⟩ := hVa.fn
  have bVa : Binds K dVa ["one", "n"] [] := FVa.binds fun _ _ _ _ _ _ us hl => match us, hl with | [_, _], _ => rfl
  have gFi := PySem.W.mg_of X G aFi
  obtain ⟨dFi, FFi⟩ := hFi.fn
  have bFi : Binds K dFi ["one", "many"] [] := FFi.binds fun _ _ _ _ _ _ us hl => match us, hl with | [_, _], _ => rfl
  have gPa := PySem.W.mg_of X G aPa
  obtain ⟨dPa, FPa⟩ := hPa.fn
  have bPa : Binds K dPa ["values", "many"] [] := FPa.binds fun _ _ _ _ _ _ us hl => match us, hl with | [_, _], _ => rfl
  have gHs := PySem.W.mg_of X G aHs
  obtain ⟨dHs, FHs⟩ := hHs.fn
  have bHs : Binds K dHs ["one", "many"] [] := FHs.binds fun _ _ _ _ _ _ us hl => match us, hl with | [_, _], _ => rfl
  have gCo := PySem.W.mg_of X G aCo
  obtain ⟨dCo, FCo⟩ := hCo.fn
  have bCo : Binds K dCo ["one", "other"] [] := FCo.binds fun _ _ _ _ _ _ us hl => match us, hl with | [_, _], _ => rfl
  have gBe := PySem.W.mg_of X G aBe
  obtain ⟨dBe, FBe⟩ := hBe.fn
  have bBe : Binds K dBe ["one", "other"] [] := FBe.binds fun _ _ _ _ _ _ us hl => match us, hl with | [_, _], _ => rfl
  have gSu := PySem.W.mg_of X G aSu
  obtain ⟨dSu, FSu⟩ := hSu.fn
  have bSu : Binds K dSu ["one", "other"] [] := FSu.binds fun _ _ _ _ _ _ us hl => match us, hl with | [_, _], _ => rfl
  have gGa := PySem.W.mg_of X G aGa
  obtain ⟨dGa, FGa⟩ := hGa.fn
  have bGa : Binds K dGa ["one", "other"] [] := FGa.binds fun _ _ _ _ _ _ us hl => match us, hl with | [_, _], _ => rfl
  have gLe := PySem.W.mg_of X G aLe
  obtain ⟨dLe, FLe⟩ := hLe.fn
  have bLe : Binds K dLe ["one", "other"] [] := FLe.binds fun _ _ _ _ _ _ us hl => match us, hl with | [_, _], _ => rfl
  have gLs := PySem.W.mg_of X G aLs
  obtain ⟨dLs, FLs⟩ := hLs.fn
  have bLs : Binds K dLs ["one", "other"] [] := FLs.binds fun _ _ _ _ _ _ us hl => match us, hl with | [_, _], _ => rfl
  have gOu := PySem.W.mg_of X G aOu
  obtain ⟨dOu, FOu⟩ := hOu.fn
  have bOu : Binds K dOu ["one", "other", "is_greatest"] [] := FOu.binds fun _ _ _ _ _ _ us hl => match us, hl with | [_, _, _], _ => rfl
  have gCp := PySem.W.mg_of X G aCp
  obtain ⟨dCp, FCp⟩ := hCp.fn
  have bCp : Binds K dCp ["one", "other"] [] := FCp.binds fun _ _ _ _ _ _ us hl => match us, hl with | [_, _], _ => rfl
  have gAp := PySem.W.mg_of X G aAp
  obtain ⟨dAp, FAp⟩ := hAp.fn
  have bAp : Binds K dAp ["values", "most"] [] := FAp.binds fun _ _ _ _ _ _ us hl => match us, hl with | [_, _], _ => rfl
  have gPe := PySem.W.mg_of X G aPe
  obtain ⟨dPe, FPe⟩ := hPe.fn
  have bPe : Binds K dPe ["_law_script"] [] := FPe.binds fun _ _ _ _ _ _ us hl => match us, hl with | [_], _ => rfl
  have gDr := PySem.W.mg_of X G aDr
  obtain ⟨dDr, FDr⟩ := hDr.fn
  have bDr : Binds K dDr ["_law_pen_here", "_law_many"] [] := FDr.binds fun _ _ _ _ _ _ us hl => match us, hl with | [_, _], _ => rfl
  have gPi := PySem.W.mg_of X G aPi
  obtain ⟨dPi, FPi⟩ := hPi.fn
  have bPi : Binds K dPi ["_law_pen_here", "_law_some"] [] := FPi.binds fun _ _ _ _ _ _ us hl => match us, hl with | [_, _], _ => rfl
  have gPl := PySem.W.mg_of X G aPl
  obtain ⟨dPl, FPl⟩ := hPl.fn
  have bPl : Binds K dPl ["_law_pen_here", "_law_is_rising"] [] := FPl.binds fun _ _ _ _ _ _ us hl => match us, hl with | [_, _], _ => rfl
  have gLV := PySem.W.mg_of X G aLV
  obtain ⟨dLV, FLV⟩ := hLV.fn
  have bLV : Binds K dLV ["_law_plain_here", "_law_n"] [] := FLV.binds fun _ _ _ _ _ _ us hl => match us, hl with | [_, _], _ => rfl
  have gLW := PySem.W.mg_of X G aLW
  obtain ⟨dLW, FLW⟩ := hLW.fn
  have bLW : Binds K dLW ["_law_plain_here", "_law_many"] [] := FLW.binds fun _ _ _ _ _ _ us hl => match us, hl with | [_, _], _ => rfl
  have gLK := PySem.W.mg_of X G aLK
  obtain ⟨dLK, FLK⟩ := hLK.fn
  have bLK : Binds K dLK ["_law_pen_here"] [] := FLK.binds fun _ _ _ _ _ _ us hl => match us, hl with | [_], _ => rfl
  have gLR := PySem.W.mg_of X G aLR
  obtain ⟨dLR, FLR⟩ := hLR.fn
  have bLR : Binds K dLR ["_law_pen_here", "_law_one", "_law_other"] [] := FLR.binds fun _ _ _ _ _ _ us hl => match us, hl with | [_, _, _], _ => rfl
  have gLT := PySem.W.mg_of X G aLT
  obtain ⟨dLT, FLT⟩ := hLT.fn
  have bLT : Binds K dLT ["_law_one", "_law_other", "_law_third"] [] := FLT.binds fun _ _ _ _ _ _ us hl => match us, hl with | [_, _, _], _ => rfl
  have gLa := PySem.W.mg_of X G aLa
  obtain ⟨eEq, MEq⟩ := hEq.fn
  have cEq : Binds K eEq ["self", "other"] [] := MEq.binds fun _ _ _ _ _ _ us hl => match us, hl with | [_, _], _ => rfl
  obtain ⟨eCa, MCa⟩ := hCa.fn
  have cCa : Binds K eCa ["self", "n"] [] := MCa.binds fun _ _ _ _ _ _ us hl => match us, hl with | [_, _], _ => rfl
  obtain ⟨eFs, MFs⟩ := hFs.fn
  have cFs : Binds K eFs ["self", "n"] [] := MFs.binds fun _ _ _ _ _ _ us hl => match us, hl with | [_, _], _ => rfl
  obtain ⟨eAd, MAd⟩ := hAd.fn
  have cAd : Binds K eAd ["self", "other"] [] := MAd.binds fun _ _ _ _ _ _ us hl => match us, hl with | [_, _], _ => rfl
  obtain ⟨eOr, MOr⟩ := hOr.fn
  have cOr : Binds K eOr ["self", "other"] [] := MOr.binds fun _ _ _ _ _ _ us hl => match us, hl with | [_, _], _ => rfl
  obtain ⟨eMu, MMu⟩ := hMu.fn
  have cMu : Binds K eMu ["self", "other"] [] := MMu.binds fun _ _ _ _ _ _ us hl => match us, hl with | [_, _], _ => rfl
  obtain ⟨eRm, MRm⟩ := hRm.fn
  have cRm : Binds K eRm ["self", "other"] [] := MRm.binds fun _ _ _ _ _ _ us hl => match us, hl with | [_, _], _ => rfl
  obtain ⟨eAf, MAf⟩ := hAf.fn
  have cAf : Binds K eAf ["self", "other"] [] := MAf.binds fun _ _ _ _ _ _ us hl => match us, hl with | [_, _], _ => rfl
  obtain ⟨eSh, MSh⟩ := hSh.fn
  have cSh : Binds K eSh ["self", "k"] [] := MSh.binds fun _ _ _ _ _ _ us hl => match us, hl with | [_, _], _ => rfl
  obtain ⟨eCn, MCn⟩ := hCn.fn
  have cCn : Binds K eCn ["value"] [] := MCn.binds fun _ _ _ _ _ _ us hl => match us, hl with | [_], _ => rfl
  obtain ⟨eSs, MSs⟩ := hSs.fn
  have cSs : Binds K eSs ["many"] [] := MSs.binds fun _ _ _ _ _ _ us hl => match us, hl with | [_], _ => rfl
  obtain ⟨eTx, MTx⟩ := hTx.fn
  have cTx : Binds K eTx ["self"] [] := MTx.binds fun _ _ _ _ _ _ us hl => match us, hl with | [_], _ => rfl
  obtain ⟨eIn, MIn⟩ := hIn.fn
  obtain ⟨eRa, MRa⟩ := hRa.fn
  obtain ⟨oc, od, kV, doc, pm, an, cdv, ct', osl, lkL, cdL⟩ := hLa.l
  have FLa := fun_mk (st := top 47) lkL cdL hLa.k
  have cIn : Binds K eIn ["self", "told", "gains"] [] := by
    obtain ⟨ds, v0, b0⟩ := MIn.binds1 (ps := ["self", "told", "gains"]) 3 1 (List.cons_ne_nil _ _) rfl fun _ _ _ _ _ _ _ us its l1 l2 => match us, l1, its, l2 with | [_, _, _], _, [_], _ => ⟨_, rfl, rfl⟩
    cases v0
    exact b0
  obtain ⟨dsI, vIn, cIn1⟩ := MIn.binds1 (ps := ["self", "told", "gains"]) 2 0 (List.cons_ne_nil _ _) rfl fun _ _ _ _ _ _ _ us its l1 l2 => match us, l1, its, l2 with | [_, _], _, [_], _ => ⟨_, rfl, rfl⟩
  have cRa2 : Binds K eRa ["gain", "begin"] [] := by
    obtain ⟨ds, v0, b0⟩ := MRa.binds1 (ps := ["gain", "begin"]) 2 1 (List.cons_ne_nil _ _) rfl fun _ _ _ _ _ _ _ us its l1 l2 => match us, l1, its, l2 with | [_, _], _, [_], _ => ⟨_, rfl, rfl⟩
    cases v0
    exact b0
  obtain ⟨dsR, vRa, cRa⟩ := MRa.binds1 (ps := ["gain", "begin"]) 1 0 (List.cons_ne_nil _ _) rfl fun _ _ _ _ _ _ _ us its l1 l2 => match us, l1, its, l2 with | [_], _, [_], _ => ⟨_, rfl, rfl⟩
  have m_isinstance := PySem.W.mg_none_of X G z_isinstance
  have m_int := PySem.W.mg_none_of X G z_int
  have m_bool := PySem.W.mg_none_of X G z_bool
  have m_str := PySem.W.mg_none_of X G z_str
  have m_len := PySem.W.mg_none_of X G z_len
  have m_abs := PySem.W.mg_none_of X G z_abs
  have m_list := PySem.W.mg_none_of X G z_list
  have m_range := PySem.W.mg_none_of X G z_range
  have m_tuple := PySem.W.mg_none_of X G z_tuple
  have m_divmod := PySem.W.mg_none_of X G z_divmod
  have m_max := PySem.W.mg_none_of X G z_max
  have m_min := PySem.W.mg_none_of X G z_min
  have m_zip := PySem.W.mg_none_of X G z_zip
  have m_all := PySem.W.mg_none_of X G z_all
  have m_sum := PySem.W.mg_none_of X G z_sum
  have m_enumerate := PySem.W.mg_none_of X G z_enumerate
  have TT : GlbT mg := ⟨m_isinstance, m_int, m_bool, m_str, m_len⟩
  have TS : GlbS mg := ⟨m_len, m_range, m_tuple, m_list⟩
  have TV : GlbV mg := ⟨m_divmod, m_max, m_zip⟩
  have TG : Glb mg := ⟨m_int, m_abs, m_len, m_list⟩
  have TL : GlbL mg := ⟨PySem.W.mg_of X G zl, zm.imp fun _ e => PySem.W.mg_of X G e⟩
  have N : GName K mg C mc := ⟨PySem.W.mg_of X G aC, ⟨rd, ga⟩, most.imp' (fun t => .int 2000 t) fun t e => ⟨e, ⟨t, rfl⟩⟩⟩
  have GC : GCls K C := ⟨cls, nt, ng, nr⟩
  have GI : GIsi K C := ⟨cc, cs, ct, ob, kit_self, kit_sub (by decide +kernel) noInt, kit_sub (by decide +kernel) noBool⟩
  have M : Mk K C mIn := ⟨makes, aIn, tIn, kC⟩
  have OA : Has K C mAd (PySem.dunder "add") := ⟨aAd, tAd⟩
  have OO : Has K C mOr (PySem.dunder "or") := ⟨aOr, tOr⟩
  have GOp : GOps K C mAd mOr mMu mRm := ⟨first, OA, OO, aMu, ⟨aRm, tRm⟩, noInt⟩
  have NE : GNe K C mEq := ⟨⟨aEq, tEq⟩, ne, ob, nf⟩
  have CO : CallO K C mCa := ⟨aCa, tCa, iCa⟩
  have SI : StrIn K C mTx := ⟨aTx, tTx⟩
  have hT : ∀ H, Sq K H T0 (vI [0]) := fun H => .inr (.inr hT0)
  refine ⟨PySem.W.fnOf "law" "law" (defArgs sLw) (defBody sLw) (defScope sLw) .none kV doc pm an cdv ct', fun s v => .of_eq rfl, fun base _ _ => ?_⟩
  have oInt : FnOk l.prog w K mg base CX0 1 fInt dInt ["value"] (spIsInt K) := ok_isInt FInt TT
  have oWi : FnOk l.prog w K mg base CX0 2 fWi dWi ["value", "least", "most"] (spWithin K) := ok_within FWi TT FInt bInt gInt
  have oZ : FnOk l.prog w K mg base CX0 2 fZ dZ ["value"] (spFrom0 K) := ok_from0 FZ TT FInt bInt gInt
  have oNf : FnOk l.prog w K mg base CX0 2 fNf dNf ["told", "gains"] (spNF K) := ok_NF FNf TS FLp bLp gLp FSp bSp gSp
  have oRi : FnOk l.prog w K mg base CX0 1 fRi dRi ["gains"] (spRis K) := ok_Ris FRi TS
  have oVa : FnOk l.prog w K mg base CX0 1 fVa dVa ["one", "n"] (spVal K C) := ok_Val FVa TS TV GC
  have oFi : FnOk l.prog w K mg base CX0 1 fFi dFi ["one", "many"] (spFirst K C) := ok_First FFi TS GC
  have oSu : FnOk l.prog w K mg base CX0 2 fSu dSu ["one", "other"] (spSum K C) := ok_Sum FSu TS TV TL GC FBe bBe gBe FCo bCo gCo FFi bFi gFi FPa bPa gPa
  have oAp : FnOk l.prog w K mg base CX0 3 fAp dAp ["values", "most"] (spParts K) := ok_Parts (fI := fInt) (fdI := dInt) FAp TS TT m_all oZ hZ.k bZ gZ
  have oIn : FnOk l.prog w K mg base CX0 4 mIn eIn ["self", "told", "gains"] (spInit K C) := ok_Init MIn N GC oAp hAp.k bAp gAp oNf hNf.k bNf gNf oRi hRi.k bRi gRi
  have oEq : FnOk l.prog w K mg base CX0 1 mEq eEq ["self", "other"] (spGEq K C) := ok_GEq MEq N GC GI TT
  have oCa : FnOk l.prog w K mg base CX0 3 mCa eCa ["self", "n"] (spGCall K C) := ok_GCall MCa oWi hWi.k bWi gWi oVa hVa.k bVa gVa
  have oAd : FnOk l.prog w K mg base CX0 6 mAd eAd ["self", "other"] (spAdd K C) := ok_Add (dvs := []) MAd N GC GI TT M oIn cIn oSu hSu.k bSu gSu
  have oBe : FnOk l.prog w K mg base CX0 1 fBe dBe ["one", "other"] (spBegin K C) := ok_Begin FBe TS TV GC
  have oCo : FnOk l.prog w K mg base CX0 1 fCo dCo ["one", "other"] (spCommon K C) := ok_Common FCo TS TL GC
  have oPa : FnOk l.prog w K mg base CX0 1 fPa dPa ["values", "many"] (spPart K) := ok_Part FPa TS
  have oGa : FnOk l.prog w K mg base CX0 2 fGa dGa ["one", "other"] (spGaps K C) := ok_Gaps FGa TV ⟨_, _, oBe, hBe.k, bBe, gBe⟩ ⟨_, _, oCo, hCo.k, bCo, gCo⟩ ⟨_, _, oFi, hFi.k, bFi, gFi⟩
  have oLe : FnOk l.prog w K mg base CX0 2 fLe dLe ["one", "other"] (spLead K C) := ok_Lead FLe TS GC ⟨_, _, oCo, hCo.k, bCo, gCo⟩
  have oLs : FnOk l.prog w K mg base CX0 3 fLs dLs ["one", "other"] (spLast K C) := ok_Last FLs TS TV m_enumerate ⟨_, _, oGa, hGa.k, bGa, gGa⟩ ⟨_, _, oLe, hLe.k, bLe, gLe⟩ ⟨_, _, oCo, hCo.k, bCo, gCo⟩
  have oOu : FnOk l.prog w K mg base CX0 4 fOu dOu ["one", "other", "is_greatest"] (spOuter K C) := ok_Outer FOu TS TV m_min TL GC ⟨_, _, oLe, hLe.k, bLe, gLe⟩ ⟨_, _, oBe, hBe.k, bBe, gBe⟩ ⟨_, _, oCo, hCo.k, bCo, gCo⟩ ⟨_, _, oLs, hLs.k, bLs, gLs⟩ ⟨_, _, oFi, hFi.k, bFi, gFi⟩ ⟨_, _, oPa, hPa.k, bPa, gPa⟩
  have oOr : FnOk l.prog w K mg base CX0 6 mOr eOr ["self", "other"] (spPk true K C) := ok_Or MOr N GC GI TT M oIn cIn ⟨_, _, oOu, hOu.k, bOu, gOu⟩
  have oTx : FnOk l.prog w K mg base CX0 1 mTx eTx ["self"] (spStr K C) := ok_Str MTx GC TT
  have oRa : FnOk l.prog w K mg base CX0 6 mRa eRa ["gain", "begin"] (spRamp K C) := ok_Ramp MRa N M oIn cIn oZ hZ.k bZ gZ
  have oCn : FnOk l.prog w K mg base CX0 6 mCn eCn ["value"] (spConst K C) := by
    rcases vIn with _ | ⟨r, r0⟩
    cases r0
    cases r
    exact ok_Const (d0 := .none) MCn N M oIn cIn1 hT oZ hZ.k bZ gZ
  have oDr : FnOk l.prog w K mg base CX0 1 fDr dDr ["_law_pen_here", "_law_many"] spDraw := ok_draw FDr TG
  have oPi : FnOk l.prog w K mg base CX0 2 fPi dPi ["_law_pen_here", "_law_some"] spPick := ok_pick FPi TG FDr bDr gDr
  have oLV : FnOk l.prog w K mg base CX0 1 fLV dLV ["_law_plain_here", "_law_n"] (spLV K) := ok_LV FLV TG m_sum
  have oPl : FnOk l.prog w K mg base CX0 3 fPl dPl ["_law_pen_here", "_law_is_rising"] (spPlain K) := ok_Plain FPl m_range oDr hDr.k bDr gDr oPi hPi.k bPi gPi
  have oLW : FnOk l.prog w K mg base CX0 2 fLW dLW ["_law_plain_here", "_law_many"] (spLVs K) := ok_LVs FLW m_range oLV hLV.k bLV gLV
  have oHs : FnOk l.prog w K mg base CX0 2 fHs dHs ["one", "many"] (spShift K C) := ok_Shift FHs TS TV GC FVa bVa gVa
  have oSh : FnOk l.prog w K mg base CX0 6 mSh eSh ["self", "k"] (spGShift K C) := ok_GShift MSh N M oIn cIn oWi hWi.k bWi gWi oHs hHs.k bHs gHs
  have oRm : FnOk l.prog w K mg base CX0 6 mRm eRm ["self", "other"] (spMul K C) := ok_RMul MRm N GC M oIn cIn oWi hWi.k bWi gWi
  have oFs : FnOk l.prog w K mg base CX0 3 mFs eFs ["self", "n"] (spGFirst K C) := ok_GFirst MFs TS N oWi hWi.k bWi gWi oFi hFi.k bFi gFi
  have oSs : FnOk l.prog w K mg base CX0 6 mSs eSs ["many"] (spSteps K C) := ok_Steps MSs m_range N M oIn cIn oInt hInt.k bInt gInt
  have oCp : FnOk l.prog w K mg base CX0 2 fCp dCp ["one", "other"] (spComp K C) := ok_Comp FCp TS (PySem.W.mg_of X G zg) TL.most GC oVa hVa.k bVa gVa oFi hFi.k bFi gFi oPa hPa.k bPa gPa
  have oAf : FnOk l.prog w K mg base CX0 6 mAf eAf ["self", "other"] (spAfter K C) := ok_After MAf N GC GI TT M oIn cIn oCp hCp.k bCp gCp
  have kAf : KBn K eAf ["self", "other"] 1 ["other"] (fun us ws => us ++ ws) (fun vs zs => vs ++ zs) := MAf.kb 1 (fun us ws => us ++ ws) (fun r s => r.append s) fun _ _ _ _ _ _ us ws l1 l2 => match us, l1, ws, l2 with | [_], _, [_], _ => rfl
  have oLK : FnOk l.prog w K mg base CX0 4 fLK dLK ["_law_pen_here"] (spKind K) := ok_Kind FLK TG oDr hDr.k bDr gDr oPl hPl.k bPl gPl
  have oLR : FnOk l.prog w K mg base CX0 8 fLR dLR ["_law_pen_here", "_law_one", "_law_other"] (spRi K) := ok_Ri FLR TS N GC M NE CO ⟨aAf, tAf, hAf.k⟩ ⟨aFs, tFs, hFs.k⟩ oIn cIn oEq cEq oAf cAf kAf oCa cCa oFs cFs ⟨_, _, oDr, hDr.k, bDr, gDr⟩ ⟨_, _, oLV, hLV.k, bLV, gLV⟩ ⟨_, _, oLW, hLW.k, bLW, gLW⟩
  have oPe : FnOk l.prog w K mg base CX0 1 fPe dPe ["_law_script"] (spPen K) := ok_pen FPe TG
  rcases vRa with _ | ⟨rR, r0⟩
  cases r0
  have oLT : FnOk l.prog w K mg base CX0 8 fLT dLT ["_law_one", "_law_other", "_law_third"] (spTh K) := ok_Th FLT N GC M NE GOp ⟨aAf, tAf, hAf.k⟩ ⟨aSh, tSh, hSh.k⟩ sRa oIn cIn oEq cEq oAf cAf oSh cSh oAd cAd oOr cOr oRm cRm oRa cRa (.cons rR .nil) cRa2
  exact ok_Lw FLa TS TT N GC NE ⟨aAf, tAf, hAf.k⟩ sSs sRa sCn SI (fnR0 oTx cTx) oEq cEq oAf cAf oSs cSs oRa cRa (.cons rR .nil) oCn cCn
    ⟨_, _, oPe, hPe.k, bPe, gPe⟩ ⟨_, _, oDr, hDr.k, bDr, gDr⟩ ⟨_, _, oLK, hLK.k, bLK, gLK⟩ ⟨_, _, oLR, hLR.k, bLR, gLR⟩ ⟨_, _, oLT, hLT.k, bLT, gLT⟩
end K05
namespace K05
open PySem L2 Evl
theorem walk {l : PySem.W.OpenLaw} {q : Program} {loose : List Str} {XP : (Str → Option Value) → Heap → Prop} {YP : World → Heap → Prop} {d : DefRec} {K : Params → PySem.W.Frag} (hn : l.most = some 63) (hdf : d.params.defaults = [])
    (hY : ∀ (w : World) (h : Heap), YP w h → (K w.params).In h)
    (F : ∀ (w : World) (mg : Str → Option Value) (fa : Addr) (h : Heap), (K w.params).In h → h.Ns mainGlobals mg → mg d.name = some (.ref fa) →
      ∃ fd : FuncData, (∀ (s : Shared) (u : Value), BindsTo s fd ⟨[u], []⟩ [("_law_script", u)]) ∧ ∀ base : Heap, (K w.params).In base → base.Ns mainGlobals mg → FnOk l.prog w (K w.params) mg base CX0 9 fa fd ["_law_script"] (spLaw (K w.params))) :
    PySem.W.WalkO q loose XP YP l.row.toRowW d [] (fun f vs => PySem.call f vs) :=
  walk_of (n := 63) (k := 9) (x := "_law_script") (CX := fun _ => CX0) (sp := fun w => spLaw (K w.params)) hn (by decide) hdf ⟨rfl, by decide, by decide⟩ hY F (fun w H a ns hl _ hS => ⟨a, ns, rfl, hS, hl, fun _ => rfl⟩) (fun _ _ _ _ _ z => z)
end K05
open PySem PySem.W PyProof.Rows
set_option maxRecDepth 100000 in
set_option maxHeartbeats 0 in
theorem PySem.Challenge.cw_layerpost_k05_whole_growths_of_growths_holds : PySem.Challenge.rw_layerpost_k05_whole_growths_of_growths.Holds := by
  w_on; o_law; k_head; (case hw => w_witness2)
  k_fill
  refine K05.walk (l := PySem.Challenge.rw_layerpost_k05_whole_growths_of_growths) rfl rfl (fun w h Y => PySem.W.kIn_of Y) ?F
  case F =>
    intro w mg fa h KX G hmg
    refine' K05.all_mk KX G hmg ?qaInt ?qhInt ?qaWi ?qhWi ?qaZ ?qhZ ?qaLp ?qhLp ?qaSp ?qhSp ?qaNf ?qhNf ?qaRi ?qhRi ?qaVa ?qhVa ?qaFi ?qhFi ?qaPa ?qhPa ?qaHs ?qhHs ?qaCo ?qhCo ?qaBe ?qhBe ?qaSu ?qhSu ?qaGa ?qhGa ?qaLe ?qhLe ?qaLs ?qhLs ?qaOu ?qhOu ?qaCp ?qhCp ?qaAp ?qhAp ?qaPe ?qhPe ?qaDr ?qhDr ?qaPi ?qhPi ?qaPl ?qhPl ?qaLV ?qhLV ?qaLW ?qhLW ?qaLK ?qhLK ?qaLR ?qhLR ?qaLT ?qhLT ?qaLa ?qhLa ?qaC ?qrd ?qga ?qmost ?qcls ?qnt ?qng ?qnr ?qmakes ?qkC ?qaIn ?qtIn ?qhIn ?qhT0 ?qaEq ?qtEq ?qhEq ?qaCa ?qtCa ?qhCa ?qaFs ?qtFs ?qhFs ?qaAd ?qtAd ?qhAd ?qaOr ?qtOr ?qhOr ?qaMu ?qtMu ?qhMu ?qaRm ?qtRm ?qhRm ?qaAf ?qtAf ?qhAf ?qaSh ?qtSh ?qhSh ?qaTx ?qtTx ?qhTx ?qiCa ?qsCn ?qhCn ?qsSs ?qhSs ?qsRa ?qhRa ?qfirst ?qnoInt ?qnoBool ?qne ?qob ?qnf ?qcc ?qcs ?qct ?qzl ?qzg ?qzm ?qzisinstance ?qzint ?qzbool ?qzstr ?qzlen ?qzabs ?qzlist ?qzrange ?qztuple ?qzdivmod ?qzmax ?qzmin ?qzzip ?qzall ?qzsum ?qzenumerate
    (case qaInt => k_is)
    (case qhInt => exact ⟨⟨_, _, _, _, _, _, _, _, _, by k_is, by k_is⟩, by k_is⟩)
    (case qaWi => k_is)
    (case qhWi => exact ⟨⟨_, _, _, _, _, _, _, _, _, by k_is, by k_is⟩, by k_is⟩)
    (case qaZ => k_is)
    (case qhZ => exact ⟨⟨_, _, _, _, _, _, _, _, _, by k_is, by k_is⟩, by k_is⟩)
    (case qaLp => k_is)
    (case qhLp => exact ⟨⟨_, _, _, _, _, _, _, _, _, by k_is, by k_is⟩, by k_is⟩)
    (case qaSp => k_is)
    (case qhSp => exact ⟨⟨_, _, _, _, _, _, _, _, _, by k_is, by k_is⟩, by k_is⟩)
    (case qaNf => k_is)
    (case qhNf => exact ⟨⟨_, _, _, _, _, _, _, _, _, by k_is, by k_is⟩, by k_is⟩)
    (case qaRi => k_is)
    (case qhRi => exact ⟨⟨_, _, _, _, _, _, _, _, _, by k_is, by k_is⟩, by k_is⟩)
    (case qaVa => k_is)
    (case qhVa => exact ⟨⟨_, _, _, _, _, _, _, _, _, by k_is, by k_is⟩, by k_is⟩)
    (case qaFi => k_is)
    (case qhFi => exact ⟨⟨_, _, _, _, _, _, _, _, _, by k_is, by k_is⟩, by k_is⟩)
    (case qaPa => k_is)
    (case qhPa => exact ⟨⟨_, _, _, _, _, _, _, _, _, by k_is, by k_is⟩, by k_is⟩)
    (case qaHs => k_is)
    (case qhHs => exact ⟨⟨_, _, _, _, _, _, _, _, _, by k_is, by k_is⟩, by k_is⟩)
    (case qaCo => k_is)
    (case qhCo => exact ⟨⟨_, _, _, _, _, _, _, _, _, by k_is, by k_is⟩, by k_is⟩)
    (case qaBe => k_is)
    (case qhBe => exact ⟨⟨_, _, _, _, _, _, _, _, _, by k_is, by k_is⟩, by k_is⟩)
    (case qaSu => k_is)
    (case qhSu => exact ⟨⟨_, _, _, _, _, _, _, _, _, by k_is, by k_is⟩, by k_is⟩)
    (case qaGa => k_is)
    (case qhGa => exact ⟨⟨_, _, _, _, _, _, _, _, _, by k_is, by k_is⟩, by k_is⟩)
    (case qaLe => k_is)
    (case qhLe => exact ⟨⟨_, _, _, _, _, _, _, _, _, by k_is, by k_is⟩, by k_is⟩)
    (case qaLs => k_is)
    (case qhLs => exact ⟨⟨_, _, _, _, _, _, _, _, _, by k_is, by k_is⟩, by k_is⟩)
    (case qaOu => k_is)
    (case qhOu => exact ⟨⟨_, _, _, _, _, _, _, _, _, by k_is, by k_is⟩, by k_is⟩)
    (case qaCp => k_is)
    (case qhCp => exact ⟨⟨_, _, _, _, _, _, _, _, _, by k_is, by k_is⟩, by k_is⟩)
    (case qaAp => k_is)
    (case qhAp => exact ⟨⟨_, _, _, _, _, _, _, _, _, by k_is, by k_is⟩, by k_is⟩)
    (case qaPe => k_is)
    (case qhPe => exact ⟨⟨_, _, _, _, _, _, _, _, _, by k_is, by k_is⟩, by k_is⟩)
    (case qaDr => k_is)
    (case qhDr => exact ⟨⟨_, _, _, _, _, _, _, _, _, by k_is, by k_is⟩, by k_is⟩)
    (case qaPi => k_is)
    (case qhPi => exact ⟨⟨_, _, _, _, _, _, _, _, _, by k_is, by k_is⟩, by k_is⟩)
    (case qaPl => k_is)
    (case qhPl => exact ⟨⟨_, _, _, _, _, _, _, _, _, by k_is, by k_is⟩, by k_is⟩)
    (case qaLV => k_is)
    (case qhLV => exact ⟨⟨_, _, _, _, _, _, _, _, _, by k_is, by k_is⟩, by k_is⟩)
    (case qaLW => k_is)
    (case qhLW => exact ⟨⟨_, _, _, _, _, _, _, _, _, by k_is, by k_is⟩, by k_is⟩)
    (case qaLK => k_is)
    (case qhLK => exact ⟨⟨_, _, _, _, _, _, _, _, _, by k_is, by k_is⟩, by k_is⟩)
    (case qaLR => k_is)
    (case qhLR => exact ⟨⟨_, _, _, _, _, _, _, _, _, by k_is, by k_is⟩, by k_is⟩)
    (case qaLT => k_is)
    (case qhLT => exact ⟨⟨_, _, _, _, _, _, _, _, _, by k_is, by k_is⟩, by k_is⟩)
    (case qaLa => k_is)
    (case qhLa => exact ⟨⟨_, _, _, _, _, _, _, _, _, by k_is, by k_is⟩, by k_is⟩)
    (case qaC => k_is)
    (case qrd => exact (show PySem.W.readsIn _ _ (.type "type") = true by k_is))
    (case qga => k_is)
    (case qmost => exact ⟨_, by k_is⟩)
    (case qcls => exact ⟨by k_is, by k_is, by k_is, by k_is⟩)
    (case qnt => exact (by unfold L2.NoAttr; k_is))
    (case qng => exact (by unfold L2.NoAttr; k_is))
    (case qnr => exact (by unfold L2.NoAttr; k_is))
    (case qmakes => k_is)
    (case qkC => k_is)
    (case qaIn => k_is)
    (case qtIn => k_is)
    (case qhIn => exact ⟨⟨_, _, _, _, _, _, _, _, _, _, by k_is, by k_is, .inr ⟨by simp, _, _, _, _, rfl, by k_is, rfl, .cons rfl .nil⟩⟩, by k_is⟩)
    (case qhT0 => exact ⟨_, _, _, by k_is, rfl, rfl, by decide, .cons ⟨_, rfl⟩ .nil⟩)
    (case qaEq => k_is)
    (case qtEq => k_is)
    (case qhEq => exact ⟨⟨_, _, _, _, _, _, _, _, _, by k_is, by k_is⟩, by k_is⟩)
    (case qaCa => k_is)
    (case qtCa => k_is)
    (case qhCa => exact ⟨⟨_, _, _, _, _, _, _, _, _, by k_is, by k_is⟩, by k_is⟩)
    (case qaFs => k_is)
    (case qtFs => k_is)
    (case qhFs => exact ⟨⟨_, _, _, _, _, _, _, _, _, by k_is, by k_is⟩, by k_is⟩)
    (case qaAd => k_is)
    (case qtAd => k_is)
    (case qhAd => exact ⟨⟨_, _, _, _, _, _, _, _, _, by k_is, by k_is⟩, by k_is⟩)
    (case qaOr => k_is)
    (case qtOr => k_is)
    (case qhOr => exact ⟨⟨_, _, _, _, _, _, _, _, _, by k_is, by k_is⟩, by k_is⟩)
    (case qaMu => k_is)
    (case qtMu => k_is)
    (case qhMu => exact ⟨⟨_, _, _, _, _, _, _, _, _, by k_is, by k_is⟩, by k_is⟩)
    (case qaRm => k_is)
    (case qtRm => k_is)
    (case qhRm => exact ⟨⟨_, _, _, _, _, _, _, _, _, by k_is, by k_is⟩, by k_is⟩)
    (case qaAf => k_is)
    (case qtAf => k_is)
    (case qhAf => exact ⟨⟨_, _, _, _, _, _, _, _, _, by k_is, by k_is⟩, by k_is⟩)
    (case qaSh => k_is)
    (case qtSh => k_is)
    (case qhSh => exact ⟨⟨_, _, _, _, _, _, _, _, _, by k_is, by k_is⟩, by k_is⟩)
    (case qaTx => k_is)
    (case qtTx => k_is)
    (case qhTx => exact ⟨⟨_, _, _, _, _, _, _, _, _, by k_is, by k_is⟩, by k_is⟩)
    (case qiCa => k_is)
    (case qsCn => exact ⟨by k_is, ⟨_, by k_is⟩, by k_is⟩)
    (case qhCn => exact ⟨⟨_, _, _, _, _, _, _, _, _, by k_is, by k_is⟩, by k_is⟩)
    (case qsSs => exact ⟨by k_is, ⟨_, by k_is⟩, by k_is⟩)
    (case qhSs => exact ⟨⟨_, _, _, _, _, _, _, _, _, by k_is, by k_is⟩, by k_is⟩)
    (case qsRa => exact ⟨by k_is, ⟨_, by k_is⟩, by k_is⟩)
    (case qhRa => exact ⟨⟨_, _, _, _, _, _, _, _, _, _, by k_is, by k_is, .inr ⟨by simp, _, _, _, _, rfl, by k_is, rfl, .cons ⟨_, rfl⟩ .nil⟩⟩, by k_is⟩)
    (case qfirst => k_is)
    (case qnoInt => k_is)
    (case qnoBool => k_is)
    (case qne => k_is)
    (case qob => k_is)
    (case qnf => k_is)
    (case qcc => k_is)
    (case qcs => k_is)
    (case qct => k_is)
    (case qzl => k_is)
    (case qzg => k_is)
    (case qzm => exact ⟨_, by k_is⟩)
    (case qzisinstance => k_is)
    (case qzint => k_is)
    (case qzbool => k_is)
    (case qzstr => k_is)
    (case qzlen => k_is)
    (case qzabs => k_is)
    (case qzlist => k_is)
    (case qzrange => k_is)
    (case qztuple => k_is)
    (case qzdivmod => k_is)
    (case qzmax => k_is)
    (case qzmin => k_is)
    (case qzzip => k_is)
    (case qzall => k_is)
    (case qzsum => k_is)
    (case qzenumerate => k_is)
