/-
  What rounding to the nearest double gives, and how far off it may be.
-/
import Derived.Test.YtdjkilgcgkhcdaaDoorFl
namespace Go.Fl
open Ieee RowKit

/-- The value of a rung, in units of 2^-1074. -/
def rv (r : Nat) : Int := if r < 2 ^ 52 then (r : Int) else ((2 ^ 52 + r % 2 ^ 52 : Nat) : Int) * pw (r / 2 ^ 52 - 1)
def sgn (s : Bool) : Int := if s then -1 else 1

theorem read_word (s : Bool) (r : Nat) (h : r < 2047 * 2 ^ 52) :
    double.read (double.word s r) = if r < 2 ^ 52 then .number s r (-1074) else .number s (2 ^ 52 + r % 2 ^ 52) (-1074 + (r / 2 ^ 52 - 1 : Nat)) := by
  have hs : double.signWeight = 2 ^ 63 := rfl
  have hb : double.binade = 2 ^ 52 := rfl
  have hi : double.infRung = 2047 * 2 ^ 52 := by decide
  have hl : double.leastPlace = -1074 := rfl
  unfold Format.read Format.word
  simp only [hs, hb, hi, hl]
  have e1 : (if s = true then 2 ^ 63 + r else r) % 2 ^ 63 = r := by cases s <;> simp <;> omega
  have e2 : ((if s = true then 2 ^ 63 + r else r) / 2 ^ 63 % 2 == 1) = s := by
    cases s
    · simp; omega
    · simp; omega
  rw [e1, e2]
  split
  · rfl
  · first | rfl | rw [if_pos h]
theorem val_word (s : Bool) (r : Nat) (h : r < 2047 * 2 ^ 52) : val (double.word s r) = some (sgn s * rv r) := by
  unfold val
  rw [read_word s r h]
  unfold rv sgn
  split
  · simp only [ext, signed_eq]
    simp [pw]
  · simp only [ext, signed_eq]
    rw [show (-1074 + ((r / 2 ^ 52 - 1 : Nat) : Int) + 1074).toNat = r / 2 ^ 52 - 1 by omega]
theorem word_lt (s : Bool) (r : Nat) (h : r < 2 ^ 63) : double.word s r < 2 ^ 64 := by
  have hs : double.signWeight = 2 ^ 63 := rfl
  unfold Format.word; rw [hs]; split <;> omega

theorem rv_scale (q k : Nat) (hk : k ≤ 2 ^ 53) (hq : q = 0 ∨ 2 ^ 52 ≤ k) : rv (q * 2 ^ 52 + k) = k * pw q := by
  unfold rv
  have p0 : pw 0 = 1 := rfl
  have p1 : ∀ q, pw (q + 1) = 2 * pw q := fun q => by rw [pw_add, show pw 1 = 2 from rfl, Int.mul_comm]
  by_cases h : k < 2 ^ 52
  · have : q = 0 := by omega
    subst this
    rw [if_pos (by omega), p0]
    omega
  · rw [if_neg (by omega)]
    by_cases h2 : k = 2 ^ 53
    · subst h2
      rw [show (q * 2 ^ 52 + 2 ^ 53) % 2 ^ 52 = 0 by omega, show (q * 2 ^ 52 + 2 ^ 53) / 2 ^ 52 - 1 = q + 1 by omega, p1]
      generalize pw q = z
      show (4503599627370496 : Int) * (2 * z) = 9007199254740992 * z
      omega
    · rw [show 2 ^ 52 + (q * 2 ^ 52 + k) % 2 ^ 52 = k by omega, show (q * 2 ^ 52 + k) / 2 ^ 52 - 1 = q by omega]

theorem shl_one (k : Nat) : 1 <<< k = 2 ^ k := by rw [Nat.shiftLeft_eq, Nat.one_mul]
theorem log2_lt (n : Nat) : n < 2 ^ (n.log2 + 1) := Nat.lt_log2_self
theorem log2_le {n : Nat} (h : 0 < n) : 2 ^ n.log2 ≤ n := Nat.log2_self_le (by omega)

/-- What is cut off, to the nearest. -/
theorem cut_even (s : Bool) (n d : Nat) : Toward.even.cut s n d ≤ n / 2 ^ d + 1 ∧ n / 2 ^ d ≤ Toward.even.cut s n d ∧ (n % 2 ^ d = 0 → Toward.even.cut s n d = n / 2 ^ d) := by
  unfold Toward.cut
  simp only [shl_one]
  by_cases h : d ≤ n.log2 + 2
  · rw [Nat.min_eq_left h]
    have hp : 0 < 2 ^ d := Nat.two_pow_pos d
    have hb : ∀ b : Bool, b.toNat ≤ 1 := fun b => by cases b <;> decide
    refine ⟨Nat.add_le_add_left (hb _) _, Nat.le_add_right _ _, fun h0 => ?_⟩
    rw [h0]
    have e1 : decide (2 ^ d < 2 * 0) = false := by simp
    have e2 : (2 ^ d == 2 * 0) = false := by simp
    rw [e1, e2]; rfl
  · rw [Nat.min_eq_right (by omega)]
    have h1 : n < 2 ^ (n.log2 + 1) := log2_lt n
    have h2 : 2 ^ (n.log2 + 2) = 2 * 2 ^ (n.log2 + 1) := by rw [Nat.pow_succ]; omega
    have h3 : 2 ^ (n.log2 + 2) ≤ 2 ^ d := Nat.pow_le_pow_right (by omega) (by omega)
    have e0 : n / 2 ^ (n.log2 + 2) = 0 := Nat.div_eq_of_lt (by omega)
    have e1 : n % 2 ^ (n.log2 + 2) = n := Nat.mod_eq_of_lt (by omega)
    have e2 : n / 2 ^ d = 0 := Nat.div_eq_of_lt (by omega)
    have e3 : decide (2 ^ (n.log2 + 2) < 2 * n) = false := decide_eq_false (by omega)
    have e4 : (2 ^ (n.log2 + 2) == 2 * n) = false := by simp; omega
    rw [e0, e1, e2, e3, e4]
    simp

def lastOf (m : Nat) (e : Int) : Int := max (e + m.log2 - 52) (-1074)
def keptOf (s : Bool) (m : Nat) (e : Int) : Nat := Toward.even.cut s (m <<< (e - lastOf m e).toNat) (lastOf m e - e).toNat

theorem pow_split {a b : Nat} (h : a ≤ b) : 2 ^ b = 2 ^ a * 2 ^ (b - a) := by rw [← Nat.pow_add]; congr 1; omega

/-- Where nothing is cut off. -/
theorem kept_up (s : Bool) (m : Nat) (e : Int) (h : lastOf m e ≤ e) : keptOf s m e = m * 2 ^ (e - lastOf m e).toNat := by
  unfold keptOf
  rw [show (lastOf m e - e).toNat = 0 by omega, (cut_even s _ 0).2.2 (by simp [Nat.mod_one]), Nat.shiftLeft_eq]
  simp
theorem kept_down (s : Bool) (m : Nat) (e : Int) (h : e < lastOf m e) :
    keptOf s m e ≤ m / 2 ^ (lastOf m e - e).toNat + 1 ∧ m / 2 ^ (lastOf m e - e).toNat ≤ keptOf s m e ∧ (m % 2 ^ (lastOf m e - e).toNat = 0 → keptOf s m e = m / 2 ^ (lastOf m e - e).toNat) := by
  unfold keptOf
  rw [show (e - lastOf m e).toNat = 0 by omega, show m <<< 0 = m from rfl]
  exact cut_even s m _

theorem kept_bounds (s : Bool) (m : Nat) (e : Int) (hm : 0 < m) : keptOf s m e ≤ 2 ^ 53 ∧ (lastOf m e = -1074 ∨ 2 ^ 52 ≤ keptOf s m e) := by
  have l1 := log2_lt m
  have l2 := log2_le hm
  by_cases h : lastOf m e ≤ e
  · rw [kept_up s m e h]
    constructor
    · have a : m * 2 ^ (e - lastOf m e).toNat ≤ 2 ^ (m.log2 + 1) * 2 ^ (e - lastOf m e).toNat := Nat.mul_le_mul_right _ (by omega)
      rw [← Nat.pow_add] at a
      refine Nat.le_trans a (Nat.pow_le_pow_right (by omega) ?_)
      unfold lastOf at h ⊢; omega
    · by_cases h2 : lastOf m e = -1074
      · exact .inl h2
      · refine .inr ?_
        have a : 2 ^ m.log2 * 2 ^ (e - lastOf m e).toNat ≤ m * 2 ^ (e - lastOf m e).toNat := Nat.mul_le_mul_right _ l2
        rw [← Nat.pow_add] at a
        refine Nat.le_trans (Nat.pow_le_pow_right (by omega) ?_) a
        unfold lastOf at h h2 ⊢; omega
  · obtain ⟨k1, k2, _⟩ := kept_down s m e (by omega)
    have hd : m.log2 - 52 ≤ (lastOf m e - e).toNat := by unfold lastOf at h ⊢; omega
    constructor
    · have a : m / 2 ^ (lastOf m e - e).toNat < 2 ^ 53 := by
        refine Nat.div_lt_of_lt_mul (Nat.lt_of_lt_of_le l1 ?_)
        rw [← Nat.pow_add]
        exact Nat.pow_le_pow_right (by omega) (by omega)
      omega
    · by_cases h2 : lastOf m e = -1074
      · exact .inl h2
      · refine .inr (Nat.le_trans ?_ k2)
        rw [Nat.le_div_iff_mul_le (Nat.two_pow_pos _), ← Nat.pow_add]
        refine Nat.le_trans (Nat.pow_le_pow_right (by omega) ?_) l2
        unfold lastOf at h h2 ⊢; omega

theorem nearest_word (s : Bool) (m : Nat) (e : Int) (hm : 0 < m) (hb : e + m.log2 ≤ 1000) :
    double.nearest s m e = double.word s ((lastOf m e + 1074).toNat * 2 ^ 52 + keptOf s m e) ∧ (lastOf m e + 1074).toNat * 2 ^ 52 + keptOf s m e < 2047 * 2 ^ 52 := by
  have hk := (kept_bounds s m e hm).1
  have hr : (lastOf m e + 1074).toNat * 2 ^ 52 + keptOf s m e < 2047 * 2 ^ 52 := by
    have : (lastOf m e + 1074).toNat ≤ 2022 := by unfold lastOf; omega
    omega
  refine ⟨?_, hr⟩
  have hi : double.infRung = 2047 * 2 ^ 52 := by decide
  have hbn : double.binade = 2 ^ 52 := rfl
  have hl : double.leastPlace = -1074 := rfl
  have hf : double.fractionBits = 52 := rfl
  unfold Format.nearest
  rw [if_neg (by omega)]
  simp only [hi, hbn, hl, hf]
  have e1 : max (e + (m.log2 : Int) - (52 : Nat)) (-1074) = lastOf m e := rfl
  rw [e1]
  have e2 : Toward.even.cut s (m <<< (e - lastOf m e).toNat) (lastOf m e - e).toNat = keptOf s m e := rfl
  rw [e2, show lastOf m e - -1074 = lastOf m e + 1074 by omega, Nat.min_eq_left (by omega)]
theorem nearest_val (s : Bool) (m : Nat) (e : Int) (hm : 0 < m) (hb : e + m.log2 ≤ 1000) :
    val (double.nearest s m e) = some (sgn s * (keptOf s m e * pw (lastOf m e + 1074).toNat)) := by
  obtain ⟨h1, h2⟩ := nearest_word s m e hm hb
  have hk := kept_bounds s m e hm
  rw [h1, val_word s _ h2, rv_scale _ _ hk.1]
  rcases hk.2 with h | h
  · left; rw [h]; rfl
  · exact .inr h
theorem nearest_zero (s : Bool) (e : Int) : double.nearest s 0 e = double.word s 0 := by unfold Format.nearest; rw [if_pos rfl]

/-- HOW GREAT WHAT IS ROUNDED IS: no greater than a power of two that is above. -/
theorem nearest_bound (s : Bool) (m : Nat) (e T : Int) (h : m < 2 ^ (T - e).toNat) (he : e ≤ T) (h1 : -1074 ≤ T) (h2 : T ≤ 1000) :
    ∃ v : Int, val (double.nearest s m e) = some (sgn s * v) ∧ 0 ≤ v ∧ v ≤ pw (T + 1074).toNat := by
  by_cases hm : m = 0
  · subst hm
    rw [nearest_zero, val_word s 0 (by decide)]
    exact ⟨rv 0, rfl, by decide, Int.le_of_lt (pw_pos _)⟩
  have hm : 0 < m := by omega
  have l1 := log2_lt m
  have l2 := log2_le hm
  have hL : m.log2 + 1 ≤ (T - e).toNat := by
    have : 2 ^ m.log2 < 2 ^ (T - e).toNat := by omega
    exact (Nat.pow_lt_pow_iff_right (by omega)).1 this
  refine ⟨_, nearest_val s m e hm (by omega), Int.mul_nonneg (by omega) (Int.le_of_lt (pw_pos _)), ?_⟩
  have hK : keptOf s m e * 2 ^ (lastOf m e + 1074).toNat ≤ 2 ^ (T + 1074).toNat := by
    by_cases hle : lastOf m e ≤ e
    · rw [kept_up s m e hle, Nat.mul_assoc, ← Nat.pow_add]
      refine Nat.le_trans (Nat.mul_le_mul_right _ (Nat.le_of_lt l1)) ?_
      rw [← Nat.pow_add]
      refine Nat.pow_le_pow_right (by omega) ?_
      unfold lastOf at hle ⊢; omega
    · obtain ⟨k1, _, _⟩ := kept_down s m e (by omega)
      by_cases hd : (lastOf m e - e).toNat ≤ m.log2
      · have a : m / 2 ^ (lastOf m e - e).toNat < 2 ^ (m.log2 + 1 - (lastOf m e - e).toNat) := by
          refine Nat.div_lt_of_lt_mul (Nat.lt_of_lt_of_le l1 ?_)
          rw [← Nat.pow_add]
          exact Nat.pow_le_pow_right (by omega) (by omega)
        refine Nat.le_trans (Nat.mul_le_mul_right _ (Nat.le_trans k1 a)) ?_
        rw [← Nat.pow_add]
        refine Nat.pow_le_pow_right (by omega) ?_
        unfold lastOf at hle hd ⊢; omega
      · have a : m / 2 ^ (lastOf m e - e).toNat = 0 := Nat.div_eq_of_lt (Nat.lt_of_lt_of_le l1 (Nat.pow_le_pow_right (by omega) (by omega)))
        rw [a] at k1
        have hl : lastOf m e = -1074 := by unfold lastOf at hle hd ⊢; omega
        rw [hl]
        refine Nat.le_trans (Nat.mul_le_mul_right _ k1) ?_
        rw [Nat.zero_add, Nat.one_mul]
        exact Nat.pow_le_pow_right (by omega) (by omega)
  have := Int.ofNat_le.2 hK
  rw [Int.natCast_mul, pw_nat, pw_nat] at this
  exact this

/-- WHAT NEED NOT BE ROUNDED: k * 2^d at the place e, k of at most 53 digits. -/
theorem nearest_exact (s : Bool) (k d : Nat) (e : Int) (hk : k < 2 ^ 53) (he : -1074 ≤ e + d) (hb : e + d ≤ 900) (hk0 : 0 < k) :
    val (double.nearest s (k * 2 ^ d) e) = some (sgn s * (k * pw (e + d + 1074).toNat)) := by
  have hp := Nat.two_pow_pos d
  have hm : 0 < k * 2 ^ d := Nat.mul_pos hk0 hp
  have hlog : (k * 2 ^ d).log2 = k.log2 + d := by
    rw [Nat.log2_eq_iff (by omega)]
    constructor
    · rw [Nat.pow_add]; exact Nat.mul_le_mul_right _ (log2_le hk0)
    · rw [show k.log2 + d + 1 = k.log2 + 1 + d by omega, Nat.pow_add]; exact Nat.mul_lt_mul_of_pos_right (log2_lt k) hp
  have hkl : k.log2 ≤ 52 := by
    have := log2_le hk0
    have : 2 ^ k.log2 < 2 ^ 53 := by omega
    have := (Nat.pow_lt_pow_iff_right (by omega)).1 this
    omega
  rw [nearest_val s _ e hm (by rw [hlog]; omega)]
  congr 2
  have hl : lastOf (k * 2 ^ d) e ≤ e + d := by unfold lastOf; rw [hlog]; omega
  have hl2 : -1074 ≤ lastOf (k * 2 ^ d) e := by unfold lastOf; omega
  have hK : keptOf s (k * 2 ^ d) e * 2 ^ (lastOf (k * 2 ^ d) e + 1074).toNat = k * 2 ^ (e + d + 1074).toNat := by
    generalize hL : lastOf (k * 2 ^ d) e = L at hl hl2 ⊢
    by_cases hle : L ≤ e
    · rw [kept_up s _ e (by omega), hL, Nat.mul_assoc, Nat.mul_assoc, ← Nat.pow_add, ← Nat.pow_add]
      congr 2; omega
    · have hd : (L - e).toNat ≤ d := by omega
      have h0 : k * 2 ^ d % 2 ^ (L - e).toNat = 0 := by
        rw [pow_split hd, Nat.mul_left_comm]; exact Nat.mul_mod_right _ _
      have k3 := (kept_down s (k * 2 ^ d) e (by omega)).2.2
      rw [hL] at k3
      rw [k3 h0, pow_split hd, Nat.mul_left_comm, Nat.mul_div_cancel_left _ (Nat.two_pow_pos _), Nat.mul_assoc, ← Nat.pow_add]
      congr 2; omega
  have := congrArg (Nat.cast : Nat → Int) hK
  rw [Int.natCast_mul, Int.natCast_mul, pw_nat, pw_nat] at this
  exact this
end Go.Fl
