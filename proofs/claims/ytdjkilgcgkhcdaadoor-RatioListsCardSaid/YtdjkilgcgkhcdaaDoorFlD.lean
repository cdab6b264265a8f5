/-
  Products by 1000 and sums of doubles, with their bounds.
-/
import Derived.Test.YtdjkilgcgkhcdaaDoorFlC
namespace Go.Fl
open Ieee RowKit

def U : Int := pw 1074
theorem U_pos : 0 < U := pw_pos _

/-- A word of a number that is not infinite. -/
theorem read_num (x : Nat) (v : Int) (h : val x = some v) (h1 : -top < v) (h2 : v < top) :
    ∃ s m e, double.read x = .number s m e ∧ -1074 ≤ e ∧ v = sgn s * (m * pw (e + 1074).toNat) := by
  unfold val at h
  have hf := fine_read x
  match hd : double.read x with
  | .nan .. => rw [hd] at h; cases h
  | .infinity s => rw [hd] at h; cases h; cases s <;> simp at h1 h2
  | .number s m e =>
    rw [hd] at h hf; cases h
    exact ⟨s, m, e, rfl, hf.1, signed_eq s m _⟩

theorem sgn_two (s : Bool) (v : Int) : sgn s * v = v ∨ sgn s * v = -v := by
  unfold sgn; cases s <;> simp

/-- m * 2^e, told in units: less than 2^T. -/
theorem small_of_val (m : Nat) (e T : Int) (h1 : -1074 ≤ e) (h2 : -1074 ≤ T) (hm : 0 < m) (h : (m : Int) * pw (e + 1074).toNat < pw (T + 1074).toNat) :
    e < T ∧ m < 2 ^ (T - e).toNat := by
  rw [← pw_nat, ← pw_nat, ← Int.natCast_mul] at h
  have h := Int.ofNat_lt.1 h
  have a : 2 ^ (e + 1074).toNat ≤ m * 2 ^ (e + 1074).toNat := Nat.le_mul_of_pos_left _ hm
  have b : (e + 1074).toNat < (T + 1074).toNat := (Nat.pow_lt_pow_iff_right (by omega : 1 < 2)).1 (Nat.lt_of_le_of_lt a h)
  refine ⟨by omega, ?_⟩
  rw [show (T + 1074).toNat = (T - e).toNat + (e + 1074).toNat by omega, Nat.pow_add] at h
  exact Nat.lt_of_mul_lt_mul_right h

/-- y = x * 1000. -/
theorem mul_1000 (x : Nat) (v : Int) (h : val x = some v) (h1 : -pw (20 + 1074) < v) (h2 : v < pw (20 + 1074)) :
    ∃ y, double.mul x 4652007308841189376 = some y ∧ ∃ u, val y = some u ∧ -pw (30 + 1074) ≤ u ∧ u ≤ pw (30 + 1074) := by
  have hr : double.read 4652007308841189376 = .number false 8796093022208000 (-43) := by decide
  have htop : pw (20 + 1074) ≤ top := pw_le (by omega)
  obtain ⟨s, m, e, hd, he, hv⟩ := read_num x v h (by omega) (by omega)
  unfold Format.mul
  rw [hd, hr]
  simp only [Datum.product, Option.map_some, Bool.xor_false]
  refine ⟨_, rfl, ?_⟩
  show ∃ u, val (double.nearest s (m * 8796093022208000) (e + -43)) = some u ∧ _
  by_cases hm : m = 0
  · subst hm
    rw [Nat.zero_mul, nearest_zero, val_word s 0 (by decide)]
    have hp := pw_pos (30 + 1074)
    refine ⟨_, rfl, ?_⟩
    rw [show rv 0 = 0 from rfl, Int.mul_zero]
    omega
  · have hlt : (m : Int) * pw (e + 1074).toNat < pw ((20 : Int) + 1074).toNat := by
      show _ < pw (20 + 1074)
      have := Int.mul_nonneg (Int.natCast_nonneg m) (Int.le_of_lt (pw_pos (e + 1074).toNat))
      rcases sgn_two s (m * pw (e + 1074).toNat) with h | h <;> omega
    obtain ⟨b1, b2⟩ := small_of_val m e 20 he (by omega) (by omega) hlt
    obtain ⟨w, hw, w0, w1⟩ := nearest_bound s (m * 8796093022208000) (e + -43) 30 (by
      rw [show ((30 : Int) - (e + -43)).toNat = (20 - e).toNat + 53 by omega, Nat.pow_add]
      exact Nat.lt_of_lt_of_le (Nat.mul_lt_mul_of_pos_right b2 (by decide)) (Nat.mul_le_mul_left _ (by decide))) (by omega) (by omega) (by omega)
    refine ⟨_, hw, ?_⟩
    rw [show ((30 : Int) + 1074).toNat = 30 + 1074 from rfl] at w1
    have hp := pw_pos (30 + 1074)
    rcases sgn_two s w with h | h <;> omega

/-- A sum is what the exact sum is rounded to. -/
theorem add_spec (x y : Nat) (a b : Int) (hx : val x = some a) (hy : val y = some b) (a1 : -top < a) (a2 : a < top) (b1 : -top < b) (b2 : b < top) :
    ∃ s t e, double.add x y = some (double.nearest s t e) ∧ -1074 ≤ e ∧ sgn s * (t * pw (e + 1074).toNat) = a + b := by
  obtain ⟨s, m, i, hd, hi, hv⟩ := read_num x a hx a1 a2
  obtain ⟨t, n, j, hd2, hj, hw⟩ := read_num y b hy b1 b2
  unfold Format.add
  rw [hd, hd2]
  simp only [Datum.sum, Option.map_some]
  refine ⟨_, _, _, rfl, by omega, ?_⟩
  have e1 : signed s m (i - min i j).toNat * pw (min i j + 1074).toNat = a := by
    rw [hv, ← signed_add, show (i - min i j).toNat + (min i j + 1074).toNat = (i + 1074).toNat by omega, signed_eq]; rfl
  have e2 : signed t n (j - min i j).toNat * pw (min i j + 1074).toNat = b := by
    rw [hw, ← signed_add, show (j - min i j).toNat + (min i j + 1074).toNat = (j + 1074).toNat by omega, signed_eq]; rfl
  rw [← e1, ← e2, ← Int.add_mul]
  generalize signed s m (i - min i j).toNat + signed t n (j - min i j).toNat = z
  rw [← Int.mul_assoc]
  congr 1
  unfold sgn
  by_cases h0 : z = 0
  · subst h0; simp
  · rw [if_neg h0]
    by_cases hz : z < 0
    · simp [hz]; omega
    · simp [hz]; omega

theorem bound_of (s : Bool) (t : Nat) (e : Int) (c : Int) (T : Nat) (he : -1074 ≤ e) (hT : T ≤ 900) (h : sgn s * (t * pw (e + 1074).toNat) = c) (h1 : -pw (T + 1074) < c) (h2 : c < pw (T + 1074)) :
    ∃ v, val (double.nearest s t e) = some v ∧ -pw (T + 1074) ≤ v ∧ v ≤ pw (T + 1074) := by
  have hp := pw_pos (T + 1074)
  by_cases hm : t = 0
  · subst hm
    rw [nearest_zero, val_word s 0 (by decide)]
    refine ⟨_, rfl, ?_⟩
    rw [show rv 0 = 0 from rfl, Int.mul_zero]
    omega
  · have hlt : (t : Int) * pw (e + 1074).toNat < pw ((T : Int) + 1074).toNat := by
      rw [show ((T : Int) + 1074).toNat = T + 1074 by omega]
      have := Int.mul_nonneg (Int.natCast_nonneg t) (Int.le_of_lt (pw_pos (e + 1074).toNat))
      rcases sgn_two s (t * pw (e + 1074).toNat) with h | h <;> omega
    obtain ⟨b1, b2⟩ := small_of_val t e T he (by omega) (by omega) hlt
    obtain ⟨w, hw, w0, w1⟩ := nearest_bound s t e T b2 (by omega) (by omega) (by omega)
    refine ⟨_, hw, ?_⟩
    rw [show ((T : Int) + 1074).toNat = T + 1074 by omega] at w1
    rcases sgn_two s w with h | h <;> omega

/-- One half. -/
theorem val_half : val 4602678819172646912 = some (pw 1073) := by
  have hr : double.read 4602678819172646912 = .number false (2 ^ 52) (-53) := by decide
  unfold val
  rw [hr]
  simp only [ext, signed_eq]
  rw [show ((-53 : Int) + 1074).toNat = 1021 from rfl, show ((2 ^ 52 : Nat) : Int) = pw 52 from by rw [← pw_nat], ← pw_add]
  simp

theorem add_half (x : Nat) (v : Int) (h : val x = some v) (h1 : -pw (30 + 1074) ≤ v) (h2 : v ≤ pw (30 + 1074)) :
    ∃ y, double.add x 4602678819172646912 = some y ∧ ∃ u, val y = some u ∧ -pw (31 + 1074) ≤ u ∧ u ≤ pw (31 + 1074) := by
  have p1 : pw (30 + 1074) < top := by
    have : pw (30 + 1074) < pw (31 + 1074) := by
      have := pw_pos (30 + 1074)
      rw [show 31 + 1074 = 30 + 1074 + 1 by omega, pw_add (30 + 1074) 1, show pw 1 = 2 from rfl]; omega
    exact Int.lt_of_lt_of_le this (pw_le (by omega))
  have p2 : pw 1073 ≤ pw (30 + 1074) := pw_le (by omega)
  have p3 := pw_pos 1073
  have p4 : pw (31 + 1074) = 2 * pw (30 + 1074) := by
    rw [show 31 + 1074 = 30 + 1074 + 1 by omega, pw_add (30 + 1074) 1, show pw 1 = 2 from rfl, Int.mul_comm]
  have p5 : pw 1073 < pw (30 + 1074) := by
    have : pw (1073 + 1) = 2 * pw 1073 := by rw [pw_add, show pw 1 = 2 from rfl, Int.mul_comm]
    have : pw (1073 + 1) ≤ pw (30 + 1074) := pw_le (by omega)
    omega
  obtain ⟨s, t, e, hy, he, hs⟩ := add_spec x _ v _ h val_half (by omega) (by omega) (by omega) (by omega)
  obtain ⟨u, hu⟩ := bound_of s t e _ 31 he (by omega) hs (by omega) (by omega)
  exact ⟨_, hy, u, hu⟩
end Go.Fl
