/-
  Floor, absolute value and the whole part of a double.
-/
import Derived.Test.YtdjkilgcgkhcdaaDoorFlD
namespace Go.Fl
open Ieee RowKit

theorem cut_down (s : Bool) (n d : Nat) : Toward.down.cut s n d = if s then (n + (2 ^ d - 1)) / 2 ^ d else n / 2 ^ d := by
  unfold Toward.cut
  simp only [shl_one]
  by_cases h : d ≤ n.log2 + 2
  · rw [Nat.min_eq_left h]
    have hp : 0 < 2 ^ d := Nat.two_pow_pos d
    generalize 2 ^ d = D at hp
    cases s
    · simp
    · simp only [Bool.true_and, if_true]
      have h1 := Nat.div_add_mod n D
      have h2 := Nat.mod_lt n hp
      by_cases h0 : n % D = 0
      · have e : (n % D != 0) = false := by simp [h0]
        rw [e, show Bool.toNat false = 0 from rfl, Nat.add_zero]
        refine (Nat.div_eq_of_lt_le ?_ ?_).symm
        · rw [Nat.mul_comm]; omega
        · rw [Nat.succ_mul, Nat.mul_comm]; omega
      · have e : (n % D != 0) = true := by simp [h0]
        rw [e, show Bool.toNat true = 1 from rfl]
        refine (Nat.div_eq_of_lt_le ?_ ?_).symm
        · rw [Nat.succ_mul, Nat.mul_comm]; omega
        · rw [Nat.succ_mul, Nat.succ_mul, Nat.mul_comm]; omega
  · rw [Nat.min_eq_right (by omega)]
    have h1 : n < 2 ^ (n.log2 + 1) := log2_lt n
    have h2 : 2 ^ (n.log2 + 2) = 2 * 2 ^ (n.log2 + 1) := by rw [Nat.pow_succ]; omega
    have h3 : 2 ^ (n.log2 + 2) ≤ 2 ^ d := Nat.pow_le_pow_right (by omega) (by omega)
    have e0 : n / 2 ^ (n.log2 + 2) = 0 := Nat.div_eq_of_lt (by omega)
    have e1 : n % 2 ^ (n.log2 + 2) = n := Nat.mod_eq_of_lt (by omega)
    have e2 : n / 2 ^ d = 0 := Nat.div_eq_of_lt (by omega)
    rw [e0, e1, e2]
    cases s
    · simp
    · simp only [Bool.true_and, if_true]
      by_cases h0 : n = 0
      · subst h0
        rw [Nat.zero_add, Nat.div_eq_of_lt (by omega)]; rfl
      · have e : (n != 0) = true := by simp [h0]
        rw [e]
        refine (Nat.div_eq_of_lt_le ?_ ?_).symm <;> simp <;> omega

theorem cut_zero (s : Bool) (n d : Nat) : Toward.zero.cut s n d = n / 2 ^ d := by
  unfold Toward.cut
  simp only [shl_one]
  by_cases h : d ≤ n.log2 + 2
  · rw [Nat.min_eq_left h]; rfl
  · rw [Nat.min_eq_right (by omega)]
    have h1 : n < 2 ^ (n.log2 + 1) := log2_lt n
    have h2 : 2 ^ (n.log2 + 2) = 2 * 2 ^ (n.log2 + 1) := by rw [Nat.pow_succ]; omega
    have h3 : 2 ^ (n.log2 + 2) ≤ 2 ^ d := Nat.pow_le_pow_right (by omega) (by omega)
    rw [Nat.div_eq_of_lt (show n < 2 ^ (n.log2 + 2) by omega), Nat.div_eq_of_lt (show n < 2 ^ d by omega)]; rfl

/-- The whole part, in words: m * 2^e over 1, e of either sign. -/
theorem whole_parts (m : Nat) (e : Int) (he : -1074 ≤ e) :
    ∃ d c : Nat, d ≤ 1074 ∧ (-e).toNat = d ∧ m <<< e.toNat = c ∧ (m : Int) * pw (e + 1074).toNat = c * pw (1074 - d) := by
  refine ⟨_, _, by omega, rfl, rfl, ?_⟩
  rw [Nat.shiftLeft_eq, Int.natCast_mul, pw_nat, Int.mul_assoc, ← pw_add]
  congr 2; omega

theorem neg_div (c D : Nat) (hD : 0 < D) : -((c : Int)) / (D : Int) = -(((c + (D - 1)) / D : Nat) : Int) := by
  have h1 := Nat.div_add_mod (c + (D - 1)) D
  have h2 := Nat.mod_lt (c + (D - 1)) hD
  have h3 : (0 : Int) < D := by omega
  have e : ((D * ((c + (D - 1)) / D) : Nat) : Int) = (D : Int) * (((c + (D - 1)) / D : Nat) : Int) := Int.natCast_mul ..
  refine ((Int.ediv_emod_unique (r := (D : Int) * (((c + (D - 1)) / D : Nat) : Int) - c) h3).2 ⟨?_, ?_, ?_⟩).1
  · rw [Int.mul_neg]; omega
  · omega
  · omega

theorem div_U (s : Bool) (c d : Nat) (hd : d ≤ 1074) : sgn s * (c * pw (1074 - d)) / U = (sgn s * c) / ((2 ^ d : Nat) : Int) := by
  have e : U = ((2 ^ d : Nat) : Int) * pw (1074 - d) := by rw [pw_nat, ← pw_add]; unfold U; congr 1; omega
  rw [e, ← Int.mul_assoc, Int.mul_ediv_mul_of_pos_left _ _ (pw_pos _)]

/-- The greatest whole number that is not above. -/
def floorW (y : Nat) : Nat := double.write ((double.read y).integral .down)
theorem floor_val (y : Nat) (v : Int) (h : val y = some v) (h1 : -pw (40 + 1074) ≤ v) (h2 : v ≤ pw (40 + 1074)) :
    val (floorW y) = some (v / U * U) ∧ floorW y < 2 ^ 64 ∧ (double.read y).isNaN = false ∧ -2 ^ 40 ≤ v / U ∧ v / U ≤ 2 ^ 40 := by
  have htop : pw (40 + 1074) < top := by
    have : pw (40 + 1074) < pw (41 + 1074) := by
      have := pw_pos (40 + 1074)
      rw [show 41 + 1074 = 40 + 1074 + 1 by omega, pw_add (40 + 1074) 1, show pw 1 = 2 from rfl]; omega
    exact Int.lt_of_lt_of_le this (pw_le (by omega))
  obtain ⟨s, m, e, hd, he, hv⟩ := read_num y v h (by omega) (by omega)
  have hU := U_pos
  have hq1 : -2 ^ 40 ≤ v / U := by
    rw [Int.le_ediv_iff_mul_le hU]
    have : (-2 ^ 40 : Int) * U = -pw (40 + 1074) := by rw [pw_add 40 1074, show pw 40 = 2 ^ 40 from rfl]; unfold U; omega
    omega
  have hq2 : v / U ≤ 2 ^ 40 := by
    refine Int.ediv_le_of_le_mul hU ?_
    have : (2 ^ 40 : Int) * U = pw (40 + 1074) := by rw [pw_add 40 1074, show pw 40 = 2 ^ 40 from rfl]; unfold U; omega
    omega
  refine ⟨?_, ?_, by rw [hd]; rfl, hq1, hq2⟩
  · obtain ⟨d, c, hd1, hd2, hc, hmc⟩ := whole_parts m e he
    have hv' : v / U = sgn s * (Toward.down.cut s c d : Nat) := by
      rw [hv, hmc, div_U s c d hd1, cut_down]
      cases s
      · simp [sgn]
      · simp only [sgn, if_true]
        rw [show (-1 : Int) * (c : Int) = -(c : Int) by omega, neg_div _ _ (Nat.two_pow_pos d)]
        omega
    unfold floorW
    rw [hd]
    simp only [Datum.integral]
    rw [hd2, hc]
    show val (double.nearest s (Toward.down.cut s c d) 0) = _
    have hb : (Toward.down.cut s c d : Nat) ≤ 2 ^ 40 := by
      rcases sgn_two s (Toward.down.cut s c d : Nat) with h | h <;> rw [h] at hv' <;> omega
    generalize Toward.down.cut s c d = k at hv' hb
    rw [hv']
    by_cases hk : k = 0
    · subst hk
      rw [nearest_zero, val_word s 0 (by decide)]
      simp [rv]
    · have := nearest_exact s k 0 0 (by omega) (by omega) (by omega) (by omega)
      rw [Nat.pow_zero, Nat.mul_one] at this
      rw [this, Int.mul_assoc]
      rfl
  · exact double.write_lt _

/-- A word without its sign. -/
def absW (x : Nat) : Nat := x % 2 ^ 63
theorem abs_val (x : Nat) (v : Int) (h : val x = some v) : val (absW x) = some (v.natAbs : Int) := by
  have hs : double.signWeight = 2 ^ 63 := rfl
  have e : double.read (absW x) = match double.read x with | .number _ m e => .number false m e | .infinity _ => .infinity false | .nan _ f => .nan false f := by
    unfold absW Format.read
    simp only [hs, Nat.mod_mod]
    have : (x % 2 ^ 63 / 2 ^ 63 % 2 == 1) = false := by simp
    rw [this]
    split
    · rfl
    · split
      · rfl
      · split <;> rfl
  unfold val at h ⊢
  rw [e]
  match hd : double.read x with
  | .nan .. => rw [hd] at h; cases h
  | .infinity s =>
    rw [hd] at h; cases h
    have := top_pos
    cases s <;> simp only [ext, if_true, Bool.false_eq_true, if_false] <;> exact congrArg some (by omega)
  | .number s m e =>
    rw [hd] at h; cases h
    simp only [ext, signed_eq]
    have := Int.mul_nonneg (Int.natCast_nonneg m) (Int.le_of_lt (pw_pos (e + 1074).toNat))
    generalize (m : Int) * pw (e + 1074).toNat = z at *
    cases s <;> simp <;> omega

/-- The whole part towards 0. -/
theorem to_int (y : Nat) (v : Int) (h : val y = some v) (h1 : -pw (40 + 1074) ≤ v) (h2 : v ≤ pw (40 + 1074)) :
    floatToIntVal .f64 y .i64 = some (v.tdiv U) ∧ -2 ^ 40 ≤ v.tdiv U ∧ v.tdiv U ≤ 2 ^ 40 := by
  have htop : pw (40 + 1074) < top := by
    have : pw (40 + 1074) < pw (41 + 1074) := by
      have := pw_pos (40 + 1074)
      rw [show 41 + 1074 = 40 + 1074 + 1 by omega, pw_add (40 + 1074) 1, show pw 1 = 2 from rfl]; omega
    exact Int.lt_of_lt_of_le this (pw_le (by omega))
  obtain ⟨s, m, e, hd, he, hv⟩ := read_num y v h (by omega) (by omega)
  have hU := U_pos
  have hP : (2 ^ 40 : Int) * U = pw (40 + 1074) := by rw [pw_add 40 1074, show pw 40 = 2 ^ 40 from rfl]; unfold U; omega
  obtain ⟨d, c, hd1, hd2, hc, hmc⟩ := whole_parts m e he
  have hcd : ((c / 2 ^ d : Nat) : Int) ≤ 2 ^ 40 := by
    have e1 : (c : Int) * pw (1074 - d) / U = c / ((2 ^ d : Nat) : Int) := by have := div_U false c d hd1; simpa [sgn] using this
    rw [Int.natCast_ediv, ← e1]
    refine Int.ediv_le_of_le_mul hU ?_
    rw [hP, ← hmc]
    rcases sgn_two s (m * pw (e + 1074).toNat) with h | h <;> omega
  have ht : v.tdiv U = sgn s * ((c / 2 ^ d : Nat) : Int) := by
    have e1 : (c : Int) * pw (1074 - d) / U = c / ((2 ^ d : Nat) : Int) := by have := div_U false c d hd1; simpa [sgn] using this
    have h0 : 0 ≤ (c : Int) * pw (1074 - d) := Int.mul_nonneg (by omega) (Int.le_of_lt (pw_pos _))
    rw [hv, hmc, Int.natCast_ediv, ← e1]
    cases s
    · simp only [sgn, Bool.false_eq_true, if_false, Int.one_mul]
      exact Int.tdiv_eq_ediv_of_nonneg h0
    · simp only [sgn, if_true]
      rw [Int.neg_mul, Int.one_mul, Int.neg_tdiv, Int.tdiv_eq_ediv_of_nonneg h0]; omega
  have hr : -2 ^ 40 ≤ v.tdiv U ∧ v.tdiv U ≤ 2 ^ 40 := by
    rw [ht]
    clear ht
    generalize c / 2 ^ d = q at hcd ⊢
    rcases sgn_two s (q : Int) with h | h <;> rw [h] <;> omega
  refine ⟨?_, hr⟩
  unfold floatToIntVal
  have e2 : (FloatKind.f64.decode y).toInt .zero = some (v.tdiv U) := by
    show (double.read y).toInt .zero = _
    rw [hd]
    simp only [Datum.toInt, Datum.integral]
    rw [hd2, hc, cut_zero, ht, signed_eq]
    congr 1
    unfold sgn
    rw [show pw 0 = 1 from rfl, Int.mul_one]
  rw [e2]
  simp only
  rw [if_pos]
  have m1 : IntKind.i64.min = -9223372036854775808 := by decide
  have m2 : IntKind.i64.max = 9223372036854775807 := by decide
  rw [m1, m2]
  omega
end Go.Fl
