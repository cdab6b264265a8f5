/-
  Whole numbers up to 1000 as floats: their texts, their parts.
-/
import Derived.Test.YtdjkilgcgkhcdaaDoorTe
namespace Go.Proofs.YtdjkilgcgkhcdaaDoor
open Go.RowKit Go.Fl Go.Sort Go.Lib Ieee
def wholeOk (n : Nat) : Bool := thN (floatOfInt .f64 n) == 1000 * n
theorem whole_all : (List.range 1001).all wholeOk = true := by kernel_rfl
theorem th_whole (n : Nat) (h : n ≤ 1000) : thN (floatOfInt .f64 n) = 1000 * n := by
  have := List.all_eq_true.1 whole_all n (List.mem_range.2 (by omega))
  simpa [wholeOk] using this
theorem ofInt_lt (n : Int) : floatOfInt .f64 n < 2 ^ 64 := by
  have := floatOfInt_wf .f64 n
  simpa [Lit.wf] using this
theorem dec_ten (m : Nat) (h : 0 < m) : Lib.decDigits (10 * m) = Lib.decDigits m ++ [48] := by
  rw [dec_step (10 * m) (by omega), show 10 * m / 10 = m by omega, show 10 * m % 10 = 0 by omega]; rfl
theorem dot_whole (n : Nat) : dotL (1000 * n) = Lib.decDigits n ++ [46, 48, 48, 48] := by
  by_cases h : n = 0
  · subst h
    refine dot_of 0 [48] _ (by rw [Lib.decDigits_one (by omega)]; rfl) ?_
    rw [Lib.decDigits_one (by omega)]; decide
  · have e : Lib.decDigits (1000 * n) = Lib.decDigits n ++ [48, 48, 48] := by
      rw [show 1000 * n = 10 * (10 * (10 * n)) by omega, dec_ten _ (by omega), dec_ten _ (by omega), dec_ten _ (by omega)]; simp
    have hp : 1 ≤ (Lib.decDigits n).length := by rw [Lib.decDigits_length]; exact Lib.nDigits_pos n
    refine dot_of _ _ _ e ?_
    rw [pad4_long _ (by simp; omega)]
    have el : (Lib.decDigits n ++ [48, 48, 48]).length - 3 = (Lib.decDigits n).length := by simp
    rw [el, List.take_left, List.drop_left]
theorem text_whole (n : Nat) (h : n ≤ 1000) : textL (floatOfInt .f64 n) = Lib.decDigits n ++ [46, 48, 48, 48] := by
  have hU := U_pos
  have ht := top_pos
  have hv := val_ofInt (n : Int) (by omega)
  have hx := ofInt_lt n
  have hk := kind_key _ hx _ hv
  have hmt : 1000000 * U < top := Int.lt_of_lt_of_le meg_gt (pw_le (by omega))
  have hnU : (n : Int) * U ≤ 1000 * U := Int.mul_le_mul_of_nonneg_right (by omega) (Int.le_of_lt hU)
  have h0 : 0 ≤ (n : Int) * U := Int.mul_nonneg (by omega) (Int.le_of_lt hU)
  have o1 : (FloatKind.f64.format.order (floatOfInt .f64 n) 4696837146684686336 == some .gt || FloatKind.f64.format.order (floatOfInt .f64 n) 4696837146684686336 == some .eq) = false := by
    rw [order_val, hv, val_mega, ← Bool.not_eq_true]; simp only [cmpExt, Bool.or_eq_true, beq_iff_eq, Option.some.injEq, cmp_gt, cmp_eq]; omega
  have o2 : (FloatKind.f64.format.order (floatOfInt .f64 n) 13920209183539462144 == some .lt || FloatKind.f64.format.order (floatOfInt .f64 n) 13920209183539462144 == some .eq) = false := by
    rw [order_val, hv, val_negmega, ← Bool.not_eq_true]; simp only [cmpExt, Bool.or_eq_true, beq_iff_eq, Option.some.injEq, cmp_lt, cmp_eq]; omega
  have hl : lessB (floatOfInt .f64 n) 0 = false := by
    by_cases hn : n = 0
    · subst hn; kernel_rfl
    · exact (less_zero _ _ hv).1 (Int.mul_pos (by omega) hU)
  unfold textL
  rw [if_neg (by omega), if_neg (by omega), if_neg (by omega), if_neg (by rw [o1]; decide), if_neg (by rw [o2]; decide), hl, th_whole n h, dot_whole]
  rfl
/-- A small whole number's word, read. -/
theorem read_whole (n : Nat) (h0 : 0 < n) (h : n < 2 ^ 53) : double.read (floatOfInt .f64 n) = .number false (n * 2 ^ (52 - n.log2)) ((n.log2 : Int) - 52) := by
  have l1 := log2_lt n
  have l2 := log2_le h0
  have hL : n.log2 ≤ 52 := by
    have : 2 ^ n.log2 < 2 ^ 53 := by omega
    have := (Nat.pow_lt_pow_iff_right (by omega)).1 this
    omega
  have hk1 : 2 ^ 52 ≤ n * 2 ^ (52 - n.log2) := by
    have := Nat.mul_le_mul_right (2 ^ (52 - n.log2)) l2
    rw [← Nat.pow_add, show n.log2 + (52 - n.log2) = 52 by omega] at this
    exact this
  have hk2 : n * 2 ^ (52 - n.log2) < 2 ^ 53 := by
    have := Nat.mul_lt_mul_of_pos_right l1 (Nat.two_pow_pos (52 - n.log2))
    rw [← Nat.pow_add, show n.log2 + 1 + (52 - n.log2) = 53 by omega] at this
    exact this
  show double.read (double.nearest (decide ((n : Int) < 0)) (n : Int).natAbs 0) = _
  rw [decide_eq_false (by omega), Int.natAbs_natCast]
  obtain ⟨hw, hr⟩ := nearest_word false n 0 h0 (by omega)
  have hl : lastOf n 0 = (n.log2 : Int) - 52 := by unfold lastOf; omega
  have hkp : keptOf false n 0 = n * 2 ^ (52 - n.log2) := by
    rw [kept_up false n 0 (by omega), hl]; congr 2; omega
  rw [hw, read_word false _ hr]
  rw [hl, hkp] at hr ⊢
  generalize n * 2 ^ (52 - n.log2) = k at *
  have e : ((n.log2 : Int) - 52 + 1074).toNat = n.log2 + 1022 := by omega
  rw [e] at hr ⊢
  generalize n.log2 = L at *
  rw [if_neg (by omega), show 2 ^ 52 + ((L + 1022) * 2 ^ 52 + k) % 2 ^ 52 = k by omega, show ((L + 1022) * 2 ^ 52 + k) / 2 ^ 52 - 1 = L + 1022 by omega, show (-1074 + ((L + 1022 : Nat) : Int)) = (L : Int) - 52 by omega]
theorem log_bound {n : Nat} (h0 : 0 < n) (k : Nat) (h : n < 2 ^ k) : n.log2 < k := by
  have : 2 ^ n.log2 < 2 ^ k := Nat.lt_of_le_of_lt (log2_le h0) h
  exact (Nat.pow_lt_pow_iff_right (by omega)).1 this
/-- Parts of the same, made larger alike. -/
theorem part_double (a b : Nat) (ha0 : 0 < a) (ha : a ≤ 1000) (hb0 : 0 < b) (hb : b ≤ 1000) : partW ((a : Int) * 2) ((b : Int) * 2) = partW a b := by
  have l2 : ∀ m : Nat, 0 < m → (m * 2).log2 = m.log2 + 1 := fun m hm => by
    rw [Nat.log2_eq_iff (by omega)]
    have := log2_lt m
    have := log2_le hm
    rw [Nat.pow_succ, Nat.pow_succ]
    rw [Nat.pow_succ] at *
    omega
  have rd : ∀ m : Nat, 0 < m → m ≤ 1000 → double.read (floatOfInt .f64 ((m : Int) * 2)) = .number false (m * 2 ^ (52 - m.log2)) ((m.log2 : Int) - 51) := fun m h0 h1 => by
    have := read_whole (m * 2) (by omega) (by omega)
    rw [l2 m h0] at this
    rw [show ((m : Int) * 2) = ((m * 2 : Nat) : Int) by omega, this]
    have hL := log_bound h0 10 (by omega)
    congr 1
    · rw [Nat.mul_assoc, ← Nat.pow_succ']; congr 2; omega
    · omega
  unfold partW Format.div
  rw [rd a ha0 ha, rd b hb0 hb, read_whole a ha0 (by omega), read_whole b hb0 (by omega)]
  have hD : b * 2 ^ (52 - b.log2) ≠ 0 := Nat.mul_ne_zero (by omega) (Nat.ne_of_gt (Nat.two_pow_pos _))
  simp only [Datum.quotient, if_neg hD]
  congr 2
  congr 1
  omega
theorem log_mag (n : Nat) (h0 : 0 < n) (hL : n.log2 ≤ 52) : (n * 2 ^ (52 - n.log2)).log2 = 52 := by
  have l1 := log2_lt n
  have l2 := log2_le h0
  rw [Nat.log2_eq_iff (Nat.mul_ne_zero (by omega) (Nat.ne_of_gt (Nat.two_pow_pos _)))]
  constructor
  · have := Nat.mul_le_mul_right (2 ^ (52 - n.log2)) l2
    rw [← Nat.pow_add, show n.log2 + (52 - n.log2) = 52 by omega] at this
    exact this
  · have := Nat.mul_lt_mul_of_pos_right l1 (Nat.two_pow_pos (52 - n.log2))
    rw [← Nat.pow_add, show n.log2 + 1 + (52 - n.log2) = 53 by omega] at this
    exact this
/-- n parts of a, each a: n. -/
theorem part_times (a n : Nat) (ha0 : 0 < a) (ha : a ≤ 1000) (hn : n ≤ 1000) : ∃ r, partW ((a : Int) * n) a = some r ∧ lessB r (floatOfInt .f64 n) = false ∧ lessB (floatOfInt .f64 n) r = false := by
  by_cases h0 : n = 0
  · subst h0
    refine ⟨0, ?_, by kernel_rfl, by kernel_rfl⟩
    unfold partW Format.div
    rw [show ((a : Int) * (0 : Nat)) = 0 by simp, read_whole a ha0 (by omega)]
    have hz : double.read (floatOfInt .f64 0) = .number false 0 (-1074) := by decide +kernel
    have hD : a * 2 ^ (52 - a.log2) ≠ 0 := Nat.mul_ne_zero (by omega) (Nat.ne_of_gt (Nat.two_pow_pos _))
    rw [hz]
    simp only [Datum.quotient, if_neg hD, Nat.zero_shiftLeft, Nat.zero_div, Nat.zero_mod, Option.map_some]
    show some (double.nearest false 0 _) = _
    rw [nearest_zero]; rfl
  · have han : 0 < a * n := Nat.mul_pos ha0 (by omega)
    have hle : a * n ≤ 1000 * 1000 := Nat.mul_le_mul ha hn
    have hLa := log_bound ha0 10 (by omega)
    have hLn := log_bound han 20 (by omega)
    have hrise : (a * n).log2 < a.log2 + 11 := by
      refine log_bound han _ ?_
      have := log2_lt a
      have h1 : a * n < 2 ^ (a.log2 + 1) * 2 ^ 10 := Nat.mul_lt_mul_of_lt_of_le this (by omega) (by omega)
      rw [← Nat.pow_add] at h1
      exact h1
    have hD : a * 2 ^ (52 - a.log2) ≠ 0 := Nat.mul_ne_zero (by omega) (Nat.ne_of_gt (Nat.two_pow_pos _))
    generalize ht : 54 + a.log2 - (a * n).log2 = t
    have hdiv : (a * n * 2 ^ (52 - (a * n).log2)) <<< 54 = (a * 2 ^ (52 - a.log2)) * (n * 2 ^ t) := by
      rw [Nat.shiftLeft_eq]
      have e1 : a * n * 2 ^ (52 - (a * n).log2) * 2 ^ 54 = a * n * 2 ^ (52 - (a * n).log2 + 54) := by rw [Nat.mul_assoc, ← Nat.pow_add]
      have e2 : a * 2 ^ (52 - a.log2) * (n * 2 ^ t) = a * n * 2 ^ (52 - a.log2 + t) := by
        rw [Nat.pow_add]; simp only [Nat.mul_assoc, Nat.mul_left_comm, Nat.mul_comm]
      rw [e1, e2]; congr 2; omega
    have hr : partW ((a : Int) * n) a = some (double.nearest false (n * 2 ^ (t + 1)) (-((t : Int) + 1))) := by
      unfold partW Format.div
      rw [show ((a : Int) * n) = ((a * n : Nat) : Int) by simp, read_whole (a * n) han (by omega), read_whole a ha0 (by omega)]
      simp only [Datum.quotient, if_neg hD, Option.map_some]
      have hm : double.fractionBits + 2 + (a * 2 ^ (52 - a.log2)).log2 - (a * n * 2 ^ (52 - (a * n).log2)).log2 = 54 := by
        rw [log_mag a ha0 (by omega), log_mag (a * n) han (by omega)]; rfl
      rw [hm, hdiv, Nat.mul_div_cancel_left _ (by omega), Nat.mul_mod_right]
      have ep : ((a * n).log2 : Int) - 52 - ((a.log2 : Int) - 52) - ((54 : Nat) : Int) - 1 = -((t : Int) + 1) := by omega
      have em : 2 * (n * 2 ^ t) + (0 != 0).toNat = n * 2 ^ (t + 1) := by
        rw [show (0 != 0).toNat = 0 from rfl, Nat.add_zero, Nat.pow_succ, Nat.mul_comm (2 ^ t) 2, Nat.mul_left_comm]
      rw [ep, em]
      rfl
    have hv := nearest_exact false n (t + 1) (-((t : Int) + 1)) (by omega) (by omega) (by omega) (by omega)
    rw [show (-((t : Int) + 1) + ((t + 1 : Nat) : Int) + 1074).toNat = 1074 by omega, show sgn false = 1 from rfl, Int.one_mul] at hv
    have hx := val_ofInt (n : Int) (by omega)
    have hU := U_pos
    have hpos : 0 < (n : Int) * U := Int.mul_pos (by omega) hU
    have k1 : key (double.nearest false (n * 2 ^ (t + 1)) (-((t : Int) + 1))) = 2 * ((n : Int) * U) := by
      unfold key; rw [hv]; show 2 * ((n : Int) * U) + _ = _
      rw [if_neg (by show ¬ ((n : Int) * U = 0 ∧ _); omega)]; omega
    have k2 : key (floatOfInt .f64 n) = 2 * ((n : Int) * U) := by
      unfold key; rw [hx]; show 2 * ((n : Int) * U) + _ = _
      rw [if_neg (by omega)]; omega
    exact ⟨_, hr, by unfold lessB; rw [k1, k2]; simp, by unfold lessB; rw [k1, k2]; simp⟩
end Go.Proofs.YtdjkilgcgkhcdaaDoor
