/-
  Lemmas for the document's text: what a difference with itself is, and the whole part by way of the one towards 0.
-/
import Derived.Test.YtdjkilgcgkhcdaaDoorRf
namespace Go.Proofs.YtdjkilgcgkhcdaaDoor
open Go.RowKit Go.Fl Go.Sort Go.Lib
theorem run_sub_none (w : World) (t : TypeId) (x y : Nat) (h : Ieee.double.sub x y = none) : (binOp .sub t (.float .f64 x) (.float .f64 y)).run Tryd.prog w = .ok (.float .f64 (nanW w x y)) w.drew := by
  have h' : FloatKind.f64.format.sub x y = none := h
  simp [binOp, Op.floatArith, h', nanW, Question.forced]
theorem sub_self (x : Nat) (v : Int) (h : val x = some v) (h1 : -top < v) (h2 : v < top) : Ieee.double.sub x x = some 0 := by
  obtain ⟨s, m, e, hd, he, hv⟩ := read_num x v h h1 h2
  unfold Ieee.Format.sub
  rw [hd]
  simp only [Ieee.Datum.opposite, Ieee.Datum.sum, Option.map_some]
  have e0 : (e - min e e).toNat = 0 := by omega
  have et : Ieee.signed s m 0 + Ieee.signed (!s) m 0 = 0 := by
    rw [signed_eq, signed_eq]; cases s <;> simp <;> omega
  rw [e0, et]
  have : (s && !s) = false := by cases s <;> rfl
  simp only [if_true, this, Int.natAbs_zero]
  show some (Ieee.double.nearest false 0 (min e e)) = _
  rw [nearest_zero]
  rfl
theorem sub_inf (x : Nat) (h : val x = some top ∨ val x = some (-top)) : Ieee.double.sub x x = none := by
  have ht := top_pos
  unfold Ieee.Format.sub
  unfold val at h
  have hf := fine_read x
  match hd : Ieee.double.read x with
  | .nan .. => rw [hd] at h; rcases h with h | h <;> cases h
  | .infinity s => cases s <;> rfl
  | .number s m e =>
    exfalso
    rw [hd] at h hf
    have := ext_lt s m e hf
    simp only [ext, Option.some.injEq] at h
    omega
theorem val_ofInt (n : Int) (h : n.natAbs < 2 ^ 53) : val (floatOfInt .f64 n) = some (n * U) := by
  show val (Ieee.double.nearest (n < 0) n.natAbs 0) = _
  by_cases h0 : n.natAbs = 0
  · rw [h0, nearest_zero, val_word _ 0 (by decide)]
    have : n = 0 := by omega
    subst this
    rw [show rv 0 = 0 from rfl, Int.mul_zero, Int.zero_mul]
  · have := nearest_exact (decide (n < 0)) n.natAbs 0 0 h (by omega) (by omega) (by omega)
    rw [Nat.pow_zero, Nat.mul_one] at this
    rw [this]
    congr 1
    rw [← Int.mul_assoc]
    show sgn (decide (n < 0)) * ↑n.natAbs * U = n * U
    congr 1
    unfold sgn
    by_cases hn : n < 0
    · rw [decide_eq_true hn]; simp; omega
    · rw [decide_eq_false hn]; simp; omega
/-- The whole part by way of the one towards 0. -/
structure Whole (x : Nat) (n : Int) : Prop where
  conv : floatToIntVal .f64 (y2 x) .i64 = some n
  lo : -2 ^ 40 ≤ n
  hi : n ≤ 2 ^ 40
  eq : (FloatKind.f64.format.order (floatOfInt .f64 n) (y2 x) == some .gt) = false ∧ n = yv x / U ∨ (FloatKind.f64.format.order (floatOfInt .f64 n) (y2 x) == some .gt) = true ∧ n = yv x / U + 1
theorem whole (x : Nat) (T : Told x) : ∃ n, Whole x n := by
  have q1 : pw (31 + 1074) ≤ pw (40 + 1074) := pw_le (by omega)
  have hU := U_pos
  obtain ⟨c, c1, c2⟩ := to_int (y2 x) (yv x) T.val (by have := T.lo; omega) (by have := T.hi; omega)
  have hvn := val_ofInt ((yv x).tdiv U) (by omega)
  have hg : (FloatKind.f64.format.order (floatOfInt .f64 ((yv x).tdiv U)) (y2 x) == some .gt) = decide (yv x < (yv x).tdiv U * U) := by
    rw [order_val, hvn, T.val, Bool.eq_iff_iff]
    simp only [cmpExt, beq_iff_eq, Option.some.injEq, cmp_gt, decide_eq_true_eq]
  refine ⟨_, c, c1, c2, ?_⟩
  rw [hg]
  by_cases h0 : 0 ≤ yv x
  · left
    have e := Int.tdiv_eq_ediv_of_nonneg h0 (b := U)
    rw [e]
    exact ⟨decide_eq_false (by have := Int.ediv_mul_le (yv x) (show U ≠ 0 by omega); omega), rfl⟩
  · have e : (yv x).tdiv U = -((-yv x) / U) := by
      rw [show yv x = -(-yv x) by omega, Int.neg_tdiv, Int.tdiv_eq_ediv_of_nonneg (by omega)]; simp
    have h1 := Int.mul_ediv_add_emod (-yv x) U
    have h2 := Int.emod_nonneg (-yv x) (show U ≠ 0 by omega)
    have h3 := Int.emod_lt_of_pos (-yv x) hU
    generalize hq : -yv x / U = q at *
    generalize hr : -yv x % U = r at *
    rw [e, Int.neg_mul, Int.mul_comm q U]
    by_cases hr0 : r = 0
    · left
      refine ⟨decide_eq_false (by omega), ?_⟩
      refine ((Int.ediv_emod_unique (r := 0) hU).2 ⟨?_, by omega, hU⟩).1.symm
      rw [Int.mul_neg]; omega
    · right
      refine ⟨decide_eq_true (by omega), ?_⟩
      have := ((Int.ediv_emod_unique (a := yv x) (b := U) (q := -q - 1) (r := U - r) hU).2 ⟨by rw [Int.mul_sub, Int.mul_neg]; omega, by omega, by omega⟩).1
      rw [this]; omega
end Go.Proofs.YtdjkilgcgkhcdaaDoor
