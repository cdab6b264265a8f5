/-
  Contracts of the document's answers None, Minus, Less, Same and Part: they are the program's.
-/
import Derived.Test.YtdjkilgcgkhcdaaDoorDg
import Derived.Test.YtdjkilgcgkhcdaaDoorSg
namespace Go.Proofs.YtdjkilgcgkhcdaaDoor
open Go.RowKit Go.Fl Go.Sort Go.Lib
set_option maxHeartbeats 400000 in
theorem rnone_any (a : Nat) (w : World) :
    Calls Tryd.prog 28 #[.float .f64 a] w fun e w' => e = .returned (.bool (FloatKind.f64.format.order a a != some .eq)) ∧ w = w' := by
  go_enter Tryd.func28, Tryd.ntmps28
  go_wp2
  go_ret
  exact ⟨rfl, rfl⟩
/-- Only the two zeros are 0. -/
theorem zero_of (x : Nat) (hx : x < 2 ^ 64) (h : val x = some 0) : x = 0 ∨ x = 9223372036854775808 := by
  have hs : Ieee.double.signWeight = 2 ^ 63 := rfl
  have hb : Ieee.double.binade = 2 ^ 52 := rfl
  have hi : Ieee.double.infRung = 2047 * 2 ^ 52 := by decide
  have ht := top_pos
  unfold val Ieee.Format.read at h
  simp only [hs, hb, hi] at h
  split at h
  · simp only [ext, signed_eq, Option.some.injEq] at h
    rw [show (Ieee.double.leastPlace + 1074).toNat = 0 from rfl, show pw 0 = 1 from rfl] at h
    have : x % 2 ^ 63 = 0 := by split at h <;> omega
    omega
  · split at h
    · exfalso
      simp only [ext, signed_eq, Option.some.injEq] at h
      have hp := pw_pos (Ieee.double.leastPlace + ((x % 2 ^ 63 / 2 ^ 52 - 1 : Nat) : Int) + 1074).toNat
      generalize pw (Ieee.double.leastPlace + ((x % 2 ^ 63 / 2 ^ 52 - 1 : Nat) : Int) + 1074).toNat = z at hp h
      have h3 : (0 : Int) < ((2 ^ 52 + x % 2 ^ 63 % 2 ^ 52 : Nat) : Int) * z := Int.mul_pos (by omega) hp
      generalize ((2 ^ 52 + x % 2 ^ 63 % 2 ^ 52 : Nat) : Int) * z = y at h3 h
      split at h <;> omega
    · split at h
      · exfalso
        simp only [ext, Option.some.injEq] at h
        split at h <;> omega
      · cases h
theorem minus_facts (x : Nat) (hx : x < 2 ^ 64) (h0 : x ≠ 0) (h1 : x ≠ 9223372036854775808) :
    (FloatKind.f64.format.order x 0 == some .eq) = false ∧ (FloatKind.f64.format.order x 0 == some .lt) = lessB x 0 := by
  rw [order_val, val_zero]
  match hv : val x with
  | none =>
    have k0 : key 0 = 1 := by kernel_rfl
    have kx : key x = 2 * top + 5 := by unfold key; rw [hv]
    have := top_pos
    refine ⟨rfl, ?_⟩
    unfold lessB; rw [k0, kx]
    exact (decide_eq_false (by omega)).symm
  | some v =>
    have hz := less_zero x v hv
    have hne : v ≠ 0 := fun e => by subst e; rcases zero_of x hx hv with h | h <;> omega
    constructor
    · rw [← Bool.not_eq_true]; simp only [cmpExt, beq_iff_eq, Option.some.injEq, cmp_eq]; exact hne
    · by_cases h : v < 0
      · rw [hz.2 h]; simp only [cmpExt, beq_iff_eq, Option.some.injEq, cmp_lt]; exact h
      · rw [hz.1 (by omega), ← Bool.not_eq_true]; simp only [cmpExt, beq_iff_eq, Option.some.injEq, cmp_lt]; exact h
set_option maxHeartbeats 800000 in
theorem minus_any (x : Nat) (hx : x < 2 ^ 64) (w : World) :
    Calls Tryd.prog 29 #[.float .f64 x] w fun e w' => e = .returned (.bool (lessB x 0)) ∧ w = w' := by
  by_cases h0 : x = 0
  · subst h0
    have e : lessB 0 0 = false := by kernel_rfl
    have o1 : (FloatKind.f64.format.order 0 0 == some .lt) = false := by kernel_rfl
    have o2 : (FloatKind.f64.format.order 0 0 == some .eq) = true := by kernel_rfl
    have o3 : (FloatKind.f64.format.order 9218868437227405312 0 == some .lt) = false := by kernel_rfl
    have d := fun w => run_float_arith (P := Tryd.prog) w .quo 22 .f64 4607182418800017408 0 9218868437227405312 (by kernel_rfl)
    rw [e]
    go_enter Tryd.func29, Tryd.ntmps29
    go_wp2
    go_ret
    exact ⟨rfl, rfl⟩
  by_cases h1 : x = 9223372036854775808
  · subst h1
    have o1 : (FloatKind.f64.format.order 9223372036854775808 0 == some .lt) = false := by kernel_rfl
    have o2 : (FloatKind.f64.format.order 9223372036854775808 0 == some .eq) = true := by kernel_rfl
    have o3 : (FloatKind.f64.format.order 18442240474082181120 0 == some .lt) = true := by kernel_rfl
    have d := fun w => run_float_arith (P := Tryd.prog) w .quo 22 .f64 4607182418800017408 9223372036854775808 18442240474082181120 (by kernel_rfl)
    rw [lz1]
    go_enter Tryd.func29, Tryd.ntmps29
    go_wp2
    go_ret
    exact ⟨rfl, rfl⟩
  obtain ⟨o2, o1⟩ := minus_facts x hx h0 h1
  clear h0 h1 hx
  cases hl : lessB x 0
  all_goals
    rw [hl] at o1
    go_enter Tryd.func29, Tryd.ntmps29
    go_wp2
    go_ret
    exact ⟨rfl, rfl⟩
theorem rless_facts (a b : Nat) :
    ((FloatKind.f64.format.order a a != some .eq) = true ∧ lessB a b = false) ∨
    ((FloatKind.f64.format.order a a != some .eq) = false ∧ (FloatKind.f64.format.order b b != some .eq) = true ∧ lessB a b = true) ∨
    ((FloatKind.f64.format.order a a != some .eq) = false ∧ (FloatKind.f64.format.order b b != some .eq) = false ∧
      ((FloatKind.f64.format.order a b == some .lt) = true ∧ lessB a b = true ∨
       (FloatKind.f64.format.order a b == some .lt) = false ∧ (FloatKind.f64.format.order a b == some .eq) = false ∧ lessB a b = false ∨
       (FloatKind.f64.format.order a b == some .lt) = false ∧ (FloatKind.f64.format.order a b == some .eq) = true ∧ lessB a b = (lessB a 0 && !lessB b 0))) := by
  have ht := top_pos
  have k0 : key 0 = 1 := by kernel_rfl
  simp only [order_val]
  match hva : val a, hvb : val b with
  | none, none =>
    have ka : key a = 2 * top + 5 := by unfold key; rw [hva]
    have kb : key b = 2 * top + 5 := by unfold key; rw [hvb]
    exact .inl ⟨rfl, by unfold lessB; rw [ka, kb]; simp⟩
  | none, some u =>
    have ka : key a = 2 * top + 5 := by unfold key; rw [hva]
    have hu := val_range b u hvb
    refine .inl ⟨rfl, ?_⟩
    unfold lessB
    rw [ka]
    unfold key
    rw [hvb]
    simp only [decide_eq_false_iff_not]
    split <;> omega
  | some v, none =>
    have kb : key b = 2 * top + 5 := by unfold key; rw [hvb]
    have hv := val_range a v hva
    refine .inr (.inl ⟨by simp [cmpExt], rfl, ?_⟩)
    unfold lessB
    rw [kb]
    unfold key
    rw [hva]
    simp only [decide_eq_true_eq]
    split <;> omega
  | some v, some u =>
    refine .inr (.inr ⟨by simp [cmpExt], by simp [cmpExt], ?_⟩)
    have el : (cmpExt (some v) (some u) == some Ordering.lt) = decide (v < u) := by
      rw [Bool.eq_iff_iff]; simp only [cmpExt, beq_iff_eq, Option.some.injEq, cmp_lt, decide_eq_true_eq]
    have ee : (cmpExt (some v) (some u) == some Ordering.eq) = decide (v = u) := by
      rw [Bool.eq_iff_iff]; simp only [cmpExt, beq_iff_eq, Option.some.injEq, cmp_eq, decide_eq_true_eq]
    rw [el, ee]
    unfold lessB
    rw [k0]
    unfold key
    rw [hva, hvb]
    simp only
    rcases (by omega : v < u ∨ u < v ∨ v = u) with h | h | h
    · refine .inl ⟨decide_eq_true h, decide_eq_true ?_⟩
      split <;> split <;> omega
    · refine .inr (.inl ⟨decide_eq_false (by omega), decide_eq_false (by omega), decide_eq_false ?_⟩)
      split <;> split <;> omega
    · subst h
      refine .inr (.inr ⟨decide_eq_false (by omega), decide_eq_true rfl, ?_⟩)
      rw [Bool.eq_iff_iff]
      simp only [Bool.and_eq_true, Bool.not_eq_true', decide_eq_true_eq, decide_eq_false_iff_not]
      split <;> split <;> omega
set_option maxHeartbeats 1000000 in
/-- The document's 'Less' is the program's. -/
theorem rless_any (a b : Nat) (ha : a < 2 ^ 64) (hb : b < 2 ^ 64) (w : World) :
    Calls Tryd.prog 17 #[.float .f64 a, .float .f64 b] w fun e w' => e = .returned (.bool (lessB a b)) ∧ w = w' := by
  have HA := Lib.hid ha
  have HB := Lib.hid hb
  clear ha hb
  rcases rless_facts a b with ⟨h1, h2⟩ | ⟨h1, h2, h3⟩ | ⟨h1, h2, ⟨h3, h4⟩ | ⟨h3, h4, h5⟩ | ⟨h3, h4, h5⟩⟩
  · rw [h2]; clear h2
    go_enter Tryd.func17, Tryd.ntmps17
    go_wp2_with (go_at_call 28; ((with_reducible refine (rnone_any _ _).mono ?_); rintro e w' ⟨rfl, rfl⟩))
    go_ret
    exact ⟨rfl, rfl⟩
  · rw [h3]; clear h3
    go_enter Tryd.func17, Tryd.ntmps17
    go_wp2_with (go_at_call 28; ((with_reducible refine (rnone_any _ _).mono ?_); rintro e w' ⟨rfl, rfl⟩))
    go_ret
    exact ⟨rfl, rfl⟩
  · rw [h4]; clear h4
    go_enter Tryd.func17, Tryd.ntmps17
    go_wp2_with (go_at_call 28; ((with_reducible refine (rnone_any _ _).mono ?_); rintro e w' ⟨rfl, rfl⟩))
    go_ret
    exact ⟨rfl, rfl⟩
  · rw [h5]; clear h5
    go_enter Tryd.func17, Tryd.ntmps17
    go_wp2_with (go_at_call 28; ((with_reducible refine (rnone_any _ _).mono ?_); rintro e w' ⟨rfl, rfl⟩))
    go_ret
    exact ⟨rfl, rfl⟩
  · rw [h5]; clear h5
    cases h6 : lessB a 0 <;> cases h7 : lessB b 0
    all_goals
      go_enter Tryd.func17, Tryd.ntmps17
      go_wp2_with (first
        | (go_at_call 28; ((with_reducible refine (rnone_any _ _).mono ?_); rintro e w' ⟨rfl, rfl⟩))
        | (go_at_call 29; ((with_reducible refine (minus_any _ HA.out _).mono ?_); rintro e w' ⟨rfl, rfl⟩))
        | (go_at_call 29; ((with_reducible refine (minus_any _ HB.out _).mono ?_); rintro e w' ⟨rfl, rfl⟩)))
      go_ret
      exact ⟨rfl, rfl⟩
theorem rsame_any (a b : Nat) (w : World) (ha : a < 2 ^ 64) (hb : b < 2 ^ 64) :
    Calls Tryd.prog 13 #[.float .f64 a, .float .f64 b] w fun e w' => e = .returned (.bool (!lessB a b && !lessB b a)) ∧ w = w' := by
  go_enter Tryd.func13, Tryd.ntmps13
  cases h1 : lessB a b <;> cases h2 : lessB b a
  all_goals
    go_wp2_with (go_at_call 17; first | ((with_reducible refine (rless_any a b ha hb _).mono ?_); rintro e w' ⟨rfl, rfl⟩) | ((with_reducible refine (rless_any b a hb ha _).mono ?_); rintro e w' ⟨rfl, rfl⟩))
    go_ret
    exact ⟨rfl, rfl⟩
set_option maxHeartbeats 400000 in
theorem rpart_any (a b : Int) (w : World) :
    Calls Tryd.prog 12 #[.int .i64 a, .int .i64 b] w fun e w' => ∃ z, e = .returned (.float .f64 z) ∧ PartIs a b z ∧ Below w.heap.size w w' := by
  have c := fun (n : Int) (w : World) => run_convert_int_float (P := Tryd.prog) w 3 22 .i64 .f64 n (by rw [Tryd.underlying3]; rfl) Tryd.underlying22
  cases hp : partW a b with
  | some r =>
    have hq := fun w => run_float_arith (P := Tryd.prog) w .quo 22 .f64 _ _ r hp
    have HP : Hid (PartIs a b r) := ⟨Ieee.double.div_lt hp, fun r' h => by rw [hp] at h; cases h; rfl, fun h => by rw [hp] at h; cases h⟩
    clear hp
    go_enter Tryd.func12, Tryd.ntmps12
    go_wp2
    go_ret
    exact ⟨_, rfl, HP.out, Below.refl _ _⟩
  | none =>
    have hq := fun w => run_float_none w 22 _ _ hp
    have HP : Hid (∀ w x y, PartIs a b (nanW w x y)) := fun w x y => ⟨(nanW_facts w x y).1, fun r' h => by rw [hp] at h; (cases h), fun _ => (nanW_facts w x y).2⟩
    clear hp
    go_enter Tryd.func12, Tryd.ntmps12
    go_wp2
    go_ret
    exact ⟨_, rfl, HP.out _ _ _, (Below.refl _ _).drew⟩
end Go.Proofs.YtdjkilgcgkhcdaaDoor
