/-
  RatioWhole returns true, by its walk.
-/
import Derived.Test.YtdjkilgcgkhcdaaDoorWh
namespace Go.Proofs.YtdjkilgcgkhcdaaDoor
open Go.RowKit Go.Fl Go.Sort Go.Lib
set_option maxHeartbeats 400000 in
theorem signed_any (n : Nat) (hn : n ≤ 1000) (w : World) :
    Calls Tryd.prog 23 #[.int .i64 n] w fun e w' => e = .returned (.string ⟨(Lib.decDigits n).toArray⟩) ∧ w = w' := by
  have hz : (n : Int) ≤ 1000 := by omega
  have HD : Hid (n < 2 ^ 64) := by show _ < _; omega
  clear hn
  go_enter Tryd.func23, Tryd.ntmps23
  go_wp2_with (go_at_call 30; ((with_reducible refine (digits_any _ HD.out _).mono ?_); rintro e w' ⟨rfl, rfl⟩))
  go_ret
  exact ⟨rfl, rfl⟩
theorem part_eq (a b : Int) (r : Nat) (h : partW a b = some r) (w0 w : World) (hs : Std w0 w) : Calls Tryd.prog 11 #[.int .i64 a, .int .i64 b] w fun e w' => e = .returned (.float .f64 r) ∧ Std w0 w' :=
  (part_any a b w).mono fun _ _ ⟨z, he, hz, hb⟩ => ⟨by rw [he, hz.eq r h], hs.next hb⟩
theorem cat_list (l : List UInt8) : l ++ [46, 48, 48, 48] = ((ByteArray.mk l.toArray) ++ (ByteArray.mk #[46, 48, 48, 48])).toList := by
  rw [show (ByteArray.mk #[46, 48, 48, 48]) = ByteArray.mk [46, 48, 48, 48].toArray from rfl, str_app]
  simp
set_option maxHeartbeats 2000000 in
set_option maxRecDepth 100000 in
theorem whole_in (n a b : Nat) (hn : n ≤ 1000) (ha0 : 0 < a) (ha : a ≤ 1000) (hb0 : 0 < b) (hb : b ≤ 1000) (w : World) (S : Std w w) :
    Calls Tryd.prog 8 #[.int .i64 n, .int .i64 a, .int .i64 b] w fun e w' => e = .returned (.bool true) ∧ Std w w' := by
  have cc := fun (n : Int) (w : World) => run_convert_int_float (P := Tryd.prog) w 3 22 .i64 .f64 n (by rw [Tryd.underlying3]; rfl) Tryd.underlying22
  have tw := fun w1 (h : Std w w1) => text_at (floatOfInt .f64 n) _ (ofInt_lt n) (text_whole n hn) w w1 h
  have sg := fun w1 => signed_any n hn w1
  obtain ⟨r, hr, r1, r2⟩ := part_times a n ha0 ha hn
  have pt := fun w1 (h : Std w w1) => part_eq _ _ r hr w w1 h
  have smt : ∀ w1, Calls Tryd.prog 10 #[.float .f64 r, .float .f64 (floatOfInt .f64 n)] w1 fun e w' => e = .returned (.bool true) ∧ w1 = w' := fun w1 =>
    (same_any _ _ w1 (Ieee.double.div_lt hr) (ofInt_lt n)).mono fun _ _ h => ⟨by rw [h.1, r1, r2]; rfl, h.2⟩
  have pd := part_double a b ha0 ha hb0 hb
  have p1 : ∀ w1 (h : Std w w1), Calls Tryd.prog 11 #[.int .i64 ((a : Int) * 2), .int .i64 ((b : Int) * 2)] w1 fun e w' => ∃ z, e = .returned (.float .f64 z) ∧ PartIs a b z ∧ Std w w' := fun w1 h =>
    (part_any _ _ w1).mono fun _ _ ⟨z, he, hz, hb⟩ => ⟨z, he, ⟨hz.lt, fun r h => hz.eq r (pd.trans h), fun h => hz.none (pd.trans h)⟩, h.next hb⟩
  have p2 := fun w1 (h : Std w w1) => part_std (a : Int) b w w1 h
  have HD : Hid ((Lib.decDigits n).length ≤ 4) := by
    show _ ≤ _
    rw [Lib.decDigits_length]
    have := Lib.nDigits_unique
    by_cases h1 : n < 10
    · rw [Lib.nDigits_small h1]; omega
    · by_cases h2 : n < 100
      · rw [Lib.nDigits_unique 1 n (by omega) (by omega)]; omega
      · by_cases h3 : n < 1000
        · rw [Lib.nDigits_unique 2 n (by omega) (by omega)]; omega
        · rw [Lib.nDigits_unique 3 n (by omega) (by omega)]; omega
  have hdl : ((Lib.decDigits n).length : Int) ≤ 8388608 := by have := HD.out; omega
  have hmul : (a : Int) * n = ((a * n : Nat) : Int) := by simp
  have hmle : a * n ≤ 1000000 := by have := Nat.mul_le_mul ha hn; omega
  rw [hmul] at pt hr
  clear hr r1 r2 pd HD
  have an0 : (0 : Int) ≤ n := by omega
  have an1 : (n : Int) ≤ 1000 := by omega
  have aa0 : (1 : Int) ≤ a := by omega
  have aa1 : (a : Int) ≤ 1000 := by omega
  have ab0 : (1 : Int) ≤ b := by omega
  have ab1 : (b : Int) ≤ 1000 := by omega
  have M1 : IntKind.i64.wrap ((a : Int) * n) = ((a * n : Nat) : Int) := by rw [hmul, IntKind.wrap_i64]; omega
  clear hmul
  generalize han : a * n = m at *
  generalize Lib.decDigits n = dl at *
  go_enter Tryd.func8, Tryd.ntmps8
  go_wp2_with (first
    | (go_at_call 9; ((with_reducible refine (fixed_at w _ (by assumption)).mono ?_); rintro e w' ⟨rfl, hS⟩))
    | (go_at_call 14; ((with_reducible refine (tw _ (by assumption)).mono ?_); rintro e w' ⟨rfl, hS⟩))
    | (go_at_call 23; ((with_reducible refine (sg _).mono ?_); rintro e w' ⟨rfl, rfl⟩))
    | (go_at_call 11; ((with_reducible refine (p1 _ (by assumption)).mono ?_); rintro e w' ⟨z, rfl, hz, hS⟩))
    | (go_at_call 11; ((with_reducible refine (p2 _ (by assumption)).mono ?_); rintro e w' ⟨z, rfl, hz, hS⟩))
    | (go_at_call 11; ((with_reducible refine (pt _ (by assumption)).mono ?_); rintro e w' ⟨rfl, hS⟩))
    | (go_at_call 10; ((with_reducible refine (smt _).mono ?_); rintro e w' ⟨rfl, rfl⟩))
    | (go_at_call 10; ((with_reducible refine (same_part a b _ _ (by assumption) (by assumption) _).mono ?_); rintro e w' ⟨rfl, rfl⟩)))
  all_goals first
    | (exact absurd (cat_list dl) (by assumption))
    | (go_ret; exact ⟨rfl, by assumption⟩)
set_option maxHeartbeats 1000000 in
theorem whole_out (n a b : Int) (h : ¬ (0 ≤ n ∧ n ≤ 1000 ∧ 1 ≤ a ∧ 1 ≤ b ∧ a ≤ 1000 ∧ b ≤ 1000)) (w : World) (S : Std w w) :
    Calls Tryd.prog 8 #[.int .i64 n, .int .i64 a, .int .i64 b] w fun e w' => e = .returned (.bool true) ∧ Std w w' := by
  have H := Lib.hid h
  clear h
  by_cases h1 : n < 0
  · go_enter Tryd.func8, Tryd.ntmps8
    go_wp2_with (go_at_call 9; ((with_reducible refine (fixed_at w _ (by assumption)).mono ?_); rintro e w' ⟨rfl, hS⟩))
    go_ret
    exact ⟨rfl, by assumption⟩
  by_cases h2 : 1000 < n
  · go_enter Tryd.func8, Tryd.ntmps8
    go_wp2_with (go_at_call 9; ((with_reducible refine (fixed_at w _ (by assumption)).mono ?_); rintro e w' ⟨rfl, hS⟩))
    go_ret
    exact ⟨rfl, by assumption⟩
  by_cases h3 : a < 1
  · go_enter Tryd.func8, Tryd.ntmps8
    go_wp2_with (go_at_call 9; ((with_reducible refine (fixed_at w _ (by assumption)).mono ?_); rintro e w' ⟨rfl, hS⟩))
    go_ret
    exact ⟨rfl, by assumption⟩
  by_cases h4 : b < 1
  · go_enter Tryd.func8, Tryd.ntmps8
    go_wp2_with (go_at_call 9; ((with_reducible refine (fixed_at w _ (by assumption)).mono ?_); rintro e w' ⟨rfl, hS⟩))
    go_ret
    exact ⟨rfl, by assumption⟩
  by_cases h5 : 1000 < a
  · go_enter Tryd.func8, Tryd.ntmps8
    go_wp2_with (go_at_call 9; ((with_reducible refine (fixed_at w _ (by assumption)).mono ?_); rintro e w' ⟨rfl, hS⟩))
    go_ret
    exact ⟨rfl, by assumption⟩
  have h6 : 1000 < b := by have := H.out; omega
  go_enter Tryd.func8, Tryd.ntmps8
  go_wp2_with (go_at_call 9; ((with_reducible refine (fixed_at w _ (by assumption)).mono ?_); rintro e w' ⟨rfl, hS⟩))
  go_ret
  exact ⟨rfl, by assumption⟩
theorem whole_any (n a b : Int) (w : World) (S : Std w w) :
    Calls Tryd.prog 8 #[.int .i64 n, .int .i64 a, .int .i64 b] w fun e w' => e = .returned (.bool true) ∧ Std w w' := by
  by_cases h : 0 ≤ n ∧ n ≤ 1000 ∧ 1 ≤ a ∧ 1 ≤ b ∧ a ≤ 1000 ∧ b ≤ 1000
  · obtain ⟨n, rfl⟩ := Int.eq_ofNat_of_zero_le h.1
    obtain ⟨a, rfl⟩ := Int.eq_ofNat_of_zero_le (show 0 ≤ a by omega)
    obtain ⟨b, rfl⟩ := Int.eq_ofNat_of_zero_le (show 0 ≤ b by omega)
    exact whole_in n a b (by omega) (by omega) (by omega) (by omega) (by omega) w S
  · exact whole_out n a b h w S
end Go.Proofs.YtdjkilgcgkhcdaaDoor
