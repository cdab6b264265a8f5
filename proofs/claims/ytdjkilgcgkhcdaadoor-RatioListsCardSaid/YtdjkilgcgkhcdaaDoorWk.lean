/-
  Contracts of math.IsNaN, IsInf, Signbit and of ratio.kind, Less, Same, for all words.
-/
import Derived.Test.YtdjkilgcgkhcdaaDoorRows
import Derived.Test.YtdjkilgcgkhcdaaDoorFl
import Derived.WalkKit
import Derived.WalkSpells
import Derived.WalkLawsBesides
import Derived.Laws.Externs
import Derived.Lib.Hide
namespace Go.Proofs.YtdjkilgcgkhcdaaDoor
open Go.RowKit Go.Fl
theorem ret_int {k : IntKind} {a b : Int} (h : a = b) : Ending.returned (.int k a) = .returned (.int k b) := by rw [h]
@[go_sem] theorem unary_neg_float (k : FloatKind) (b : Nat) : Op.unary .neg (.float k b) = pure (.float k (Op.negFloat k b)) := rfl
@[go_sem] theorem run_bits (a : Nat) (w : World) : (callFunc 42 #[.float .f64 a]).run Tryd.prog w = .ok (.value (.int .u64 a)) w := by
  rw [run_callFunc_extern (e := Extern.MathFloatBits.float64bits) Tryd.func42 (by kernel_rfl) (by kernel_rfl) (by kernel_rfl) (by kernel_rfl)]
  rfl
@[go_sem] theorem run_frombits (a : Int) (w : World) : (callFunc 40 #[.int .u64 a]).run Tryd.prog w = .ok (.value (.float .f64 a.toNat)) w := by
  rw [run_callFunc_extern (e := Extern.MathFloatBits.float64frombits) Tryd.func40 (by kernel_rfl) (by kernel_rfl) (by kernel_rfl) (by kernel_rfl)]
  rfl
set_option maxHeartbeats 400000 in
theorem isnan_any (a : Nat) (w : World) :
    Calls Tryd.prog 34 #[.float .f64 a] w fun e w' => e = .returned (.bool (FloatKind.f64.format.order a a != some .eq)) ∧ w = w' := by
  go_enter Tryd.func34, Tryd.ntmps34
  go_wp2
  go_ret
  exact ⟨rfl, rfl⟩
set_option maxHeartbeats 400000 in
theorem isinf_hi (a : Nat) (w : World) :
    Calls Tryd.prog 35 #[.float .f64 a, .int .i64 1] w fun e w' => e = .returned (.bool (FloatKind.f64.format.order a 9218868437227405311 == some .gt)) ∧ w = w' := by
  go_enter Tryd.func35, Tryd.ntmps35
  go_wp2
  go_ret
  exact ⟨rfl, rfl⟩
set_option maxHeartbeats 400000 in
theorem isinf_lo (a : Nat) (w : World) :
    Calls Tryd.prog 35 #[.float .f64 a, .int .i64 (-1)] w fun e w' => e = .returned (.bool (FloatKind.f64.format.order (Op.negFloat .f64 a) 9218868437227405311 == some .gt)) ∧ w = w' := by
  go_enter Tryd.func35, Tryd.ntmps35
  go_wp2
  go_ret
  exact ⟨rfl, rfl⟩
set_option maxHeartbeats 400000 in
theorem signbit_any (a : Nat) (w : World) :
    Calls Tryd.prog 36 #[.float .f64 a] w fun e w' => e = .returned (.bool (decide (wrap64 (a : Int) < 0))) ∧ w = w' := by
  go_enter Tryd.func36, Tryd.ntmps36
  go_wp2
  go_ret
  exact ⟨rfl, rfl⟩
set_option maxHeartbeats 400000 in
theorem kind_any (a : Nat) (w : World) :
    Calls Tryd.prog 24 #[.float .f64 a] w fun e w' => e = .returned (.int .i64 (kindOf a)) ∧ w = w' := by
  go_enter Tryd.func24, Tryd.ntmps24
  go_wp2_with (first
    | (go_at_call 34; ((with_reducible refine (isnan_any _ _).mono ?_); rintro e w' ⟨rfl, rfl⟩))
    | (go_at_call 35; ((with_reducible refine (isinf_lo _ _).mono ?_); rintro e w' ⟨rfl, rfl⟩))
    | (go_at_call 35; ((with_reducible refine (isinf_hi _ _).mono ?_); rintro e w' ⟨rfl, rfl⟩))
    | (go_at_call 36; ((with_reducible refine (signbit_any _ _).mono ?_); rintro e w' ⟨rfl, rfl⟩)))
  all_goals (go_ret; refine ⟨ret_int ?_, rfl⟩; unfold kindOf; (repeat' split) <;> first | rfl | (simp_all; done) | omega)
/-- The program's 'Less'. -/
theorem less_any (a b : Nat) (w : World) (ha : a < 2 ^ 64) (hb : b < 2 ^ 64) :
    Calls Tryd.prog 16 #[.float .f64 a, .float .f64 b] w fun e w' => e = .returned (.bool (lessB a b)) ∧ w = w' := by
  have hl := Lib.hid (less_key a b ha hb)
  clear ha hb
  go_enter Tryd.func16, Tryd.ntmps16
  by_cases hk : kindOf a = kindOf b
  · have hk1 : (kindOf a != kindOf b) = false := by simp [hk]
    have hk2 : lessB a b = (FloatKind.f64.format.order a b == some .lt) := by rw [hl.out, if_neg (by omega)]
    clear hl
    rw [hk2]
    clear hk hk2
    go_wp2_with (go_at_call 24; refine (kind_any _ _).mono ?_; rintro e w' ⟨rfl, rfl⟩)
    go_ret
    exact ⟨rfl, rfl⟩
  · have hk1 : (kindOf a != kindOf b) = true := by simp [hk]
    have hk2 : lessB a b = decide (kindOf a < kindOf b) := by rw [hl.out, if_pos (by omega)]
    clear hl
    rw [hk2]
    clear hk hk2
    go_wp2_with (go_at_call 24; refine (kind_any _ _).mono ?_; rintro e w' ⟨rfl, rfl⟩)
    go_ret
    exact ⟨rfl, rfl⟩
theorem same_any (a b : Nat) (w : World) (ha : a < 2 ^ 64) (hb : b < 2 ^ 64) :
    Calls Tryd.prog 10 #[.float .f64 a, .float .f64 b] w fun e w' => e = .returned (.bool (!lessB a b && !lessB b a)) ∧ w = w' := by
  go_enter Tryd.func10, Tryd.ntmps10
  cases h1 : lessB a b <;> cases h2 : lessB b a
  all_goals
    go_wp2_with (go_at_call 16; first | ((with_reducible refine (less_any a b _ ha hb).mono ?_); rintro e w' ⟨rfl, rfl⟩) | ((with_reducible refine (less_any b a _ hb ha).mono ?_); rintro e w' ⟨rfl, rfl⟩))
    go_ret
    exact ⟨rfl, rfl⟩
end Go.Proofs.YtdjkilgcgkhcdaaDoor
