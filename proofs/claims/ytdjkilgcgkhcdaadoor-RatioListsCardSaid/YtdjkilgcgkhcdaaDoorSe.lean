/-
  RatioSorted returns true for the empty list and for lists of more than 200 floats.
-/
import Derived.Test.YtdjkilgcgkhcdaaDoorSo
import Derived.LoopN
namespace Go.Proofs.YtdjkilgcgkhcdaaDoor
open Go.RowKit Go.Fl Go.Sort Go.Lib
set_option maxHeartbeats 400000 in
theorem ins_empty (bP cap : Nat) (f : Value) (w : World) :
    Calls Tryd.prog 46 #[.slice (some ⟨bP, 0, none⟩) 0 cap, .int .i64 0, .int .i64 0, f] w fun e w' => e = .returned (.tuple #[]) ∧ w = w' := by
  go_enter Tryd.func46, Tryd.ntmps46
  go_wp2
  refine wp_loop_rounds 1 ?_
  rw [rounds_succ]
  go_wp2
  go_end0
  exact ⟨rfl, rfl⟩
set_option maxHeartbeats 400000 in
theorem stable_empty (bP cap : Nat) (f : Value) (w : World) :
    Calls Tryd.prog 41 #[.slice (some ⟨bP, 0, none⟩) 0 cap, .int .i64 0, f] w fun e w' => e = .returned (.tuple #[]) ∧ w = w' := by
  go_enter Tryd.func41, Tryd.ntmps41
  go_wp2
  refine wp_loop_rounds 1 ?_
  rw [rounds_succ]
  go_wp2_with (go_at_call 46; ((with_reducible refine (ins_empty _ _ _ _).mono ?_); rintro e w' ⟨rfl, rfl⟩))
  refine wp_loop_rounds 1 ?_
  rw [rounds_succ]
  go_wp2
  go_end0
  exact ⟨rfl, rfl⟩
set_option maxHeartbeats 400000 in
theorem sortStable_empty (bP cap : Nat) (f : Value) (w : World) :
    Calls Tryd.prog 32 #[.slice (some ⟨bP, 0, none⟩) 0 cap, f] w fun e w' => e = .returned (.tuple #[]) ∧ w = w' := by
  go_enter Tryd.func32, Tryd.ntmps32
  go_wp2_with (go_at_call 41; ((with_reducible refine (stable_empty _ _ _ _).mono ?_); rintro e w' ⟨rfl, rfl⟩))
  go_end0
  exact ⟨rfl, rfl⟩
set_option maxHeartbeats 400000 in
theorem order_empty (a : Option Addr) (cap : Nat) (w : World) :
    Calls Tryd.prog 21 #[.slice a 0 cap] w fun e w' => ∃ b, e = .returned (.slice (some ⟨b, 0, none⟩) 0 0) ∧ Below w.heap.size w w' := by
  have hmk : ∀ w, (Instr.makeSlice 33 (.int .i64 0) (.int .i64 0)).run Tryd.prog w = .ok (.slice (some ⟨w.heap.size, 0, none⟩) 0 0) (w.alloc (.cells (madeCells #[.int .i64 0] 0) 3)) := fun w => make_ints 0 (by omega) w
  go_enter Tryd.func21, Tryd.ntmps21
  go_wp2
  refine wp_loop_rounds 1 ?_
  rw [rounds_succ]
  go_wp2_with (go_at_call 32; ((with_reducible refine (sortStable_empty _ _ _ _).mono ?_); rintro e w' ⟨rfl, rfl⟩))
  go_ret
  exact ⟨_, rfl, ((Below.refl _ _).alloc (Nat.le_refl _) _).alloc (by simp) _⟩
set_option maxHeartbeats 400000 in
theorem greatest_empty (a : Option Addr) (cap : Nat) (w : World) :
    Calls Tryd.prog 18 #[.slice a 0 cap] w fun e w' => e = .returned (.float .f64 nanC) ∧ w = w' := by
  go_enter Tryd.func18, Tryd.ntmps18
  go_wp2_with (go_at_call 31; ((with_reducible refine (nan_any _).mono ?_); rintro e w' ⟨rfl, rfl⟩))
  refine wp_loop_rounds 1 ?_
  rw [rounds_succ]
  go_wp2
  go_ret
  exact ⟨rfl, rfl⟩
set_option maxHeartbeats 1000000 in
set_option maxRecDepth 100000 in
theorem sorted_empty (a : Option Addr) (cap : Nat) (w : World) (S : Std w w) :
    Calls Tryd.prog 6 #[.slice a 0 cap] w fun e w' => e = .returned (.bool true) ∧ Std w w' := by
  have ord : ∀ w1, Std w w1 → Calls Tryd.prog 21 #[.slice a 0 cap] w1 fun e w' => ∃ b, e = .returned (.slice (some ⟨b, 0, none⟩) 0 0) ∧ Std w w' := fun w1 h =>
    (order_empty a cap w1).mono fun _ _ ⟨b, he, hb⟩ => ⟨b, he, h.next hb⟩
  have hn : (FloatKind.f64.format.order nanC nanC != some .eq) = true := by kernel_rfl
  go_enter Tryd.func6, Tryd.ntmps6
  go_wp2_with (first
    | (go_at_call 9; ((with_reducible refine (fixed_at w _ (by assumption)).mono ?_); rintro e w' ⟨rfl, hS⟩))
    | (go_at_call 21; ((with_reducible refine (ord _ (by assumption)).mono ?_); rintro e w' ⟨b, rfl, hS⟩)))
  refine wp_loop_rounds 1 ?_
  rw [rounds_succ]
  go_wp2_with (go_at_call 18; ((with_reducible refine (greatest_empty _ _ _).mono ?_); rintro e w' ⟨rfl, rfl⟩))
  go_ret
  exact ⟨rfl, by assumption⟩
set_option maxHeartbeats 1000000 in
set_option maxRecDepth 100000 in
theorem sorted_long (n : Nat) (hn : 200 < n) (hz : n ≤ 9223372036854775807) (a : Option Addr) (cap : Nat) (w : World) (S : Std w w) :
    Calls Tryd.prog 6 #[.slice a n cap] w fun e w' => e = .returned (.bool true) ∧ Std w w' := by
  have z1 : (200 : Int) < n := by omega
  have z2 : (n : Int) ≤ 9223372036854775807 := by omega
  go_enter Tryd.func6, Tryd.ntmps6
  go_wp2_with (go_at_call 9; ((with_reducible refine (fixed_at w _ (by assumption)).mono ?_); rintro e w' ⟨rfl, hS⟩))
  go_ret
  exact ⟨rfl, by assumption⟩
end Go.Proofs.YtdjkilgcgkhcdaaDoor
