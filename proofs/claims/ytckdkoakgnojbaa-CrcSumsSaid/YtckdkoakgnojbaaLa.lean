/-
  The walks of CrcSums and CrcBack: both return true for every input.
-/
import Derived.Test.YtckdkoakgnojbaaFi
namespace Go.Proofs.Ytckdkoakgnojbaa
open Go.RowKit Ma Go.Lib
set_option maxHeartbeats 1000000 in
theorem sums_walk (s : ByteArray) (c b : Nat) (hc : c < 2 ^ 32) (hb : b < 256) (hs : s.size ≤ 281474976710652) (w0 w : World) (h : Below w0.heap.size w0 w) :
    Calls Try.prog 3 #[.string s, .int .u32 c, .int .u8 b] w fun e w' => e = .returned (.bool true) ∧ Below w0.heap.size w0 w' := by
  have k1 := fun w h => open_at s (by omega) w0 w h
  have k2 := fun w h => ropen_at s (by omega) w0 w h
  have k3 := fun w h => fixed_at w0 w h
  have k4 := fun w => sum_any s w (by omega)
  have k5 := fun w => sum_doc s w (by omega)
  have k6 := fun w => add_any c b hc hb w
  have k7 := fun w => add_doc c b hc hb w
  have k8 := fun w h => seal_at s (by omega) w0 w h
  have k9 := fun w h => rseal_at s (by omega) w0 w h
  clear hs hc hb
  generalize sumN s.data.toList = x at *
  generalize addN c b = y at *
  generalize openB s = u at *
  generalize sealB s = v at *
  generalize opens s = p at *
  go_enter Try.func3, Try.ntmps3
  go_wp2_with (first
    | (go_at_call 8; ((with_reducible refine (k1 _ (by assumption)).mono ?_); rintro e w' ⟨rfl, hB⟩))
    | (go_at_call 9; ((with_reducible refine (k2 _ (by assumption)).mono ?_); rintro e w' ⟨rfl, hB⟩))
    | (go_at_call 10; ((with_reducible refine (k3 _ (by assumption)).mono ?_); rintro e w' ⟨rfl, hB⟩))
    | (go_at_call 11; ((with_reducible refine (k4 _).mono ?_); rintro e w' ⟨rfl, rfl⟩))
    | (go_at_call 12; ((with_reducible refine (k5 _).mono ?_); rintro e w' ⟨rfl, rfl⟩))
    | (go_at_call 13; ((with_reducible refine (k6 _).mono ?_); rintro e w' ⟨rfl, rfl⟩))
    | (go_at_call 14; ((with_reducible refine (k7 _).mono ?_); rintro e w' ⟨rfl, rfl⟩))
    | (go_at_call 15; ((with_reducible refine (k8 _ (by assumption)).mono ?_); rintro e w' ⟨rfl, hB⟩))
    | (go_at_call 16; ((with_reducible refine (k9 _ (by assumption)).mono ?_); rintro e w' ⟨rfl, hB⟩)))
  go_ret
  exact ⟨rfl, by assumption⟩
set_option maxHeartbeats 1000000 in
theorem back_walk (s : ByteArray) (hs : s.size ≤ 281474976710000) (w0 w : World) (h : Below w0.heap.size w0 w) :
    Calls Try.prog 6 #[.string s] w fun e w' => e = .returned (.bool true) ∧ Below w0.heap.size w0 w' := by
  have k1 := fun w h => open_at s (by omega) w0 w h
  have k2 := fun w h => sealed_from s (by omega) w0 w h
  have k3 := fun w h => fixed_at w0 w h
  have k8 := fun w h => seal_at s (by omega) w0 w h
  have hz := seal_size s
  cases hp : opens s with
  | true =>
    have hu := seal_open s hp
    have hl : (openB s).size ≤ s.size := by rw [← hu, seal_size, hu]; omega
    have k9 := fun w h => seal_at (openB s) (by omega) w0 w h
    rw [hu] at k9
    rw [hp] at k1
    clear hu hl hp
    generalize openB s = u at *
    generalize sealB s = v at *
    go_enter Try.func6, Try.ntmps6
    go_wp2_with (first
      | (go_at_call 8; ((with_reducible refine (k1 _ (by assumption)).mono ?_); rintro e w' ⟨rfl, hB⟩))
      | (go_at_call 8; ((with_reducible refine (k2 _ (by assumption)).mono ?_); rintro e w' ⟨rfl, hB⟩))
      | (go_at_call 10; ((with_reducible refine (k3 _ (by assumption)).mono ?_); rintro e w' ⟨rfl, hB⟩))
      | (go_at_call 15; ((with_reducible refine (k8 _ (by assumption)).mono ?_); rintro e w' ⟨rfl, hB⟩))
      | (go_at_call 15; ((with_reducible refine (k9 _ (by assumption)).mono ?_); rintro e w' ⟨rfl, hB⟩)))
    go_ret
    exact ⟨rfl, by assumption⟩
  | false =>
    rw [hp] at k1
    clear hp
    generalize openB s = u at *
    generalize sealB s = v at *
    go_enter Try.func6, Try.ntmps6
    go_wp2_with (first
      | (go_at_call 8; ((with_reducible refine (k1 _ (by assumption)).mono ?_); rintro e w' ⟨rfl, hB⟩))
      | (go_at_call 8; ((with_reducible refine (k2 _ (by assumption)).mono ?_); rintro e w' ⟨rfl, hB⟩))
      | (go_at_call 10; ((with_reducible refine (k3 _ (by assumption)).mono ?_); rintro e w' ⟨rfl, hB⟩))
      | (go_at_call 15; ((with_reducible refine (k8 _ (by assumption)).mono ?_); rintro e w' ⟨rfl, hB⟩)))
    go_ret
    exact ⟨rfl, by assumption⟩
end Go.Proofs.Ytckdkoakgnojbaa
