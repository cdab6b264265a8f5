/-
  Contracts of slices.SortStableFunc at fewer than 20 places and of Ints of two lists that are the same.
-/
import Derived.Test.YtdjkilgcgkhcdaaDoorWk7
namespace Go.Proofs.YtdjkilgcgkhcdaaDoor
open Go.RowKit Go.Fl Go.Sort Go.Lib
set_option maxHeartbeats 400000 in
theorem sorts_small (l : List Nat) [Inhabited (Fin l.length)] (hn : l.length < 20) : Sorts l (Sort.insertionSort (ltOf (cfF l)) (places l.length) 0 l.length) := fun bP cap cb w hC hH hb => by
  have hs := stable_small l hn cap bP cb (places l.length) w (places_size _) hC hH hb
  rw [places_size] at hs
  clear hC hH hb
  have hz : (l.length : Int) ≤ 9223372036854775807 := by omega
  generalize Sort.insertionSort (ltOf (cfF l)) (places l.length) 0 l.length = r at hs ⊢
  go_enter Tryd.func32, Tryd.ntmps32
  go_wp2_with (go_at_call 41; ((with_reducible refine hs.mono ?_); rintro e w' ⟨rfl, hs2⟩))
  go_end0
  exact ⟨rfl, by assumption⟩
set_option maxHeartbeats 800000 in
/-- Two lists that are the same. -/
theorem ints_true (n A oa ca B ob cb : Nat) (x : Nat → Int) (w : World) (hn : n ≤ 9223372036854775807)
    (ha : ∀ i, i < n → w.cell? ⟨A, oa + i, none⟩ = some (.int .i64 (x i))) (hb : ∀ i, i < n → w.cell? ⟨B, ob + i, none⟩ = some (.int .i64 (x i))) :
    Calls Tryd.prog 20 #[.slice (some ⟨A, oa, none⟩) n ca, .slice (some ⟨B, ob, none⟩) n cb] w fun e w' => e = .returned (.bool true) ∧ ∃ q, w' = w.drewN q := by
  have HA := Lib.hid ha
  have HB := Lib.hid hb
  clear ha hb
  go_enter Tryd.func20, Tryd.ntmps20
  go_wp2
  go_loopw [5] (fun v wr => ∃ k : Nat, k ≤ n ∧ v = .int .i64 k ∧ Hid (∃ q, wr = w.drewN q)) (fun v _ => n - (intOf v).toNat)
  case atStart => exact ⟨0, by omega, rfl, 0, rfl⟩
  case round =>
    obtain ⟨k, hk, rfl, HW⟩ := hrel
    by_cases hlt : k < n
    · have c1 : wr.cell? ⟨A, oa + k, none⟩ = some (.int .i64 (x k)) := by obtain ⟨q, hq⟩ := HW.out; rw [hq]; exact HA.out k hlt
      have c2 : wr.cell? ⟨B, ob + k, none⟩ = some (.int .i64 (x k)) := by obtain ⟨q, hq⟩ := HW.out; rw [hq]; exact HB.out k hlt
      generalize x k = y at c1 c2
      have k0 : (0 : Int) ≤ k := by omega
      have k1 : (k : Int) < n := by omega
      go_wp2_with fail
      go_quiet (fail)
      simp only [Exit.then]
      go_wp2
      go_roundw
      case rel => exact ⟨k + 1, by omega, by go_num, by obtain ⟨q, hq⟩ := HW.out; exact ⟨_, by rw [hq]; exact World.drewN_drewN _ _ _⟩⟩
      case measure => simp [intOf]; omega
    · have e : k = n := by omega
      subst e
      go_wp2
      go_ret
      exact ⟨rfl, HW.out⟩
end Go.Proofs.YtdjkilgcgkhcdaaDoor
