/-
  Contracts of what only reads: widthFits, the document's Power, number, the document's Same.
-/
import Derived.Test.YtbkehlppngejnaaGe
import Derived.Test.YtbkehlppngejnaaBitMb
namespace Go.Proofs.Ytbkehlppngejnaa
open Go.RowKit Mb Go.Lib
/-- bools that lie from a place on -/
structure BoolsAt (w : World) (blk off : Nat) (l : List Bool) : Prop where
  cell : ∀ i, i < l.length → w.cell? ⟨blk, off + i, none⟩ = some (.bool (l.getD i false))
theorem width_any (n : Int) (w : World) : Calls Try.prog 28 #[.int .i64 n] w fun e w' => e = .returned (.bool (decide (0 ≤ n) && decide (n ≤ 30))) ∧ w' = w := by
  by_cases h1 : 0 ≤ n <;> by_cases h2 : n ≤ 30
  all_goals
    go_enter Try.func28, Try.ntmps28
    go_wp2
    go_ret
    exact ⟨by simp [h1, h2], rfl⟩
theorem take_getD (l : List Bool) (k : Nat) (h : k < l.length) : l.take (k + 1) = l.take k ++ [l.getD k false] := by
  rw [List.take_succ_eq_append_getElem h]; simp [h]
theorem number_any (l : List Bool) (hl : l.length ≤ 30) (blk off cap : Nat) (w : World) (hc : BoolsAt w blk off l) :
    Calls Try.prog 30 #[.slice (some ⟨blk, off, none⟩) l.length cap] w fun e w' => e = .returned (.int .i64 (num l : Int)) ∧ w' = w := by
  have HC := Lib.hid hc
  clear hc
  go_enter Try.func30, Try.ntmps30
  go_wp2
  go_loop [3, 5, 8] (fun x _ i => ∃ k : Nat, k ≤ l.length ∧ i = .int .i64 k ∧ x = .int .i64 (num (l.take k) : Int)) (fun _ _ i => l.length - (RowKit.intOf i).toNat)
  case atStart => exact ⟨0, Nat.zero_le _, rfl, rfl⟩
  case round =>
    obtain ⟨k, hk, rfl, rfl⟩ := hrel
    by_cases hlt : k < l.length
    · have c := HC.out.cell k hlt
      have HB : Hid (num (l.take k) < 1073741824) := by
        show _ < _
        have h := num_lt (l.take k)
        have h2 : 2 ^ (l.take k).length ≤ 2 ^ 30 := Nat.pow_le_pow_right (by decide) (by rw [List.length_take]; omega)
        omega
      have HS : Hid (num (l.take (k + 1)) = 2 * num (l.take k) + (l.getD k false).toNat) := by
        show _ = _
        rw [take_getD l k hlt, num_snoc]
      generalize num (l.take k) = x at HB HS ⊢
      have hb := HB.out
      cases hx : l.getD k false
      all_goals
        rw [hx] at c HS
        go_wp2
        go_round
        case rel => exact ⟨k + 1, by omega, by go_num, by rw [HS.out]; go_num⟩
        case measure => simp [RowKit.intOf]; omega
    · have e : l.take k = l := List.take_of_length_le (by omega)
      rw [e]
      go_wp2
      go_ret
      exact ⟨rfl, rfl⟩
end Go.Proofs.Ytbkehlppngejnaa

