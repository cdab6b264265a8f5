/-
  Package huff's Kraft.
-/
import Derived.Test.YtbkehlppngejnaaLstLi
import Derived.Test.YtbkehlppngejnaaHufLw
namespace Go.Proofs.Ytbkehlppngejnaa
open Go.RowKit Go.Lib
theorem long_at (n : Int) (w : World) : Calls Try.prog 32 #[.int .i64 n] w fun e w' => e = .returned (.bool (decide (15 < n))) ∧ w' = w := by
  go_enter Try.func32, Try.ntmps32
  go_wp2
  go_ret
  exact ⟨rfl, rfl⟩
theorem sm_range {g : Nat → Nat} (i : Nat) : Hf.sm g (List.range (i + 1)) = Hf.sm g (List.range i) + g i := by
  rw [List.range_succ, Hf.sm_append]; simp [Hf.sm]
theorem sm_up {g : Nat → Nat} {i n : Nat} (h : i ≤ n) : Hf.sm g (List.range i) ≤ Hf.sm g (List.range n) := by
  induction h with
  | refl => exact Nat.le_refl _
  | step _ ih => rw [sm_range]; omega
/-- what a length counts -/
def part (x : Nat) : Nat := if 1 ≤ x then 2 ^ (15 - x) else 0
theorem part_le (x : Nat) : part x ≤ 16384 := by
  unfold part
  split
  · exact Nat.le_trans (Nat.pow_le_pow_right (by decide) (by omega : 15 - x ≤ 14)) (by decide)
  · omega
set_option maxHeartbeats 1000000 in
theorem kraft_at (l : List Nat) (p : Option Addr) (c : Nat) (w : World) (hn : l.length ≤ 300) (hl15 : ∀ i, l.getD i 0 ≤ 15) (Il : IntsLie w p (nums l) c) :
    Calls Try.prog 27 #[.slice p l.length c] w fun e w' => e = .returned (.int .i64 (Hf.kraftN l : Nat)) ∧ w' = w := by
  have HL := Lib.hid Il
  have HS := Lib.hid (show ∀ i, i ≤ l.length → Hf.sm (fun i => part (l.getD i 0)) (List.range i) ≤ 4915200 from fun i hi => Nat.le_trans (sm_up hi) (Hf.kraft_le hn))
  have Hl0 := Lib.hid hl15
  have hc1 : (l.length : Int) ≤ c := by have := Il.len; rw [nums_len] at this; omega
  have zn : (l.length : Int) ≤ 300 := by omega
  have lc := fun n => long_at n w
  clear Il hl15 hn
  go_enter Try.func27, Try.ntmps27
  go_wp2
  go_loop [3, 8] (fun s v => ∃ i k : Nat, i ≤ l.length ∧ v = .int .i64 i ∧ s = .int .i64 k ∧ Hid (k = Hf.sm (fun i => part (l.getD i 0)) (List.range i))) (fun _ v => l.length - (RowKit.intOf v).toNat)
  case atStart => exact ⟨0, 0, Nat.zero_le _, rfl, rfl, by show _ = _; rfl⟩
  case round =>
    obtain ⟨i, k, hi, rfl, rfl, HK⟩ := hrel
    by_cases hlt : i < l.length
    · have hle := HS.out (i + 1) hlt
      rw [sm_range, ← HK.out] at hle
      have hx := Hl0.out i
      have HK2 : Hid (k + part (l.getD i 0) = Hf.sm (fun i => part (l.getD i 0)) (List.range (i + 1))) := by show _ = _; rw [sm_range, ← HK.out]
      obtain ⟨b1, o1, rfl, h1⟩ := HL.out.at (i := i) (by rw [nums_len]; exact hlt)
      have c1 := h1 i (by rw [nums_len]; exact hlt)
      rw [nums_get] at c1
      generalize l.getD i 0 = x at *
      have ii : (i : Int) < l.length := by omega
      clear h1
      by_cases h0 : x = 0
      · subst h0
        have HK3 : Hid (k = Hf.sm (fun i => part (l.getD i 0)) (List.range (i + 1))) := by show _ = _; rw [← HK2.out]; rfl
        clear hle hx HK2
        go_wp2
        go_round
        case rel => exact ⟨i + 1, k, by omega, by go_num, rfl, HK3⟩
        case measure => simp [RowKit.intOf]; omega
      · obtain ⟨z, hz⟩ : ∃ z, z = part x := ⟨_, rfl⟩
        rw [← hz] at hle HK2
        obtain ⟨y, hy⟩ : ∃ y, y = 15 - x := ⟨_, rfl⟩
        have ez : wrap64 (2 ^ y) = (z : Int) := by
          rw [hz]; unfold part; rw [if_pos (by omega), ← hy]
          have h2 : (2 : Nat) ^ y ≤ 16384 := Nat.le_trans (Nat.pow_le_pow_right (by decide) (by omega : y ≤ 14)) (by decide)
          have h3 : ((2 : Int) ^ y) = ((2 ^ y : Nat) : Int) := by simp
          rw [h3]
          generalize (2 : Nat) ^ y = m at h2
          unfold wrap64; omega
        have e15 : 15 - (x : Int) = (y : Int) := by omega
        have z1 : (1 : Int) ≤ x := by omega
        have z15 : (x : Int) ≤ 15 := by omega
        have zk : (k : Int) + z ≤ 4915200 := by omega
        have lx : Calls Try.prog 32 #[.int .i64 x] w fun e w' => e = .returned (.bool false) ∧ w' = w := by
          have := lc x
          rw [decide_eq_false (by omega)] at this
          exact this
        clear hz hy hle hx h0 lc
        go_wp2_with fail
        refine lx.mono ?_
        rintro e w' ⟨rfl, rfl⟩
        go_wp2
        go_round
        case rel => exact ⟨i + 1, k + z, by omega, by go_num, by go_num, HK2⟩
        case measure => simp [RowKit.intOf]; omega
    · have e : i = l.length := by omega
      subst e
      go_wp2
      go_ret
      exact ⟨ret_int (by rw [HK.out]; rfl), rfl⟩
end Go.Proofs.Ytbkehlppngejnaa
