/-
  Package huff's Cost and Kraft.
-/
import Derived.Test.YtengkkbiceennaaHufCo
import Derived.Test.YtengkkbiceennaaHufSp
namespace Go.Proofs.Ytengkkbiceennaa
open Go.RowKit Go.Lib
theorem sm_range {g : Nat → Nat} (i : Nat) : Hf.sm g (List.range (i + 1)) = Hf.sm g (List.range i) + g i := by
  rw [List.range_succ, Hf.sm_append]; simp [Hf.sm]
theorem sm_up {g : Nat → Nat} {i n : Nat} (h : i ≤ n) : Hf.sm g (List.range i) ≤ Hf.sm g (List.range n) := by
  induction h with
  | refl => exact Nat.le_refl _
  | step _ ih => rw [sm_range]; omega
theorem drawn_below {b : Nat} {w w' : World} (h : Below b w w') (q : Nat) : Below b w (w'.drewN q) := ⟨h.os, h.tape, h.output, h.size, h.block⟩
set_option maxHeartbeats 1000000 in
theorem cost_at (f l : List Nat) (p q : Option Addr) (c d : Nat) (w : World) (hl : f.length = l.length) (hn : f.length ≤ 300) (hf : ∀ i, f.getD i 0 ≤ 100000) (hl15 : ∀ i, l.getD i 0 ≤ 15) (If : IntsLie w p (nums f) c) (Il : IntsLie w q (nums l) d) :
    Calls Try.prog 15 #[.slice p f.length c, .slice q f.length d] w fun e w' => e = .returned (.int .i64 (Hf.costN f l : Nat)) ∧ Below w.heap.size w w' := by
  have HF := Lib.hid If
  have HL := Lib.hid Il
  have HS := Lib.hid (show ∀ i, i ≤ f.length → Hf.sm (fun i => f.getD i 0 * l.getD i 0) (List.range i) ≤ 450000000 from fun i hi => Nat.le_trans (sm_up hi) (Hf.cost_le hn hf hl15))
  have Hf0 := Lib.hid hf
  have Hl0 := Lib.hid hl15
  have hc1 : (f.length : Int) ≤ c := by have := If.len; rw [nums_len] at this; omega
  have hc2 : (f.length : Int) ≤ d := by have := Il.len; rw [nums_len] at this; omega
  have Hl := Lib.hid hl
  have zn : (f.length : Int) ≤ 300 := by omega
  clear If Il hf hl15 hl hn
  go_enter Try.func15, Try.ntmps15
  go_wp2
  go_loopw [5, 12] (fun s v wr => ∃ i k : Nat, i ≤ f.length ∧ v = .int .i64 i ∧ s = .int .i64 k ∧ Hid (k = Hf.sm (fun i => f.getD i 0 * l.getD i 0) (List.range i)) ∧ Hid (Below w.heap.size w wr)) (fun _ v _ => f.length - (RowKit.intOf v).toNat)
  case atStart => exact ⟨0, 0, Nat.zero_le _, rfl, rfl, by show _ = _; rfl, Below.refl _ _⟩
  case round =>
    obtain ⟨i, k, hi, rfl, rfl, HK, HB⟩ := hrel
    by_cases hlt : i < f.length
    · have hle := HS.out (i + 1) hlt
      rw [sm_range, ← HK.out] at hle
      have hx := Hf0.out i
      have hy := Hl0.out i
      have HK2 : Hid (k + f.getD i 0 * l.getD i 0 = Hf.sm (fun i => f.getD i 0 * l.getD i 0) (List.range (i + 1))) := by show _ = _; rw [sm_range, ← HK.out]
      obtain ⟨b1, o1, rfl, h1⟩ := (HF.out.below HB.out).at (i := i) (by rw [nums_len]; exact hlt)
      obtain ⟨b2, o2, rfl, h2⟩ := (HL.out.below HB.out).at (i := i) (by rw [nums_len, ← Hl.out]; exact hlt)
      have c1 := h1 i (by rw [nums_len]; exact hlt)
      have c2 := h2 i (by rw [nums_len, ← Hl.out]; exact hlt)
      rw [nums_get] at c1 c2
      generalize f.getD i 0 = x at *
      generalize l.getD i 0 = y at *
      obtain ⟨z, hz⟩ : ∃ z, z = x * y := ⟨_, rfl⟩
      rw [← hz] at hle HK2
      have ez : (x : Int) * (y : Int) = (z : Int) := by rw [hz]; simp
      have ii : (i : Int) < f.length := by omega
      have zk : (k : Int) + z ≤ 450000000 := by omega
      clear h1 h2 hz hle hx hy
      go_wp2
      go_quiet (fail)
      go_wp2
      go_roundw
      case rel => exact ⟨i + 1, k + z, by omega, by go_num, by go_num, HK2, drawn_below HB.out _⟩
      case measure => simp [RowKit.intOf]; omega
    · have e : i = f.length := by omega
      subst e
      go_wp2
      go_ret
      exact ⟨ret_int (by rw [HK.out]; rfl), HB.out⟩
/-- what a length counts -/
def part (x : Nat) : Nat := if 1 ≤ x then 2 ^ (15 - x) else 0
theorem part_le (x : Nat) : part x ≤ 16384 := by
  unfold part
  split
  · exact Nat.le_trans (Nat.pow_le_pow_right (by decide) (by omega : 15 - x ≤ 14)) (by decide)
  · omega
set_option maxHeartbeats 1000000 in
theorem kraft_at (l : List Nat) (p : Option Addr) (c : Nat) (w : World) (hn : l.length ≤ 300) (hl15 : ∀ i, l.getD i 0 ≤ 15) (Il : IntsLie w p (nums l) c) :
    Calls Try.prog 12 #[.slice p l.length c] w fun e w' => e = .returned (.int .i64 (Hf.kraftN l : Nat)) ∧ w' = w := by
  have HL := Lib.hid Il
  have HS := Lib.hid (show ∀ i, i ≤ l.length → Hf.sm (fun i => part (l.getD i 0)) (List.range i) ≤ 4915200 from fun i hi => Nat.le_trans (sm_up hi) (Hf.kraft_le hn))
  have Hl0 := Lib.hid hl15
  have hc1 : (l.length : Int) ≤ c := by have := Il.len; rw [nums_len] at this; omega
  have zn : (l.length : Int) ≤ 300 := by omega
  have lc := fun n => long_at n w
  clear Il hl15 hn
  go_enter Try.func12, Try.ntmps12
  go_wp2
  go_loop [3, 8] (fun s v => ∃ i k : Nat, i ≤ l.length ∧ v = .int .i64 i ∧ s = .int .i64 k ∧ Hid (k = Hf.sm (fun i => part (l.getD i 0)) (List.range i))) (fun _ v => l.length - (RowKit.intOf v).toNat)
  case atStart => exact ⟨0, 0, Nat.zero_le _, rfl, rfl, by show _ = _; rfl⟩
  case round =>
    obtain ⟨i, k, hi, rfl, rfl, HK⟩ := hrel
    by_cases hlt : i < l.length
    · have hle := HS.out (i + 1) hlt
      rw [sm_range, ← HK.out] at hle
      have hx := Hl0.out i
      have HK2 : Hid (k + part (l.getD i 0) = Hf.sm (fun i => part (l.getD i 0)) (List.range (i + 1))) := by show _ = _; rw [sm_range, ← HK.out]
      obtain ⟨b1, o1, rfl, h1⟩ := HL.out.at (i := i) (by rw [nums_len]; exact hlt)
      have c1 := h1 i (by rw [nums_len]; exact hlt)
      rw [nums_get] at c1
      generalize l.getD i 0 = x at *
      have ii : (i : Int) < l.length := by omega
      clear h1
      by_cases h0 : x = 0
      · subst h0
        have HK3 : Hid (k = Hf.sm (fun i => part (l.getD i 0)) (List.range (i + 1))) := by show _ = _; rw [← HK2.out]; rfl
        clear hle hx HK2
        go_wp2
        go_round
        case rel => exact ⟨i + 1, k, by omega, by go_num, rfl, HK3⟩
        case measure => simp [RowKit.intOf]; omega
      · obtain ⟨z, hz⟩ : ∃ z, z = part x := ⟨_, rfl⟩
        rw [← hz] at hle HK2
        obtain ⟨y, hy⟩ : ∃ y, y = 15 - x := ⟨_, rfl⟩
        have ez : wrap64 (2 ^ y) = (z : Int) := by
          rw [hz]; unfold part; rw [if_pos (by omega), ← hy]
          have h2 : (2 : Nat) ^ y ≤ 16384 := Nat.le_trans (Nat.pow_le_pow_right (by decide) (by omega : y ≤ 14)) (by decide)
          have h3 : ((2 : Int) ^ y) = ((2 ^ y : Nat) : Int) := by simp
          rw [h3]
          generalize (2 : Nat) ^ y = m at h2
          unfold wrap64; omega
        have e15 : 15 - (x : Int) = (y : Int) := by omega
        have z1 : (1 : Int) ≤ x := by omega
        have z15 : (x : Int) ≤ 15 := by omega
        have zk : (k : Int) + z ≤ 4915200 := by omega
        have lx : Calls Try.prog 21 #[.int .i64 x] w fun e w' => e = .returned (.bool false) ∧ w' = w := by
          have := lc x
          rw [decide_eq_false (by omega)] at this
          exact this
        clear hz hy hle hx h0 lc
        go_wp2_with fail
        refine lx.mono ?_
        rintro e w' ⟨rfl, rfl⟩
        go_wp2
        go_round
        case rel => exact ⟨i + 1, k + z, by omega, by go_num, by go_num, HK2⟩
        case measure => simp [RowKit.intOf]; omega
    · have e : i = l.length := by omega
      subst e
      go_wp2
      go_ret
      exact ⟨ret_int (by rw [HK.out]; rfl), rfl⟩
end Go.Proofs.Ytengkkbiceennaa
