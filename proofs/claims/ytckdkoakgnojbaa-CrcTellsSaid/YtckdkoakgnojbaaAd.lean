/-
  crc.Add and the document's Add, of any sum and byte: both answer a byte more (Ma.addN).
-/
import Derived.Test.YtckdkoakgnojbaaMa
import Derived.WalkKit
import Derived.WalkSpells
import Derived.WalkLawsBesides
import Derived.Laws.BitsAll
import Derived.Lib.Hide
namespace Go.Proofs.Ytckdkoakgnojbaa
open Go.RowKit Ma
theorem ret_int {k : IntKind} {a b : Int} (h : a = b) : Ending.returned (.int k a) = .returned (.int k b) := by rw [h]
theorem hvs_succ (n c : Nat) : hvs (n + 1) c = hv (hvs n c) := by
  induction n generalizing c with
  | zero => rfl
  | succ n ih => exact ih (hv c)
theorem code_round (x : Nat) (hx : x < 4294967296) : bits .xor .u32 ((x : Int) / 2) (bits .and .u32 3988292384 (-bits .and .u32 (x : Int) 1 % 4294967296)) = ((hv x : Nat) : Int) := by
  have e1 : bits .and .u32 (x : Int) 1 = ((x % 2 : Nat) : Int) := by
    rw [show (1 : Int) = ((1 : Nat) : Int) from rfl, u32_and_nat x 1 hx (by decide), Nat.and_one_is_mod]
  rw [e1]
  have e0 : ((x : Int) / 2) = ((x / 2 : Nat) : Int) := by omega
  rw [e0]
  unfold hv
  split
  · rename_i h
    have e2 : (-((x % 2 : Nat) : Int) % 4294967296) = ((4294967295 : Nat) : Int) := by omega
    have e3 : bits .and .u32 3988292384 ((4294967295 : Nat) : Int) = ((3988292384 : Nat) : Int) := by decide
    rw [e2, e3, u32_xor_nat _ _ (by omega) (by decide)]
  · rename_i h
    have e2 : (-((x % 2 : Nat) : Int) % 4294967296) = ((0 : Nat) : Int) := by omega
    have e3 : bits .and .u32 3988292384 ((0 : Nat) : Int) = ((0 : Nat) : Int) := by decide
    rw [e2, e3, u32_xor_nat _ _ (by omega) (by decide), Nat.xor_zero]
theorem doc_odd (x : Nat) (hx : x < 4294967296) (h : x % 2 = 1) : bits .xor .u32 ((x : Int) / 2) 3988292384 = ((hv x : Nat) : Int) := by
  have e0 : ((x : Int) / 2) = ((x / 2 : Nat) : Int) := by omega
  rw [e0, show (3988292384 : Int) = ((3988292384 : Nat) : Int) from rfl, u32_xor_nat _ _ (by omega) (by decide)]
  unfold hv
  rw [if_pos h]
theorem first_xor (c b : Nat) (hc : c < 2 ^ 32) (hb : b < 256) : bits .xor .u32 (c : Int) (b : Int) = ((c ^^^ b : Nat) : Int) :=
  u32_xor_nat c b (by omega) (by omega)
set_option maxHeartbeats 400000 in
theorem add_any (c b : Nat) (hc : c < 2 ^ 32) (hb : b < 256) (w : World) :
    Calls Try.prog 13 #[.int .u32 c, .int .u8 b] w fun e w' => e = .returned (.int .u32 (addN c b)) ∧ w' = w := by
  have hcb : c ^^^ b < 2 ^ 32 := Nat.xor_lt_two_pow hc (by omega)
  go_enter Try.func13, Try.ntmps13
  go_wp2
  go_loop [0, 5, 10] (fun x _ i => ∃ k : Nat, k ≤ 8 ∧ i = .int .i64 k ∧ x = .int .u32 (hvs k (c ^^^ b))) (fun _ _ i => 8 - (intOf i).toNat)
  case atStart => exact ⟨0, by omega, rfl, by rw [first_xor c b hc hb]; rfl⟩
  case round =>
    obtain ⟨k, hk, rfl, rfl⟩ := hrel
    have hx := code_round (hvs k (c ^^^ b)) (hvs_lt k hcb)
    by_cases hlt : k < 8
    · go_wp2
      exact ⟨⟨k + 1, by omega, by go_num, by rw [hvs_succ]⟩, by simp [intOf]; omega⟩
    · obtain rfl : k = 8 := by omega
      go_wp2
      go_ret
      exact ⟨rfl, rfl⟩
set_option maxHeartbeats 400000 in
theorem add_doc (c b : Nat) (hc : c < 2 ^ 32) (hb : b < 256) (w : World) :
    Calls Try.prog 14 #[.int .u32 c, .int .u8 b] w fun e w' => e = .returned (.int .u32 (addN c b)) ∧ w' = w := by
  have hcb : c ^^^ b < 2 ^ 32 := Nat.xor_lt_two_pow hc (by omega)
  go_enter Try.func14, Try.ntmps14
  go_wp2
  go_loop [0, 5] (fun x i => ∃ k : Nat, k ≤ 8 ∧ i = .int .i64 k ∧ x = .int .u32 (hvs k (c ^^^ b))) (fun _ i => 8 - (intOf i).toNat)
  case atStart => exact ⟨0, by omega, rfl, by rw [first_xor c b hc hb]; rfl⟩
  case round =>
    obtain ⟨k, hk, rfl, rfl⟩ := hrel
    by_cases hlt : k < 8
    · have hx := hvs_lt k hcb
      have hs := hvs_succ k (c ^^^ b)
      generalize hvs k (c ^^^ b) = x at hx hs
      by_cases hodd : x % 2 = 1
      · have ho := doc_odd x (by omega) hodd
        go_wp2
        exact ⟨⟨k + 1, by omega, by go_num, by rw [hs]⟩, by simp [intOf]; omega⟩
      · have he : hv x = x / 2 := by unfold hv; rw [if_neg hodd]
        go_wp2
        exact ⟨⟨k + 1, by omega, by go_num, by rw [hs, he]; go_num⟩, by simp [intOf]; omega⟩
    · obtain rfl : k = 8 := by omega
      go_wp2
      go_ret
      exact ⟨rfl, rfl⟩
end Go.Proofs.Ytckdkoakgnojbaa
