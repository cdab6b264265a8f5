/-
  crc.Sum and the document's Sum, of any text: both answer the sum (sumN) of its bytes.
-/
import Derived.Test.YtckdkoakgnojbaaAd
namespace Go.Proofs.Ytckdkoakgnojbaa
open Go.RowKit Ma Go.Lib
def nums (s : List UInt8) : List Nat := s.map UInt8.toNat
def stN (s : List UInt8) : Nat := Ma.runN 4294967295 (nums s)
def sumN (s : List UInt8) : Nat := 4294967295 - stN s
theorem nums_lt (s : List UInt8) : ∀ b ∈ nums s, b < 256 := by
  intro b hb
  obtain ⟨x, _, rfl⟩ := List.mem_map.1 hb
  exact x.toNat_lt
theorem stN_lt (s : List UInt8) : stN s < 2 ^ 32 := Ma.runN_lt _ (nums_lt s) (by decide)
theorem sumN_lt (s : List UInt8) : sumN s < 2 ^ 32 := by unfold sumN; omega
theorem stN_snoc (s : List UInt8) (b : UInt8) : stN (s ++ [b]) = addN (stN s) b.toNat := by
  unfold stN nums
  rw [List.map_append, Ma.runN_append]; rfl
theorem take_snoc (s : ByteArray) (k : Nat) (h : k < s.size) : s.data.toList.take (k + 1) = s.data.toList.take k ++ [s[k]] := by
  rw [List.take_succ_eq_append_getElem (by simpa using h)]; rfl
theorem turn_all (x : Nat) (hx : x < 2 ^ 32) : bits .xor .u32 IntKind.u32.max (x : Int) = ((4294967295 - x : Nat) : Int) := by
  rw [show (IntKind.u32.max : Int) = ((4294967295 : Nat) : Int) from by decide, u32_xor_nat _ _ (by decide) (by omega)]
  congr 1
  have h := congrArg BitVec.toNat (BitVec.xor_allOnes (x := BitVec.ofNat 32 x))
  rw [BitVec.toNat_xor, BitVec.toNat_not, BitVec.toNat_ofNat, BitVec.toNat_allOnes, Nat.mod_eq_of_lt hx] at h
  rw [Nat.xor_comm]
  exact h
set_option maxHeartbeats 1000000 in
theorem sum_any (s : ByteArray) (w : World) (hs : s.size ≤ 281474976710656) :
    Calls Try.prog 11 #[.string s] w fun e w' => e = .returned (.int .u32 (sumN s.data.toList)) ∧ w' = w := by
  go_enter Try.func11, Try.ntmps11
  go_wp2
  go_loop [3, 4, 7] (fun c _ i => ∃ k : Nat, k ≤ s.size ∧ i = .int .i64 k ∧ c = .int .u32 (stN (s.data.toList.take k))) (fun _ _ i => s.size - (intOf i).toNat)
  case atStart => exact ⟨0, Nat.zero_le _, rfl, rfl⟩
  case round =>
    obtain ⟨k, hk, rfl, rfl⟩ := hrel
    by_cases hlt : k < s.size
    · have HC := Lib.hid (stN_lt (s.data.toList.take k))
      have HS : Hid (stN (s.data.toList.take (k + 1)) = addN (stN (s.data.toList.take k)) s[k].toNat) := by
        show _ = _
        rw [take_snoc s k hlt, stN_snoc]
      have HB := Lib.hid s[k].toNat_lt
      generalize stN (s.data.toList.take k) = c at HC HS ⊢
      go_wp2_with (go_at_call 13; ((with_reducible refine (add_any c s[k].toNat HC.out HB.out _).mono ?_); rintro e w' ⟨rfl, rfl⟩))
      go_round
      case rel => exact ⟨k + 1, by omega, by go_num, by rw [HS.out]⟩
      case measure => simp [intOf]; omega
    · have HL := Lib.hid (stN_lt s.data.toList)
      have e : s.data.toList.take k = s.data.toList := List.take_of_length_le (by simp; omega)
      rw [e]
      have ht := turn_all (stN s.data.toList) HL.out
      go_wp2
      go_ret
      exact ⟨rfl, rfl⟩
set_option maxHeartbeats 1000000 in
theorem sum_doc (s : ByteArray) (w : World) (hs : s.size ≤ 281474976710656) :
    Calls Try.prog 12 #[.string s] w fun e w' => e = .returned (.int .u32 (sumN s.data.toList)) ∧ w' = w := by
  go_enter Try.func12, Try.ntmps12
  go_wp2
  go_loop [3, 4] (fun c i => ∃ k : Nat, k ≤ s.size ∧ i = .int .i64 k ∧ c = .int .u32 (stN (s.data.toList.take k))) (fun _ i => s.size - (intOf i).toNat)
  case atStart => exact ⟨0, Nat.zero_le _, rfl, rfl⟩
  case round =>
    obtain ⟨k, hk, rfl, rfl⟩ := hrel
    by_cases hlt : k < s.size
    · have HC := Lib.hid (stN_lt (s.data.toList.take k))
      have HS : Hid (stN (s.data.toList.take (k + 1)) = addN (stN (s.data.toList.take k)) s[k].toNat) := by
        show _ = _
        rw [take_snoc s k hlt, stN_snoc]
      have HB := Lib.hid s[k].toNat_lt
      generalize stN (s.data.toList.take k) = c at HC HS ⊢
      go_wp2_with (go_at_call 14; ((with_reducible refine (add_doc c s[k].toNat HC.out HB.out _).mono ?_); rintro e w' ⟨rfl, rfl⟩))
      go_round
      case rel => exact ⟨k + 1, by omega, by go_num, by rw [HS.out]⟩
      case measure => simp [intOf]; omega
    · have HL := stN_lt s.data.toList
      have e : s.data.toList.take k = s.data.toList := List.take_of_length_le (by simp; omega)
      rw [e]
      have hu : ((4294967295 - stN s.data.toList : Nat) : Int) = 4294967295 - (stN s.data.toList : Int) := by omega
      generalize hx : stN s.data.toList = x at *
      go_wp2
      go_ret
      exact ⟨ret_int (by unfold sumN; rw [hx]; omega), rfl⟩
end Go.Proofs.Ytckdkoakgnojbaa
