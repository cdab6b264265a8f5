/-
  Contract of Digits of the document's answers.
-/
import Derived.Test.YtdjkilgcgkhcdaaDoorWk9
namespace Go.Proofs.YtdjkilgcgkhcdaaDoor
open Go.RowKit Go.Fl Go.Sort Go.Lib
theorem digit_piece (k : Nat) (h : k < 10) : (ByteArray.mk #[48, 49, 50, 51, 52, 53, 54, 55, 56, 57]).extract k (k + 1) = ByteArray.mk [UInt8.ofNat (48 + k)].toArray := by
  rcases (by omega : k = 0 ∨ k = 1 ∨ k = 2 ∨ k = 3 ∨ k = 4 ∨ k = 5 ∨ k = 6 ∨ k = 7 ∨ k = 8 ∨ k = 9) with rfl | rfl | rfl | rfl | rfl | rfl | rfl | rfl | rfl | rfl <;> decide
theorem dec_step (m : Nat) (h : ¬ m < 10) : Lib.decDigits m = Lib.decDigits (m / 10) ++ [UInt8.ofNat (48 + m % 10)] := by rw [Lib.decDigits, dif_neg h]
set_option maxHeartbeats 800000 in
theorem digits_any (N : Nat) (hN : N < 2 ^ 64) (w : World) :
    Calls Tryd.prog 30 #[.int .u64 N] w fun e w' => e = .returned (.string ⟨(Lib.decDigits N).toArray⟩) ∧ w = w' := by
  have HN := Lib.hid hN
  clear hN
  go_enter Tryd.func30, Tryd.ntmps30
  go_wp2
  go_loop [0, 3] (fun n s => ∃ (m : Nat) (l : List UInt8), n = .int .u64 m ∧ s = .string ⟨l.toArray⟩ ∧ m ≤ N ∧ l.length ≤ 20 ∧ Hid (Lib.decDigits N = Lib.decDigits m ++ l)) (fun n _ => (intOf n).toNat)
  case atStart => exact ⟨N, [], rfl, rfl, by omega, by simp, by show _ = _; simp⟩
  case round =>
    obtain ⟨m, l, rfl, rfl, hm, hl, HD⟩ := hrel
    have hlen : (Lib.decDigits m).length + l.length ≤ 20 := by
      have h1 := congrArg List.length HD.out
      rw [List.length_append, Lib.decDigits_length] at h1
      have := Lib.nDigits_le20 N HN.out
      omega
    have hp := Lib.nDigits_pos m
    rw [Lib.decDigits_length] at hlen
    have hls : (ByteArray.mk l.toArray).size = l.length := by simp [ByteArray.size]
    by_cases hlt : m < 10
    · have P := Lib.hid (digit_piece m hlt)
      go_wp2
      go_ret
      refine ⟨?_, rfl⟩
      rw [HD.out, Lib.decDigits_one hlt]
      show Ending.returned (Value.string ((ByteArray.mk #[48, 49, 50, 51, 52, 53, 54, 55, 56, 57]).extract m (m + 1) ++ ByteArray.mk l.toArray)) = _
      rw [P.out, str_app]
    · have hr : m % 10 < 10 := Nat.mod_lt _ (by omega)
      have P := Lib.hid (digit_piece (m % 10) hr)
      go_wp2
      have hw : IntKind.u64.wrap ((m : Int) / 10) = ((m / 10 : Nat) : Int) := by
        have := HN.out
        rw [IntKind.wrap_u64]; omega
      rw [hw]
      refine ⟨⟨m / 10, UInt8.ofNat (48 + m % 10) :: l, rfl, ?_, by omega, ?_, ?_⟩, ?_⟩
      · rw [P.out, str_app]; rfl
      · have h2 := Lib.nDigits_big hlt
        have h3 := Lib.nDigits_pos (m / 10)
        simp; omega
      · show _ = _
        rw [HD.out, dec_step m hlt, List.append_assoc]; rfl
      · simp [intOf]; omega
end Go.Proofs.YtdjkilgcgkhcdaaDoor
