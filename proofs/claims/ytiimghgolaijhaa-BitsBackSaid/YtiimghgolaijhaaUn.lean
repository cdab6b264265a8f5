/-
  Contract of Unpack: a row of the call's own with the bits of all bytes. The text at most 10000 bytes long.
-/
import Derived.Test.YtiimghgolaijhaaPu
namespace Go.Proofs.Ytiimghgolaijhaa
open Go.RowKit Mb Go.Lib
set_option maxHeartbeats 1000000 in
theorem unpack_any (s : ByteArray) (hs : s.size ≤ 10000) (w : World) :
    Calls Try.prog 10 #[.string s] w fun e w' => ∃ g c, e = .returned (.slice (some ⟨g, 0, Option.none⟩) (unpackL s.data.toList).length c) ∧ RowB w.heap.size w w' g c (unpackL s.data.toList) := by
  have hmk := fun w => make_bools (s.size * 8) (by omega) w
  rw [show ((s.size * 8 : Nat) : Int) = (s.size : Int) * 8 by omega] at hmk
  have HR : Hid (RowB w.heap.size w (w.alloc (.cells (madeCells #[.bool false] (s.size * 8)) 4)) w.heap.size (s.size * 8) []) := RowB.made w _ (by unfold maxLen; omega)
  have zs : (s.size : Int) ≤ 10000 := by omega
  go_enter Try.func10, Try.ntmps10
  go_wp2
  go_loopw [3, 4, 11] (fun v _ i wr => ∃ (k g c : Nat), k ≤ s.size ∧ i = .int .i64 k ∧ v = .slice (some ⟨g, 0, Option.none⟩) (unpackL (s.data.toList.take k)).length c ∧ Hid (RowB w.heap.size w wr g c (unpackL (s.data.toList.take k)))) (fun _ _ i _ => s.size - (RowKit.intOf i).toNat)
  case atStart => exact ⟨0, _, _, Nat.zero_le _, rfl, rfl, HR⟩
  case round =>
    clear HR
    obtain ⟨k, g, c, hk, rfl, rfl, HS⟩ := hrel
    by_cases hlt : k < s.size
    · have HT : Hid (unpackL (s.data.toList.take (k + 1)) = unpackL (s.data.toList.take k) ++ dig (s[k]).toNat 8) := by
        show _ = _
        rw [take_snoc s k hlt, unpackL_snoc]
      have hlen : (unpackL (s.data.toList.take k)).length = 8 * k := by
        rw [unpackL_length, List.length_take]
        have := Lib.size_eq s
        omega
      have hb := (s[k]).toNat_lt
      have hk8 := append_any w.heap.size w (unpackL (s.data.toList.take k)) (s[k]).toNat 8 g c (by decide) (by omega) (by omega) wr HS.out
      rw [← HT.out, hlen, show ((8 : Nat) : Int) = 8 from rfl] at hk8
      have HL := Lib.hid hlen
      clear HS
      go_wp2_with (go_at_call 15; ((with_reducible refine hk8.mono ?_); rintro e w' ⟨g2, c2, rfl, HN⟩))
      replace HN := Lib.hid HN
      go_roundw
      case rel => exact ⟨k + 1, g2, c2, by omega, by go_num, by rw [HT.out, List.length_append, dig_length, HL.out], HN⟩
      case measure => simp [RowKit.intOf]; omega
    · have e : s.data.toList.take k = s.data.toList := List.take_of_length_le (by have := Lib.size_eq s; omega)
      rw [e] at HS ⊢
      go_wp2
      go_ret
      exact ⟨g, c, rfl, HS.out⟩
end Go.Proofs.Ytiimghgolaijhaa
