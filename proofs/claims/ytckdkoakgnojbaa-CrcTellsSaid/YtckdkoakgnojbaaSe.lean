/-
  crc.Seal and the document's Seal, of any text: both answer the text with its sum's four bytes behind (sealB).
-/
import Derived.Test.YtckdkoakgnojbaaSu
import Derived.Laws.BytesArg
import Derived.Lib.Strings
import Derived.Deep.QuietTactic
import Derived.BigQuiet
import Derived.Deep.RegionWith
namespace Go.Proofs.Ytckdkoakgnojbaa
open Go.RowKit Ma Go.Lib
/-- a number's four bytes, the lowest one first -/
def le4 (c : Nat) : List UInt8 := [UInt8.ofNat (c % 256), UInt8.ofNat (c / 256 % 256), UInt8.ofNat (c / 65536 % 256), UInt8.ofNat (c / 16777216 % 256)]
def sealB (s : ByteArray) : ByteArray := s ++ ⟨(le4 (sumN s.data.toList)).toArray⟩
theorem seal_list (s : ByteArray) : (sealB s).data.toList = s.data.toList ++ le4 (sumN s.data.toList) := by
  simp [sealB, ByteArray.data_append]
theorem seal_size (s : ByteArray) : (sealB s).size = s.size + 4 := by
  rw [Lib.size_eq, seal_list, List.length_append, ← Lib.size_eq]; rfl
theorem conv_row (w : World) (xs : List Int) :
    (convert 33 9 (.slice (some ⟨w.heap.size, 0, none⟩) xs.length xs.length)).run Try.prog (w.alloc (.cells (xs.map (Value.int .u8)).toArray 5)) =
      .ok (.string (strOfNums xs)) (w.alloc (.cells (xs.map (Value.int .u8)).toArray 5)) :=
  run_convert_bytes_arg _ 33 5 Try.underlying33 Try.underlying5 w.heap.size 0 xs.length xs.length xs rfl (fun i hi => by
    rw [Nat.zero_add, World.cell?_alloc_new]
    simp [List.getD, List.getElem?_eq_getElem hi]) 9 Try.underlying9
theorem conv4 (w : World) (a b c d : Int) :
    (convert 33 9 (.slice (some ⟨w.heap.size, 0, none⟩) 4 4)).run Try.prog (w.alloc (.cells #[.int .u8 a, .int .u8 b, .int .u8 c, .int .u8 d] 5)) =
      .ok (.string (strOfNums [a, b, c, d])) (w.alloc (.cells #[.int .u8 a, .int .u8 b, .int .u8 c, .int .u8 d] 5)) := conv_row w [a, b, c, d]
theorem nums_le4 (c : Nat) : strOfNums [(c : Int) % 256, (c : Int) / 256 % 256, (c : Int) / 65536 % 256, (c : Int) / 16777216 % 256] = ⟨(le4 c).toArray⟩ := by
  unfold strOfNums le4
  simp only [List.map_cons, List.map_nil]
  rw [show ((c : Int) % 256).toNat = c % 256 by omega, show ((c : Int) / 256 % 256).toNat = c / 256 % 256 by omega, show ((c : Int) / 65536 % 256).toNat = c / 65536 % 256 by omega, show ((c : Int) / 16777216 % 256).toNat = c / 16777216 % 256 by omega]
theorem conv_le4 (w : World) (c : Nat) :
    (convert 33 9 (.slice (some ⟨w.heap.size, 0, none⟩) 4 4)).run Try.prog (w.alloc (.cells #[.int .u8 ((c : Int) % 256), .int .u8 ((c : Int) / 256 % 256), .int .u8 ((c : Int) / 65536 % 256), .int .u8 ((c : Int) / 16777216 % 256)] 5)) =
      .ok (.string ⟨(le4 c).toArray⟩) (w.alloc (.cells #[.int .u8 ((c : Int) % 256), .int .u8 ((c : Int) / 256 % 256), .int .u8 ((c : Int) / 65536 % 256), .int .u8 ((c : Int) / 16777216 % 256)] 5)) := by
  rw [conv4, nums_le4]
set_option maxHeartbeats 1000000 in
theorem seal_any (s : ByteArray) (w : World) (hs : s.size ≤ 281474976710656) :
    Calls Try.prog 15 #[.string s] w fun e w' => e = .returned (.string (sealB s)) ∧ Below w.heap.size w w' := by
  have H0 := sum_any s w hs
  have HC := Lib.hid (sumN_lt s.data.toList)
  have HE : Hid (sealB s = s ++ ⟨(le4 (sumN s.data.toList)).toArray⟩) := by show _ = _; rfl
  generalize sumN s.data.toList = c at *
  have c4 := fun w => conv_le4 w c
  have hz : (ByteArray.mk (le4 c).toArray).size = 4 := rfl
  generalize (ByteArray.mk (le4 c).toArray) = q at *
  go_enter Try.func15, Try.ntmps15
  go_wp2_with (go_at_call 11; ((with_reducible refine H0.mono ?_); rintro e w' ⟨rfl, rfl⟩))
  go_ret
  exact ⟨by rw [HE.out]; rfl, (Below.refl _ _).alloc (Nat.le_refl _) _⟩
set_option maxHeartbeats 1000000 in
theorem seal_doc (s : ByteArray) (w : World) (hs : s.size ≤ 281474976710656) :
    Calls Try.prog 16 #[.string s] w fun e w' => e = .returned (.string (sealB s)) ∧ Below w.heap.size w w' := by
  have H0 := sum_doc s w hs
  have HC := sumN_lt s.data.toList
  have HE : Hid (sealB s = s ++ ⟨(le4 (sumN s.data.toList)).toArray⟩) := by show _ = _; rfl
  generalize sumN s.data.toList = c at *
  have hq : (c : Int) / 16777216 % 256 = (c : Int) / 16777216 := by omega
  have c4 := fun w => conv_le4 w c
  rw [hq] at c4
  have hz : (ByteArray.mk (le4 c).toArray).size = 4 := rfl
  generalize (ByteArray.mk (le4 c).toArray) = q at *
  go_enter Try.func16, Try.ntmps16
  go_wp2_with (go_at_call 12; ((with_reducible refine H0.mono ?_); rintro e w' ⟨rfl, rfl⟩))
  go_ret
  exact ⟨by rw [HE.out]; rfl, (Below.refl _ _).alloc (Nat.le_refl _) _⟩
end Go.Proofs.Ytckdkoakgnojbaa
