/-
  The law's own text of 32 equal bytes.
-/
import Derived.Test.YtaamjamcnnalbaaDevNe
namespace Go.Proofs.Ytaamjamcnnalbaa.Dv
set_option maxRecDepth 100000
open Go.RowKit Go.Lib
def sectorB (b : UInt8) : ByteArray := ⟨(List.replicate 32 b).toArray⟩
/-- a row of bytes, the first j of them b -/
structure Bytes32 (w wr : World) (b : UInt8) (j : Nat) : Prop where
  below : Below w.heap.size w wr
  row : ∃ cs, wr.heap[w.heap.size]? = some (.cells cs 5 (0, 0)) ∧ cs.size = 32 ∧ (∀ i, i < j → cs[i]? = some (.int .u8 b.toNat))
set_option maxHeartbeats 4000000 in
theorem sector_doc (b : UInt8) (w : World) : Calls Try.prog 28 #[.int .u8 b.toNat] w fun e w' => e = .returned (.string (sectorB b)) ∧ Below w.heap.size w w' := by
  obtain ⟨i0, hi0, hz0, hz1, hz2⟩ := info_parts infoByte
  have hmk := run_make (P := Try.prog) w 65 5 i0 (.int .u8 0) Try.underlying65 hi0 hz0 .i64 .i64 32 32 (by omega) (by omega) (by rw [hz2]; omega) (by omega)
  rw [hz1] at hmk
  replace hmk : (Instr.makeSlice 65 (.int .i64 32) (.int .i64 32)).run Try.prog w = .ok (.slice (some ⟨w.heap.size, 0, none⟩) 32 32) (w.alloc (.cells (madeCells #[.int .u8 0] 32) 5)) := hmk
  have H0 : Hid (Bytes32 w (w.alloc (.cells (madeCells #[.int .u8 0] 32) 5)) b 0) := Lib.hid ⟨(Below.refl _ _).alloc (Nat.le_refl _) _, ⟨_, heap_alloc_new w _, by simp [madeCells], fun i hi => absurd hi (by omega)⟩⟩
  have hcv : ∀ wr, Bytes32 w wr b 32 → (convert 65 9 (.slice (some ⟨w.heap.size, 0, none⟩) 32 32)).run Try.prog wr = .ok (.string (sectorB b)) wr := fun wr h => by
    obtain ⟨cs, h1, h2, h3⟩ := h.row
    refine run_convert_bytes_back _ 65 9 5 ⟨w.heap.size, 0, none⟩ 32 (List.replicate 32 b) Try.underlying65 Try.underlying5 Try.underlying9 (fun j hj => ?_)
    rw [List.getElem_replicate]
    rw [List.length_replicate] at hj
    rw [Addr.add_lit, Nat.zero_add, cell_of_row _ _ j _ 5 (0, 0) h1]
    exact h3 j hj
  have HC := Lib.hid hcv
  clear hcv hi0 hz0 hz1 hz2
  generalize sectorB b = z at *
  generalize hw1 : w.alloc (.cells (madeCells #[.int .u8 0] 32) 5) = w1 at *
  go_enter Try.func28, Try.ntmps28
  go_wp2
  go_loopw [4] (fun i wr => ∃ (j : Nat), i = .int .i64 j ∧ j ≤ 32 ∧ Hid (Bytes32 w wr b j)) (fun i _ => 32 - (RowKit.intOf i).toNat)
  case atStart => exact ⟨0, rfl, Nat.zero_le _, H0⟩
  case round =>
    clear H0
    obtain ⟨j, rfl, hj, HR⟩ := hrel
    by_cases hlt : j < 32
    · have zj : (j : Int) < 32 := by omega
      obtain ⟨cs, h1, h2, h3⟩ := HR.out.row
      have d0 : ∃ v, wr.cell? ⟨w.heap.size, j, none⟩ = some v := ⟨cs[j], by rw [cell_of_row _ _ j _ 5 (0, 0) h1]; exact Array.getElem?_eq_getElem (by omega)⟩
      obtain ⟨v0, d0⟩ := d0
      have f0 : wr.frozen? ⟨w.heap.size, j, none⟩ = false := frozen_of_row wr w.heap.size j _ 5 h1
      have HN : Hid (Bytes32 w (wr.setCell ⟨w.heap.size, j, none⟩ (.int .u8 b.toNat)) b (j + 1)) := Lib.hid ⟨HR.out.below.setCell (p := ⟨w.heap.size, j, none⟩) (Nat.le_refl _) _,
        ⟨_, heap_setCell_same wr w.heap.size j _ 5 _ h1, by simpa using h2, fun i hi => by
          by_cases e : i = j
          · subst e
            simp [h2, hlt]
          · rw [Array.getElem?_setIfInBounds_ne (by omega)]
            exact h3 i (by omega)⟩⟩
      clear h1 h2 h3
      go_wp2
      go_roundw
      case measure => simp [RowKit.intOf]; omega
      case rel => exact ⟨j + 1, by go_num, by omega, HN⟩
    · have e : j = 32 := by omega
      subst e
      have hv := HC.out wr HR.out
      go_wp2
      go_ret
      exact ⟨rfl, HR.out.below⟩
end Go.Proofs.Ytaamjamcnnalbaa.Dv

