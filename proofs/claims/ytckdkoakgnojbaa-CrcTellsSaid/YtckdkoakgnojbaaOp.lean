/-
  strings.Clone, crc.Open and the document's Open, of any text: both open just what is sealed (openB).
-/
import Derived.Test.YtckdkoakgnojbaaSe
import Derived.Test.YtckdkoakgnojbaaShelf
namespace Go.Proofs.Ytckdkoakgnojbaa
open Go.RowKit Ma Go.Lib
/-- a text but for its last four bytes -/
def cutB (s : ByteArray) : ByteArray := s.extract 0 (s.size - 4)
def opens (s : ByteArray) : Bool := decide (4 ≤ s.size) && decide (sealB (cutB s) = s)
def openB (s : ByteArray) : ByteArray := if opens s then cutB s else ⟨#[]⟩
theorem cut_list (s : ByteArray) : (cutB s).data.toList = s.data.toList.take (s.size - 4) := by
  unfold cutB
  rw [Lib.extract_data, List.drop_zero, Nat.sub_zero]
theorem cut_size (s : ByteArray) : (cutB s).size = s.size - 4 := by
  rw [Lib.size_eq, cut_list, List.length_take, ← Lib.size_eq]; omega
theorem cut_seal (s : ByteArray) : cutB (sealB s) = s := by
  apply ByteArray.ext
  apply Array.ext'
  rw [cut_list, seal_size, seal_list, Nat.add_sub_cancel, Lib.size_eq, List.take_left]
theorem opens_seal (s : ByteArray) : opens (sealB s) = true := by
  unfold opens
  rw [cut_seal, seal_size]; simp
theorem open_seal (s : ByteArray) : openB (sealB s) = s := by
  unfold openB
  rw [if_pos (opens_seal s), cut_seal]
theorem seal_open (s : ByteArray) (h : opens s = true) : sealB (openB s) = s := by
  unfold openB
  rw [if_pos h]
  unfold opens at h
  simp at h
  exact h.2
theorem same_list (a b : ByteArray) : (a.toList == b.toList) = decide (a = b) := by
  rw [Bool.eq_iff_iff, beq_iff_eq, decide_eq_true_eq]
  constructor
  · intro h
    rw [Lib.toList_data, Lib.toList_data] at h
    exact ByteArray.ext (Array.ext' h)
  · rintro rfl; rfl
theorem clone_any (s : ByteArray) (w : World) (hs : s.size ≤ 281474976710656) :
    Calls Try.prog 18 #[.string s] w fun e w' => e = .returned (.string s) ∧ Below w.heap.size w w' := by
  go_enter Try.func18, Try.ntmps18
  go_wp2_with (go_at_call 19; ((with_reducible refine (Try.stringslite_Clone s _ hs).mono ?_); rintro e w' ⟨rfl, hB⟩))
  go_ret
  exact ⟨rfl, hB⟩
set_option maxHeartbeats 1000000 in
theorem open_any (s : ByteArray) (w : World) (hs : s.size ≤ 281474976710656) :
    Calls Try.prog 8 #[.string s] w fun e w' => e = .returned (.tuple #[.string (openB s), .bool (opens s)]) ∧ Below w.heap.size w w' := by
  by_cases h4 : s.size < 4
  · have e1 : opens s = false := by unfold opens; simp; omega
    have e2 : openB s = ⟨#[]⟩ := by unfold openB; rw [e1]; rfl
    rw [e1, e2]
    go_enter Try.func8, Try.ntmps8
    go_wp2
    go_ret2
    exact ⟨rfl, Below.refl _ _⟩
  · have hct := cut_size s
    have hc := fun w => seal_any (cutB s) w (by omega)
    have hl := fun w => clone_any (cutB s) w (by omega)
    have hq := same_list (sealB (cutB s)) s
    have hx : s.extract 0 (s.size - 4) = cutB s := rfl
    by_cases he : sealB (cutB s) = s
    · have e1 : opens s = true := by unfold opens; simp [he]; omega
      have e2 : openB s = cutB s := by unfold openB; rw [e1]; rfl
      rw [e1, e2]
      rw [decide_eq_true he] at hq
      clear he e1 e2
      generalize sealB (cutB s) = u at *
      generalize cutB s = t at *
      go_enter Try.func8, Try.ntmps8
      go_wp2_with (first | (go_at_call 15; ((with_reducible refine (hc _).mono ?_); rintro e w' ⟨rfl, hB⟩)) | (go_at_call 18; ((with_reducible refine (hl _).mono ?_); rintro e w' ⟨rfl, hB2⟩)))
      go_ret2
      exact ⟨rfl, hB.trans (hB2.mono hB.size)⟩
    · have e1 : opens s = false := by unfold opens; simp [he]
      have e2 : openB s = ⟨#[]⟩ := by unfold openB; rw [e1]; rfl
      rw [e1, e2]
      rw [decide_eq_false he] at hq
      clear he e1 e2
      generalize sealB (cutB s) = u at *
      generalize cutB s = t at *
      go_enter Try.func8, Try.ntmps8
      go_wp2_with (first | (go_at_call 15; ((with_reducible refine (hc _).mono ?_); rintro e w' ⟨rfl, hB⟩)) | (go_at_call 18; ((with_reducible refine (hl _).mono ?_); rintro e w' ⟨rfl, hB2⟩)))
      go_ret2
      exact ⟨rfl, hB⟩
set_option maxHeartbeats 1000000 in
theorem open_doc (s : ByteArray) (w : World) (hs : s.size ≤ 281474976710656) :
    Calls Try.prog 9 #[.string s] w fun e w' => e = .returned (.tuple #[.string (openB s), .bool (opens s)]) ∧ Below w.heap.size w w' := by
  by_cases h4 : s.size < 4
  · have e1 : opens s = false := by unfold opens; simp; omega
    have e2 : openB s = ⟨#[]⟩ := by unfold openB; rw [e1]; rfl
    rw [e1, e2]
    go_enter Try.func9, Try.ntmps9
    go_wp2
    go_ret2
    exact ⟨rfl, Below.refl _ _⟩
  · have hct := cut_size s
    have hc := fun w => seal_doc (cutB s) w (by omega)
    have hq := same_list (sealB (cutB s)) s
    have hx : s.extract 0 (s.size - 4) = cutB s := rfl
    by_cases he : sealB (cutB s) = s
    · have e1 : opens s = true := by unfold opens; simp [he]; omega
      have e2 : openB s = cutB s := by unfold openB; rw [e1]; rfl
      rw [e1, e2]
      rw [decide_eq_true he] at hq
      clear he e1 e2
      generalize sealB (cutB s) = u at *
      generalize cutB s = t at *
      go_enter Try.func9, Try.ntmps9
      go_wp2_with (go_at_call 16; ((with_reducible refine (hc _).mono ?_); rintro e w' ⟨rfl, hB⟩))
      go_ret2
      exact ⟨rfl, hB⟩
    · have e1 : opens s = false := by unfold opens; simp [he]
      have e2 : openB s = ⟨#[]⟩ := by unfold openB; rw [e1]; rfl
      rw [e1, e2]
      rw [decide_eq_false he] at hq
      clear he e1 e2
      generalize sealB (cutB s) = u at *
      generalize cutB s = t at *
      go_enter Try.func9, Try.ntmps9
      go_wp2_with (go_at_call 16; ((with_reducible refine (hc _).mono ?_); rintro e w' ⟨rfl, hB⟩))
      go_ret2
      exact ⟨rfl, hB⟩
end Go.Proofs.Ytckdkoakgnojbaa
