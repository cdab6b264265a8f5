/-
  The calls whose answers the document fixes are answered so.
-/
import Derived.Test.YtckdkoakgnojbaaOp
namespace Go.Proofs.Ytckdkoakgnojbaa
open Go.RowKit Ma Go.Lib
theorem _root_.Go.RowKit.Below.next {w0 w w' : World} (h : Below w0.heap.size w0 w) (hb : Below w.heap.size w w') : Below w0.heap.size w0 w' := h.trans (hb.mono h.size)
theorem sum_nine : sumN [49, 50, 51, 52, 53, 54, 55, 56, 57] = 3421780262 := by kernel_rfl
theorem sum_none : sumN [] = 0 := by kernel_rfl
theorem add_one : addN 1 1 = 0 := by kernel_rfl
theorem sealed_at (s : ByteArray) (hs : s.size ≤ 281474976710652) (w : World) :
    Calls Try.prog 8 #[.string (sealB s)] w fun e w' => e = .returned (.tuple #[.string s, .bool true]) ∧ Below w.heap.size w w' :=
  (open_any (sealB s) w (by rw [seal_size]; omega)).mono fun _ _ h => ⟨by rw [h.1, open_seal, opens_seal], h.2⟩
theorem fixed_any (w : World) : Calls Try.prog 10 #[] w fun e w' => e = .returned (.bool true) ∧ Below w.heap.size w w' := by
  have f1 := fun w => seal_any ⟨#[97, 98]⟩ w (by decide)
  have f2 := fun w => sealed_at ⟨#[97, 98]⟩ (by decide) w
  generalize sealB ⟨#[97, 98]⟩ = u at f1 f2
  have f3 : ∀ w, Calls Try.prog 8 #[.string ⟨#[97, 98, 99]⟩] w fun e w' => e = .returned (.tuple #[.string ⟨#[]⟩, .bool false]) ∧ Below w.heap.size w w' := fun w =>
    (open_any ⟨#[97, 98, 99]⟩ w (by decide)).mono fun _ _ h => ⟨h.1.trans rfl, h.2⟩
  have f4 : ∀ w, Calls Try.prog 11 #[.string ⟨#[49, 50, 51, 52, 53, 54, 55, 56, 57]⟩] w fun e w' => e = .returned (.int .u32 3421780262) ∧ w' = w := fun w =>
    (sum_any ⟨#[49, 50, 51, 52, 53, 54, 55, 56, 57]⟩ w (by decide)).mono fun _ _ h => ⟨h.1.trans (ret_int (by rw [show (ByteArray.mk #[49, 50, 51, 52, 53, 54, 55, 56, 57]).data.toList = [49, 50, 51, 52, 53, 54, 55, 56, 57] from rfl, sum_nine]; rfl)), h.2⟩
  have f5 : ∀ w, Calls Try.prog 11 #[.string ⟨#[]⟩] w fun e w' => e = .returned (.int .u32 0) ∧ w' = w := fun w =>
    (sum_any ⟨#[]⟩ w (by decide)).mono fun _ _ h => ⟨h.1.trans (ret_int (by rw [show (ByteArray.mk #[]).data.toList = [] from rfl, sum_none]; rfl)), h.2⟩
  have f6 : ∀ w, Calls Try.prog 13 #[.int .u32 1, .int .u8 1] w fun e w' => e = .returned (.int .u32 0) ∧ w' = w := fun w =>
    (add_any 1 1 (by decide) (by decide) w).mono fun _ _ h => ⟨h.1.trans (ret_int (by rw [add_one]; rfl)), h.2⟩
  go_enter Try.func10, Try.ntmps10
  go_wp2_with (first
    | (go_at_call 15; ((with_reducible refine (f1 _).mono ?_); rintro e w' ⟨rfl, hB1⟩))
    | (go_at_call 8; ((with_reducible refine (f2 _).mono ?_); rintro e w' ⟨rfl, hB2⟩))
    | (go_at_call 8; ((with_reducible refine (f3 _).mono ?_); rintro e w' ⟨rfl, hB3⟩))
    | (go_at_call 11; ((with_reducible refine (f4 _).mono ?_); rintro e w' ⟨rfl, rfl⟩))
    | (go_at_call 11; ((with_reducible refine (f5 _).mono ?_); rintro e w' ⟨rfl, rfl⟩))
    | (go_at_call 13; ((with_reducible refine (f6 _).mono ?_); rintro e w' ⟨rfl, rfl⟩)))
  go_ret
  exact ⟨rfl, (hB1.next hB2).next hB3⟩
/- The contracts, told from the world that the law began in. -/
theorem fixed_at (w0 w : World) (h : Below w0.heap.size w0 w) : Calls Try.prog 10 #[] w fun e w' => e = .returned (.bool true) ∧ Below w0.heap.size w0 w' :=
  (fixed_any w).mono fun _ _ ⟨he, hb⟩ => ⟨he, h.next hb⟩
theorem seal_at (s : ByteArray) (hs : s.size ≤ 281474976710656) (w0 w : World) (h : Below w0.heap.size w0 w) : Calls Try.prog 15 #[.string s] w fun e w' => e = .returned (.string (sealB s)) ∧ Below w0.heap.size w0 w' :=
  (seal_any s w hs).mono fun _ _ ⟨he, hb⟩ => ⟨he, h.next hb⟩
theorem rseal_at (s : ByteArray) (hs : s.size ≤ 281474976710656) (w0 w : World) (h : Below w0.heap.size w0 w) : Calls Try.prog 16 #[.string s] w fun e w' => e = .returned (.string (sealB s)) ∧ Below w0.heap.size w0 w' :=
  (seal_doc s w hs).mono fun _ _ ⟨he, hb⟩ => ⟨he, h.next hb⟩
theorem open_at (s : ByteArray) (hs : s.size ≤ 281474976710656) (w0 w : World) (h : Below w0.heap.size w0 w) : Calls Try.prog 8 #[.string s] w fun e w' => e = .returned (.tuple #[.string (openB s), .bool (opens s)]) ∧ Below w0.heap.size w0 w' :=
  (open_any s w hs).mono fun _ _ ⟨he, hb⟩ => ⟨he, h.next hb⟩
theorem ropen_at (s : ByteArray) (hs : s.size ≤ 281474976710656) (w0 w : World) (h : Below w0.heap.size w0 w) : Calls Try.prog 9 #[.string s] w fun e w' => e = .returned (.tuple #[.string (openB s), .bool (opens s)]) ∧ Below w0.heap.size w0 w' :=
  (open_doc s w hs).mono fun _ _ ⟨he, hb⟩ => ⟨he, h.next hb⟩
theorem sealed_from (s : ByteArray) (hs : s.size ≤ 281474976710652) (w0 w : World) (h : Below w0.heap.size w0 w) : Calls Try.prog 8 #[.string (sealB s)] w fun e w' => e = .returned (.tuple #[.string s, .bool true]) ∧ Below w0.heap.size w0 w' :=
  (sealed_at s hs w).mono fun _ _ ⟨he, hb⟩ => ⟨he, h.next hb⟩
end Go.Proofs.Ytckdkoakgnojbaa
