/-
  The law's fixed calls answer true, if the package answers as Spec tells.
-/
import Derived.Test.YtengkkbiceennaaHufSp
namespace Go.Proofs.Ytengkkbiceennaa
open Go.RowKit Go.Lib
theorem fx_new {w w' : World} {O : Obj} (h : Below (w.alloc O).heap.size (w.alloc O) w') : Below w.heap.size w w' := ((Below.refl w.heap.size w).alloc (Nat.le_refl _) O).trans (h.mono (by simp))
theorem fx_lens1 (S : Spec) (w : World) : Calls Try.prog 10 #[.slice (some ⟨w.heap.size, 0, none⟩) 4 4] (w.alloc (.cells #[.int .i64 3, .int .i64 1, .int .i64 1, .int .i64 0] 3)) fun e w' => ∃ q c, e = .returned (.slice q 4 c) ∧ IntsLie w' q (nums [1, 2, 2, 0]) c ∧ Below w.heap.size w w' := by
  have := S.lens [3, 1, 1, 0] (some ⟨w.heap.size, 0, none⟩) 4 _ (by decide) (by intro i; match i with | 0 => decide | 1 => decide | 2 => decide | 3 => decide | i + 4 => exact Nat.zero_le _) (lit_lie w (nums [3, 1, 1, 0]) (by decide))
  rw [Hf.fx1] at this
  exact this.mono fun e w' ⟨q, c, h1, h2, h3⟩ => ⟨q, c, h1, h2, fx_new h3⟩
theorem fx_lens2 (S : Spec) (w : World) : Calls Try.prog 10 #[.slice (some ⟨w.heap.size, 0, none⟩) 2 2] (w.alloc (.cells #[.int .i64 0, .int .i64 5] 3)) fun e w' => ∃ q c, e = .returned (.slice q 2 c) ∧ IntsLie w' q (nums [0, 1]) c ∧ Below w.heap.size w w' := by
  have := S.lens [0, 5] (some ⟨w.heap.size, 0, none⟩) 2 _ (by decide) (by intro i; match i with | 0 => decide | 1 => decide | i + 2 => exact Nat.zero_le _) (lit_lie w (nums [0, 5]) (by decide))
  rw [Hf.fx2] at this
  exact this.mono fun e w' ⟨q, c, h1, h2, h3⟩ => ⟨q, c, h1, h2, fx_new h3⟩
theorem fx_none (S : Spec) (w : World) : Calls Try.prog 10 #[.slice (some ⟨w.heap.size, 0, none⟩) 1 1] (w.alloc (.cells #[.int .i64 (-1)] 3)) fun e w' => ∃ q c, e = .returned (.slice q 0 c) ∧ Below w.heap.size w w' :=
  (S.none _ 1 _ (lit_lie w [-1] (by decide))).mono fun e w' ⟨q, c, h1, h3⟩ => ⟨q, c, h1, fx_new h3⟩
theorem fx_ints1 {w : World} {q : Option Addr} {c : Nat} (h : IntsLie w q (nums [1, 2, 2, 0]) c) : Calls Try.prog 16 #[.slice q 4 c, .slice (some ⟨w.heap.size, 0, none⟩) 4 4] (w.alloc (.cells #[.int .i64 1, .int .i64 2, .int .i64 2, .int .i64 0] 3)) fun e w' => e = .returned (.bool true) ∧ Below w.heap.size w w' :=
  (ints_doc (nums [1, 2, 2, 0]) (nums [1, 2, 2, 0]) q (some ⟨w.heap.size, 0, none⟩) c 4 _ (h.below ((Below.refl _ _).alloc (Nat.le_refl _) _)) (lit_lie w (nums [1, 2, 2, 0]) (by decide)) (by decide) (by decide)).mono fun e w' ⟨h1, h2⟩ => ⟨by rw [h1]; rfl, fx_new h2⟩
theorem fx_ints2 {w : World} {q : Option Addr} {c : Nat} (h : IntsLie w q (nums [0, 1]) c) : Calls Try.prog 16 #[.slice q 2 c, .slice (some ⟨w.heap.size, 0, none⟩) 2 2] (w.alloc (.cells #[.int .i64 0, .int .i64 1] 3)) fun e w' => e = .returned (.bool true) ∧ Below w.heap.size w w' :=
  (ints_doc (nums [0, 1]) (nums [0, 1]) q (some ⟨w.heap.size, 0, none⟩) c 2 _ (h.below ((Below.refl _ _).alloc (Nat.le_refl _) _)) (lit_lie w (nums [0, 1]) (by decide)) (by decide) (by decide)).mono fun e w' ⟨h1, h2⟩ => ⟨by rw [h1]; rfl, fx_new h2⟩
theorem fx_cost (S : Spec) (w : World) : Calls Try.prog 15 #[.slice (some ⟨w.heap.size, 0, none⟩) 3 3, .slice (some ⟨w.heap.size + 1, 0, none⟩) 3 3] ((w.alloc (.cells #[.int .i64 3, .int .i64 1, .int .i64 1] 3)).alloc (.cells #[.int .i64 1, .int .i64 2, .int .i64 2] 3)) fun e w' => e = .returned (.int .i64 7) ∧ Below w.heap.size w w' := by
  have hs : (w.alloc (.cells #[.int .i64 3, .int .i64 1, .int .i64 1] 3)).heap.size = w.heap.size + 1 := by simp
  have h2 := lit_lie (w.alloc (.cells #[.int .i64 3, .int .i64 1, .int .i64 1] 3)) (nums [1, 2, 2]) (by decide)
  rw [hs] at h2
  have := S.cost [3, 1, 1] [1, 2, 2] (some ⟨w.heap.size, 0, none⟩) (some ⟨w.heap.size + 1, 0, none⟩) 3 3 _ rfl (by decide) (by intro i; match i with | 0 => decide | 1 => decide | 2 => decide | i + 3 => exact Nat.zero_le _) (by intro i; match i with | 0 => decide | 1 => decide | 2 => decide | i + 3 => exact Nat.zero_le _) ((lit_lie w (nums [3, 1, 1]) (by decide)).below ((Below.refl _ _).alloc (Nat.le_refl _) _)) h2
  rw [Hf.fx3] at this
  exact this.mono fun e w' ⟨h1, h3⟩ => ⟨h1, fx_new (fx_new h3)⟩
theorem fx_kraft (S : Spec) (w : World) : Calls Try.prog 12 #[.slice (some ⟨w.heap.size, 0, none⟩) 4 4] (w.alloc (.cells #[.int .i64 1, .int .i64 2, .int .i64 2, .int .i64 0] 3)) fun e w' => e = .returned (.int .i64 32768) ∧ Below w.heap.size w w' := by
  have := S.kraft [1, 2, 2, 0] (some ⟨w.heap.size, 0, none⟩) 4 _ (by decide) (by intro i; match i with | 0 => decide | 1 => decide | 2 => decide | 3 => decide | i + 4 => exact Nat.zero_le _) (lit_lie w (nums [1, 2, 2, 0]) (by decide))
  rw [Hf.fx4] at this
  exact this.mono fun e w' ⟨h1, h3⟩ => ⟨h1, fx_new h3⟩
set_option maxHeartbeats 1000000 in
theorem fixed_any (S : Spec) (w : World) : Calls Try.prog 8 #[] w fun e w' => e = .returned (.bool true) ∧ Below w.heap.size w w' := by
  go_enter Try.func8, Try.ntmps8
  go_wp2_with (first
    | (go_at_call 10; ((with_reducible refine (fx_lens1 S _).mono ?_); rintro e w1 ⟨q1, c1, rfl, I1, H1⟩; replace I1 := Lib.hid I1; replace H1 := Lib.hid H1))
    | (go_at_call 16; ((with_reducible refine (fx_ints1 I1.out).mono ?_); rintro e w2 ⟨rfl, H2⟩; replace H2 := Lib.hid H2))
    | (go_at_call 10; ((with_reducible refine (fx_lens2 S _).mono ?_); rintro e w3 ⟨q3, c3, rfl, I3, H3⟩; replace I3 := Lib.hid I3; replace H3 := Lib.hid H3))
    | (go_at_call 16; ((with_reducible refine (fx_ints2 I3.out).mono ?_); rintro e w4 ⟨rfl, H4⟩; replace H4 := Lib.hid H4))
    | (go_at_call 15; ((with_reducible refine (fx_cost S _).mono ?_); rintro e w5 ⟨rfl, H5⟩; replace H5 := Lib.hid H5))
    | (go_at_call 12; ((with_reducible refine (fx_kraft S _).mono ?_); rintro e w6 ⟨rfl, H6⟩; replace H6 := Lib.hid H6))
    | (go_at_call 10; ((with_reducible refine (fx_none S _).mono ?_); rintro e w7 ⟨q7, c7, rfl, H7⟩; replace H7 := Lib.hid H7)))
  go_ret
  exact ⟨rfl, (((((H1.out.next H2.out).next H3.out).next H4.out).next H5.out).next H6.out).next H7.out⟩
end Go.Proofs.Ytengkkbiceennaa

