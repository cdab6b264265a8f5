/-
  The law's fixed calls answer true, if the package's functions answer as the structure tells.
-/
import Derived.Test.YtbkehlppngejnaaCanSm
namespace Go.Proofs.Ytbkehlppngejnaa
open Go.RowKit Go.Lib Cn
set_option maxRecDepth 100000
/-- how the package's functions answer -/
def SpecP : Prop := SpecC 9 11 13
theorem fx_new {w w' : World} {O : Obj} (h : Below (w.alloc O).heap.size (w.alloc O) w') : Below w.heap.size w w' := ((Below.refl w.heap.size w).alloc (Nat.le_refl _) O).trans (h.mono (by simp))
theorem may122 : MayC [1, 2, 2] := ⟨by decide, by intro i; match i with | 0 => decide | 1 => decide | 2 => decide | i + 3 => exact Nat.zero_le _, by decide +kernel⟩
theorem lit_codes (w : World) (E : List (Nat × Nat)) (h : E.length ≤ 100) : CodesLie (w.alloc (.cells (cv E).toArray 42)) (some ⟨w.heap.size, 0, none⟩) E E.length := by
  refine ⟨Nat.le_refl _, by unfold maxLen; omega, .inr ⟨_, _, rfl, fun i hi => ?_⟩⟩
  obtain ⟨h1, h2⟩ := cv_at E i hi
  constructor
  · rw [Nat.zero_add, cell_of_row _ _ (i * 2) _ 42 (0, 0) (heap_alloc_new w _)]
    simpa using h1
  · rw [Nat.zero_add, cell_of_row _ _ (i * 2 + 1) _ 42 (0, 0) (heap_alloc_new w _)]
    simpa using h2
theorem lit_flags (w : World) (b : List Bool) (h : b.length ≤ 100) : FlagsLie (w.alloc (.cells (flv b).toArray 4)) (some ⟨w.heap.size, 0, none⟩) b b.length := by
  refine ⟨Nat.le_refl _, by unfold maxLen; omega, .inr ⟨_, _, rfl, fun i hi => ?_⟩⟩
  rw [Nat.zero_add, cell_of_row _ _ i _ 4 (0, 0) (heap_alloc_new w _)]
  simp [flv, hi]
theorem fx_codes (S : SpecP) (w : World) : Calls Try.prog 9 #[.slice (some ⟨w.heap.size, 0, none⟩) 3 3] (w.alloc (.cells #[.int .i64 1, .int .i64 2, .int .i64 2] 3)) fun e w' => Below w.heap.size w w' ∧ ∃ q d, e = .returned (.tuple #[.slice q 3 d, .bool true]) ∧ CodesLie w' q [(1, 0), (2, 2), (2, 3)] d := by
  have h := S.codes [1, 2, 2] 3 _ 3 _ may122 rfl (lit_lie w (nums [1, 2, 2]) (by decide))
  rw [show codesOf [1, 2, 2] = [(1, 0), (2, 2), (2, 3)] by decide] at h
  exact h.mono fun e w' ⟨h1, h2⟩ => ⟨fx_new h1, h2⟩
theorem fx_no (S : SpecP) (w : World) : Calls Try.prog 9 #[.slice (some ⟨w.heap.size, 0, none⟩) 3 3] (w.alloc (.cells #[.int .i64 1, .int .i64 1, .int .i64 1] 3)) fun e w' => Below w.heap.size w w' ∧ ∃ q d, d ≤ maxLen ∧ e = .returned (.tuple #[.slice q 0 d, .bool false]) := by
  have h := S.codes_no (nums [1, 1, 1]) 3 _ 3 _ (fun l hm e => by
    have := hm.kraft
    rw [← nums_inj e] at this
    exact absurd this (by decide +kernel)) rfl (by decide) (lit_lie w (nums [1, 1, 1]) (by decide))
  exact h.mono fun e w' ⟨h1, h2⟩ => ⟨fx_new h1, h2⟩
theorem fx_write (S : SpecP) (w : World) : Calls Try.prog 11 #[.slice (some ⟨w.heap.size, 0, none⟩) 3 3, .int .i64 2] (w.alloc (.cells #[.int .i64 1, .int .i64 2, .int .i64 2] 3)) fun e w' => Below w.heap.size w w' ∧ ∃ q d, e = .returned (.tuple #[.slice q 2 d, .bool true]) ∧ FlagsLie w' q [true, true] d := by
  have h := S.write [1, 2, 2] 3 2 _ 3 _ may122 rfl (by decide) (lit_lie w (nums [1, 2, 2]) (by decide))
  rw [show code [1, 2, 2] 2 = [true, true] by decide] at h
  exact h.mono fun e w' ⟨h1, h2⟩ => ⟨fx_new h1, h2⟩
theorem fx_read (S : SpecP) (w : World) (q : Option Addr) (d : Nat) (hq : FlagsLie w q [true, true] d) : Calls Try.prog 13 #[.slice (some ⟨w.heap.size, 0, none⟩) 3 3, .slice q 2 d, .int .i64 0] (w.alloc (.cells #[.int .i64 1, .int .i64 2, .int .i64 2] 3)) fun e w' => Below w.heap.size w w' ∧ e = .returned (.tuple #[.int .i64 2, .int .i64 2, .bool true]) := by
  have h := S.read [1, 2, 2] 3 [true, true] 2 0 2 (some ⟨w.heap.size, 0, none⟩) q 3 d _ may122 rfl rfl (by decide) (by decide) (lit_lie w (nums [1, 2, 2]) (by decide)) (hq.below ((Below.refl _ _).alloc (Nat.le_refl _) _))
  exact h.mono fun e w' ⟨h1, h2⟩ => ⟨fx_new h1, h2⟩
theorem fx_same {w : World} {q : Option Addr} {d : Nat} (h : CodesLie w q [(1, 0), (2, 2), (2, 3)] d) : Calls Try.prog 15 #[.slice q 3 d, .slice (some ⟨w.heap.size, 0, none⟩) 3 3] (w.alloc (.cells #[.int .i64 1, .int .i64 0, .int .i64 2, .int .i64 2, .int .i64 2, .int .i64 3] 42)) fun e w' => e = .returned (.bool true) ∧ Below w.heap.size w w' :=
  (codes_same [(1, 0), (2, 2), (2, 3)] [(1, 0), (2, 2), (2, 3)] 3 3 rfl rfl (by decide) (by decide) q (some ⟨w.heap.size, 0, none⟩) d 3 _ (h.below ((Below.refl _ _).alloc (Nat.le_refl _) _)) (lit_codes w [(1, 0), (2, 2), (2, 3)] (by decide))).mono fun e w' ⟨h1, h2⟩ => ⟨by rw [h1]; rfl, fx_new h2⟩
theorem fx_flags {w : World} {q : Option Addr} {d : Nat} (h : FlagsLie w q [true, true] d) : Calls Try.prog 16 #[.slice q 2 d, .slice (some ⟨w.heap.size, 0, none⟩) 2 2] (w.alloc (.cells #[.bool true, .bool true] 4)) fun e w' => e = .returned (.bool true) ∧ Below w.heap.size w w' :=
  (flags_doc [true, true] [true, true] (by decide) (by decide) q (some ⟨w.heap.size, 0, none⟩) d 2 _ (h.below ((Below.refl _ _).alloc (Nat.le_refl _) _)) (lit_flags w [true, true] (by decide))).mono fun e w' ⟨h1, h2⟩ => ⟨by rw [h1]; rfl, fx_new h2⟩
set_option maxHeartbeats 2000000 in
theorem fixed_any (S : SpecP) (w : World) : Calls Try.prog 8 #[] w fun e w' => e = .returned (.bool true) ∧ Below w.heap.size w w' := by
  go_enter Try.func8, Try.ntmps8
  go_wp2_with fail
  go_at_call 9
  refine (fx_codes S _).mono ?_
  rintro e w1 ⟨b1, q1, d1, rfl, h1⟩
  have B1 := Lib.hid b1
  have H1 := Lib.hid h1
  clear b1 h1
  go_wp2_with fail
  go_at_call 11
  refine (fx_write S _).mono ?_
  rintro e w2 ⟨b2, q2, d2, rfl, h2⟩
  have B2 := Lib.hid (B1.out.next b2)
  have H12 := Lib.hid (H1.out.below b2)
  have H2 := Lib.hid h2
  clear b2 h2 B1 H1
  go_wp2_with fail
  go_at_call 13
  refine (fx_read S _ _ _ H2.out).mono ?_
  rintro e w3 ⟨b3, rfl⟩
  have B3 := Lib.hid (B2.out.next b3)
  have H13 := Lib.hid (H12.out.below b3)
  have H23 := Lib.hid (H2.out.below b3)
  clear b3 B2 H12 H2
  go_wp2_with fail
  go_at_call 9
  refine (fx_no S _).mono ?_
  rintro e w4 ⟨b4, q4, d4, _, rfl⟩
  have B4 := Lib.hid (B3.out.next b4)
  have H14 := Lib.hid (H13.out.below b4)
  have H24 := Lib.hid (H23.out.below b4)
  clear b4 B3 H13 H23
  go_wp2_with fail
  go_at_call 15
  refine (fx_same H14.out).mono ?_
  rintro e w5 ⟨rfl, b5⟩
  have B5 := Lib.hid (B4.out.next b5)
  have H25 := Lib.hid (H24.out.below b5)
  clear b5 B4 H14 H24
  go_wp2_with fail
  go_at_call 16
  refine (fx_flags H25.out).mono ?_
  rintro e w6 ⟨rfl, b6⟩
  have B6 := Lib.hid (B5.out.next b6)
  clear b6 B5 H25
  go_wp2
  go_ret
  exact ⟨rfl, B6.out⟩
end Go.Proofs.Ytbkehlppngejnaa
