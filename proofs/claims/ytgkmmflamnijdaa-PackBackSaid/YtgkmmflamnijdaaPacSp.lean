/-
  What the package's three functions owe; the law's fixed calls from it.
-/
import Derived.Test.YtgkmmflamnijdaaPacRe
import Derived.Test.YtgkmmflamnijdaaPacWr
import Derived.Test.YtgkmmflamnijdaaPacEx
import Derived.Test.YtgkmmflamnijdaaPacSa
import Derived.Test.YtgkmmflamnijdaaCanSa
namespace Go.Proofs.Ytgkmmflamnijdaa.Pk
set_option maxRecDepth 100000
open Go.RowKit Mt Ma Mb Cn Go.Lib
/-- what Write owes -/
def WriteB (T : List Tok) (e : Ending) (w' : World) : Prop :=
  (mayW T = true ∧ ∃ q d, e = .returned (.tuple #[.slice q (encode T).length d, .bool true]) ∧ FlagsLie w' q (encode T) d) ∨ (mayW T = false ∧ ∃ q d, d ≤ maxLen ∧ e = .returned (.tuple #[.slice q 0 d, .bool false]))
/-- what Read owes -/
def ReadB (R : Option (List Tok × Nat)) (e : Ending) (w' : World) : Prop := match R with
  | some (T, x) => ∃ q c, e = .returned (.tuple #[.slice q T.length c, .int .i64 (x : Nat), .bool true]) ∧ ToksLie w' q T c
  | none => ∃ q d, d ≤ maxLen ∧ e = .returned (.tuple #[.slice q 0 d, .int .i64 0, .bool false])
structure SpecK : Prop where
  sym : ∀ (t : Tok) (w : World), Calls Try.prog 12 #[tokV t] w fun e w' => e = .returned (.int .i64 (symA t)) ∧ Below w.heap.size w w'
  write : ∀ (T : List Tok) (n : Nat) (p : Option Addr) (c : Nat) (w : World), T.length = n → n ≤ 281474976710656 → ToksLie w p T c → Calls Try.prog 10 #[.slice p n c] w fun e w' => Below w.heap.size w w' ∧ WriteB T e w'
  read : ∀ (b : List Bool) (k : Nat) (many : Int) (p : Option Addr) (d : Nat) (w : World), b.length = k → k ≤ 281474976710656 → FlagsLie w p b d → Calls Try.prog 15 #[.slice p k d, .int .i64 many] w fun e w' => Below w.heap.size w w' ∧ ReadB (decodeI b many) e w'
theorem enc_nil : mayW [] = true ∧ encode [] = List.replicate 9 false := by decide +kernel
theorem enc_two : mayW [⟨97, 0, 0⟩, ⟨0, 1, 3⟩] = true ∧ (encode [⟨97, 0, 0⟩, ⟨0, 1, 3⟩]).length = 45 ∧ decodeI (encode [⟨97, 0, 0⟩, ⟨0, 1, 3⟩]) 4 = some ([⟨97, 0, 0⟩, ⟨0, 1, 3⟩], 45) ∧ decodeI (encode [⟨97, 0, 0⟩, ⟨0, 1, 3⟩]) 3 = none := by decide +kernel
theorem lit_toks (w : World) : ToksLie (w.alloc (.cells #[.int .i64 97, .int .i64 0, .int .i64 0, .int .i64 0, .int .i64 1, .int .i64 3] 30)) (some ⟨w.heap.size, 0, none⟩) [⟨97, 0, 0⟩, ⟨0, 1, 3⟩] 2 := by
  have e := heap_alloc_new w (Obj.cells #[.int .i64 97, .int .i64 0, .int .i64 0, .int .i64 0, .int .i64 1, .int .i64 3] 30)
  refine ⟨Nat.le_refl _, by decide, .inr ⟨_, 0, rfl, fun i hi => ?_, fun i hi => ?_, fun i hi => ?_⟩⟩
  all_goals
    rw [cell_of_row _ _ _ _ 30 (0, 0) e]
    match i, hi with
    | 0, _ => rfl
    | 1, _ => rfl
theorem make_nine (w : World) : (Instr.makeSlice 25 (.int .i64 9) (.int .i64 9)).run Try.prog w = .ok (.slice (some ⟨w.heap.size, 0, Option.none⟩) 9 9) (w.alloc (.cells #[.bool false, .bool false, .bool false, .bool false, .bool false, .bool false, .bool false, .bool false, .bool false] 4)) := by kernel_rfl
theorem lit_nine (w : World) : FlagsLie (w.alloc (.cells #[.bool false, .bool false, .bool false, .bool false, .bool false, .bool false, .bool false, .bool false, .bool false] 4)) (some ⟨w.heap.size, 0, none⟩) (List.replicate 9 false) 9 := by
  have e := heap_alloc_new w (Obj.cells #[.bool false, .bool false, .bool false, .bool false, .bool false, .bool false, .bool false, .bool false, .bool false] 4)
  refine ⟨Nat.le_refl _, by decide, .inr ⟨_, 0, rfl, fun i hi => ?_⟩⟩
  rw [cell_of_row _ _ _ _ 4 (0, 0) e, Nat.zero_add]
  match i, hi with
  | 0, _ | 1, _ | 2, _ | 3, _ | 4, _ | 5, _ | 6, _ | 7, _ | 8, _ => rfl
theorem below_new {w w' : World} {O : Obj} (h : Below (w.alloc O).heap.size (w.alloc O) w') : Below w.heap.size w w' :=
  ((Below.refl w.heap.size w).alloc (Nat.le_refl _) O).trans (h.mono (by simp))
theorem fx_nine {w : World} {q : Option Addr} {d : Nat} (h : FlagsLie w q (List.replicate 9 false) d) : Calls Try.prog 14 #[.slice q 9 d, .slice (some ⟨w.heap.size, 0, none⟩) 9 9] (w.alloc (.cells #[.bool false, .bool false, .bool false, .bool false, .bool false, .bool false, .bool false, .bool false, .bool false] 4)) fun e w' => e = .returned (.bool true) ∧ Below w.heap.size w w' :=
  (flags_doc (List.replicate 9 false) (List.replicate 9 false) (by decide) (by decide) q (some ⟨w.heap.size, 0, none⟩) d 9 _ (h.below ((Below.refl _ _).alloc (Nat.le_refl _) _)) (lit_nine w)).mono fun e w' ⟨h1, h2⟩ => ⟨by rw [h1]; rfl, below_new h2⟩
set_option maxHeartbeats 4000000 in
theorem fixed_any (S : SpecK) (w : World) : Calls Try.prog 9 #[] w fun e w' => e = .returned (.bool true) ∧ Below w.heap.size w w' := by
  have k1 := fun w => S.write [] 0 none 0 w rfl (Nat.zero_le _) ⟨Nat.le_refl _, Nat.zero_le _, .inl rfl⟩
  have k2 := fun w => S.write [⟨97, 0, 0⟩, ⟨0, 1, 3⟩] 2 (some ⟨w.heap.size, 0, none⟩) 2 (w.alloc (.cells #[.int .i64 97, .int .i64 0, .int .i64 0, .int .i64 0, .int .i64 1, .int .i64 3] 30)) rfl (by decide) (lit_toks w)
  have k3 := fun w q d (h : FlagsLie w q (encode [⟨97, 0, 0⟩, ⟨0, 1, 3⟩]) d) => S.read _ 45 4 q d w enc_two.2.1 (by decide) h
  have k4 := fun w q d (h : FlagsLie w q (encode [⟨97, 0, 0⟩, ⟨0, 1, 3⟩]) d) => S.read _ 45 3 q d w enc_two.2.1 (by decide) h
  rw [enc_two.2.2.1] at k3
  rw [enc_two.2.2.2] at k4
  unfold WriteB at k1 k2
  rw [enc_nil.1, enc_nil.2] at k1
  rw [enc_two.1, enc_two.2.1] at k2
  simp only [List.length_replicate, true_and, Bool.true_eq_false, false_and, or_false] at k1 k2
  unfold ReadB at k3 k4
  simp only at k3 k4
  generalize encode [⟨97, 0, 0⟩, ⟨0, 1, 3⟩] = X at *
  go_enter Try.func9, Try.ntmps9
  go_wp2_with fail
  go_at_call 10
  refine (k1 _).mono ?_
  rintro e w1 ⟨b1, q1, d1, rfl, h1⟩
  have B1 := Lib.hid b1
  have H1 := Lib.hid h1
  clear b1 h1
  go_wp2_with fail
  go_at_call 10
  refine (k2 _).mono ?_
  rintro e w2 ⟨b2, q2, d2, rfl, h2⟩
  have b2' := ((Below.refl w1.heap.size w1).alloc (Nat.le_refl _) _ |>.trans (b2.mono (by simp)))
  have B2 := Lib.hid (B1.out.next b2')
  have H12 := Lib.hid (H1.out.below b2')
  have H2 := Lib.hid h2
  have L2 := Lib.hid ((lit_toks w1).below b2)
  clear b2 b2' h2 B1 H1 k1 k2
  go_wp2_with fail
  go_at_call 15
  refine (k3 _ _ _ H2.out).mono ?_
  rintro e w3 ⟨b3, q3, d3, rfl, h3⟩
  have B3 := Lib.hid (B2.out.next b3)
  have H13 := Lib.hid (H12.out.below b3)
  have H23 := Lib.hid (H2.out.below b3)
  have L3 := Lib.hid (L2.out.below b3)
  have T3 := Lib.hid h3
  clear b3 h3 B2 H12 H2 L2 k3
  go_wp2_with fail
  go_at_call 15
  refine (k4 _ _ _ H23.out).mono ?_
  rintro e w4 ⟨b4, q4, d4, _, rfl⟩
  have B4 := Lib.hid (B3.out.next b4)
  have H14 := Lib.hid (H13.out.below b4)
  have L4 := Lib.hid (L3.out.below b4)
  have T4 := Lib.hid (T3.out.below b4)
  clear b4 B3 H13 H23 L3 T3 k4
  have hmk := make_nine
  have k5 := fun w => S.sym ⟨0, 1, 3⟩ w
  have k6 := fun w => S.sym ⟨300, 0, 0⟩ w
  rw [show symA ⟨0, 1, 3⟩ = 256 by decide] at k5
  rw [show symA ⟨300, 0, 0⟩ = -1 by decide] at k6
  go_wp2_with fail
  go_at_call 14
  refine (fx_nine H14.out).mono ?_
  rintro e w5 ⟨rfl, b5⟩
  have B5 := Lib.hid (B4.out.next b5)
  have L5 := Lib.hid (L4.out.below b5)
  have T5 := Lib.hid (T4.out.below b5)
  clear b5 B4 H14 L4 T4 hmk
  go_wp2_with fail
  go_at_call 17
  refine (toks_same _ _ 2 2 rfl rfl (by decide) (by decide) _ _ _ _ _ L5.out T5.out).mono ?_
  rintro e w6 ⟨he, b6⟩
  rw [decide_eq_true rfl] at he
  subst he
  have B6 := Lib.hid (B5.out.next b6)
  obtain ⟨blk, off, e, hA⟩ := (L5.out.below b6).at (i := 1) (by decide)
  cases e
  obtain ⟨c1, c2, c3⟩ := may_at hA (Below.refl _ _) 1 (by decide)
  replace c1 : w6.cell? ⟨w1.heap.size, 3, none⟩ = some (.int .i64 0) := c1
  replace c2 : w6.cell? ⟨w1.heap.size, 4, none⟩ = some (.int .i64 1) := c2
  replace c3 : w6.cell? ⟨w1.heap.size, 5, none⟩ = some (.int .i64 3) := c3
  clear b6 hA B5 L5 T5
  go_wp2_with fail
  go_at_call 12
  refine (k5 _).mono ?_
  rintro e w7 ⟨rfl, b7⟩
  have B7 := Lib.hid (B6.out.next b7)
  clear b7 B6 k5 c1 c2 c3
  go_wp2_with fail
  go_at_call 12
  refine (k6 _).mono ?_
  rintro e w8 ⟨rfl, b8⟩
  have B8 := Lib.hid (B7.out.next b8)
  clear b8 B7 k6
  go_wp2
  go_ret
  exact ⟨rfl, B8.out⟩
end Go.Proofs.Ytgkmmflamnijdaa.Pk
