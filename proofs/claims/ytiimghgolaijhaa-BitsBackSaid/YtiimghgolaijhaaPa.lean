/-
  The walks of BitsParts: it returns true for every number, width, place and text.
-/
import Derived.Test.YtiimghgolaijhaaFi
namespace Go.Proofs.Ytiimghgolaijhaa
open Go.RowKit Mb Go.Lib
/-- a struct of three numbers -/
def num3 (x y z : Int) : Value := .agg #[.int .i64 x, .int .i64 y, .int .i64 z]
set_option maxHeartbeats 1000000 in
theorem parts_out (n width low : Int) (s : ByteArray) (hs : s.size ≤ 140737488351232) (h : ¬ (0 ≤ width ∧ width ≤ 30 ∧ 0 ≤ low ∧ low ≤ width ∧ 0 ≤ n ∧ n < ((2 ^ width.toNat : Nat) : Int) ∧ s.size ≤ 5000)) (w : World) :
    Calls Try.prog 4 #[num3 n width low, .string s] w fun e w' => e = .returned (.bool true) ∧ Below w.heap.size w w' := by
  have arm : width < 0 ∨ (30 < width) ∨ (0 ≤ width ∧ width ≤ 30 ∧ low < 0) ∨ (0 ≤ width ∧ width ≤ 30 ∧ 0 ≤ low ∧ width < low) ∨ (0 ≤ width ∧ width ≤ 30 ∧ 0 ≤ low ∧ low ≤ width ∧ n < 0) ∨
      (0 ≤ width ∧ width ≤ 30 ∧ 0 ≤ low ∧ low ≤ width ∧ 0 ≤ n ∧ ((2 ^ width.toNat : Nat) : Int) ≤ n) ∨ (0 ≤ width ∧ width ≤ 30 ∧ 0 ≤ low ∧ low ≤ width ∧ 0 ≤ n ∧ n < ((2 ^ width.toNat : Nat) : Int) ∧ 5000 < s.size) := by omega
  clear h
  have zs : (s.size : Int) ≤ 140737488351232 := by omega
  unfold num3
  have step : ∀ (P : Nat) (k : Nat), width = (k : Int) → k ≤ 30 → 2 ^ width.toNat = P → ∀ w, Calls Try.prog 13 #[.int .i64 width] w fun e w' => e = .returned (.int .i64 (P : Int)) ∧ w' = w := by
    intro P k h1 h2 h3 w
    subst h1
    rw [← h3, Int.toNat_natCast]
    exact power_any k h2 w
  rcases arm with a | a | ⟨a1, a2, a3⟩ | ⟨a1, a2, a3, a4⟩ | ⟨a1, a2, a3, a4, a5⟩ | ⟨a1, a2, a3, a4, a5, a6⟩ | ⟨a1, a2, a3, a4, a5, a6, a7⟩
  case' inr.inr.inr.inr.inr.inl =>
    obtain ⟨k, hk⟩ := Int.eq_ofNat_of_zero_le a1
    have hp := step _ k hk (by omega) rfl
    clear step
    generalize 2 ^ width.toNat = P at a6 hp
    clear hk
  case' inr.inr.inr.inr.inr.inr =>
    obtain ⟨k, hk⟩ := Int.eq_ofNat_of_zero_le a1
    have hp := step _ k hk (by omega) rfl
    clear step
    generalize 2 ^ width.toNat = P at a6 hp
    clear hk
    have a8 : 5000 < (s.size : Int) := by omega
  all_goals
    go_enter Try.func4, Try.ntmps4
    go_wp2_with fail
    go_quiet (fail)
    simp only [Exit.then]
    have hB : Hid (Below w.heap.size w ((w.alloc (.cells #[.int .i64 n, .int .i64 width, .int .i64 low] 24)).drewN nq)) := below_drewN ((Below.refl _ _).alloc (Nat.le_refl _) _) _
    generalize (w.alloc (.cells #[.int .i64 n, .int .i64 width, .int .i64 low] 24)).drewN nq = w0 at *
    go_wp2_with (first
      | (go_at_call 8; ((with_reducible refine (fixed_any w0).mono ?_); rintro e w1 ⟨rfl, H1⟩; replace H1 := Lib.hid H1))
      | (go_at_call 13; ((with_reducible refine (hp _).mono ?_); rintro e w' ⟨rfl, h'⟩; cases h'))
      | (go_at_call 8; ((with_reducible refine (fixed_any _).mono ?_); rintro e w2 ⟨rfl, H2⟩; replace H2 := Lib.hid H2)))
    go_ret
    exact ⟨rfl, (hB.out.next H1.out).next H2.out⟩
end Go.Proofs.Ytiimghgolaijhaa
