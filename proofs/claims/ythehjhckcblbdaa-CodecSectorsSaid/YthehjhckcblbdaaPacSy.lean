/-
  Contracts of the document's Symbol, put.
-/
import Derived.Test.YthehjhckcblbdaaPacPu
import Derived.Test.YthehjhckcblbdaaPacMu
import Derived.Test.YthehjhckcblbdaaMatD
namespace Go.Proofs.Ythehjhckcblbdaa.Pk
set_option maxRecDepth 100000
open Go.RowKit Mt Ma Mb Go.Lib
/-- what Symbol answers -/
def symA (t : Tok) : Int := if may t = true then (symT t : Int) else -1
set_option maxHeartbeats 1000000 in
theorem sym_doc (t : Tok) (w : World) : Calls Try.prog 41 #[tokV t] w fun e w' => e = .returned (.int .i64 (symA t)) ∧ Below w.heap.size w w' := by
  have km : ∀ w, Calls Try.prog 40 #[.agg #[.int .i64 t.byte, .int .i64 t.dist, .int .i64 t.len]] w fun e w' => e = .returned (.bool (may t)) ∧ Below w.heap.size w w' := fun w => may_ref t w
  have q := fun w1 hb => box_cells w t w1 hb
  have HB := Lib.hid ((Below.refl w.heap.size w).alloc (Nat.le_refl _) (.cells #[.int .i64 t.byte, .int .i64 t.dist, .int .i64 t.len] 48))
  have arm : may t = false ∨ (may t = true ∧ t.len = 0) ∨ (may t = true ∧ ¬ t.len = 0) := by
    cases may t
    · exact .inl rfl
    · by_cases h : t.len = 0
      · exact .inr (.inl ⟨rfl, h⟩)
      · exact .inr (.inr ⟨rfl, h⟩)
  unfold tokV
  rcases arm with a | ⟨a, a2⟩ | ⟨a, a2⟩
  · have HV : Hid (symA t = -1) := Lib.hid (by unfold symA; rw [a]; rfl)
    rw [a] at km
    clear a
    go_enter Try.func41, Try.ntmps41
    go_wp2_with (go_at_call 40; ((with_reducible refine (km _).mono ?_); rintro e w1 ⟨rfl, H1⟩; replace H1 := Lib.hid H1))
    go_ret
    rw [HV.out]
    exact ⟨rfl, HB.out.next H1.out⟩
  · obtain ⟨x, hx1, hx2, _, _⟩ := Ma.may_byte t a a2
    obtain ⟨tb, td, tn⟩ := t
    simp only at hx1 hx2 a2
    subst hx1 hx2 a2
    have HV : Hid (symA ⟨x.toNat, 0, 0⟩ = x.toNat) := Lib.hid (by unfold symA; rw [a]; simp [symT])
    have hx := x.toNat_lt
    rw [a] at km
    clear a
    go_enter Try.func41, Try.ntmps41
    go_wp2_with (go_at_call 40; ((with_reducible refine (km _).mono ?_); rintro e w1 ⟨rfl, H1⟩; obtain ⟨q0, q1, q2, q3⟩ := q _ H1; replace H1 := Lib.hid H1))
    go_ret
    rw [HV.out]
    exact ⟨rfl, HB.out.next H1.out⟩
  · obtain ⟨d, n, h1, h2, h3, h4, h5, h6⟩ := Ma.may_copy t a a2
    obtain ⟨tb, td, tn⟩ := t
    simp only at h1 h2 h3 a2
    subst h1 h2 h3
    have HV : Hid (symA ⟨0, d, n⟩ = 253 + n) := Lib.hid (by unfold symA; rw [a]; unfold symT; simp only [if_neg a2]; simp)
    rw [a] at km
    clear a
    go_enter Try.func41, Try.ntmps41
    go_wp2_with (go_at_call 40; ((with_reducible refine (km _).mono ?_); rintro e w1 ⟨rfl, H1⟩; obtain ⟨q0, q1, q2, q3⟩ := q _ H1; replace H1 := Lib.hid H1))
    go_ret
    rw [HV.out]
    exact ⟨rfl, HB.out.next H1.out⟩
theorem putp_doc (b : List Bool) (k : Nat) (hb : b.length = k) (hk : k ≤ 1000000) (q : Option Addr) (d x n : Nat) (hn : n ≤ 30) (hx : x < 2 ^ n) (w : World) (h : FlagsLie w q b d) (hq0 : q = none → d = 0) :
    Calls Try.prog 43 #[.slice q k d, .int .i64 x, .int .i64 n] w fun e w' => ∃ g c, e = .returned (.slice (some ⟨g, 0, Option.none⟩) (b ++ dig x n).length c) ∧ FRow w.heap.size w w' g c (b ++ dig x n) := by
  have H := put_any b k hb hk q d x n hn hx w h hq0
  generalize b ++ dig x n = m at H ⊢
  clear h hb hq0 hx
  go_enter Try.func43, Try.ntmps43
  go_wp2_with fail
  go_at_call 70
  refine H.mono ?_
  rintro e w1 ⟨g, c, rfl, hR⟩
  replace hR := Lib.hid hR
  clear H
  go_wp2
  go_ret
  exact ⟨g, c, rfl, hR.out⟩
end Go.Proofs.Ythehjhckcblbdaa.Pk
