/-
  Contract of the closure by which ratio.Order compares two places.
-/
import Derived.Test.YtdjkilgcgkhcdaaDoorWk4
import Derived.Deep.QuietTactic
import Derived.BigQuiet
namespace Go.Proofs.YtdjkilgcgkhcdaaDoor
open Go.RowKit Go.Fl
/-- How the program's closure compares two places. -/
def cfI (l : List Nat) (i j : Nat) : Int := if lessB (l.getD i 0) (l.getD j 0) then -1 else if lessB (l.getD j 0) (l.getD i 0) then 1 else 0
/-- A list of floats as it lies. -/
structure FloatsAt (w : World) (blk off : Nat) (l : List Nat) : Prop where
  cell : ∀ i, i < l.length → w.cell? ⟨blk, off + i, none⟩ = some (.float .f64 (l.getD i 0))
  lt : ∀ i, l.getD i 0 < 2 ^ 64
set_option maxHeartbeats 800000 in
theorem closure_any (l : List Nat) (i j : Nat) (hi : i < l.length) (hj : j < l.length) (bb : Nat) (blk off cap : Nat) (w : World)
    (hb : w.cell? ⟨bb, 0, none⟩ = some (.slice (some ⟨blk, off, none⟩) l.length cap)) (hF : FloatsAt w blk off l) :
    Calls Tryd.prog 33 #[.int .i64 i, .int .i64 j, .pointer (some ⟨bb, 0, none⟩)] w fun e w' => e = .returned (.int .i64 (cfI l i j)) ∧ ∃ q, w' = w.drewN q := by
  have ci := hF.cell i hi
  have cj := hF.cell j hj
  have A := Lib.hid (hF.lt i)
  have B := Lib.hid (hF.lt j)
  have i0 : (0 : Int) ≤ i := by omega
  have j0 : (0 : Int) ≤ j := by omega
  have i1 : (i : Int) < l.length := by omega
  have j1 : (j : Int) < l.length := by omega
  have HC : Hid (cfI l i j = if lessB (l.getD i 0) (l.getD j 0) then -1 else if lessB (l.getD j 0) (l.getD i 0) then 1 else 0) := rfl
  generalize cfI l i j = r at HC ⊢
  clear hF
  generalize l.getD i 0 = x at *
  generalize l.getD j 0 = y at *
  generalize l.length = n at *
  cases h1 : lessB x y
  · cases h2 : lessB y x
    · have e : r = 0 := by rw [HC.out, h1, h2]; rfl
      subst e
      clear HC
      go_enter Tryd.func33, Tryd.ntmps33
      go_wp2_with fail
      go_quiet ((go_at_call 16; exact Calls.quiet_of_same ((less_any _ _ _ A.out B.out).mono fun e w' h => ⟨h.1, h.2.symm⟩)))
      simp only [Exit.then, h1]
      obtain ⟨w2, hw2⟩ : ∃ w2, w2 = w.drewN nq := ⟨_, rfl⟩
      have HW := Lib.hid hw2
      rw [← hw2]
      have hb2 : w2.cell? ⟨bb, 0, none⟩ = some (.slice (some ⟨blk, off, none⟩) n cap) := by rw [hw2]; exact hb
      have ci2 : w2.cell? ⟨blk, off + i, none⟩ = some (.float .f64 x) := by rw [hw2]; exact ci
      have cj2 : w2.cell? ⟨blk, off + j, none⟩ = some (.float .f64 y) := by rw [hw2]; exact cj
      clear hw2 hb ci cj
      go_wp2_with fail
      go_quiet ((go_at_call 16; exact Calls.quiet_of_same ((less_any _ _ _ B.out A.out).mono fun e w' h => ⟨h.1, h.2.symm⟩)))
      simp only [Exit.then, h2]
      go_wp2
      go_ret
      exact ⟨rfl, _, by rw [HW.out]; exact World.drewN_drewN _ _ _⟩
    · have e : r = 1 := by rw [HC.out, h1, h2]; rfl
      subst e
      clear HC
      go_enter Tryd.func33, Tryd.ntmps33
      go_wp2_with fail
      go_quiet ((go_at_call 16; exact Calls.quiet_of_same ((less_any _ _ _ A.out B.out).mono fun e w' h => ⟨h.1, h.2.symm⟩)))
      simp only [Exit.then, h1]
      obtain ⟨w2, hw2⟩ : ∃ w2, w2 = w.drewN nq := ⟨_, rfl⟩
      have HW := Lib.hid hw2
      rw [← hw2]
      have hb2 : w2.cell? ⟨bb, 0, none⟩ = some (.slice (some ⟨blk, off, none⟩) n cap) := by rw [hw2]; exact hb
      have ci2 : w2.cell? ⟨blk, off + i, none⟩ = some (.float .f64 x) := by rw [hw2]; exact ci
      have cj2 : w2.cell? ⟨blk, off + j, none⟩ = some (.float .f64 y) := by rw [hw2]; exact cj
      clear hw2 hb ci cj
      go_wp2_with fail
      go_quiet ((go_at_call 16; exact Calls.quiet_of_same ((less_any _ _ _ B.out A.out).mono fun e w' h => ⟨h.1, h.2.symm⟩)))
      simp only [Exit.then, h2]
      go_wp2
      go_ret
      exact ⟨rfl, _, by rw [HW.out]; exact World.drewN_drewN _ _ _⟩
  · have e : r = -1 := by rw [HC.out, h1]; rfl
    subst e
    clear HC
    go_enter Tryd.func33, Tryd.ntmps33
    go_wp2_with fail
    go_quiet ((go_at_call 16; exact Calls.quiet_of_same ((less_any _ _ _ A.out B.out).mono fun e w' h => ⟨h.1, h.2.symm⟩)))
    simp only [Exit.then, h1]
    obtain ⟨w2, hw2⟩ : ∃ w2, w2 = w.drewN nq := ⟨_, rfl⟩
    have HW := Lib.hid hw2
    rw [← hw2]
    have hb2 : w2.cell? ⟨bb, 0, none⟩ = some (.slice (some ⟨blk, off, none⟩) n cap) := by rw [hw2]; exact hb
    have ci2 : w2.cell? ⟨blk, off + i, none⟩ = some (.float .f64 x) := by rw [hw2]; exact ci
    have cj2 : w2.cell? ⟨blk, off + j, none⟩ = some (.float .f64 y) := by rw [hw2]; exact cj
    clear hw2 hb ci cj
    go_wp2_with fail
    go_ret
    exact ⟨rfl, nq, HW.out⟩
end Go.Proofs.YtdjkilgcgkhcdaaDoor
