/-
  Of no program: what a slice of elements of any shape that came in reads as.
-/
import Derived.Test.YtaamjamcnnalbaaLieG
import Derived.Deep.Slices
import Derived.Carry
import Derived.ChangeOld
import Derived.OpenShut
import Derived.ProofKit
namespace Go.Proofs.Ytaamjamcnnalbaa
set_option maxRecDepth 100000
open Go.ChangeShapes Go.WideShapes Go.ChangeAt Go.RowKit Go.Lib
section
variable {P : Program} {H : Type} {enc : TypeId × Value → H} {W : World} {α : Type} [Inhabited α]
/-- a field, or an argument, that is a slice -/
theorem open_srow (S : Shape α) (h0 : 0 < S.size) {t e : TypeId} (ht : P.underlying t = some (.slice e)) (hc : P.cellsOf e = S.size) {b0 : Nat} {sp : Nat → Bool} {hd : Bool}
    (hel : ∀ (fuel : Nat) (cs : List Value) (x : DataW H × List MemPlace), DataW.trod enc P W b0 sp hd fuel e cs = some x → ∃ a : α, cs = S.cells a)
    {fuel : Nat} {cs : List Value} {x : DataW H × List MemPlace} (hf : DataW.trod enc P W b0 sp hd fuel t cs = some x) : ∃ (p : Option Addr) (L : List α) (k : Nat), cs = [.slice p L.length k] ∧ SLie S W p L k := by
  rcases Deep.open_slice ht hf with ⟨hcs, _⟩ | ⟨a, len, cap, m, n, D, Pl, hcs, _, hl, hm, hmm, _, hdd⟩
  · exact ⟨none, [], 0, hcs, SLie.nil W⟩
  · have hlm : len ≤ m := by rw [hmm]; split <;> omega
    have each : ∀ i, i < len → ∃ y : α, ∀ j v, (S.cells y)[j]? = some v → W.cell? (a.add (i * S.size + j)) = some v := fun i hi => by
      obtain ⟨cs', hcs', htr⟩ := hdd i (by omega)
      rw [hc] at hcs'
      obtain ⟨y, rfl⟩ := hel _ _ _ htr
      obtain ⟨_, _, hcell⟩ := World.cells?_some hcs'
      refine ⟨y, fun j v hv => ?_⟩
      have hj : j < (S.cells y).length := (List.getElem?_eq_some_iff.1 hv).1
      have := hcell j (by rw [S.len] at hj; omega)
      rw [Deep.add_add] at this
      rw [this]
      first | exact hv | (have := (List.getElem?_eq_some_iff.1 hv).2; rw [← this])
    obtain ⟨f, hf2⟩ := Deep.choose_lt each
    refine ⟨some a, (List.range len).map f, cap, by simpa using hcs, by simpa using hl, hm, ?_, fun h => by cases h⟩
    by_cases hz : len = 0
    · exact .inl (by subst hz; rfl)
    · right
      obtain ⟨blk, off, spot⟩ := a
      have hlen0 : 0 < (S.cells (f 0)).length := by rw [S.len]; exact h0
      have q0 := hf2 0 (by omega) 0 _ (List.getElem?_eq_getElem hlen0)
      have hspot : spot = none := by simpa [Addr.add] using World.cell?_spot q0
      subst hspot
      refine ⟨blk, off, rfl, fun i hi j v hv => ?_⟩
      have hi' : i < len := by simpa using hi
      simp only [List.getElem_map, List.getElem_range] at hv
      have := hf2 i hi' j v hv
      rw [Addr.add_lit] at this
      rw [Nat.add_assoc]; exact this
end
end Go.Proofs.Ytaamjamcnnalbaa

