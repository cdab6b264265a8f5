/-
  What a slice of bools that came in reads as.
-/
import Derived.Test.YtiimghgolaijhaaFi
import Derived.Deep.Grids
import Derived.Carry
import Derived.ChangeOld
import Derived.SizedLaws
import Derived.OpenShut
import Derived.ProofKit
namespace Go.Proofs.Ytiimghgolaijhaa
open Go.ChangeShapes Go.WideShapes Go.ChangeAt Go.RowKit Mb
theorem laidOut : laidOutB Try.prog = true := by kernel_rfl
theorem cells4 : Try.prog.cellsOf 4 = 1 := by kernel_rfl
theorem bytes4 : Try.prog.bytesOf 4 = 1 := by kernel_rfl
/-- a list, and how it came in -/
def Lay (w : World) (p : Option Addr) (l : List Bool) (cap : Nat) : Prop :=
  l.length ≤ cap ∧ cap ≤ maxLen ∧ l.length ≤ 140737488351232 ∧ ((p = none ∧ l = [] ∧ cap = 0) ∨ ∃ a, p = some a ∧ ∀ i, i < l.length → w.cell? (a.add i) = some (.bool (l.getD i false)))
theorem Lay.came {w : World} {p : Option Addr} {l : List Bool} {cap : Nat} (h : Lay w p l cap) : l.length ≤ cap ∧ cap ≤ maxLen ∧ (l = [] ∨ ∃ blk off, p = some ⟨blk, off, Option.none⟩ ∧ blk < w.heap.size ∧ BoolsAt w blk off l) := by
  refine ⟨h.1, h.2.1, ?_⟩
  rcases h.2.2.2 with ⟨_, h1, _⟩ | ⟨⟨blk, off, spot⟩, rfl, hc⟩
  · exact .inl h1
  · by_cases h0 : l = []
    · exact .inl h0
    · right
      have hpos : 0 < l.length := List.length_pos_iff.2 h0
      have hc0 := hc 0 hpos
      have hspot : spot = none := by simpa [Addr.add] using World.cell?_spot hc0
      subst hspot
      have hb : blk < w.heap.size := by
        have := World.block_lt_of_cell? w _ hc0
        simpa [Addr.add] using this
      exact ⟨blk, off, rfl, hb, ⟨fun i hi => by rw [← hc i hi, Addr.add_lit]⟩⟩
section
variable {H : Type} {enc : TypeId × Value → H} {W : World}
theorem open_list {v : Value} {d : DataW H} {ps : List MemPlace} {ts : List TypeId} {ds : List (DataW H)} {j : Nat} (hz : (DataW.weightsEach Try.prog ts ds).all (· ≤ reachBytes) = true) (ht : ts[j]? = some 22) (hd : ds[j]? = some d)
    {b0 : Nat} (hv : Value.okWide Try.prog W .any b0 22 v) (h : DataW.Trod enc Try.prog W 0 (fun _ => true) true 22 v d ps) : ∃ p l cap, v = .slice p l.length cap ∧ Lay W p l cap := by
  obtain ⟨a0, len0, cap0, rfl⟩ := okWide_slice Try.underlying22 hv
  obtain ⟨fuel, hf⟩ := h
  rcases Deep.open_bools Try.underlying22 Try.underlying4 cells4 hf with ⟨hcs, _⟩ | ⟨a, len, cap, B, hcs, _, h1, h2, h3, h4⟩
  · simp [Value.cells] at hcs
    obtain ⟨rfl, rfl, rfl⟩ := hcs
    exact ⟨none, [], 0, rfl, by decide, by decide, by decide, .inl ⟨rfl, rfl, rfl⟩⟩
  · simp [Value.cells] at hcs
    obtain ⟨rfl, rfl, rfl⟩ := hcs
    have e : d = Deep.boolRow (some a) len0 cap0 B := congrArg Prod.fst h3
    have hs := sized_slice hz ht (by rw [hd, e]; rfl) Try.underlying22
    rw [bytes4, List.length_map, List.length_range] at hs
    have hr : reachBytes = 140737488351232 := rfl
    refine ⟨some a, (List.range len0).map B, cap0, by simp, by simpa using h1, h2, by simp; omega, .inr ⟨a, rfl, fun i hi => ?_⟩⟩
    have hi' : i < len0 := by simpa using hi
    rw [h4 i (by omega)]
    simp [hi']
end
end Go.Proofs.Ytiimghgolaijhaa
