/-
  What a slice of numbers that came in reads as.
-/
import Derived.Test.YtbkehlppngejnaaLstLi
import Derived.Carry
import Derived.ChangeOld
import Derived.ChangeSlices
import Derived.SizedLaws
import Derived.OpenShut
import Derived.ProofKit
namespace Go.Proofs.Ytbkehlppngejnaa
open Go.ChangeShapes Go.WideShapes Go.ChangeAt Go.RowKit
theorem laidOut : laidOutB Try.prog = true := by kernel_rfl
theorem cells3 : Try.prog.cellsOf 3 = 1 := by kernel_rfl
theorem bytes3 : Try.prog.bytesOf 3 = 8 := by kernel_rfl
section
variable {H : Type} {enc : TypeId × Value → H} {W : World}
theorem open_nums {v : Value} {d : DataW H} {ps : List MemPlace} {ts : List TypeId} {ds : List (DataW H)} {j : Nat} (hz : (DataW.weightsEach Try.prog ts ds).all (· ≤ reachBytes) = true) (ht : ts[j]? = some 22) (hd : ds[j]? = some d)
    {b0 : Nat} (hv : Value.okWide Try.prog W .any b0 22 v) (h : DataW.Trod enc Try.prog W 0 (fun _ => true) true 22 v d ps) : ∃ p L cap, v = .slice p L.length cap ∧ IntsLie W p L cap ∧ L.length ≤ 281474976710656 := by
  obtain ⟨a0, len0, cap0, rfl⟩ := okWide_slice Try.underlying22 hv
  obtain ⟨fuel, hf⟩ := h
  rcases open_ints Try.underlying22 Try.underlying3 cells3 hf with ⟨hcs, _⟩ | ⟨a, len, cap, zs, hcs, _, h1, h2, h3, h4, h5, h6⟩
  · simp [Value.cells] at hcs
    obtain ⟨rfl, rfl, rfl⟩ := hcs
    exact ⟨none, [], 0, rfl, ⟨by decide, by decide, .inl rfl⟩, by decide⟩
  · simp [Value.cells] at hcs
    obtain ⟨rfl, rfl, rfl⟩ := hcs
    simp only [if_true] at h3
    have e : d = .slice (lits .i64 (zs.take len0)) (lits .i64 (zs.drop len0)) := congrArg Prod.fst h4
    have hs := sized_slice hz ht (by rw [hd, e]) Try.underlying22
    have hr : reachBytes = 140737488351232 := rfl
    have hll : (zs.take len0).length = len0 := by rw [List.length_take]; omega
    rw [bytes3] at hs
    unfold lits at hs
    rw [List.length_map, hll] at hs
    refine ⟨some a, zs.take len0, cap0, by rw [hll], ⟨by rw [hll]; exact h1, h2, ?_⟩, by rw [hll]; omega⟩
    by_cases h0 : len0 = 0
    · exact .inl (List.length_eq_zero_iff.1 (by rw [hll]; exact h0))
    · right
      obtain ⟨blk, off, spot⟩ := a
      have q0 := h5 0 (by omega)
      have hspot : spot = none := by simpa [Addr.add] using World.cell?_spot q0
      subst hspot
      refine ⟨blk, off, rfl, fun i hi => ?_⟩
      have hi' : i < len0 := by rw [hll] at hi; exact hi
      have := h5 i (by omega)
      rw [Addr.add_lit] at this
      rw [this, List.getElem_take]
      simp [List.getD, show i < zs.length by omega]
end
end Go.Proofs.Ytbkehlppngejnaa

