/-
  What a slice of structs of three numbers that came in reads as.
-/
import Derived.Test.YtiimghgolaijhaaOf
import Derived.Test.YtiimghgolaijhaaOn
import Derived.Test.YtiimghgolaijhaaMn
import Derived.Lib.SmallJoins
namespace Go.Proofs.Ytiimghgolaijhaa
open Go.ChangeShapes Go.WideShapes Go.ChangeAt Go.RowKit Mb Go.Joins
section
variable {H : Type} {enc : TypeId × Value → H} {W : World}
theorem num_cells {b0 fuel : Nat} {sp : Nat → Bool} {hd : Bool} {cs : List Value} {x : DataW H × List MemPlace} (h : DataW.trod enc Try.prog W b0 sp hd fuel 24 cs = some x) : ∃ a b c : Int, cs = [.int .i64 a, .int .i64 b, .int .i64 c] := by
  obtain ⟨xs, n, _, _, hl, hlen, hf⟩ := DataW.trod_struct Try.underlying24 h
  rw [cells24] at hl
  match cs, hl, xs, hlen with
  | [c0, c1, c2], _, [y0, y1, y2], _ =>
    have k3 : Try.prog.cellsOf 3 = 1 := by kernel_rfl
    have h0 : DataW.trod enc Try.prog W b0 sp hd n 3 ([c0, c1, c2].take (Try.prog.cellsOf 3)) = some y0 := hf 0 _ rfl
    have h1 : DataW.trod enc Try.prog W b0 sp hd n 3 ([c1, c2].take (Try.prog.cellsOf 3)) = some y1 := hf 1 _ rfl
    have h2 : DataW.trod enc Try.prog W b0 sp hd n 3 ([c2].take (Try.prog.cellsOf 3)) = some y2 := hf 2 _ rfl
    rw [k3] at h0 h1 h2
    obtain ⟨x, e0, _, _⟩ := DataW.trod_int Try.underlying3 h0
    obtain ⟨y, e1, _, _⟩ := DataW.trod_int Try.underlying3 h1
    obtain ⟨z, e2, _, _⟩ := DataW.trod_int Try.underlying3 h2
    simp at e0 e1 e2
    exact ⟨x, y, z, by rw [e0, e1, e2]⟩
theorem open_nums {v : Value} {d : DataW H} {ps : List MemPlace} {b0 : Nat} (hv : Value.okWide Try.prog W .any b0 37 v) (h : DataW.Trod enc Try.prog W 0 (fun _ => true) true 37 v d ps) :
    ∃ (p : Option Addr) (n cap : Nat) (X Y : Nat → Int), v = .slice p n cap ∧ n ≤ maxLen ∧ (n = 0 ∨ ∃ blk off, p = some ⟨blk, off, Option.none⟩ ∧ NumsAt W blk off n X Y) := by
  obtain ⟨a0, len0, cap0, rfl⟩ := okWide_slice Try.underlying37 hv
  obtain ⟨fuel, hf⟩ := h
  rcases Deep.open_slice Try.underlying37 hf with ⟨hcs, _⟩ | ⟨a, len, cap, m, n, D, Pl, hcs, _, hl, hm, hmm, _, hd⟩
  · simp [Value.cells] at hcs
    obtain ⟨rfl, rfl, rfl⟩ := hcs
    exact ⟨none, 0, 0, fun _ => 0, fun _ => 0, rfl, by decide, .inl rfl⟩
  · simp [Value.cells] at hcs
    obtain ⟨rfl, rfl, rfl⟩ := hcs
    simp only [if_true] at hmm
    have each : ∀ i, i < len0 → ∃ xy : Int × Int, W.cell? (a.add (i * 3)) = some (.int .i64 xy.1) ∧ W.cell? (a.add (i * 3 + 1)) = some (.int .i64 xy.2) := fun i hi => by
      obtain ⟨cs', hcs', ht⟩ := hd i (by omega)
      rw [cells24] at hcs'
      obtain ⟨x, y, z, rfl⟩ := num_cells ht
      obtain ⟨_, _, hcell⟩ := World.cells?_some hcs'
      have q0 := hcell 0 (by omega)
      have q1 := hcell 1 (by omega)
      rw [Deep.add_add] at q0 q1
      exact ⟨(x, y), q0, q1⟩
    obtain ⟨f, hf2⟩ := Deep.choose_lt each
    refine ⟨some a, len0, cap0, fun i => (f i).1, fun i => (f i).2, by simp, by omega, ?_⟩
    by_cases h0 : len0 = 0
    · exact .inl h0
    · right
      obtain ⟨blk, off, spot⟩ := a
      have q0 := (hf2 0 (by omega)).1
      have hspot : spot = none := by simpa [Addr.add] using World.cell?_spot q0
      subst hspot
      refine ⟨blk, off, rfl, ⟨fun i hi => ?_, fun i hi => ?_⟩⟩
      · rw [← (hf2 i hi).1, Addr.add_lit]
      · rw [← (hf2 i hi).2, Addr.add_lit, Nat.add_assoc]
end
end Go.Proofs.Ytiimghgolaijhaa
