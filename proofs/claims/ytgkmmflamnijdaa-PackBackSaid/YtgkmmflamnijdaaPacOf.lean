/-
  What slices of tokens, and of bits, that came in read as.
-/
import Derived.Test.YtgkmmflamnijdaaPacTk
import Derived.Deep.Slices
import Derived.Deep.Grids
import Derived.Carry
import Derived.ChangeOld
import Derived.ChangeSlices
import Derived.SizedLaws
import Derived.OpenShut
import Derived.ProofKit
namespace Go.Proofs.Ytgkmmflamnijdaa.Pk
set_option maxRecDepth 100000
open Go.ChangeShapes Go.WideShapes Go.ChangeAt Go.RowKit Mt Ma
theorem laidOut : laidOutB Try.prog = true := by kernel_rfl
theorem cellsBool : Try.prog.cellsOf 4 = 1 := by kernel_rfl
theorem bytesBool : Try.prog.bytesOf 4 = 1 := by kernel_rfl
theorem tok_size : Try.prog.cellsOf 30 = 3 := by kernel_rfl
theorem tok_bytes : Try.prog.bytesOf 30 = 24 := by kernel_rfl
theorem int_size : Try.prog.cellsOf 3 = 1 := by kernel_rfl
section
variable {H : Type} {enc : TypeId × Value → H} {W : World}
theorem tok_cells {b0 fuel : Nat} {sp : Nat → Bool} {hd : Bool} {cs : List Value} {x : DataW H × List MemPlace} (h : DataW.trod enc Try.prog W b0 sp hd fuel 30 cs = some x) : ∃ a b c : Int, cs = [.int .i64 a, .int .i64 b, .int .i64 c] := by
  obtain ⟨xs, n, _, _, hl, hlen, hf⟩ := DataW.trod_struct Try.underlying30 h
  rw [tok_size] at hl
  match cs, hl, xs, hlen with
  | [c0, c1, c2], _, [y0, y1, y2], _ =>
    have h0 : DataW.trod enc Try.prog W b0 sp hd n 3 ([c0, c1, c2].take (Try.prog.cellsOf 3)) = some y0 := hf 0 _ rfl
    have h1 : DataW.trod enc Try.prog W b0 sp hd n 3 ([c1, c2].take (Try.prog.cellsOf 3)) = some y1 := hf 1 _ rfl
    have h2 : DataW.trod enc Try.prog W b0 sp hd n 3 ([c2].take (Try.prog.cellsOf 3)) = some y2 := hf 2 _ rfl
    rw [int_size] at h0 h1 h2
    obtain ⟨x, e0, _, _⟩ := DataW.trod_int Try.underlying3 h0
    obtain ⟨y, e1, _, _⟩ := DataW.trod_int Try.underlying3 h1
    obtain ⟨z, e2, _, _⟩ := DataW.trod_int Try.underlying3 h2
    simp at e0 e1 e2
    exact ⟨x, y, z, by rw [e0, e1, e2]⟩
theorem open_toks {v : Value} {d : DataW H} {ps : List MemPlace} {ts : List TypeId} {ds : List (DataW H)} {j : Nat} (hz : (DataW.weightsEach Try.prog ts ds).all (· ≤ reachBytes) = true) (ht : ts[j]? = some 22) (hd0 : ds[j]? = some d)
    {b0 : Nat} (hv : Value.okWide Try.prog W .any b0 22 v) (h : DataW.Trod enc Try.prog W 0 (fun _ => true) true 22 v d ps) :
    ∃ (p : Option Addr) (T : List Tok) (cap : Nat), v = .slice p T.length cap ∧ ToksLie W p T cap ∧ T.length ≤ 281474976710656 := by
  obtain ⟨a0, len0, cap0, rfl⟩ := okWide_slice Try.underlying22 hv
  obtain ⟨fuel, hf⟩ := h
  rcases Deep.open_slice Try.underlying22 hf with ⟨hcs, _⟩ | ⟨a, len, cap, m, n, D, Pl, hcs, _, hl, hm, hmm, hx, hd⟩
  · simp [Value.cells] at hcs
    obtain ⟨rfl, rfl, rfl⟩ := hcs
    exact ⟨none, [], 0, rfl, ⟨by decide, by decide, .inl rfl⟩, by decide⟩
  · simp [Value.cells] at hcs
    obtain ⟨rfl, rfl, rfl⟩ := hcs
    simp only [if_true] at hmm
    have each : ∀ i, i < len0 → ∃ xy : Int × Int × Int, W.cell? (a.add (i * 3)) = some (.int .i64 xy.1) ∧ W.cell? (a.add (i * 3 + 1)) = some (.int .i64 xy.2.1) ∧ W.cell? (a.add (i * 3 + 2)) = some (.int .i64 xy.2.2) := fun i hi => by
      obtain ⟨cs', hcs', ht⟩ := hd i (by omega)
      rw [tok_size] at hcs'
      obtain ⟨x, y, z, rfl⟩ := tok_cells ht
      obtain ⟨_, _, hcell⟩ := World.cells?_some hcs'
      have q0 := hcell 0 (by omega)
      have q1 := hcell 1 (by omega)
      have q2 := hcell 2 (by omega)
      rw [Deep.add_add] at q0 q1 q2
      exact ⟨(x, y, z), q0, q1, q2⟩
    obtain ⟨f, hf2⟩ := Deep.choose_lt each
    have hs := sized_slice hz ht (by rw [hd0]; exact congrArg (fun z => some z.1) hx) Try.underlying22
    rw [tok_bytes, List.length_map, List.length_range] at hs
    have hr : reachBytes = 140737488351232 := rfl
    refine ⟨some a, (List.range len0).map fun i => ⟨(f i).1, (f i).2.1, (f i).2.2⟩, cap0, by simp, ⟨by simpa using hl, hm, ?_⟩, by simp; omega⟩
    by_cases h0 : len0 = 0
    · exact .inl (by subst h0; rfl)
    · right
      obtain ⟨blk, off, spot⟩ := a
      have q0 := (hf2 0 (by omega)).1
      have hspot : spot = none := by simpa [Addr.add] using World.cell?_spot q0
      subst hspot
      refine ⟨blk, off, rfl, ⟨fun i hi => ?_, fun i hi => ?_, fun i hi => ?_⟩⟩
      all_goals
        have hi' : i < len0 := by simpa using hi
        simp only [List.getElem_map, List.getElem_range]
      · rw [← (hf2 i hi').1, Addr.add_lit]
      · rw [← (hf2 i hi').2.1, Addr.add_lit, Nat.add_assoc]
      · rw [← (hf2 i hi').2.2, Addr.add_lit, Nat.add_assoc]
theorem open_flags {v : Value} {d : DataW H} {ps : List MemPlace} {ts : List TypeId} {ds : List (DataW H)} {j : Nat} (hz : (DataW.weightsEach Try.prog ts ds).all (· ≤ reachBytes) = true) (ht : ts[j]? = some 25) (hd : ds[j]? = some d)
    {b0 : Nat} (hv : Value.okWide Try.prog W .any b0 25 v) (h : DataW.Trod enc Try.prog W 0 (fun _ => true) true 25 v d ps) : ∃ p l cap, v = .slice p l.length cap ∧ FlagsLie W p l cap ∧ (p = none → cap = 0) ∧ l.length ≤ 281474976710656 := by
  obtain ⟨a0, len0, cap0, rfl⟩ := okWide_slice Try.underlying25 hv
  obtain ⟨fuel, hf⟩ := h
  rcases Deep.open_bools Try.underlying25 Try.underlying4 cellsBool hf with ⟨hcs, _⟩ | ⟨a, len, cap, B, hcs, _, h1, h2, h3, h4⟩
  · simp [Value.cells] at hcs
    obtain ⟨rfl, rfl, rfl⟩ := hcs
    exact ⟨none, [], 0, rfl, ⟨by decide, by decide, .inl rfl⟩, fun _ => rfl, by decide⟩
  · simp [Value.cells] at hcs
    obtain ⟨rfl, rfl, rfl⟩ := hcs
    have e : d = Deep.boolRow (some a) len0 cap0 B := congrArg Prod.fst h3
    have hs := sized_slice hz ht (by rw [hd, e]; rfl) Try.underlying25
    rw [bytesBool, List.length_map, List.length_range] at hs
    have hr : reachBytes = 140737488351232 := rfl
    refine ⟨some a, (List.range len0).map B, cap0, by simp, ⟨by simpa using h1, h2, ?_⟩, (fun e => by cases e), (by simp; omega)⟩
    by_cases h0 : len0 = 0
    · exact .inl (by rw [h0]; rfl)
    · right
      obtain ⟨blk, off, spot⟩ := a
      have q0 := h4 0 (by omega)
      have hspot : spot = none := by simpa [Addr.add] using World.cell?_spot q0
      subst hspot
      refine ⟨blk, off, rfl, fun i hi => ?_⟩
      have hi' : i < len0 := by simpa using hi
      have := h4 i (by omega)
      rw [Addr.add_lit] at this
      rw [this]
      simp [hi']
end
end Go.Proofs.Ytgkmmflamnijdaa.Pk

