/-
  What a slice of bits that came in reads as; two numbers by value; fifteen bits by value.
-/
import Derived.Test.YtbkehlppngejnaaHufOf
import Derived.Deep.Grids
import Derived.Lib.SmallJoins
namespace Go.Proofs.Ytbkehlppngejnaa
open Go.ChangeShapes Go.WideShapes Go.ChangeAt Go.RowKit
theorem cellsBool : Try.prog.cellsOf 4 = 1 := by kernel_rfl
theorem bytesBool : Try.prog.bytesOf 4 = 1 := by kernel_rfl
theorem cellsAt : Try.prog.cellsOf 25 = 2 := by kernel_rfl
theorem cellsFif : Try.prog.cellsOf 38 = 15 := by kernel_rfl
section
variable {H : Type} {enc : TypeId × Value → H} {W : World}
theorem open_flags {v : Value} {d : DataW H} {ps : List MemPlace} {ts : List TypeId} {ds : List (DataW H)} {j : Nat} (hz : (DataW.weightsEach Try.prog ts ds).all (· ≤ reachBytes) = true) (ht : ts[j]? = some 23) (hd : ds[j]? = some d)
    {b0 : Nat} (hv : Value.okWide Try.prog W .any b0 23 v) (h : DataW.Trod enc Try.prog W 0 (fun _ => true) true 23 v d ps) : ∃ p l cap, v = .slice p l.length cap ∧ FlagsLie W p l cap ∧ (p = none → cap = 0) ∧ l.length ≤ 281474976710656 := by
  obtain ⟨a0, len0, cap0, rfl⟩ := okWide_slice Try.underlying23 hv
  obtain ⟨fuel, hf⟩ := h
  rcases Deep.open_bools Try.underlying23 Try.underlying4 cellsBool hf with ⟨hcs, _⟩ | ⟨a, len, cap, B, hcs, _, h1, h2, h3, h4⟩
  · simp [Value.cells] at hcs
    obtain ⟨rfl, rfl, rfl⟩ := hcs
    exact ⟨none, [], 0, rfl, ⟨by decide, by decide, .inl rfl⟩, fun _ => rfl, by decide⟩
  · simp [Value.cells] at hcs
    obtain ⟨rfl, rfl, rfl⟩ := hcs
    have e : d = Deep.boolRow (some a) len0 cap0 B := congrArg Prod.fst h3
    have hs := sized_slice hz ht (by rw [hd, e]; rfl) Try.underlying23
    rw [bytesBool, List.length_map, List.length_range] at hs
    have hr : reachBytes = 140737488351232 := rfl
    refine ⟨some a, (List.range len0).map B, cap0, by simp, ⟨by simpa using h1, h2, ?_⟩, (fun e => by cases e), (by simp; omega)⟩
    by_cases h0 : len0 = 0
    · exact .inl (by rw [h0]; rfl)
    · right
      obtain ⟨blk, off, spot⟩ := a
      have q0 := h4 0 (by omega)
      have hspot : spot = none := by simpa [Addr.add] using World.cell?_spot q0
      subst hspot
      refine ⟨blk, off, rfl, fun i hi => ?_⟩
      have hi' : i < len0 := by simpa using hi
      have := h4 i (by omega)
      rw [Addr.add_lit] at this
      rw [this]
      simp [hi']
theorem open_pair {v : Value} {d : DataW H} {ps : List MemPlace} {b0 : Nat} (hv : Value.okWide Try.prog W .any b0 25 v) (h : DataW.Trod enc Try.prog W 0 (fun _ => true) true 25 v d ps) :
    ∃ x y : Int, v = .agg #[.int .i64 x, .int .i64 y] := by
  obtain ⟨c0, c1, y0, y1, m, rfl, rfl, rfl, hy0, hy1⟩ := Joins.open_agg2 Try.underlying25 (by kernel_rfl) cellsAt hv h
  obtain ⟨x, e0, rfl, _⟩ := DataW.trod_int Try.underlying3 hy0
  obtain ⟨y, e1, rfl, _⟩ := DataW.trod_int Try.underlying3 hy1
  simp at e0 e1
  subst e0 e1
  exact ⟨x, y, rfl⟩
theorem open_fifteen {v : Value} {d : DataW H} {ps : List MemPlace} {b0 : Nat} (hv : Value.okWide Try.prog W .any b0 38 v) (h : DataW.Trod enc Try.prog W 0 (fun _ => true) true 38 v d ps) :
    ∃ (cs : Array Value) (b : List Bool), v = .agg cs ∧ b.length = 15 ∧ ∀ i, i < 15 → cs[i]? = some (.bool (b.getD i false)) := by
  simp only [Value.okWide, Try.underlying38] at hv
  obtain ⟨cs, rfl, hsz, _⟩ := hv
  rw [cellsFif] at hsz
  obtain ⟨fuel, hf⟩ := h
  obtain ⟨xs, m, rfl, hx, _, hxl, hel⟩ := DataW.trod_array Try.underlying38 hf
  rw [cellsBool] at hel
  obtain ⟨B, hB⟩ := Deep.choose_lt (α := Bool) (n := 15) (p := fun i b => cs[i]? = some (.bool b)) (fun i hi => by
    have h1 := hel i hi
    rw [List.getElem?_eq_getElem (by omega : i < xs.length)] at h1
    obtain ⟨b, e, _⟩ := DataW.trod_bool Try.underlying4 h1
    refine ⟨b, ?_⟩
    have h2 : (cs.toList.drop (i * 1)).take 1 = [Value.bool b] := by simpa [Value.cells] using e
    have h3 := congrArg (fun l => l[0]?) h2
    simp only [List.getElem?_take, List.getElem?_drop] at h3
    simpa using h3)
  exact ⟨cs, (List.range 15).map B, rfl, by simp, fun i hi => by rw [hB i hi]; simp [List.getD_eq_getElem?_getD, hi]⟩
end
end Go.Proofs.Ytbkehlppngejnaa
