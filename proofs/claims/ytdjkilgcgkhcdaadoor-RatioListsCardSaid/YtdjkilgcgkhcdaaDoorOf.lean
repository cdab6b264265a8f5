/-
  What a slice of floats that came in reads as; RatioSorted returns true for every list of floats.
-/
import Derived.Test.YtdjkilgcgkhcdaaDoorSe
import Derived.Test.YtdjkilgcgkhcdaaDoorSp
import Derived.Test.YtdjkilgcgkhcdaaDoorPf
import Derived.Deep.Slices
import Derived.ChangeOld
namespace Go.Proofs.YtdjkilgcgkhcdaaDoor
open Go.ChangeShapes Go.WideShapes Go.ChangeAt Go.RowKit Go.Fl
section
variable {H : Type} {enc : TypeId × Value → H} {P : Program} {w : World} {base : Nat} {sp : Nat → Bool} {held : Bool}
theorem trod_floats {k : FloatKind} {fuel : Nat} {t : TypeId} {cs : List Value} {x : DataW H × List MemPlace} (ht : P.underlying t = some (.float k)) (h : DataW.trod enc P w base sp held fuel t cs = some x) :
    ∃ n, cs = [.float k n] ∧ (Lit.float k n).wf = true := by
  cases fuel with
  | zero => simp [DataW.trod] at h
  | succ n =>
    unfold DataW.trod at h
    rw [ht] at h
    split at h <;> simp_all
/-- A slice of floats that came in. -/
theorem open_floats {t e : TypeId} {fuel : Nat} {cs : List Value} {x : DataW H × List MemPlace} (ht : P.underlying t = some (.slice e)) (he : P.underlying e = some (.float .f64)) (hc : P.cellsOf e = 1) (h : DataW.trod enc P w base sp held fuel t cs = some x) :
    cs = [.slice none 0 0] ∨ ∃ (a : Addr) (cap : Nat) (l : List Nat), cs = [.slice (some a) l.length cap] ∧ l.length ≤ cap ∧ cap ≤ maxLen ∧ (∀ i, i < l.length → w.cell? (a.add i) = some (.float .f64 (l.getD i 0))) ∧ (∀ i, l.getD i 0 < 2 ^ 64) := by
  rcases Deep.open_slice ht h with ⟨h1, _⟩ | ⟨a, len, cap, m, n, D, Pl, h1, _, hl, hm, hmm, _, hd⟩
  · exact .inl h1
  · right
    have hlm : len ≤ m := by rw [hmm]; split <;> omega
    have each : ∀ i, i < len → ∃ b, w.cell? (a.add i) = some (.float .f64 b) ∧ b < 2 ^ 64 := fun i hi => by
      obtain ⟨cs', hcs, htr⟩ := hd i (by omega)
      rw [hc, Nat.mul_one] at hcs
      obtain ⟨b, rfl, hw⟩ := trod_floats he htr
      exact ⟨b, cell_of_cells?_one hcs, by simpa [Lit.wf] using hw⟩
    let f : Nat → Nat := fun i => match w.cell? (a.add i) with | some (.float _ b) => b | _ => 0
    have hf : ∀ i, i < len → w.cell? (a.add i) = some (.float .f64 (f i)) ∧ f i < 2 ^ 64 := fun i hi => by
      obtain ⟨b, hb, hlt⟩ := each i hi
      have e : f i = b := by show (match w.cell? (a.add i) with | some (.float _ b) => b | _ => 0) = b; rw [hb]
      rw [e]; exact ⟨hb, hlt⟩
    have hg : ∀ i, i < len → ((List.range len).map f).getD i 0 = f i := fun i hi => by
      rw [List.getD_eq_getElem?_getD, List.getElem?_eq_getElem (by simpa using hi)]; simp
    refine ⟨a, cap, (List.range len).map f, by simpa using h1, by simpa using hl, hm, fun i hi => ?_, fun i => ?_⟩
    · have hi' : i < len := by simpa using hi
      rw [hg i hi']; exact (hf i hi').1
    · by_cases hi : i < len
      · rw [hg i hi]; exact (hf i hi).2
      · rw [List.getD_eq_getElem?_getD, List.getElem?_eq_none (by simpa using hi)]; decide
end
/-- RatioSorted, of whichever slice. -/
theorem sorted_any (a : Option Addr) (l : List Nat) (cap : Nat) (w : World) (S : Std w w) (hm : l.length ≤ maxLen) (hl : ∀ i, l.getD i 0 < 2 ^ 64) (h : l.length = 0 ∨ ∃ x, a = some x ∧ ∀ i, i < l.length → w.cell? (x.add i) = some (.float .f64 (l.getD i 0))) :
    Calls Tryd.prog 6 #[.slice a l.length cap] w fun e w' => e = .returned (.bool true) ∧ Std w w' := by
  by_cases h0 : l.length = 0
  · rw [h0]; exact sorted_empty a cap w S
  · by_cases h1 : 200 < l.length
    · exact sorted_long l.length h1 (by unfold maxLen at hm; omega) a cap w S
    · rcases h with h | ⟨⟨blk, off, spot⟩, rfl, hc⟩
      · exact absurd h h0
      · have hc0 := hc 0 (by omega)
        have hspot : spot = none := by simpa [Addr.add] using World.cell?_spot hc0
        subst hspot
        haveI : Inhabited (Fin l.length) := ⟨⟨0, by omega⟩⟩
        have hb : blk < w.heap.size := Nat.lt_of_not_le fun hle => by
          have hnone : w.heap[blk]? = none := by simp; exact hle
          simp [Addr.add, World.cell?, hnone] at hc0
        exact sorted_walk l (by omega) (by omega) blk off cap w S hb ⟨fun i hi => by
          have := hc i hi
          by_cases e : i = 0
          · subst e; simpa [Addr.add] using this
          · simpa [Addr.add, e] using this, hl⟩
end Go.Proofs.YtdjkilgcgkhcdaaDoor
