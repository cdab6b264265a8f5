/-
  Contracts of the document's Same and of Take.
-/
import Derived.Test.YtbkehlppngejnaaBitRd
import Derived.BigQuiet
namespace Go.Proofs.Ytbkehlppngejnaa
open Go.RowKit Mb Go.Lib
theorem BoolsAt.below {w w' : World} {blk off : Nat} {l : List Bool} (h : BoolsAt w blk off l) (hb : Below w.heap.size w w') : BoolsAt w' blk off l :=
  ⟨fun i hi => by rw [hb.cell (p := ⟨blk, off + i, none⟩) (World.block_lt_of_cell? w _ (h.cell i hi))]; exact h.cell i hi⟩
theorem list_of_getD {l m : List Bool} (h : l.length = m.length) (hd : ∀ i, i < l.length → l.getD i false = m.getD i false) : l = m := by
  apply List.ext_getElem h
  intro i h1 h2
  have := hd i h1
  simpa [h1, h2] using this
end Go.Proofs.Ytbkehlppngejnaa

