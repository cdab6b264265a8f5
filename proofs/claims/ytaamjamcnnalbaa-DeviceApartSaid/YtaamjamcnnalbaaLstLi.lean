/-
  Lists of numbers, and of bits, that lie in memory; a walk that stands still at an append.
-/
import Derived.Test.YtaamjamcnnalbaaGe
namespace Go.Proofs.Ytaamjamcnnalbaa
set_option maxRecDepth 100000
open Go.RowKit Go.Lib
theorem ret_bool {a b : Bool} (h : a = b) : Ending.returned (.bool a) = .returned (.bool b) := by rw [h]
/-- a walk stands still here -/
def Stop (p : Prop) : Prop := p
theorem stop_append {P : Program} {ops : Array Oper} {rest : List Oper} {a : Act} {Q : Exit → Act → World → Prop} {w : World} {dst : Option Tmp} {ty : TypeId} {ps : String} {af : Array Edge} {t : TypeId} {x y : Operand}
    (h : Stop (wpList P ops Q (⟨dst, Op.call { callee := Callee.builtin Builtin.append, args := #[x, y], argTypes := #[t, t] }, ty, ps, af, none⟩ :: rest) a w)) :
    wpList P ops Q (⟨dst, Op.call { callee := Callee.builtin Builtin.append, args := #[x, y], argTypes := #[t, t] }, ty, ps, af, none⟩ :: rest) a w := h
/-- numbers that lie from a place on -/
def IntsAt (w : World) (blk off : Nat) (L : List Int) : Prop := ∀ i (h : i < L.length), w.cell? ⟨blk, off + i, none⟩ = some (.int .i64 L[i])
theorem IntsAt.below {w w' : World} {blk off : Nat} {L : List Int} (h : IntsAt w blk off L) (hb : Below w.heap.size w w') : IntsAt w' blk off L := fun i hi => by
  rw [hb.cell (p := ⟨blk, off + i, none⟩) (World.block_lt_of_cell? w _ (h i hi))]; exact h i hi
/-- a list of numbers, and where it lies -/
structure IntsLie (w : World) (p : Option Addr) (L : List Int) (cap : Nat) : Prop where
  len : L.length ≤ cap
  cap : cap ≤ maxLen
  lies : L = [] ∨ ∃ blk off, p = some ⟨blk, off, none⟩ ∧ IntsAt w blk off L
theorem IntsLie.below {w w' : World} {p : Option Addr} {L : List Int} {cap : Nat} (h : IntsLie w p L cap) (hb : Below w.heap.size w w') : IntsLie w' p L cap :=
  ⟨h.len, h.cap, h.lies.imp id fun ⟨blk, off, e, k⟩ => ⟨blk, off, e, k.below hb⟩⟩
theorem IntsLie.at {w : World} {p : Option Addr} {L : List Int} {cap : Nat} (h : IntsLie w p L cap) {i : Nat} (hi : i < L.length) : ∃ blk off, p = some ⟨blk, off, none⟩ ∧ IntsAt w blk off L := by
  rcases h.lies with rfl | h
  · simp at hi
  · exact h
def nums (f : List Nat) : List Int := f.map fun x : Nat => (x : Int)
theorem nums_len (f : List Nat) : (nums f).length = f.length := by unfold nums; rw [List.length_map]
theorem nums_get (f : List Nat) (i : Nat) (h : i < (nums f).length) : (nums f)[i] = ((f.getD i 0 : Nat) : Int) := by
  have h' : i < f.length := by rw [nums_len] at h; exact h
  show (f.map fun x : Nat => (x : Int))[i]'(by rw [List.length_map]; exact h') = _
  rw [List.getElem_map, List.getD_eq_getElem?_getD, List.getElem?_eq_getElem h']; rfl
theorem nums_at (D : List Nat) (i : Nat) (h : i < (nums D).length) : (nums D)[i] = ((D[i]'(by rw [nums_len] at h; exact h) : Nat) : Int) := List.getElem_map _
theorem lit_lie (w : World) (l : List Int) (h : l.length ≤ 100) : IntsLie (w.alloc (.cells (l.map fun x => Value.int .i64 x).toArray 3)) (some ⟨w.heap.size, 0, none⟩) l l.length := by
  refine ⟨Nat.le_refl _, by unfold maxLen; omega, .inr ⟨_, _, rfl, fun i hi => ?_⟩⟩
  rw [Nat.zero_add, cell_of_row _ _ i _ 3 (0, 0) (heap_alloc_new w _)]
  simp [hi]
theorem all_take {α : Type} (L : List α) (q : α → Bool) (i : Nat) (h : i < L.length) : (L.take (i + 1)).all q = ((L.take i).all q && q L[i]) := by
  rw [List.take_succ_eq_append_getElem h, List.all_append]; simp
def mayI (x : Int) : Bool := decide (0 ≤ x) && decide (x ≤ 100000)
/-- bits that lie from a place on -/
def FlagsAt (w : World) (blk off : Nat) (l : List Bool) : Prop := ∀ i, i < l.length → w.cell? ⟨blk, off + i, none⟩ = some (.bool (l.getD i false))
theorem FlagsAt.below {w w' : World} {blk off : Nat} {l : List Bool} (h : FlagsAt w blk off l) (hb : Below w.heap.size w w') : FlagsAt w' blk off l := fun i hi => by
  rw [hb.cell (p := ⟨blk, off + i, none⟩) (World.block_lt_of_cell? w _ (h i hi))]; exact h i hi
/-- a list of bits, and where it lies -/
structure FlagsLie (w : World) (p : Option Addr) (l : List Bool) (cap : Nat) : Prop where
  len : l.length ≤ cap
  cap : cap ≤ maxLen
  lies : l = [] ∨ ∃ blk off, p = some ⟨blk, off, none⟩ ∧ FlagsAt w blk off l
theorem FlagsLie.below {w w' : World} {p : Option Addr} {l : List Bool} {cap : Nat} (h : FlagsLie w p l cap) (hb : Below w.heap.size w w') : FlagsLie w' p l cap :=
  ⟨h.len, h.cap, h.lies.imp id fun ⟨blk, off, e, k⟩ => ⟨blk, off, e, k.below hb⟩⟩
theorem FlagsLie.at {w : World} {p : Option Addr} {l : List Bool} {cap : Nat} (h : FlagsLie w p l cap) {i : Nat} (hi : i < l.length) : ∃ blk off, p = some ⟨blk, off, none⟩ ∧ FlagsAt w blk off l := by
  rcases h.lies with rfl | h
  · simp at hi
  · exact h
end Go.Proofs.Ytaamjamcnnalbaa
