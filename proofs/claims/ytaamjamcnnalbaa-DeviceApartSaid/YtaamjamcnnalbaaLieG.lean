/-
  Rows of values of any shape: each element some cells; how they lie in memory; rows of the call's own. Of no program.
-/
import Derived.Test.YtaamjamcnnalbaaGe
import Derived.Laws.OwnMore
namespace Go.Proofs.Ytaamjamcnnalbaa
set_option maxRecDepth 100000
open Go.RowKit Go.Lib
/-- how an element lies: in how many cells, and which -/
structure Shape (α : Type) where
  size : Nat
  cells : α → List Value
  len : ∀ x, (cells x).length = size
  one : ∀ x, ∀ u ∈ cells x, u.oneCell' = true
def flat {α : Type} (S : Shape α) (L : List α) : List Value := L.flatMap S.cells
section
variable {α : Type} {S : Shape α}
theorem flat_length : ∀ L : List α, (flat S L).length = L.length * S.size
  | [] => by simp [flat]
  | x :: L => by
    have := flat_length L
    unfold flat at *
    rw [List.flatMap_cons, List.length_append, this, S.len, List.length_cons, Nat.add_mul, Nat.one_mul, Nat.add_comm]
theorem flat_append (L M : List α) : flat S (L ++ M) = flat S L ++ flat S M := by unfold flat; rw [List.flatMap_append]
theorem flat_nil : flat S [] = [] := rfl
theorem flat_one (x : α) : flat S [x] = S.cells x := by simp [flat]
theorem flat_cell (L : List α) : ∀ u ∈ flat S L, u.oneCell' = true := fun u hu => by
  obtain ⟨x, _, h⟩ := List.mem_flatMap.1 hu
  exact S.one x u h
theorem flat_get : ∀ (L : List α) (i : Nat) (h : i < L.length) (j : Nat) (v : Value), (S.cells L[i])[j]? = some v → (flat S L)[i * S.size + j]? = some v
  | x :: L, 0, _, j, v, hv => by
    have hj : j < (S.cells x).length := (List.getElem?_eq_some_iff.1 hv).1
    show (S.cells x ++ flat S L)[0 * S.size + j]? = _
    rw [Nat.zero_mul, Nat.zero_add, List.getElem?_append_left hj]; exact hv
  | x :: L, i + 1, h, j, v, hv => by
    have := flat_get L i (by simpa using h) j v (by simpa using hv)
    show (S.cells x ++ flat S L)[(i + 1) * S.size + j]? = _
    rw [List.getElem?_append_right (by rw [S.len, Nat.add_mul, Nat.one_mul]; omega), S.len, show (i + 1) * S.size + j - S.size = i * S.size + j by rw [Nat.add_mul, Nat.one_mul]; omega]
    exact this
/-- elements that lie from a place on -/
def SAt (S : Shape α) (w : World) (blk off : Nat) (L : List α) : Prop := ∀ i (h : i < L.length) j v, (S.cells L[i])[j]? = some v → w.cell? ⟨blk, off + i * S.size + j, none⟩ = some v
theorem SAt.below {w w' : World} {blk off : Nat} {L : List α} (h : SAt S w blk off L) (hb : Below w.heap.size w w') : SAt S w' blk off L := fun i hi j v hv => by
  rw [hb.cell (p := ⟨blk, off + i * S.size + j, none⟩) (World.block_lt_of_cell? w _ (h i hi j v hv))]; exact h i hi j v hv
/-- a list of elements, and where it lies -/
structure SLie (S : Shape α) (w : World) (p : Option Addr) (L : List α) (k : Nat) : Prop where
  len : L.length ≤ k
  cap : k ≤ maxLen
  lies : L = [] ∨ ∃ blk off, p = some ⟨blk, off, none⟩ ∧ SAt S w blk off L
  none0 : p = none → k = 0
theorem SLie.below {w w' : World} {p : Option Addr} {L : List α} {cap : Nat} (h : SLie S w p L cap) (hb : Below w.heap.size w w') : SLie S w' p L cap :=
  ⟨h.len, h.cap, h.lies.imp id fun ⟨blk, off, e, k⟩ => ⟨blk, off, e, k.below hb⟩, h.none0⟩
theorem SLie.at {w : World} {p : Option Addr} {L : List α} {cap : Nat} (h : SLie S w p L cap) {i : Nat} (hi : i < L.length) : ∃ blk off, p = some ⟨blk, off, none⟩ ∧ SAt S w blk off L := by
  rcases h.lies with rfl | h
  · simp at hi
  · exact h
theorem SLie.nil (w : World) : SLie S w none ([] : List α) 0 := ⟨Nat.le_refl _, Nat.zero_le _, .inl rfl, fun _ => rfl⟩
/-- a row of the call's own: where it lies -/
theorem slie_own {w : World} {B n d : Nat} {e : TypeId} {q : Option Addr} {L : List α} (h : w.ownsRow B e S.size (.slice q n d) n (flat S L)) (hn : L.length = n) : SLie S w q L d := by
  rcases h.2 with ⟨h1, h2⟩ | ⟨g', cap', cur, h1, h2, h3, h4, h5, h6⟩
  · cases h1
    exact ⟨by omega, Nat.zero_le _, .inl (List.length_eq_zero_iff.1 (by omega)), fun _ => rfl⟩
  · cases h1
    refine ⟨by omega, h5, .inr ⟨g', 0, rfl, fun i hi j v hv => ?_⟩, fun e => by cases e⟩
    have h7 := flat_get L i hi j v hv
    have h8 : i * S.size + j < n * S.size := by
      have := (List.getElem?_eq_some_iff.1 h7).1
      rw [flat_length, hn] at this; exact this
    rw [Nat.zero_add, h.cellAt (i * S.size + j) h8]; exact h7
/-- the elements as an append reads them -/
theorem slie_news {w : World} {p : Addr} {L : List α} {cap : Nat} (h : SLie S w (some p) L cap) : ∀ j u, (flat S L)[j]? = some u → w.cell? (p.add j) = some u := fun j u hj => by
  have hlt : j < (flat S L).length := (List.getElem?_eq_some_iff.1 hj).1
  rcases h.lies with rfl | ⟨blk, off, e, k⟩
  · simp [flat] at hlt
  · cases e
    rw [flat_length] at hlt
    have hs : 0 < S.size := by rcases Nat.eq_zero_or_pos S.size with z | z; (rw [z] at hlt; omega); exact z
    have hi : j / S.size < L.length := (Nat.div_lt_iff_lt_mul hs).2 hlt
    have hm : j % S.size < S.size := Nat.mod_lt _ hs
    have e2 : j / S.size * S.size + j % S.size = j := by rw [Nat.mul_comm]; exact Nat.div_add_mod j S.size
    have hv : ∃ v, (S.cells L[j / S.size])[j % S.size]? = some v := ⟨_, List.getElem?_eq_getElem (by rw [S.len]; exact hm)⟩
    obtain ⟨v, hv⟩ := hv
    have h1 := flat_get L _ hi _ v hv
    rw [e2, hj] at h1
    cases h1
    have h2 := k _ hi _ _ hv
    rw [Nat.add_assoc, e2] at h2
    rw [Addr.add_lit]; exact h2
end
theorem below_old {w w' : World} {B : Nat} (h : Below B w w') {b : Nat} (hb : b < B) : w'.heap[b]? = w.heap[b]? := h.block b hb
/-- texts -/
def strS : Shape ByteArray := ⟨1, fun s => [.string s], fun _ => rfl, fun _ u hu => by simp at hu; subst hu; rfl⟩
end Go.Proofs.Ytaamjamcnnalbaa

