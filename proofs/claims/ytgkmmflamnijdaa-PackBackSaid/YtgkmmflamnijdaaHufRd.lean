/-
  The document's trees on their way: the row of bits, the row of trees, the rows of symbols.
-/
import Derived.Test.YtgkmmflamnijdaaHufRc
import Derived.Maps.AppendAt
namespace Go.Proofs.Ytgkmmflamnijdaa
set_option maxRecDepth 100000
open Go.RowKit Go.Lib
theorem info3 : (Try.prog.info? 3).map (fun i => (i.zero, i.size, i.bytes)) = some (some (.int .i64 0), 1, 8) := by kernel_rfl
def ints (D : List Nat) : List Value := D.map fun x : Nat => Value.int .i64 (x : Int)
theorem ints_len (D : List Nat) : (ints D).length = D.length * 1 := by unfold ints; rw [List.length_map, Nat.mul_one]
theorem ints_one (D : List Nat) : ∀ u ∈ ints D, u.oneCell' = true := fun u hu => by
  unfold ints at hu
  obtain ⟨x, _, rfl⟩ := List.mem_map.1 hu
  rfl
theorem row_block {w : World} {B e n s : Nat} {v : Value} {xs : List Value} (h : w.ownsRow B e s v n xs) {g : Nat} (hg : v.ownBlock = some g) : B ≤ g ∧ g < w.heap.size ∧ ∃ c, w.heap[g]? = some (.cells c e (0, 0)) := by
  have hl := h.lt g hg
  rcases h.2 with ⟨rfl, _⟩ | ⟨g', cap, cur, rfl, hb, hh, _⟩
  · cases hg
  · cases hg; exact ⟨hb, hl.2, cur, hh⟩
/-- rows of different kinds lie apart -/
theorem row_kinds {w : World} {B B' e e' n n' s s' : Nat} {v v' : Value} {xs xs' : List Value} (h : w.ownsRow B e s v n xs) (h' : w.ownsRow B' e' s' v' n' xs') (hne : e ≠ e') : v.ownBlock = none ∨ v.ownBlock ≠ v'.ownBlock := by
  cases hv : v.ownBlock with
  | none => exact .inl rfl
  | some g =>
    refine .inr fun e1 => ?_
    obtain ⟨_, _, c, h1⟩ := row_block h hv
    obtain ⟨_, _, c', h2⟩ := row_block h' e1.symm
    rw [h1] at h2
    cases h2
    exact hne rfl
theorem row_later {B e size n : Nat} {w w1 : World} {v : Value} {xs : List Value} (h : w.ownsRow B e size v n xs) (hb : Below w.heap.size w w1) : w1.ownsRow B e size v n xs :=
  h.kept (row := Option.none) ⟨hb.os, hb.tape, hb.output, hb.size, fun k hk _ => hb.block k hk⟩ (by cases h : v.ownBlock <;> simp)
/-- the list of a tree's symbols -/
def inV (e : El) : Value := .slice (some ⟨e.b, 0, none⟩) e.t.syms.length e.cap
structure St (w0 w : World) (v3 v4 : Value) (D : List Nat) (E : List El) : Prop where
  out : w.ownsRow w0.heap.size 3 1 v3 D.length (ints D)
  row : w.ownsRow w0.heap.size 92 3 v4 E.length (ecs E)
  ins : ∀ e ∈ E, w.ownsRow w0.heap.size 3 1 (inV e) e.t.syms.length (ints e.t.syms)
  apart : ∀ e ∈ E, v3.ownBlock ≠ some e.b
  below : Below w0.heap.size w0 w
variable {w0 w w' : World} {v3 v4 : Value} {D : List Nat} {E : List El}
theorem St.later (h : St w0 w v3 v4 D E) (hb : Below w.heap.size w w') : St w0 w' v3 v4 D E :=
  ⟨row_later h.out hb, row_later h.row hb, fun e he => row_later (h.ins e he) hb, h.apart, h.below.next hb⟩
/-- the row of bits grows -/
theorem St.grow {v : Value} (h : St w0 w v3 v4 D E) (gr : w.grownBy w' v3.ownBlock) (hl : v.ownBlock = v3.ownBlock ∨ v.ownBlock = some w.heap.size) (D' : List Nat) (ho : w'.ownsRow w0.heap.size 3 1 v D'.length (ints D')) : St w0 w' v v4 D' E := by
  refine ⟨ho, h.row.kept gr (row_kinds h.row h.out (by decide)), fun e he => (h.ins e he).kept gr (.inr fun e1 => h.apart e he e1.symm), fun e he => ?_, h.below.grown gr h.below.size fun b hb => (h.out.lt b hb).1⟩
  rcases hl with h1 | h1
  · rw [h1]; exact h.apart e he
  · rw [h1]
    intro e1
    have := (row_block (h.ins e he) (g := e.b) rfl).2.1
    have e2 := Option.some.inj e1
    omega
/-- the row of trees grows by one -/
theorem St.put {v : Value} (h : St w0 w v3 v4 D E) (gr : w.grownBy w' v4.ownBlock) (E' : List El) (ho : w'.ownsRow w0.heap.size 92 3 v E'.length (ecs E')) (hi : ∀ e ∈ E', w.ownsRow w0.heap.size 3 1 (inV e) e.t.syms.length (ints e.t.syms)) (ha : ∀ e ∈ E', v3.ownBlock ≠ some e.b) : St w0 w' v3 v D E' :=
  ⟨h.out.kept gr (row_kinds h.out h.row (by decide)), ho, fun e he => (hi e he).kept gr (row_kinds (hi e he) h.row (by decide)), ha, h.below.grown gr h.below.size fun b hb => (h.row.lt b hb).1⟩
/-- another row of trees, of some of them -/
theorem St.other {v : Value} (h : St w0 w v3 v4 D E) (E' : List El) (hs : ∀ e ∈ E', e ∈ E) (ho : w.ownsRow w0.heap.size 92 3 v E'.length (ecs E')) : St w0 w v3 v D E' :=
  ⟨h.out, ho, fun e he => h.ins e (hs e he), fun e he => h.apart e (hs e he), h.below⟩
theorem row_form {B e s n : Nat} {v : Value} {xs : List Value} (h : w.ownsRow B e s v n xs) (hn : 0 < n) : ∃ g cap, v = .slice (some ⟨g, 0, none⟩) n cap ∧ n ≤ cap ∧ cap ≤ maxLen ∧ g < w.heap.size ∧ B ≤ g := by
  have h0 := h
  rcases h.2 with ⟨_, h0⟩ | ⟨g, cap, cur, rfl, hb, hg, h1, h2, _⟩
  · omega
  · exact ⟨g, cap, rfl, h1, h2, (Array.getElem?_eq_some_iff.1 hg).1, hb⟩
theorem ints_get {B n g cap : Nat} (h : w.ownsRow B 3 1 (.slice (some ⟨g, 0, none⟩) n cap) n (ints D)) {i : Nat} (hi : i < D.length) : w.cell? ⟨g, i, none⟩ = some (.int .i64 (D[i] : Nat)) := by
  have := h.cells (g := g) rfl i (.int .i64 (D[i] : Nat)) (by unfold ints; simp [hi])
  rwa [Addr.add_lit, Nat.zero_add] at this
theorem one_int (w : World) (x : Nat) : ∀ j u, (ints [x])[j]? = some u → (w.alloc (.cells #[.int .i64 (x : Int)] 3)).cell? ((⟨w.heap.size, 0, Option.none⟩ : Addr).add j) = some u := fun j u hj => by
  match j, hj with
  | 0, hj => simp [ints] at hj; subst hj; simp [Addr.add]
  | j + 1, hj => simp [ints] at hj
/-- leaves of the first symbols -/
def firsts (f : List Nat) (i : Nat) : List Hf.T := ((List.range i).filter fun j => decide (0 < f.getD j 0)).map fun j => Hf.T.leaf j (f.getD j 0)
theorem firsts_succ (f : List Nat) (i : Nat) : firsts f (i + 1) = firsts f i ++ (if 0 < f.getD i 0 then [Hf.T.leaf i (f.getD i 0)] else []) := by
  unfold firsts
  rw [List.range_succ, List.filter_append, List.map_append]
  congr 1
  by_cases h : 0 < f.getD i 0
  · rw [if_pos h, List.filter_cons, decide_eq_true h]; rfl
  · rw [if_neg h, List.filter_cons, decide_eq_false h]; rfl
theorem firsts_all (f : List Nat) : firsts f f.length = Hf.leaves f := rfl
end Go.Proofs.Ytgkmmflamnijdaa

