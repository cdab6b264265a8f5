/-
  Maths of binary heaps over lists: what container/heap's up and down do. No condition.
-/
import Derived.Test.YthehjhckcblbdaaHufM
import Derived.Test.YthehjhckcblbdaaLstX
import Derived.Sort.WalkB2
import Derived.Deep.QuietTactic
import Derived.RegionTactic
import Derived.Maps.AppendAt
import Derived.Deep.Slices
import Derived.WalkSmall
import Derived.Deep.AppendLies
import Derived.Deep.RegionLaw
import Derived.Deep.RegionHeld3
namespace Go.Proofs.Ythehjhckcblbdaa.Hf
set_option maxRecDepth 100000
/-- y is not taken ahead of x -/
def le (x y : T) : Prop := ¬ T.lt y x
theorem le_refl (x : T) : le x x := by unfold le T.lt; omega
theorem le_trans {x y z : T} (h : le x y) (k : le y z) : le x z := by unfold le T.lt at *; omega
theorem le_of_lt {x y : T} (h : T.lt x y) : le x y := by unfold le T.lt at *; omega
theorem le_total (x y : T) : le x y ∨ le y x := by unfold le T.lt; omega
def T0 : T := .leaf 0 0
def g (l : List T) (i : Nat) : T := l.getD i T0
theorem g_get {l : List T} {i : Nat} (h : i < l.length) : g l i = l[i] := by unfold g; rw [List.getD_eq_getElem?_getD, List.getElem?_eq_getElem h]; rfl
def swp (l : List T) (i j : Nat) : List T := (l.set i (g l j)).set j (g l i)
theorem swp_length (l : List T) (i j : Nat) : (swp l i j).length = l.length := by unfold swp; rw [List.length_set, List.length_set]
theorem swp_get {l : List T} {i j : Nat} (hi : i < l.length) (hj : j < l.length) (k : Nat) : g (swp l i j) k = if k = j then g l i else if k = i then g l j else g l k := by
  unfold g swp
  rw [List.getD_eq_getElem?_getD, List.getElem?_set]
  by_cases h1 : j = k
  · subst h1
    rw [if_pos rfl, if_pos rfl, List.length_set, if_pos hj]; rfl
  · rw [if_neg h1, if_neg (Ne.symm h1), List.getElem?_set]
    by_cases h2 : i = k
    · subst h2
      rw [if_pos rfl, if_pos rfl, if_pos hi]; rfl
    · rw [if_neg h2, if_neg (Ne.symm h2), List.getD_eq_getElem?_getD]
theorem swp_perm {l : List T} {i j : Nat} (hi : i < l.length) (hj : j < l.length) : (swp l i j).Perm l := by
  unfold swp
  rw [g_get hi, g_get hj]
  exact List.set_set_perm hi hj
/-- the first n of them are a heap -/
def Heap (l : List T) (n : Nat) : Prop := ∀ i, 0 < i → i < n → le (g l ((i - 1) / 2)) (g l i)
theorem heap_least {l : List T} {n : Nat} (h : Heap l n) : ∀ i, i < n → le (g l 0) (g l i) := by
  intro i
  induction i using Nat.strongRecOn with
  | ind i ih =>
    intro hi
    by_cases h0 : i = 0
    · subst h0; exact le_refl _
    · exact le_trans (ih ((i - 1) / 2) (by omega) (by omega)) (h i (by omega) hi)
/-- a heap but for what stands at j, which may be less than what is above it -/
structure Up (l : List T) (n j : Nat) : Prop where
  inn : j < n
  rest : ∀ i, 0 < i → i < n → i ≠ j → le (g l ((i - 1) / 2)) (g l i)
  kids : 0 < j → ∀ i, 0 < i → i < n → (i - 1) / 2 = j → le (g l ((j - 1) / 2)) (g l i)
theorem up_done {l : List T} {n j : Nat} (h : Up l n j) (hd : j = 0 ∨ le (g l ((j - 1) / 2)) (g l j)) : Heap l n := fun i h0 hi => by
  by_cases e : i = j
  · subst e
    rcases hd with h1 | h1
    · omega
    · exact h1
  · exact h.rest i h0 hi e
theorem up_step {l : List T} {n j : Nat} (h : Up l n j) (hn : n ≤ l.length) (hj : 0 < j) (hlt : T.lt (g l j) (g l ((j - 1) / 2))) : Up (swp l ((j - 1) / 2) j) n ((j - 1) / 2) := by
  have hjl : j < l.length := by have := h.inn; omega
  have hpl : (j - 1) / 2 < l.length := by omega
  have hne : (j - 1) / 2 ≠ j := by omega
  have sg := swp_get hpl hjl
  refine ⟨by have := h.inn; omega, fun i h0 hi hie => ?_, fun hp i h0 hi hic => ?_⟩
  · rw [sg, sg]
    by_cases e1 : i = j
    · subst e1
      rw [if_pos rfl, if_neg hne, if_pos rfl]
      exact le_of_lt hlt
    · rw [if_neg e1, if_neg hie]
      by_cases e2 : (i - 1) / 2 = j
      · rw [if_pos e2]
        exact h.kids hj i h0 hi e2
      · rw [if_neg e2]
        by_cases e3 : (i - 1) / 2 = (j - 1) / 2
        · rw [if_pos e3]
          have := h.rest i h0 hi e1
          rw [e3] at this
          exact le_trans (le_of_lt hlt) this
        · rw [if_neg e3]
          exact h.rest i h0 hi e1
  · have hpp : (((j - 1) / 2 - 1) / 2) ≠ j := by omega
    have hpp2 : (((j - 1) / 2 - 1) / 2) ≠ (j - 1) / 2 := by omega
    rw [sg, sg, if_neg hpp, if_neg hpp2]
    have top := h.rest ((j - 1) / 2) hp (by have := h.inn; omega) hne
    by_cases e1 : i = j
    · subst e1; rw [if_pos rfl]; exact top
    · rw [if_neg e1, if_neg (by omega)]
      have := h.rest i h0 hi e1
      rw [hic] at this
      exact le_trans top this
/-- what stands at m or below is a heap, of the first n -/
def From (l : List T) (n m : Nat) : Prop := ∀ k, 0 < k → k < n → m ≤ (k - 1) / 2 → le (g l ((k - 1) / 2)) (g l k)
theorem from_all {l : List T} {n : Nat} (h : From l n 0) : Heap l n := fun k h0 hk => h k h0 hk (Nat.zero_le _)
theorem from_none (l : List T) (n : Nat) : From l n (n / 2) := fun k h0 hk hm => by omega
/-- from m on a heap but for what stands at i, which may be more than what is below it -/
structure Down (l : List T) (n m i : Nat) : Prop where
  at_ : m ≤ i
  rest : ∀ k, 0 < k → k < n → m ≤ (k - 1) / 2 → (k - 1) / 2 ≠ i → le (g l ((k - 1) / 2)) (g l k)
  kids : m ≤ (i - 1) / 2 → 0 < i → ∀ k, 0 < k → k < n → (k - 1) / 2 = i → le (g l ((i - 1) / 2)) (g l k)
theorem from_down {l : List T} {n m : Nat} (h : From l n (m + 1)) : Down l n m m :=
  ⟨Nat.le_refl _, fun k h0 hk hm hne => h k h0 hk (by omega), fun h1 h2 => by omega⟩
theorem down_leaf {l : List T} {n m i : Nat} (h : Down l n m i) (hn : n ≤ 2 * i + 1) : From l n m := fun k h0 hk hm => h.rest k h0 hk hm (by omega)
/-- j: the lesser child -/
def Lesser (l : List T) (n i j : Nat) : Prop := (j = 2 * i + 1 ∨ j = 2 * i + 2) ∧ j < n ∧ ∀ k, 0 < k → k < n → (k - 1) / 2 = i → le (g l j) (g l k)
theorem down_done {l : List T} {n m i j : Nat} (h : Down l n m i) (hj : Lesser l n i j) (hd : le (g l i) (g l j)) : From l n m := fun k h0 hk hm => by
  by_cases e : (k - 1) / 2 = i
  · rw [e]; exact le_trans hd (hj.2.2 k h0 hk e)
  · exact h.rest k h0 hk hm e
theorem down_step {l : List T} {n m i j : Nat} (h : Down l n m i) (hn : n ≤ l.length) (hj : Lesser l n i j) (hlt : T.lt (g l j) (g l i)) : Down (swp l i j) n m j := by
  obtain ⟨hj1, hj2, hj3⟩ := hj
  have hjl : j < l.length := by omega
  have hil : i < l.length := by omega
  have hpar : (j - 1) / 2 = i := by omega
  have hne : i ≠ j := by omega
  have hmi := h.at_
  have sg := swp_get hil hjl
  refine ⟨by omega, fun k h0 hk hm hkj => ?_, fun _ h0j k h0 hk hkj => ?_⟩
  · rw [sg, sg, if_neg hkj]
    by_cases e1 : (k - 1) / 2 = i
    · rw [if_pos e1]
      by_cases e2 : k = j
      · rw [if_pos e2]; exact le_of_lt hlt
      · rw [if_neg e2, if_neg (by omega)]
        exact hj3 k h0 hk e1
    · rw [if_neg e1]
      have e2 : k ≠ j := by omega
      rw [if_neg e2]
      by_cases e3 : k = i
      · rw [if_pos e3]
        subst e3
        exact h.kids hm (by omega) j (by omega) hj2 hpar
      · rw [if_neg e3]
        exact h.rest k h0 hk hm e1
  · rw [sg, sg, hpar, if_neg hne, if_pos rfl, if_neg (by omega), if_neg (by omega)]
    have := h.rest k h0 hk (by omega) (by omega)
    rw [hkj] at this
    exact this
/-- what is put behind a heap may go up -/
theorem up_start {l : List T} {x : T} (h : Heap l l.length) : Up (l ++ [x]) (l.length + 1) l.length := by
  have same : ∀ i, i < l.length → g (l ++ [x]) i = g l i := fun i hi => by
    unfold g; rw [List.getD_eq_getElem?_getD, List.getD_eq_getElem?_getD, List.getElem?_append_left hi]
  refine ⟨by omega, fun i h0 hi hne => ?_, fun h0 i h0' hi hc => by omega⟩
  rw [same _ (by omega), same _ (by omega)]
  exact h i h0 (by omega)
/-- the last one, put first, may go down -/
theorem down_start {l : List T} {n : Nat} (h : Heap l (n + 1)) (hl : l.length = n + 1) : Down (swp l 0 n) n 0 0 := by
  have sg := swp_get (l := l) (i := 0) (j := n) (by omega) (by omega)
  refine ⟨Nat.le_refl _, fun k h0 hk _ hp => ?_, fun _ h0 => absurd h0 (by omega)⟩
  rw [sg, sg, if_neg (by omega), if_neg hp, if_neg (by omega), if_neg (by omega)]
  exact h k h0 (by omega)
end Go.Proofs.Ythehjhckcblbdaa.Hf
/-
  Methods called through an interface value that holds a pointer to a slice: which function, with which receiver; a heap's Less and Swap over trees that lie in memory (over a stand-in).
-/
namespace Go.Proofs.Ythehjhckcblbdaa
open Go.RowKit Go.Lib
set_option maxRecDepth 100000

theorem meth_push (a : Addr) (w : World) : (method 249 123 (.pointer (some a)) "Push").run Try.prog w = .ok (125, .pointer (some a)) w := by kernel_rfl

theorem meth_pop (a : Addr) (w : World) : (method 249 123 (.pointer (some a)) "Pop").run Try.prog w = .ok (124, .pointer (some a)) w := by kernel_rfl

theorem load_head (a : Addr) (v : Value) (w : World) (h : w.cell? a = some v) : (loadVar 99 a).run Try.prog w = .ok v w := by
  simp [loadVar, isAgg, h]

theorem nil_check (a : Addr) (w : World) (n : String) : (Builtin.ssaWrapNilChk_ #[123] 123 #[.pointer (some a), strVal "", strVal n]).run Try.prog w = .ok (.pointer (some a)) w := by kernel_rfl

theorem recv_head (a : Addr) (v : Value) (w : World) (h : w.cell? a = some v) (n : String) : (receiverAt 123 (.val (.pointer (some a))) false (some n)).run Try.prog w = .ok v w := by
  have hu : (underlying 123).run Try.prog w = .ok (.pointer 99) w := by kernel_rfl
  unfold receiverAt
  rw [Sem.run_bind, hu]
  simp only [Result.andThen_ok, Place.get]
  simp only [Sem.run_bind, Sem.run_pure, Result.andThen_ok, asAddr]
  rw [nil_check]
  simp [load_head a v w h]

/-- A method of a value receiver, called through a pointer: its function, and what the pointer's cell holds. -/
theorem meth_head (s : String) (f : FuncId) (sig : TypeId) (a : Addr) (v : Value) (w : World) (h : w.cell? a = some v)
    (hm : (Try.prog.info? 123).bind (fun i => i.methods.find? (·.name == s)) = some ⟨s, sig, #[], some (f, false)⟩) : (method 249 123 (.pointer (some a)) s).run Try.prog w = .ok (f, v) w := by
  cases hi : Try.prog.info? 123 with
  | none => rw [hi] at hm; exact absurd hm (by simp)
  | some i =>
    rw [hi] at hm
    have hm' : i.methods.find? (·.name == s) = some ⟨s, sig, #[], some (f, false)⟩ := hm
    unfold method
    simp only [Sem.run_bind, typeInfo, run_program, Result.andThen_ok, hi, Sem.run_pure, hm']
    have hf : (follow (#[] : Array FieldStep).toList 123 (Place.val (.pointer (some a)))).run Try.prog w = .ok (123, Place.val (.pointer (some a))) w := rfl
    rw [hf]
    simp only [Result.andThen_ok, Array.isEmpty_empty, if_true, recv_head a v w h]

theorem meth_len (a : Addr) (v : Value) (w : World) (h : w.cell? a = some v) : (method 249 123 (.pointer (some a)) "Len").run Try.prog w = .ok (121, v) w := meth_head _ _ 128 _ _ _ h (by kernel_rfl)
theorem meth_less (a : Addr) (v : Value) (w : World) (h : w.cell? a = some v) : (method 249 123 (.pointer (some a)) "Less").run Try.prog w = .ok (122, v) w := meth_head _ _ 32 _ _ _ h (by kernel_rfl)
theorem meth_swap (a : Addr) (v : Value) (w : World) (h : w.cell? a = some v) : (method 249 123 (.pointer (some a)) "Swap").run Try.prog w = .ok (123, v) w := meth_head _ _ 133 _ _ _ h (by kernel_rfl)


theorem drewN_two (w : World) (n m : Nat) : (w.drewN n).drewN m = w.drewN (n + m) := by unfold World.drewN; simp [Nat.add_assoc]
/-- Which of two trees is taken first: by weight, by number. -/
theorem less_at (blk c size : Nat) (W : World) (gi gj : Nat) (x y : Hf.T) (i j : Nat) (hi : i < size) (hj : j < size)
    (ci : W.cell? ⟨blk, i, none⟩ = some (.pointer (some ⟨gi, 0, none⟩))) (cj : W.cell? ⟨blk, j, none⟩ = some (.pointer (some ⟨gj, 0, none⟩)))
    (wi : W.cell? ⟨gi, 0, none⟩ = some (.int .i64 x.w)) (ni : W.cell? ⟨gi, 1, none⟩ = some (.int .i64 x.n))
    (wj : W.cell? ⟨gj, 0, none⟩ = some (.int .i64 y.w)) (nj : W.cell? ⟨gj, 1, none⟩ = some (.int .i64 y.n)) :
    Calls Try.prog 122 #[.slice (some ⟨blk, 0, none⟩) size c, .int .i64 i, .int .i64 j] W fun e w' => e = .returned (.bool (decide (Hf.T.lt x y))) ∧ ∃ q, w' = W.drewN q := by
  have hlt : Hid (decide (Hf.T.lt x y) = decide (x.w < y.w ∨ x.w = y.w ∧ x.n < y.n)) := rfl
  generalize decide (Hf.T.lt x y) = be at *
  generalize x.w = a at *
  generalize y.w = b at *
  generalize x.n = d at *
  generalize y.n = e at *
  by_cases hab : a = b
  · subst hab
    go_enter Try.func122, Try.ntmps122
    go_wp2
    go_quiet (fail)
    go_wp2
    go_quiet (fail)
    go_wp2
    go_ret
    exact ⟨by rw [hlt.out]; simp, _, drewN_two _ _ _⟩
  · have hz : ((a : Int) == (b : Int)) = false := by simp; omega
    go_enter Try.func122, Try.ntmps122
    go_wp2
    go_quiet (fail)
    go_wp2
    go_quiet (fail)
    go_wp2
    go_ret
    exact ⟨by rw [hlt.out]; simp [hab], _, drewN_two _ _ _⟩
theorem swap_at (blk c size : Nat) (W : World) (x y : Addr) (i j : Nat) (hi : i < size) (hj : j < size)
    (ci : W.cell? ⟨blk, i, none⟩ = some (.pointer (some x))) (cj : W.cell? ⟨blk, j, none⟩ = some (.pointer (some y))) (fi : W.frozen? ⟨blk, i, none⟩ = false) (fj : W.frozen? ⟨blk, j, none⟩ = false) :
    Calls Try.prog 123 #[.slice (some ⟨blk, 0, none⟩) size c, .int .i64 i, .int .i64 j] W fun e w' => e = .returned (.tuple #[]) ∧ ∃ q, w' = ((W.setCell ⟨blk, i, none⟩ (.pointer (some y))).setCell ⟨blk, j, none⟩ (.pointer (some x))).drewN q := by
  obtain ⟨v', hy'⟩ := cell?_setCell_some (w := W) (p := ⟨blk, i, none⟩) (x := .pointer (some y)) (q := ⟨blk, j, none⟩) cj
  go_enter Try.func123, Try.ntmps123
  go_wp2
  go_region
  all_goals (try go_wp2)
  all_goals go_end0
  all_goals exact ⟨rfl, 1, rfl⟩
end Go.Proofs.Ythehjhckcblbdaa
/-
  A row of trees in memory, and container/heap's up over it (over a stand-in).
-/
namespace Go.Proofs.Ythehjhckcblbdaa
open Go.RowKit Go.Lib Hf
set_option maxRecDepth 100000

/-- Nothing of the world has turned but block S. -/
structure Only (S : Nat) (w w' : World) : Prop where
  os : w'.os = w.os
  tape : w'.tape = w.tape
  output : w'.output = w.output
  size : w'.heap.size = w.heap.size
  block : ∀ k, k ≠ S → w'.heap[k]? = w.heap[k]?
theorem Only.refl (S : Nat) (w : World) : Only S w w := ⟨rfl, rfl, rfl, rfl, fun _ _ => rfl⟩
theorem Only.trans {S : Nat} {a b c : World} (h : Only S a b) (k : Only S b c) : Only S a c :=
  ⟨k.os.trans h.os, k.tape.trans h.tape, k.output.trans h.output, k.size.trans h.size, fun i hi => (k.block i hi).trans (h.block i hi)⟩
theorem Only.below {S : Nat} {w w' : World} (h : Only S w w') {B : Nat} (hB : B ≤ S) : Below B w w' := ⟨h.os, h.tape, h.output, Nat.le_of_eq h.size.symm, fun k hk => h.block k (by omega)⟩
theorem Only.cell {S : Nat} {w w' : World} (h : Only S w w') {p : Addr} (hp : p.block ≠ S) : w'.cell? p = w.cell? p := World.cell?_of_block (w := w) (h.block p.block hp)
theorem Only.frozen {S : Nat} {w w' : World} (h : Only S w w') {p : Addr} (hp : p.block ≠ S) : w'.frozen? p = w.frozen? p := World.frozen?_of_block (w := w) (h.block p.block hp)
theorem Only.drewN (S : Nat) (w : World) (q : Nat) : Only S w (w.drewN q) := ⟨rfl, rfl, rfl, rfl, fun _ _ => rfl⟩
theorem Only.setCell {S : Nat} {a w : World} (h : Only S a w) {p : Addr} (hp : p.block = S) (u : Value) : Only S a (w.setCell p u) :=
  ⟨h.os, h.tape, h.output, by rw [← h.size]; simp [World.setCell], fun k hk => by rw [Below.heap_setCell w p u k (by rw [hp]; exact hk)]; exact h.block k hk⟩

def ptr (b : Nat) : Value := .pointer (some ⟨b, 0, none⟩)
/-- A tree lies in memory, at block b. -/
def Lies (w : World) : Nat → T → Prop
  | b, .leaf i k => w.heap[b]? = some (.cells #[.int .i64 (k : Nat), .int .i64 (i : Nat), .pointer none, .pointer none] 121 (0, 0))
  | b, .node x y => ∃ p q, w.heap[b]? = some (.cells #[.int .i64 (T.node x y).w, .int .i64 (T.node x y).n, ptr p, ptr q] 121 (0, 0)) ∧ Lies w p x ∧ Lies w q y
theorem Lies.weight {w : World} : ∀ {t : T} {b : Nat}, Lies w b t → w.cell? ⟨b, 0, none⟩ = some (.int .i64 t.w)
  | .leaf _ _, _, h => cell_of_row w _ 0 _ 121 (0, 0) h
  | .node _ _, _, ⟨_, _, h, _⟩ => cell_of_row w _ 0 _ 121 (0, 0) h
theorem Lies.number {w : World} : ∀ {t : T} {b : Nat}, Lies w b t → w.cell? ⟨b, 1, none⟩ = some (.int .i64 t.n)
  | .leaf _ _, _, h => cell_of_row w _ 1 _ 121 (0, 0) h
  | .node _ _, _, ⟨_, _, h, _⟩ => cell_of_row w _ 1 _ 121 (0, 0) h
theorem Lies.keep {w w' : World} (hk : ∀ (b : Nat) (c : Array Value), w.heap[b]? = some (.cells c 121 (0, 0)) → w'.heap[b]? = some (.cells c 121 (0, 0))) : ∀ {t : T} {b : Nat}, Lies w b t → Lies w' b t
  | .leaf _ _, _, h => hk _ _ h
  | .node _ _, _, ⟨p, q, h, h1, h2⟩ => ⟨p, q, hk _ _ h, Lies.keep hk h1, Lies.keep hk h2⟩
theorem Lies.only {w w' : World} {S : Nat} {cur : Array Value} {fr : Nat × Nat} (hO : Only S w w') (hS : w.heap[S]? = some (.cells cur 101 fr)) {t : T} {b : Nat} (h : Lies w b t) : Lies w' b t :=
  h.keep fun b c hb => by
    rw [hO.block b (fun e => by subst e; rw [hS] at hb; cases hb)]
    exact hb
theorem row_cells {w : World} {base S n c : Nat} {e : TypeId} {xs : List Value} (h : w.ownsRow base e 1 (.slice (some ⟨S, 0, none⟩) n c) n xs) : ∃ cur, w.heap[S]? = some (.cells cur e (0, 0)) := by
  rcases h.2 with ⟨h1, _⟩ | ⟨g', cap', cur, h1, _, h2, _⟩
  · cases h1
  · cases h1; exact ⟨cur, h2⟩

/-- A row of trees that the call has made lies in block S. -/
def Trees (w : World) (B S c : Nat) (X : List T) : Prop := ∃ bs : List Nat, bs.length = X.length ∧ w.ownsRow B 101 1 (.slice (some ⟨S, 0, none⟩) X.length c) X.length (bs.map ptr) ∧ ∀ i, i < X.length → Lies w (bs.getD i 0) (g X i)
theorem Trees.at {w : World} {B S c : Nat} {X : List T} (h : Trees w B S c X) (i : Nat) (hi : i < X.length) :
    ∃ b, w.cell? ⟨S, i, none⟩ = some (.pointer (some ⟨b, 0, none⟩)) ∧ w.frozen? ⟨S, i, none⟩ = false ∧ Lies w b (g X i) := by
  obtain ⟨bs, hl, ho, hi2⟩ := h
  refine ⟨bs.getD i 0, ?_, ho.frozenAt i, hi2 i hi⟩
  rw [ho.cellAt i (by omega), List.getElem?_map, List.getD_eq_getElem?_getD, List.getElem?_eq_getElem (by omega : i < bs.length)]
  rfl
theorem Trees.drewN {w : World} {B S c : Nat} {X : List T} (h : Trees w B S c X) (q : Nat) : Trees (w.drewN q) B S c X := by
  obtain ⟨bs, hl, ho, hi⟩ := h
  exact ⟨bs, hl, ho, fun i hi2 => Lies.keep (w := w) (w' := w.drewN q) (fun _ _ h => h) (hi i hi2)⟩

theorem less_row {B S c n : Nat} {w : World} {X : List T} (hX : Trees w B S c X) (hn : X.length = n) (i j : Nat) (hi : i < n) (hj : j < n) :
    Calls Try.prog 122 #[.slice (some ⟨S, 0, none⟩) n c, .int .i64 i, .int .i64 j] w fun e w' => e = .returned (.bool (decide (T.lt (g X i) (g X j)))) ∧ Only S w w' ∧ Trees w' B S c X := by
  obtain ⟨b1, h1, h2, h3⟩ := hX.at i (by omega)
  obtain ⟨b2, k1, k2, k3⟩ := hX.at j (by omega)
  refine (less_at S c n w b1 b2 (g X i) (g X j) i j hi hj h1 k1 h3.weight h3.number k3.weight k3.number).mono ?_
  rintro e w' ⟨he, q, rfl⟩
  exact ⟨he, Only.drewN S w q, hX.drewN q⟩

theorem swap_row {B S c n : Nat} {w : World} {X : List T} (hX : Trees w B S c X) (hn : X.length = n) (i j : Nat) (hi : i < n) (hj : j < n) :
    Calls Try.prog 123 #[.slice (some ⟨S, 0, none⟩) n c, .int .i64 i, .int .i64 j] w fun e w' => e = .returned (.tuple #[]) ∧ Only S w w' ∧ Trees w' B S c (swp X i j) := by
  obtain ⟨bs, hl, ho, hb⟩ := hX
  have cellA : ∀ k, k < n → w.cell? ⟨S, k, none⟩ = some (ptr (bs.getD k 0)) := fun k hk => by
    rw [ho.cellAt k (by omega), List.getElem?_map, List.getD_eq_getElem?_getD, List.getElem?_eq_getElem (by omega : k < bs.length)]
    rfl
  refine (swap_at S c n w ⟨bs.getD i 0, 0, none⟩ ⟨bs.getD j 0, 0, none⟩ i j hi hj (cellA i hi) (cellA j hj) (ho.frozenAt i) (ho.frozenAt j)).mono ?_
  rintro e w' ⟨he, q, rfl⟩
  have hO : Only S w (((w.setCell ⟨S, i, none⟩ (ptr (bs.getD j 0))).setCell ⟨S, j, none⟩ (ptr (bs.getD i 0))).drewN q) :=
    Only.trans (((Only.refl S w).setCell (p := ⟨S, i, none⟩) rfl _).setCell (p := ⟨S, j, none⟩) rfl _) (Only.drewN S _ q)
  refine ⟨he, hO, (bs.set i (bs.getD j 0)).set j (bs.getD i 0), ?_, ?_, fun k hk => ?_⟩
  · rw [List.length_set, List.length_set, swp_length]; exact hl
  · have h2 := ((ho.stored i (ptr (bs.getD j 0))).1.stored j (ptr (bs.getD i 0))).1
    rw [swp_length, List.map_set, List.map_set]
    exact h2
  · rw [swp_length] at hk
    rw [swp_get (by omega) (by omega)]
    obtain ⟨cur, hcur⟩ := row_cells ho
    refine Lies.only hO hcur ?_
    have hk2 : k < bs.length := by omega
    rw [List.getD_eq_getElem?_getD, List.getElem?_set, List.getElem?_set]
    by_cases hkj : k = j
    · subst hkj
      simp only [List.length_set]
      rw [if_pos trivial, if_pos hk2, if_pos trivial]
      exact hb i (by omega)
    · rw [if_neg (fun e => hkj e.symm), if_neg hkj]
      by_cases hki : k = i
      · subst hki
        rw [if_pos rfl, if_pos hk2, if_pos rfl]
        exact hb j (by omega)
      · rw [if_neg (fun e => hki e.symm), if_neg hki, ← List.getD_eq_getElem?_getD]
        exact hb k hk

set_option maxHeartbeats 4000000 in
theorem up_at (a : Addr) (B S c n : Nat) (ha : a.block ≠ S) (X : List T) (j : Nat) (hn : X.length = n) (hsz : n ≤ 1000) (w : World) (hh : w.cell? a = some (.slice (some ⟨S, 0, none⟩) n c)) (hX : Trees w B S c X) (hU : Up X n j) :
    Calls Try.prog 103 #[.iface 123 (.pointer (some a)), .int .i64 j] w fun e w' => e = .returned (.tuple #[]) ∧ Only S w w' ∧ ∃ X', X'.Perm X ∧ Heap X' n ∧ Trees w' B S c X' := by
  have HU : Hid (Up X n j) := hU
  have hj0 := hU.inn
  clear hU
  go_enter Try.func103, Try.ntmps103
  go_wp2
  go_loopw [1, 4] (fun v u wr => ∃ (k : Nat) (Y : List T), v = .int .i64 k ∧ k < n ∧ Hid (Up Y n k) ∧ Hid (Y.Perm X) ∧ Hid (Y.length = n) ∧ Hid (Trees wr B S c Y) ∧ Hid (Only S w wr)) (fun v _ _ => (RowKit.intOf v).toNat)
  case atStart => exact ⟨j, X, rfl, hj0, HU, List.Perm.refl _, hn, hX, Only.refl S w⟩
  case round =>
    obtain ⟨k, Y, rfl, hk, hUp, hP, hL, hT, hO⟩ := hrel
    have mL := fun w h => meth_less a (.slice (some ⟨S, 0, none⟩) n c) w h
    have mS := fun w h => meth_swap a (.slice (some ⟨S, 0, none⟩) n c) w h
    have hhr : wr.cell? a = some (.slice (some ⟨S, 0, none⟩) n c) := by rw [hO.out.cell ha]; exact hh
    by_cases hk0 : k = 0
    · subst hk0
      go_wp2
      go_end0
      exact ⟨rfl, hO.out, Y, hP.out, up_done hUp.out (Or.inl rfl), hT.out⟩
    · have zk : (1 : Int) ≤ k := by omega
      have zk2 : (k : Int) ≤ 1000 := by omega
      obtain ⟨p, hp⟩ : ∃ p, p = (k - 1) / 2 := ⟨_, rfl⟩
      have ek : ((k : Int) - 1) / 2 = (p : Int) := by omega
      have hne : ((p : Int) == (k : Int)) = false := by simp; omega
      have hpn : p < n := by omega
      have Hp : Hid (p = (k - 1) / 2) := hp
      clear hp
      have hl1 := less_row (c := c) hT.out hL.out k p hk hpn
      cases hlt : decide (T.lt (g Y k) (g Y p)) with
      | false =>
        rw [hlt] at hl1
        have hle : Hid (le (g Y p) (g Y k)) := fun h => by simp [h] at hlt
        clear hlt
        go_wp2_with (go_at_call 122; refine hl1.mono ?_; rintro e w2 ⟨rfl, hO2, hT2⟩; have hh2 : w2.cell? a = some (.slice (some ⟨S, 0, none⟩) n c) := by rw [hO2.cell ha]; exact hhr)
        go_end0
        exact ⟨rfl, hO.out.trans hO2, Y, hP.out, up_done hUp.out (Or.inr (by rw [← Hp.out]; exact hle.out)), hT2⟩
      | true =>
        rw [hlt] at hl1
        have hle : Hid (T.lt (g Y k) (g Y p)) := (of_decide_eq_true hlt : T.lt (g Y k) (g Y p))
        clear hlt
        go_wp2_with (go_at_call 122; refine hl1.mono ?_; rintro e w2 ⟨rfl, hO2, hT2⟩; have hh2 : w2.cell? a = some (.slice (some ⟨S, 0, none⟩) n c) := by rw [hO2.cell ha]; exact hhr)
        refine (swap_row (c := c) hT2 hL.out p k hpn hk).mono ?_
        rintro e w3 ⟨rfl, hO3, hT3⟩
        go_wp2
        go_roundw
        case measure => simp only [RowKit.intOf]; omega
        case rel => exact ⟨p, swp Y p k, rfl, hpn, (by have := up_step hUp.out (by have := hL.out; omega) (by omega) (by rw [← Hp.out]; exact hle.out); rw [← Hp.out] at this; exact this), ((swp_perm (by have := hL.out; omega) (by have := hL.out; omega)).trans hP.out), (by rw [swp_length]; exact hL.out), hT3, (hO.out.trans hO2).trans hO3⟩
end Go.Proofs.Ythehjhckcblbdaa
/-
  container/heap's down over a row of trees in memory (over a stand-in).
-/
namespace Go.Proofs.Ythehjhckcblbdaa
open Go.RowKit Go.Lib Hf
set_option maxRecDepth 100000

/-- the lesser child, told by the walk's tests -/
theorem lesser_right {X : List T} {n i : Nat} (h2 : 2 * i + 2 < n) (hlt : T.lt (g X (2 * i + 2)) (g X (2 * i + 1))) : Lesser X n i (2 * i + 2) :=
  ⟨Or.inr rfl, h2, fun k h0 hk hp => by
    rcases (show k = 2 * i + 1 ∨ k = 2 * i + 2 by omega) with h | h
    · rw [h]; exact le_of_lt hlt
    · rw [h]; exact le_refl _⟩
theorem lesser_left {X : List T} {n i : Nat} (h1 : 2 * i + 1 < n) (hle : 2 * i + 2 < n → le (g X (2 * i + 1)) (g X (2 * i + 2))) : Lesser X n i (2 * i + 1) :=
  ⟨Or.inl rfl, h1, fun k h0 hk hp => by
    rcases (show k = 2 * i + 1 ∨ k = 2 * i + 2 by omega) with h | h
    · rw [h]; exact le_refl _
    · rw [h]; exact hle (by omega)⟩

set_option maxHeartbeats 4000000 in
theorem down_at (a : Addr) (B S c L n m : Nat) (ha : a.block ≠ S) (X : List T) (hn : X.length = L) (hnL : n ≤ L) (hsz : L ≤ 1000) (w : World) (hh : w.cell? a = some (.slice (some ⟨S, 0, none⟩) L c)) (hX : Trees w B S c X) (hm1 : m ≤ 1000) (hD : Down X n m m) :
    Calls Try.prog 101 #[.iface 123 (.pointer (some a)), .int .i64 m, .int .i64 n] w fun e w' => (∃ b, e = .returned (.bool b)) ∧ Only S w w' ∧ ∃ X', X'.Perm X ∧ Hid (∀ k, n ≤ k → g X' k = g X k) ∧ From X' n m ∧ Trees w' B S c X' := by
  have HD : Hid (Down X n m m) := hD
  have HL : Hid (n ≤ L) := hnL
  have zn : (n : Int) ≤ 1000 := by omega
  have zm : (m : Int) ≤ 1000 := by omega
  clear hD hnL
  go_enter Try.func101, Try.ntmps101
  go_wp2
  go_loopw [7, 8] (fun v u wr => ∃ (k : Nat) (Y : List T), v = .int .i64 k ∧ k ≤ 1000 ∧ Hid (Down Y n m k) ∧ Hid (Y.Perm X) ∧ Hid (∀ k, n ≤ k → g Y k = g X k) ∧ Hid (Y.length = L) ∧ Hid (Trees wr B S c Y) ∧ Hid (Only S w wr)) (fun v _ _ => (1000 - (RowKit.intOf v).toNat))
  case atStart => exact ⟨m, X, rfl, by omega, HD, List.Perm.refl _, fun _ _ => rfl, hn, hX, Only.refl S w⟩
  case round =>
    obtain ⟨k, Y, rfl, hk, hDn, hP, hF, hL, hT, hO⟩ := hrel
    have mL := fun w h => meth_less a (.slice (some ⟨S, 0, none⟩) L c) w h
    have mS := fun w h => meth_swap a (.slice (some ⟨S, 0, none⟩) L c) w h
    have hhr : wr.cell? a = some (.slice (some ⟨S, 0, none⟩) L c) := by rw [hO.out.cell ha]; exact hh
    have zk2 : (k : Int) ≤ 1000 := by omega
    by_cases h1 : n ≤ 2 * k + 1
    · have z1 : (n : Int) ≤ 2 * (k : Int) + 1 := by omega
      go_wp2
      go_ret
      exact ⟨⟨_, rfl⟩, hO.out, Y, hP.out, hF.out, down_leaf hDn.out h1, hT.out⟩
    · obtain ⟨p, hp⟩ : ∃ p, p = 2 * k + 1 := ⟨_, rfl⟩
      obtain ⟨q, hq⟩ : ∃ q, q = 2 * k + 2 := ⟨_, rfl⟩
      have e1 : 2 * (k : Int) + 1 = (p : Int) := by omega
      have e2 : (p : Int) + 1 = (q : Int) := by omega
      have zp : (p : Int) < (n : Int) := by omega
      have zp0 : 0 ≤ (p : Int) := by omega
      have pn : p < n := by omega
      have pL : p < L := by have := HL.out; omega
      have kL : k < L := by have := HL.out; omega
      have Hp : Hid (p = 2 * k + 1) := hp
      have Hq : Hid (q = 2 * k + 2) := hq
      have Hn : Hid (k < n) := by have : k < n := by omega
                                  exact this
      clear hp hq h1
      have hless : ∀ (i j : Nat) (b : Bool) (w2 : World), i < L → j < L → decide (T.lt (g Y i) (g Y j)) = b → Trees w2 B S c Y → Calls Try.prog 122 #[.slice (some ⟨S, 0, none⟩) L c, .int .i64 i, .int .i64 j] w2 fun e w' => e = .returned (.bool b) ∧ Only S w2 w' ∧ Trees w' B S c Y :=
        fun i j b w2 hi hj hb hT2 => by rw [← hb]; exact less_row hT2 hL.out i j hi hj
      have HLe : Aside _ := hless
      clear hless
      by_cases h2 : q < n
      · have z2 : (q : Int) < (n : Int) := by omega
        have qL : q < L := by have := HL.out; omega
        cases hl : decide (T.lt (g Y q) (g Y p)) with
        | true =>
          have hc1 := HLe.out q p true wr qL pL hl hT.out
          have HLs : Hid (Lesser Y n k q) := by rw [Hq.out]; exact lesser_right (by have := Hq.out; omega) (by rw [← Hq.out, ← Hp.out]; exact of_decide_eq_true hl)
          have hjn : Hid (q < n) := HLs.out.2.1
          have jL : q < L := by have := HL.out; have := hjn.out; omega
          have jK : Hid (k < q) := by have := Hp.out; have := Hq.out; exact (by omega : k < q)
          cases hlt : decide (T.lt (g Y q) (g Y k)) with
          | false =>
            have hle : Hid (le (g Y k) (g Y q)) := fun h => by simp [h] at hlt
            have hc2 : ∀ (w2 : World), Trees w2 B S c Y → Calls Try.prog 122 #[.slice (some ⟨S, 0, none⟩) L c, .int .i64 (q : Nat), .int .i64 (k : Nat)] w2 fun e w' => e = .returned (.bool false) ∧ Only S w2 w' ∧ Trees w' B S c Y := fun w2 hT2 => HLe.out q k false w2 jL kL hlt hT2
            clear hlt
            go_wp2_with fail
            (refine hc1.mono ?_; rintro e w2 ⟨rfl, hO2, hT2⟩; have hh2 : w2.cell? a = some (.slice (some ⟨S, 0, none⟩) L c) := by (rw [hO2.cell ha]; exact hhr))
            go_wp2_with fail
            (refine (hc2 _ hT2).mono ?_; rintro e w3 ⟨rfl, hO3, hT3⟩; have hh3 : w3.cell? a = some (.slice (some ⟨S, 0, none⟩) L c) := by (rw [hO3.cell ha]; assumption))
            go_wp2_with fail
            go_ret
            exact ⟨⟨_, rfl⟩, (hO.out.trans hO2).trans hO3, Y, hP.out, hF.out, down_done hDn.out HLs.out hle.out, hT3⟩
          | true =>
            have hle : Hid (T.lt (g Y q) (g Y k)) := (of_decide_eq_true hlt : T.lt (g Y q) (g Y k))
            have hc2 : ∀ (w2 : World), Trees w2 B S c Y → Calls Try.prog 122 #[.slice (some ⟨S, 0, none⟩) L c, .int .i64 (q : Nat), .int .i64 (k : Nat)] w2 fun e w' => e = .returned (.bool true) ∧ Only S w2 w' ∧ Trees w' B S c Y := fun w2 hT2 => HLe.out q k true w2 jL kL hlt hT2
            clear hlt
            go_wp2_with fail
            (refine hc1.mono ?_; rintro e w2 ⟨rfl, hO2, hT2⟩; have hh2 : w2.cell? a = some (.slice (some ⟨S, 0, none⟩) L c) := by (rw [hO2.cell ha]; exact hhr))
            go_wp2_with fail
            (refine (hc2 _ hT2).mono ?_; rintro e w3 ⟨rfl, hO3, hT3⟩; have hh3 : w3.cell? a = some (.slice (some ⟨S, 0, none⟩) L c) := by (rw [hO3.cell ha]; assumption))
            go_wp2_with fail
            refine (swap_row (c := c) hT3 hL.out k q kL jL).mono ?_
            rintro e w4 ⟨rfl, hO4, hT4⟩
            go_wp2
            go_roundw
            case measure => simp only [RowKit.intOf]; have := jK.out; have := hjn.out; have := HL.out; omega
            case rel => exact ⟨q, swp Y k q, rfl, by (have := hjn.out; have := HL.out; omega), down_step hDn.out (by have := HL.out; have := hL.out; omega) HLs.out hle.out, (swp_perm (by have := hL.out; omega) (by have := hL.out; omega)).trans hP.out, (fun u hu => by rw [swp_get (by have := hL.out; omega) (by have := hL.out; omega), if_neg (by have := hjn.out; omega), if_neg (by have := Hn.out; omega)]; exact hF.out u hu), (by rw [swp_length]; exact hL.out), hT4, ((hO.out.trans hO2).trans hO3).trans hO4⟩
        | false =>
          have hc1 := HLe.out q p false wr qL pL hl hT.out
          have HLs : Hid (Lesser Y n k p) := by rw [Hp.out]; exact lesser_left (by have := Hp.out; omega) (fun _ => by rw [← Hq.out, ← Hp.out]; exact fun h => by simp [h] at hl)
          have hjn : Hid (p < n) := HLs.out.2.1
          have jL : p < L := by have := HL.out; have := hjn.out; omega
          have jK : Hid (k < p) := by have := Hp.out; have := Hq.out; exact (by omega : k < p)
          cases hlt : decide (T.lt (g Y p) (g Y k)) with
          | false =>
            have hle : Hid (le (g Y k) (g Y p)) := fun h => by simp [h] at hlt
            have hc2 : ∀ (w2 : World), Trees w2 B S c Y → Calls Try.prog 122 #[.slice (some ⟨S, 0, none⟩) L c, .int .i64 (p : Nat), .int .i64 (k : Nat)] w2 fun e w' => e = .returned (.bool false) ∧ Only S w2 w' ∧ Trees w' B S c Y := fun w2 hT2 => HLe.out p k false w2 jL kL hlt hT2
            clear hlt
            go_wp2_with fail
            (refine hc1.mono ?_; rintro e w2 ⟨rfl, hO2, hT2⟩; have hh2 : w2.cell? a = some (.slice (some ⟨S, 0, none⟩) L c) := by (rw [hO2.cell ha]; exact hhr))
            go_wp2_with fail
            (refine (hc2 _ hT2).mono ?_; rintro e w3 ⟨rfl, hO3, hT3⟩; have hh3 : w3.cell? a = some (.slice (some ⟨S, 0, none⟩) L c) := by (rw [hO3.cell ha]; assumption))
            go_wp2_with fail
            go_ret
            exact ⟨⟨_, rfl⟩, (hO.out.trans hO2).trans hO3, Y, hP.out, hF.out, down_done hDn.out HLs.out hle.out, hT3⟩
          | true =>
            have hle : Hid (T.lt (g Y p) (g Y k)) := (of_decide_eq_true hlt : T.lt (g Y p) (g Y k))
            have hc2 : ∀ (w2 : World), Trees w2 B S c Y → Calls Try.prog 122 #[.slice (some ⟨S, 0, none⟩) L c, .int .i64 (p : Nat), .int .i64 (k : Nat)] w2 fun e w' => e = .returned (.bool true) ∧ Only S w2 w' ∧ Trees w' B S c Y := fun w2 hT2 => HLe.out p k true w2 jL kL hlt hT2
            clear hlt
            go_wp2_with fail
            (refine hc1.mono ?_; rintro e w2 ⟨rfl, hO2, hT2⟩; have hh2 : w2.cell? a = some (.slice (some ⟨S, 0, none⟩) L c) := by (rw [hO2.cell ha]; exact hhr))
            go_wp2_with fail
            (refine (hc2 _ hT2).mono ?_; rintro e w3 ⟨rfl, hO3, hT3⟩; have hh3 : w3.cell? a = some (.slice (some ⟨S, 0, none⟩) L c) := by (rw [hO3.cell ha]; assumption))
            go_wp2_with fail
            refine (swap_row (c := c) hT3 hL.out k p kL jL).mono ?_
            rintro e w4 ⟨rfl, hO4, hT4⟩
            go_wp2
            go_roundw
            case measure => simp only [RowKit.intOf]; have := jK.out; have := hjn.out; have := HL.out; omega
            case rel => exact ⟨p, swp Y k p, rfl, by (have := hjn.out; have := HL.out; omega), down_step hDn.out (by have := HL.out; have := hL.out; omega) HLs.out hle.out, (swp_perm (by have := hL.out; omega) (by have := hL.out; omega)).trans hP.out, (fun u hu => by rw [swp_get (by have := hL.out; omega) (by have := hL.out; omega), if_neg (by have := hjn.out; omega), if_neg (by have := Hn.out; omega)]; exact hF.out u hu), (by rw [swp_length]; exact hL.out), hT4, ((hO.out.trans hO2).trans hO3).trans hO4⟩
      · have z2 : (n : Int) ≤ (q : Int) := by omega
        have HLs : Hid (Lesser Y n k p) := by rw [Hp.out]; exact lesser_left (by have := Hp.out; omega) (fun h => absurd h (by have := Hq.out; omega))
        have hjn : Hid (p < n) := HLs.out.2.1
        have jL : p < L := by have := HL.out; have := hjn.out; omega
        have jK : Hid (k < p) := by have := Hp.out; have := Hq.out; exact (by omega : k < p)
        cases hlt : decide (T.lt (g Y p) (g Y k)) with
        | false =>
          have hle : Hid (le (g Y k) (g Y p)) := fun h => by simp [h] at hlt
          have hc2 : ∀ (w2 : World), Trees w2 B S c Y → Calls Try.prog 122 #[.slice (some ⟨S, 0, none⟩) L c, .int .i64 (p : Nat), .int .i64 (k : Nat)] w2 fun e w' => e = .returned (.bool false) ∧ Only S w2 w' ∧ Trees w' B S c Y := fun w2 hT2 => HLe.out p k false w2 jL kL hlt hT2
          clear hlt
          go_wp2_with fail
          (refine (hc2 _ hT.out).mono ?_; rintro e w3 ⟨rfl, hO3, hT3⟩; have hh3 : w3.cell? a = some (.slice (some ⟨S, 0, none⟩) L c) := by (rw [hO3.cell ha]; assumption))
          go_wp2_with fail
          go_ret
          exact ⟨⟨_, rfl⟩, hO.out.trans hO3, Y, hP.out, hF.out, down_done hDn.out HLs.out hle.out, hT3⟩
        | true =>
          have hle : Hid (T.lt (g Y p) (g Y k)) := (of_decide_eq_true hlt : T.lt (g Y p) (g Y k))
          have hc2 : ∀ (w2 : World), Trees w2 B S c Y → Calls Try.prog 122 #[.slice (some ⟨S, 0, none⟩) L c, .int .i64 (p : Nat), .int .i64 (k : Nat)] w2 fun e w' => e = .returned (.bool true) ∧ Only S w2 w' ∧ Trees w' B S c Y := fun w2 hT2 => HLe.out p k true w2 jL kL hlt hT2
          clear hlt
          go_wp2_with fail
          (refine (hc2 _ hT.out).mono ?_; rintro e w3 ⟨rfl, hO3, hT3⟩; have hh3 : w3.cell? a = some (.slice (some ⟨S, 0, none⟩) L c) := by (rw [hO3.cell ha]; assumption))
          go_wp2_with fail
          refine (swap_row (c := c) hT3 hL.out k p kL jL).mono ?_
          rintro e w4 ⟨rfl, hO4, hT4⟩
          go_wp2
          go_roundw
          case measure => simp only [RowKit.intOf]; have := jK.out; have := hjn.out; have := HL.out; omega
          case rel => exact ⟨p, swp Y k p, rfl, by (have := hjn.out; have := HL.out; omega), down_step hDn.out (by have := HL.out; have := hL.out; omega) HLs.out hle.out, (swp_perm (by have := hL.out; omega) (by have := hL.out; omega)).trans hP.out, (fun u hu => by rw [swp_get (by have := hL.out; omega) (by have := hL.out; omega), if_neg (by have := hjn.out; omega), if_neg (by have := Hn.out; omega)]; exact hF.out u hu), (by rw [swp_length]; exact hL.out), hT4, (hO.out.trans hO3).trans hO4⟩
end Go.Proofs.Ythehjhckcblbdaa
/-
  A heap of trees in memory: its own Push and Pop, container/heap's Push and Pop (over a stand-in).
-/
namespace Go.Proofs.Ythehjhckcblbdaa
open Go.RowKit Go.Lib Hf
set_option maxRecDepth 100000

def StopP (p : Prop) : Prop := p
theorem stop_push {P : Program} {ops : Array Oper} {rest : List Oper} {a : Act} {Q : Exit → Act → World → Prop} {w : World} {dst : Option Tmp} {ty : TypeId} {ps : String} {af : Array Edge} {t : TypeId} {x y : Operand}
    (h : StopP (wpList P ops Q (⟨dst, Op.call { callee := Callee.builtin Builtin.append, args := #[x, y], argTypes := #[t, t] }, ty, ps, af, none⟩ :: rest) a w)) :
    wpList P ops Q (⟨dst, Op.call { callee := Callee.builtin Builtin.append, args := #[x, y], argTypes := #[t, t] }, ty, ps, af, none⟩ :: rest) a w := h

/-- Below block B all is kept, and every block that is no row of trees and no row's head. -/
structure Kept (B : Nat) (w w' : World) : Prop where
  below : Below B w w'
  block : ∀ (k : Nat) (c : Array Value) (t : TypeId) (fr : Nat × Nat), t ≠ 99 → t ≠ 101 → w.heap[k]? = some (.cells c t fr) → w'.heap[k]? = some (.cells c t fr)
theorem Kept.trans {B : Nat} {a b c : World} (h : Kept B a b) (k : Kept B b c) : Kept B a c := ⟨h.below.trans k.below, fun n x t fr h1 h2 h3 => k.block n x t fr h1 h2 (h.block n x t fr h1 h2 h3)⟩
theorem Kept.lies {B : Nat} {w w' : World} (h : Kept B w w') {t : T} {b : Nat} (hl : Lies w b t) : Lies w' b t := hl.keep fun k c hk => h.block k c 121 (0, 0) (by decide) (by decide) hk

/-- A heap lies in memory: its head at block h, its row. -/
def Heaped (w : World) (B h : Nat) (X : List T) : Prop := ∃ (v : Value) (bs : List Nat), w.heap[h]? = some (.cells #[v] 99 (0, 0)) ∧ B ≤ h ∧ bs.length = X.length ∧ w.ownsRow B 101 1 v X.length (bs.map ptr) ∧ ∀ i, i < X.length → Lies w (bs.getD i 0) (g X i)

theorem head_apart {w : World} {B h n : Nat} {v u : Value} {xs : List Value} (ho : w.ownsRow B 101 1 v n xs) (hh : w.heap[h]? = some (.cells #[u] 99 (0, 0))) : v.ownBlock ≠ some h := fun e => by
  rcases ho.2 with ⟨rfl, _⟩ | ⟨g', cap', cur, rfl, _, h2, _⟩
  · cases e
  · cases e; rw [hh] at h2; cases h2
theorem row_type {w : World} {B k n : Nat} {v : Value} {xs : List Value} {c : Array Value} {t : TypeId} {fr : Nat × Nat} (ho : w.ownsRow B 101 1 v n xs) (e : v.ownBlock = some k) (hk : w.heap[k]? = some (.cells c t fr)) : t = 101 := by
  rcases ho.2 with ⟨rfl, _⟩ | ⟨g', cap', cur, rfl, _, h2, _⟩
  · cases e
  · cases e; rw [hk] at h2; cases h2; rfl
theorem own_slice {w : World} {B n : Nat} {e : TypeId} {v : Value} {xs : List Value} (ho : w.ownsRow B e 1 v (n + 1) xs) : ∃ k cap, v = .slice (some ⟨k, 0, none⟩) (n + 1) cap := by
  rcases ho.2 with ⟨_, h⟩ | ⟨g', cap', cur, h, _⟩
  · omega
  · exact ⟨g', cap', h⟩
theorem info36 : (Try.prog.info? 101).map (fun i => (i.zero, i.size, i.bytes)) = some (some (.pointer none), 1, 8) := by kernel_rfl
theorem one_ptr (w : World) (b : Nat) : ∀ j u, ([b].map ptr)[j]? = some u → (w.alloc (.cells #[ptr b] 101)).cell? ((⟨w.heap.size, 0, none⟩ : Addr).add j) = some u := fun j u hj => by
  cases j with
  | zero => cases hj; simp [Addr.add]
  | succ j => simp at hj

theorem assert_tree (p : Option Addr) (w : World) : (Instr.typeAssert (.iface 101 (.pointer p)) 20 101 false).run Try.prog w = .ok (.pointer p) w := by kernel_rfl
set_option maxHeartbeats 2000000 in
theorem own_push (B h b : Nat) (X : List T) (t : T) (w : World) (hB : B ≤ w.heap.size) (hX : Heaped w B h X) (hb : Lies w b t) (hl : X.length ≤ 1000) :
    Calls Try.prog 125 #[.pointer (some ⟨h, 0, none⟩), .iface 101 (.pointer (some ⟨b, 0, none⟩))] w fun e w' => e = .returned (.tuple #[]) ∧ Kept B w w' ∧ Heaped w' B h (X ++ [t]) := by
  obtain ⟨v, bs, hh, hBh, hbl, ho, hls⟩ := hX
  obtain ⟨i0, hi0, hz0, hz1, hz2⟩ := info_parts info36
  have hc := cell_of_row w h 0 #[v] 99 (0, 0) hh
  have hf := frozen_of_row w h 0 #[v] 99 hh
  have hhl : h < w.heap.size := by
    rcases Nat.lt_or_ge h w.heap.size with k | k
    · exact k
    · rw [Array.getElem?_eq_none k] at hh; cases hh
  have o1 := Lib.hid ho
  have o2 := one_ptr w b
  have Hh := Lib.hid hh
  have Hls := Lib.hid hls
  have Hb := Lib.hid hb
  have Hbl := Lib.hid hbl
  clear ho hh hls hb hbl
  have mA : ∀ w, (Instr.typeAssert (.iface 101 (.pointer (some ⟨b, 0, none⟩))) 20 101 false).run Try.prog w = .ok (.pointer (some ⟨b, 0, none⟩)) w := fun w => assert_tree _ w
  have hcv : w.cell? ⟨h, 0, none⟩ = some v := hc
  clear hc
  have hap0 := head_apart o1.out Hh.out
  have FIN : Hid (∀ (r1 cap1 : Nat) (w3 : World), w3.ownsRow B 101 1 (.slice (some ⟨r1, 0, none⟩) (X.length + 1) cap1) (X.length + 1) (bs.map ptr ++ [b].map ptr) → World.grownBy ((w.alloc (.cells #[ptr b] 101)).drew) w3 v.ownBlock → (v.ownBlock = some r1 ∨ r1 = w.heap.size + 1) →
      w3.heap[h]? = some (.cells #[v] 99 (0, 0)) → Kept B w (w3.setCell ⟨h, 0, none⟩ (.slice (some ⟨r1, 0, none⟩) (X.length + 1) cap1)) ∧ Heaped (w3.setCell ⟨h, 0, none⟩ (.slice (some ⟨r1, 0, none⟩) (X.length + 1) cap1)) B h (X ++ [t])) := by
    refine Lib.hid fun r1 cap1 w3 own1 gr1 hob g3 => ?_
    have hap1 : (Value.slice (some ⟨r1, 0, none⟩) (X.length + 1) cap1).ownBlock ≠ some h := by
      rcases hob with e | e
      · rw [show (Value.slice (some ⟨r1, 0, none⟩) (X.length + 1) cap1).ownBlock = some r1 from rfl, ← e]; exact hap0
      · rw [show (Value.slice (some ⟨r1, 0, none⟩) (X.length + 1) cap1).ownBlock = some r1 from rfl, e]; simp; omega
    have HK : Hid (Kept B w (w3.setCell ⟨h, 0, none⟩ (.slice (some ⟨r1, 0, none⟩) (X.length + 1) cap1))) := by
      refine ⟨((((Below.refl B w).alloc hB _).drew).grown gr1 (by simp; omega) (fun k hk => (o1.out.lt k hk).1)).setCell (p := ⟨h, 0, none⟩) hBh _, fun k x tt fr h1 h2 h3 => ?_⟩
      have hkl : k < w.heap.size := by
        rcases Nat.lt_or_ge k w.heap.size with z | z
        · exact z
        · rw [Array.getElem?_eq_none z] at h3; cases h3
      rw [Below.heap_setCell w3 ⟨h, 0, none⟩ _ k (fun e => by subst e; rw [Hh.out] at h3; cases h3; exact h1 rfl), gr1.block k (by simp; omega) (fun e => h2 (row_type o1.out e.symm h3))]
      show (w.alloc _).heap[k]? = _
      rw [Below.heap_alloc w _ k hkl]
      exact h3
    have HH : Hid (Heaped (w3.setCell ⟨h, 0, none⟩ (.slice (some ⟨r1, 0, none⟩) (X.length + 1) cap1)) B h (X ++ [t])) := by
      refine ⟨_, bs ++ [b], heap_setCell_same w3 h 0 #[v] 99 _ g3, hBh, by simp [Hbl.out], ?_, fun i hi => ?_⟩
      · have := own1.kept (w' := w3.setCell ⟨h, 0, none⟩ (.slice (some ⟨r1, 0, none⟩) (X.length + 1) cap1)) (row := some h) ⟨rfl, rfl, rfl, by simp, fun k _ hk => heap_setCell_other w3 ⟨h, 0, none⟩ k _ (fun e => hk (by simp [e]))⟩ (Or.inr hap1)
        simpa using this
      · refine HK.out.lies ?_
        have e2 := Hbl.out
        by_cases hi2 : i < X.length
        · have e1 : (bs ++ [b]).getD i 0 = bs.getD i 0 := by rw [List.getD_eq_getElem?_getD, List.getD_eq_getElem?_getD, List.getElem?_append_left (by omega)]
          have e3 : g (X ++ [t]) i = g X i := by unfold g; rw [List.getD_eq_getElem?_getD, List.getD_eq_getElem?_getD, List.getElem?_append_left hi2]
          rw [e1, e3]; exact Hls.out i hi2
        · have hi3 : i = X.length := by simp at hi; omega
          have e1 : (bs ++ [b]).getD i 0 = b := by rw [List.getD_eq_getElem?_getD, List.getElem?_append_right (by omega)]; simp [hi3, e2]
          have e3 : g (X ++ [t]) i = t := by unfold g; rw [List.getD_eq_getElem?_getD, List.getElem?_append_right (by omega)]; simp [hi3]
          rw [e1, e3]; exact Hb.out
    exact ⟨HK.out, HH.out⟩
  go_enter Try.func125, Try.ntmps125
  have hne := World.new_ne w ⟨h, 0, none⟩ hcv
  have hgr : ∀ w3, World.grownBy ((w.alloc (.cells #[ptr b] 101)).drew) w3 v.ownBlock → w3.heap[h]? = some (.cells #[v] 99 (0, 0)) := fun w3 gr1 => by
    rw [gr1.block h (by simp; omega) (fun e => hap0 e.symm)]
    show (w.alloc _).heap[h]? = _
    rw [Below.heap_alloc w _ h hhl]; exact Hh.out
  go_wp2_with fail
  go_region_law (refine step_append_lies _ (by rfl) _ _ _ (by rfl) B 101 i0 (.pointer none) 1 8 Try.underlying99 hi0 hz0 hz1 hz2 rfl (by decide) v X.length (bs.map ptr) (by rfl) ((o1.out.alloc _).drew) ⟨w.heap.size, 0, none⟩ 1 1 ([b].map ptr) (by rfl) (by rfl) o2 (by simp [ptr, Value.oneCell']) (by omega) (by unfold maxLen; omega) (by omega) (by simp; omega) (w.heap.size + 1) (by simp) ?_; intro r1 cap1 w3 own1 gr1 hob hlt; have g3 := hgr w3 gr1; have hf3 := frozen_of_row w3 h 0 #[v] 99 g3; have hc3 : w3.cell? ⟨h, 0, none⟩ = some v := cell_of_row w3 h 0 #[v] 99 (0, 0) g3)
  all_goals (try go_wp2)
  all_goals go_end0
  all_goals (obtain ⟨z1, z2⟩ := FIN.out _ _ _ own1 gr1 hob g3; exact ⟨rfl, z1, z2⟩)

theorem len_at (p : Option Addr) (n c : Nat) (w : World) : Calls Try.prog 121 #[.slice p n c] w fun e w' => e = .returned (.int .i64 n) ∧ w' = w := by
  go_enter Try.func121, Try.ntmps121
  go_wp2
  go_ret
  exact ⟨rfl, rfl⟩
/-- A heap that is not empty: its row. -/
theorem Heaped.trees {w : World} {B h : Nat} {X : List T} (hX : Heaped w B h X) (hl : 0 < X.length) :
    ∃ S c, w.heap[h]? = some (.cells #[.slice (some ⟨S, 0, none⟩) X.length c] 99 (0, 0)) ∧ h ≠ S ∧ B ≤ S ∧ Trees w B S c X ∧ ∃ cur, w.heap[S]? = some (.cells cur 101 (0, 0)) := by
  obtain ⟨v, bs, hh, hBh, hbl, ho, hls⟩ := hX
  have hap := head_apart ho hh
  rcases ho.2 with ⟨_, h1⟩ | ⟨S, c, cur, rfl, hBS, hS, _⟩
  · omega
  · exact ⟨S, c, hh, fun e => hap (by rw [e]; rfl), hBS, ⟨bs, hbl, ho, hls⟩, cur, hS⟩
theorem Heaped.of {w w' : World} {B h S c : Nat} {X Y : List T} (hB : B ≤ h) (hh : w.heap[h]? = some (.cells #[.slice (some ⟨S, 0, none⟩) X.length c] 99 (0, 0))) (hap : h ≠ S) (hO : Only S w w') (hl : Y.length = X.length) (hT : Trees w' B S c Y) : Heaped w' B h Y := by
  obtain ⟨bs, hbl, ho, hls⟩ := hT
  exact ⟨_, bs, by rw [hO.block h hap, hl]; exact hh, hB, hbl, ho, hls⟩
theorem Only.kept {w w' : World} {B S : Nat} (hO : Only S w w') (hB : B ≤ S) {cur : Array Value} (hS : w.heap[S]? = some (.cells cur 101 (0, 0))) : Kept B w w' :=
  ⟨hO.below hB, fun k c t fr _ h2 h3 => by rw [hO.block k (fun e => by subst e; rw [hS] at h3; cases h3; exact h2 rfl)]; exact h3⟩

set_option maxHeartbeats 2000000 in
theorem heap_push (B h b : Nat) (X : List T) (t : T) (w : World) (hB : B ≤ w.heap.size) (hX : Heaped w B h X) (hp : Heap X X.length) (hb : Lies w b t) (hl : X.length ≤ 999) :
    Calls Try.prog 98 #[.iface 123 (.pointer (some ⟨h, 0, none⟩)), .iface 101 (.pointer (some ⟨b, 0, none⟩))] w fun e w' => e = .returned (.tuple #[]) ∧ Kept B w w' ∧ ∃ X', X'.Perm (t :: X) ∧ Heap X' X'.length ∧ Heaped w' B h X' := by
  have mP : ∀ w, (method 249 123 (.pointer (some ⟨h, 0, none⟩)) "Push").run Try.prog w = .ok (125, .pointer (some ⟨h, 0, none⟩)) w := meth_push _
  have c1 := own_push B h b X t w hB hX hb (by omega)
  have hBh : B ≤ h := by obtain ⟨_, _, _, k, _⟩ := hX; exact k
  have Hp : Hid (Heap X X.length) := hp
  clear hX hb hp
  go_enter Try.func98, Try.ntmps98
  go_wp2_with fail
  refine c1.mono ?_
  rintro e w2 ⟨rfl, hK, hH⟩
  obtain ⟨S, c, hh, hap, hBS, hT, cur, hS⟩ := hH.trees (by simp)
  have hlen : (X ++ [t]).length = X.length + 1 := by simp
  rw [hlen] at hh
  have hc2 : w2.cell? ⟨h, 0, none⟩ = some (.slice (some ⟨S, 0, none⟩) (X.length + 1) c) := cell_of_row w2 h 0 _ 99 (0, 0) hh
  have mL := meth_len ⟨h, 0, none⟩ _ w2 hc2
  have c2 := len_at (some ⟨S, 0, none⟩) (X.length + 1) c w2
  have c3 := up_at ⟨h, 0, none⟩ B S c (X.length + 1) hap (X ++ [t]) X.length hlen (by omega) w2 hc2 hT (up_start Hp.out)
  have HK := Lib.hid hK
  have HT := Lib.hid hT
  have Hh := Lib.hid hh
  have HS := Lib.hid hS
  clear c1 hK hT hh hS hH hc2 mP
  generalize X.length = n at *
  go_wp2_with (first | (refine c2.mono ?_; rintro e w3 ⟨rfl, rfl⟩) | fail)
  refine c3.mono ?_
  rintro e w4 ⟨rfl, hO, X', hP, hHp, hT'⟩
  have hl' : X'.length = n + 1 := by rw [hP.length_eq, hlen]
  have HF : Hid (Heaped w4 B h X') := Heaped.of (X := X ++ [t]) hBh (by rw [hlen]; exact Hh.out) hap hO (by rw [hl', hlen]) hT'
  have HK2 : Hid (Kept B w w4) := HK.out.trans (hO.kept hBS HS.out)
  have HHp : Hid (Heap X' X'.length) := by
    have := hHp
    rw [← hl'] at this
    exact this
  have HP : Hid (X'.Perm (t :: X)) := hP.trans (List.perm_append_singleton _ _)
  clear hO hP hHp hT' hl' c3 HK HT Hh HS
  go_wp2
  go_end0
  exact ⟨rfl, HK2.out, X', HP.out, HHp.out, HF.out⟩
end Go.Proofs.Ythehjhckcblbdaa
/-
  A heap's own Pop, container/heap's Pop over trees in memory (over a stand-in).
-/
namespace Go.Proofs.Ythehjhckcblbdaa
open Go.RowKit Go.Lib Hf
set_option maxRecDepth 100000

theorem g_take {X : List T} {n i : Nat} (h : i < n) : g (X.take n) i = g X i := by
  unfold g; rw [List.getD_eq_getElem?_getD, List.getD_eq_getElem?_getD, List.getElem?_take, if_pos h]
theorem heap_take {X : List T} {n : Nat} (h : Heap X n) : Heap (X.take n) n := fun i h0 hi => by
  rw [g_take (by omega), g_take hi]; exact h i h0 hi
theorem take_perm {X : List T} {n : Nat} (h : X.length = n + 1) : (g X n :: X.take n).Perm X := by
  have e : X = X.take n ++ [g X n] := by
    rw [g_get (by omega : n < X.length)]
    have := List.take_append_drop n X
    rw [List.drop_eq_getElem_cons (by omega), List.drop_of_length_le (by omega)] at this
    exact this.symm
  conv => rhs; rw [e]
  exact (List.perm_append_singleton _ _).symm

set_option maxHeartbeats 2000000 in
theorem own_pop (B h S c n : Nat) (X : List T) (w : World) (hn : X.length = n + 1) (hB : B ≤ h) (hl : n ≤ 1000) (hh : w.heap[h]? = some (.cells #[.slice (some ⟨S, 0, none⟩) (n + 1) c] 99 (0, 0))) (hT : Trees w B S c X) :
    Calls Try.prog 124 #[.pointer (some ⟨h, 0, none⟩)] w fun e w' => ∃ b, e = .returned (.iface 101 (.pointer (some ⟨b, 0, none⟩))) ∧ Kept B w w' ∧ Lies w' b (g X n) ∧ Heaped w' B h (X.take n) := by
  obtain ⟨bs, hbl, ho, hls⟩ := hT
  rw [hn] at ho hbl hls
  have hc : w.cell? ⟨h, 0, none⟩ = some (.slice (some ⟨S, 0, none⟩) (n + 1) c) := cell_of_row w h 0 _ 99 (0, 0) hh
  have hf := frozen_of_row w h 0 #[.slice (some ⟨S, 0, none⟩) (n + 1) c] 99 hh
  have hx : w.cell? ⟨S, n, none⟩ = some (.pointer (some ⟨bs.getD n 0, 0, none⟩)) := by
    rw [ho.cellAt n (by omega), List.getElem?_map, List.getD_eq_getElem?_getD, List.getElem?_eq_getElem (by omega : n < bs.length)]
    rfl
  have hap := head_apart ho hh
  have hnc : n + 1 ≤ c := by
    rcases ho.2 with ⟨h1, _⟩ | ⟨g', cap', cur, h1, _, _, h2, _⟩
    · cases h1
    · cases h1; exact h2
  have HK : Hid (∀ u, Kept B w (w.setCell ⟨h, 0, none⟩ u)) := fun u => by
    refine ⟨(Below.refl B w).setCell (p := ⟨h, 0, none⟩) hB u, fun k x tt fr h1 _ h3 => ?_⟩
    rw [Below.heap_setCell w ⟨h, 0, none⟩ u k (fun e => by subst e; rw [hh] at h3; cases h3; exact h1 rfl)]
    exact h3
  have HL : Hid (∀ u, Lies (w.setCell ⟨h, 0, none⟩ u) (bs.getD n 0) (g X n)) := fun u => (HK.out u).lies (hls n (by omega))
  have HH : Hid (Heaped (w.setCell ⟨h, 0, none⟩ (.slice (some ⟨S, 0, none⟩) n c)) B h (X.take n)) := by
    have hlt : (X.take n).length = n := by rw [List.length_take]; omega
    refine ⟨_, bs.take n, heap_setCell_same w h 0 _ 99 _ hh, hB, by rw [List.length_take, hlt]; omega, ?_, fun i hi => ?_⟩
    · rw [hlt]
      have hsp : bs.map ptr = (bs.take n).map ptr ++ [ptr (bs.getD n 0)] := by
        have := List.take_append_drop n bs
        rw [List.drop_eq_getElem_cons (by omega), List.drop_of_length_le (by omega)] at this
        conv => lhs; rw [← this]
        rw [List.map_append, List.getD_eq_getElem?_getD, List.getElem?_eq_getElem (by omega : n < bs.length)]
        rfl
      rw [hsp] at ho
      have h2 := ownsRow_pop (by simp; omega) ho
      exact h2.kept (w' := w.setCell ⟨h, 0, none⟩ _) (row := some h) ⟨rfl, rfl, rfl, by simp, fun k _ hk => heap_setCell_other w ⟨h, 0, none⟩ k _ (fun e => hk (by simp [e]))⟩ (Or.inr hap)
    · rw [hlt] at hi
      rw [g_take hi]
      have e1 : (bs.take n).getD i 0 = bs.getD i 0 := by rw [List.getD_eq_getElem?_getD, List.getD_eq_getElem?_getD, List.getElem?_take, if_pos hi]
      rw [e1]
      exact (HK.out _).lies (hls i (by omega))
  generalize bs.getD n 0 = b at *
  clear ho hls hh hap hbl
  go_enter Try.func124, Try.ntmps124
  go_wp2
  go_ret
  exact ⟨b, rfl, HK.out _, HL.out _, HH.out⟩

set_option maxHeartbeats 4000000 in
/-- The least of a heap is taken from it. -/
theorem heap_pop (B h n : Nat) (X : List T) (w : World) (hn : X.length = n + 1) (hX : Heaped w B h X) (hp : Heap X (n + 1)) (hl : n ≤ 900) :
    Calls Try.prog 102 #[.iface 123 (.pointer (some ⟨h, 0, none⟩))] w fun e w' => ∃ b Z, e = .returned (.iface 101 (.pointer (some ⟨b, 0, none⟩))) ∧ Kept B w w' ∧ Lies w' b (g X 0) ∧ (g X 0 :: Z).Perm X ∧ Z.length = n ∧ Heap Z n ∧ Heaped w' B h Z := by
  have hBh : B ≤ h := by obtain ⟨_, _, _, k, _⟩ := hX; exact k
  obtain ⟨S, c, hh, hap, hBS, hT, cur, hS⟩ := hX.trees (by omega)
  rw [hn] at hh
  have hc : w.cell? ⟨h, 0, none⟩ = some (.slice (some ⟨S, 0, none⟩) (n + 1) c) := cell_of_row w h 0 _ 99 (0, 0) hh
  have mL := fun w hw => meth_len ⟨h, 0, none⟩ (.slice (some ⟨S, 0, none⟩) (n + 1) c) w hw
  have mS := fun w hw => meth_swap ⟨h, 0, none⟩ (.slice (some ⟨S, 0, none⟩) (n + 1) c) w hw
  have mP : ∀ w, (method 249 123 (.pointer (some ⟨h, 0, none⟩)) "Pop").run Try.prog w = .ok (124, .pointer (some ⟨h, 0, none⟩)) w := meth_pop _
  have c1 := len_at (some ⟨S, 0, none⟩) (n + 1) c w
  have c2 := swap_row (c := c) hT hn 0 n (by omega) (by omega)
  have HD : Hid (Down (swp X 0 n) n 0 0) := down_start hp hn
  have Hn : Hid (X.length = n + 1) := hn
  have Hh := Lib.hid hh
  have HS := Lib.hid hS
  clear hX hp hT hh hS hn
  go_enter Try.func102, Try.ntmps102
  go_wp2_with fail
  refine c1.mono ?_
  rintro e w1 ⟨rfl, rfl⟩
  go_wp2_with fail
  refine c2.mono ?_
  rintro e w2 ⟨rfl, hO2, hT2⟩
  have hc2 : w2.cell? ⟨h, 0, none⟩ = some (.slice (some ⟨S, 0, none⟩) (n + 1) c) := by rw [hO2.cell (p := ⟨h, 0, none⟩) hap]; exact hc
  have c3 := down_at ⟨h, 0, none⟩ B S c (n + 1) n 0 hap (swp X 0 n) (by rw [swp_length]; exact Hn.out) (by omega) (by omega) w2 hc2 hT2 (by omega) HD.out
  have HO2 := Lib.hid hO2
  clear hT2 hO2 c1 c2
  go_wp2_with fail
  refine c3.mono ?_
  rintro e w3 ⟨⟨bb, rfl⟩, hO3, X', hP, hF, hHp0, hT3⟩
  have hHp := from_all hHp0
  clear hHp0
  have hO := HO2.out.trans hO3
  have hn0 := Hn.out
  have hl3 : X'.length = n + 1 := by rw [hP.length_eq, swp_length]; exact hn0
  have hh3 : w3.heap[h]? = some (.cells #[.slice (some ⟨S, 0, none⟩) (n + 1) c] 99 (0, 0)) := by rw [hO.block h hap]; exact Hh.out
  have hg : g X' n = g X 0 := by
    rw [hF.out n (Nat.le_refl _), swp_get (by omega) (by omega), if_pos rfl]
  have c4 := own_pop B h S c n X' w3 hl3 hBh (by omega) hh3 hT3
  rw [hg] at c4
  have HK : Hid (Kept B w1 w3) := hO.kept hBS HS.out
  have HZ : Hid ((g X 0 :: X'.take n).Perm X) := by
    have h1 := take_perm hl3
    rw [hg] at h1
    exact (h1.trans hP).trans (swp_perm (by omega) (by omega))
  have HZl : Hid ((X'.take n).length = n) := by
    have : (X'.take n).length = n := by rw [List.length_take]; omega
    exact this
  have HZh : Hid (Heap (X'.take n) n) := heap_take hHp
  clear hO hO3 hP hF hHp hT3 hh3 hg c3 hn0 hl3 hc hc2 HO2 Hh HS HD
  go_wp2_with fail
  refine c4.mono ?_
  rintro e w4 ⟨b, rfl, hK4, hL4, hH4⟩
  have HK4 := Lib.hid (HK.out.trans hK4)
  have HL4 := Lib.hid hL4
  have HH4 := Lib.hid hH4
  clear hK4 hL4 hH4 c4 HK
  go_wp2
  go_ret
  exact ⟨b, X'.take n, rfl, HK4.out, HL4.out, HZ.out, HZl.out, HZh.out, HH4.out⟩
end Go.Proofs.Ythehjhckcblbdaa
