/-
  Maths of binary heaps over lists: what container/heap's up and down do. No condition.
-/
import Derived.Test.YtengkkbiceennaaHufOm
namespace Go.Proofs.Ytengkkbiceennaa.Hf
/-- y is not taken ahead of x -/
def le (x y : T) : Prop := ¬ T.lt y x
theorem le_refl (x : T) : le x x := by unfold le T.lt; omega
theorem le_trans {x y z : T} (h : le x y) (k : le y z) : le x z := by unfold le T.lt at *; omega
theorem le_of_lt {x y : T} (h : T.lt x y) : le x y := by unfold le T.lt at *; omega
theorem le_total (x y : T) : le x y ∨ le y x := by unfold le T.lt; omega
def T0 : T := .leaf 0 0
def g (l : List T) (i : Nat) : T := l.getD i T0
theorem g_get {l : List T} {i : Nat} (h : i < l.length) : g l i = l[i] := by unfold g; rw [List.getD_eq_getElem?_getD, List.getElem?_eq_getElem h]; rfl
def swp (l : List T) (i j : Nat) : List T := (l.set i (g l j)).set j (g l i)
theorem swp_length (l : List T) (i j : Nat) : (swp l i j).length = l.length := by unfold swp; rw [List.length_set, List.length_set]
theorem swp_get {l : List T} {i j : Nat} (hi : i < l.length) (hj : j < l.length) (k : Nat) : g (swp l i j) k = if k = j then g l i else if k = i then g l j else g l k := by
  unfold g swp
  rw [List.getD_eq_getElem?_getD, List.getElem?_set]
  by_cases h1 : j = k
  · subst h1
    rw [if_pos rfl, if_pos rfl, List.length_set, if_pos hj]; rfl
  · rw [if_neg h1, if_neg (Ne.symm h1), List.getElem?_set]
    by_cases h2 : i = k
    · subst h2
      rw [if_pos rfl, if_pos rfl, if_pos hi]; rfl
    · rw [if_neg h2, if_neg (Ne.symm h2), List.getD_eq_getElem?_getD]
theorem swp_perm {l : List T} {i j : Nat} (hi : i < l.length) (hj : j < l.length) : (swp l i j).Perm l := by
  unfold swp
  rw [g_get hi, g_get hj]
  exact List.set_set_perm hi hj
/-- the first n of them are a heap -/
def Heap (l : List T) (n : Nat) : Prop := ∀ i, 0 < i → i < n → le (g l ((i - 1) / 2)) (g l i)
theorem heap_least {l : List T} {n : Nat} (h : Heap l n) : ∀ i, i < n → le (g l 0) (g l i) := by
  intro i
  induction i using Nat.strongRecOn with
  | ind i ih =>
    intro hi
    by_cases h0 : i = 0
    · subst h0; exact le_refl _
    · exact le_trans (ih ((i - 1) / 2) (by omega) (by omega)) (h i (by omega) hi)
/-- a heap but for what stands at j, which may be less than what is above it -/
structure Up (l : List T) (n j : Nat) : Prop where
  inn : j < n
  rest : ∀ i, 0 < i → i < n → i ≠ j → le (g l ((i - 1) / 2)) (g l i)
  kids : 0 < j → ∀ i, 0 < i → i < n → (i - 1) / 2 = j → le (g l ((j - 1) / 2)) (g l i)
theorem up_done {l : List T} {n j : Nat} (h : Up l n j) (hd : j = 0 ∨ le (g l ((j - 1) / 2)) (g l j)) : Heap l n := fun i h0 hi => by
  by_cases e : i = j
  · subst e
    rcases hd with h1 | h1
    · omega
    · exact h1
  · exact h.rest i h0 hi e
theorem up_step {l : List T} {n j : Nat} (h : Up l n j) (hn : n ≤ l.length) (hj : 0 < j) (hlt : T.lt (g l j) (g l ((j - 1) / 2))) : Up (swp l ((j - 1) / 2) j) n ((j - 1) / 2) := by
  have hjl : j < l.length := by have := h.inn; omega
  have hpl : (j - 1) / 2 < l.length := by omega
  have hne : (j - 1) / 2 ≠ j := by omega
  have sg := swp_get hpl hjl
  refine ⟨by have := h.inn; omega, fun i h0 hi hie => ?_, fun hp i h0 hi hic => ?_⟩
  · rw [sg, sg]
    by_cases e1 : i = j
    · subst e1
      rw [if_pos rfl, if_neg hne, if_pos rfl]
      exact le_of_lt hlt
    · rw [if_neg e1, if_neg hie]
      by_cases e2 : (i - 1) / 2 = j
      · rw [if_pos e2]
        exact h.kids hj i h0 hi e2
      · rw [if_neg e2]
        by_cases e3 : (i - 1) / 2 = (j - 1) / 2
        · rw [if_pos e3]
          have := h.rest i h0 hi e1
          rw [e3] at this
          exact le_trans (le_of_lt hlt) this
        · rw [if_neg e3]
          exact h.rest i h0 hi e1
  · have hpp : (((j - 1) / 2 - 1) / 2) ≠ j := by omega
    have hpp2 : (((j - 1) / 2 - 1) / 2) ≠ (j - 1) / 2 := by omega
    rw [sg, sg, if_neg hpp, if_neg hpp2]
    have top := h.rest ((j - 1) / 2) hp (by have := h.inn; omega) hne
    by_cases e1 : i = j
    · subst e1; rw [if_pos rfl]; exact top
    · rw [if_neg e1, if_neg (by omega)]
      have := h.rest i h0 hi e1
      rw [hic] at this
      exact le_trans top this
/-- what stands at m or below is a heap, of the first n -/
def From (l : List T) (n m : Nat) : Prop := ∀ k, 0 < k → k < n → m ≤ (k - 1) / 2 → le (g l ((k - 1) / 2)) (g l k)
theorem from_all {l : List T} {n : Nat} (h : From l n 0) : Heap l n := fun k h0 hk => h k h0 hk (Nat.zero_le _)
theorem from_none (l : List T) (n : Nat) : From l n (n / 2) := fun k h0 hk hm => by omega
/-- from m on a heap but for what stands at i, which may be more than what is below it -/
structure Down (l : List T) (n m i : Nat) : Prop where
  at_ : m ≤ i
  rest : ∀ k, 0 < k → k < n → m ≤ (k - 1) / 2 → (k - 1) / 2 ≠ i → le (g l ((k - 1) / 2)) (g l k)
  kids : m ≤ (i - 1) / 2 → 0 < i → ∀ k, 0 < k → k < n → (k - 1) / 2 = i → le (g l ((i - 1) / 2)) (g l k)
theorem from_down {l : List T} {n m : Nat} (h : From l n (m + 1)) : Down l n m m :=
  ⟨Nat.le_refl _, fun k h0 hk hm hne => h k h0 hk (by omega), fun h1 h2 => by omega⟩
theorem down_leaf {l : List T} {n m i : Nat} (h : Down l n m i) (hn : n ≤ 2 * i + 1) : From l n m := fun k h0 hk hm => h.rest k h0 hk hm (by omega)
/-- j: the lesser child -/
def Lesser (l : List T) (n i j : Nat) : Prop := (j = 2 * i + 1 ∨ j = 2 * i + 2) ∧ j < n ∧ ∀ k, 0 < k → k < n → (k - 1) / 2 = i → le (g l j) (g l k)
theorem down_done {l : List T} {n m i j : Nat} (h : Down l n m i) (hj : Lesser l n i j) (hd : le (g l i) (g l j)) : From l n m := fun k h0 hk hm => by
  by_cases e : (k - 1) / 2 = i
  · rw [e]; exact le_trans hd (hj.2.2 k h0 hk e)
  · exact h.rest k h0 hk hm e
theorem down_step {l : List T} {n m i j : Nat} (h : Down l n m i) (hn : n ≤ l.length) (hj : Lesser l n i j) (hlt : T.lt (g l j) (g l i)) : Down (swp l i j) n m j := by
  obtain ⟨hj1, hj2, hj3⟩ := hj
  have hjl : j < l.length := by omega
  have hil : i < l.length := by omega
  have hpar : (j - 1) / 2 = i := by omega
  have hne : i ≠ j := by omega
  have hmi := h.at_
  have sg := swp_get hil hjl
  refine ⟨by omega, fun k h0 hk hm hkj => ?_, fun _ h0j k h0 hk hkj => ?_⟩
  · rw [sg, sg, if_neg hkj]
    by_cases e1 : (k - 1) / 2 = i
    · rw [if_pos e1]
      by_cases e2 : k = j
      · rw [if_pos e2]; exact le_of_lt hlt
      · rw [if_neg e2, if_neg (by omega)]
        exact hj3 k h0 hk e1
    · rw [if_neg e1]
      have e2 : k ≠ j := by omega
      rw [if_neg e2]
      by_cases e3 : k = i
      · rw [if_pos e3]
        subst e3
        exact h.kids hm (by omega) j (by omega) hj2 hpar
      · rw [if_neg e3]
        exact h.rest k h0 hk hm e1
  · rw [sg, sg, hpar, if_neg hne, if_pos rfl, if_neg (by omega), if_neg (by omega)]
    have := h.rest k h0 hk (by omega) (by omega)
    rw [hkj] at this
    exact this
/-- what is put behind a heap may go up -/
theorem up_start {l : List T} {x : T} (h : Heap l l.length) : Up (l ++ [x]) (l.length + 1) l.length := by
  have same : ∀ i, i < l.length → g (l ++ [x]) i = g l i := fun i hi => by
    unfold g; rw [List.getD_eq_getElem?_getD, List.getD_eq_getElem?_getD, List.getElem?_append_left hi]
  refine ⟨by omega, fun i h0 hi hne => ?_, fun h0 i h0' hi hc => by omega⟩
  rw [same _ (by omega), same _ (by omega)]
  exact h i h0 (by omega)
/-- the last one, put first, may go down -/
theorem down_start {l : List T} {n : Nat} (h : Heap l (n + 1)) (hl : l.length = n + 1) : Down (swp l 0 n) n 0 0 := by
  have sg := swp_get (l := l) (i := 0) (j := n) (by omega) (by omega)
  refine ⟨Nat.le_refl _, fun k h0 hk _ hp => ?_, fun _ h0 => absurd h0 (by omega)⟩
  rw [sg, sg, if_neg (by omega), if_neg hp, if_neg (by omega), if_neg (by omega)]
  exact h k h0 (by omega)
end Go.Proofs.Ytengkkbiceennaa.Hf
