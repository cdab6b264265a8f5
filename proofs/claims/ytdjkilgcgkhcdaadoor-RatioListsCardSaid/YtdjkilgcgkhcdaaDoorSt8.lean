/-
  Blocks of places and how they grow: the plain half of the stable sort.
-/
import Derived.Test.YtdjkilgcgkhcdaaDoorSt7
namespace Go.Proofs.YtdjkilgcgkhcdaaDoor
open Go.Fl Go.Sort
variable {N : Nat} [Inhabited (Fin N)] {lt pr : Fin N → Fin N → Bool} {d d' : Array (Fin N)}
/-- A block: sorted, and holding its own places. -/
def Good (pr : Fin N → Fin N → Bool) (s e : Nat) (d : Array (Fin N)) : Prop := SortedIn pr s e d ∧ ∀ k, s ≤ k → k < e → s ≤ (d[k]!).val ∧ (d[k]!).val < e
theorem good_pre (hl : ∀ x y : Fin N, y.val < x.val → lt x y = pr x y) {s m e : Nat} (h1 : Good pr s m d) (h2 : Good pr m e d) : MergePre lt pr s m e d :=
  ⟨h1.1, h2.1, fun i j a b c f => hl _ _ (by have := h1.2 i a b; have := h2.2 j c f; omega)⟩
theorem good_post {s m e : Nat} (hme : m ≤ e) (hsm : s ≤ m) (hsz : e ≤ d.size) (h1 : Good pr s m d) (h2 : Good pr m e d) (hM : MergePost pr s e d d') : Good pr s e d' :=
  ⟨hM.2, fun k g1 g2 => permIn_all d d' s e (fun x => s ≤ x.val ∧ x.val < e) hsz hM.1 (fun i a b => by
    by_cases c : i < m
    · have := h1.2 i a c; omega
    · have := h2.2 i (by omega) b; omega) k g1 g2⟩
theorem good_other {s e a b : Nat} (hp : PermIn a b d d') (ho : e ≤ a ∨ b ≤ s) (h : Good pr s e d) : Good pr s e d' :=
  ⟨fun i j h1 h2 h3 => by rw [hp.2.1 i (by omega), hp.2.1 j (by omega)]; exact h.1 i j h1 h2 h3, fun k h1 h2 => by rw [hp.2.1 k (by omega)]; exact h.2 k h1 h2⟩
theorem good_ins (hl : ∀ x y : Fin N, y.val < x.val → lt x y = pr x y) (hpr : SWO pr) {a b : Nat} (hab : a ≤ b) (hb : b ≤ d.size) (h : ∀ k, a ≤ k → k < b → (d[k]!).val = k) :
    PermIn a b d (Sort.insertionSort lt d a b) ∧ Good pr a b (Sort.insertionSort lt d a b) := by
  obtain ⟨p, s⟩ := ins_block hl hpr a b d hab hb h
  exact ⟨p, s, fun k g1 g2 => permIn_all d _ a b (fun x => a ≤ x.val ∧ x.val < b) hb p (fun i x y => by rw [h i x y]; omega) k g1 g2⟩
/-- From a on each block of bs places is good; ahead of a each one that ends there. -/
def AllG (pr : Fin N → Fin N → Bool) (bs a : Nat) (d : Array (Fin N)) : Prop := ∀ q, a ≤ q * bs → q * bs < N → Good pr (q * bs) (min (q * bs + bs) N) d
def DoneG (pr : Fin N → Fin N → Bool) (bs a : Nat) (d : Array (Fin N)) : Prop := ∀ q, q * bs + bs ≤ a → Good pr (q * bs) (q * bs + bs) d
theorem done_step {bs q0 : Nat} (hbs : 0 < bs) (hD : DoneG pr bs (q0 * bs) d) (hp : PermIn (q0 * bs) (q0 * bs + bs) d d') (hG : Good pr (q0 * bs) (q0 * bs + bs) d') : DoneG pr bs ((q0 + 1) * bs) d' := fun q hq => by
  by_cases e : q = q0
  · subst e; exact hG
  · have hlt : q < q0 := by
      refine Nat.lt_of_not_le fun h => ?_
      have := Nat.mul_le_mul_right bs (show q0 + 1 ≤ q by omega)
      omega
    have := Nat.mul_le_mul_right bs (show q + 1 ≤ q0 by omega)
    rw [Nat.succ_mul] at this
    exact good_other hp (.inl this) (hD q this)
/-- The first blocks. -/
theorem first_all {q0 : Nat} (hq : q0 * 20 ≤ N) (hq2 : N < q0 * 20 + 20) (hD : DoneG pr 20 (q0 * 20) d) (hp : PermIn (q0 * 20) N d d') (hG : Good pr (q0 * 20) N d') : AllG pr 20 0 d' := fun q _ hq3 => by
  by_cases e : q = q0
  · subst e; rw [Nat.min_eq_right (by omega)]; exact hG
  · have : q < q0 := by omega
    rw [Nat.min_eq_left (by omega)]
    exact good_other hp (.inl (by omega)) (hD q (by omega))
theorem all_other {bs a b : Nat} (hp : PermIn a b d d') (h : AllG pr bs a d) (hab : ∀ q, b ≤ q * bs → a ≤ q * bs) : AllG pr bs b d' := fun q h1 h2 => good_other hp (.inr h1) (h q (hab q h1) h2)
/-- Two blocks of bs places at a. -/
theorem two_blocks {bs q0 : Nat} (h : AllG pr bs (q0 * (2 * bs)) d) (hb : q0 * (2 * bs) + bs < N) :
    Good pr (q0 * (2 * bs)) (q0 * (2 * bs) + bs) d ∧ Good pr (q0 * (2 * bs) + bs) (min (q0 * (2 * bs) + bs + bs) N) d := by
  have e1 : (2 * q0) * bs = q0 * (2 * bs) := by rw [Nat.mul_comm 2 q0, Nat.mul_assoc]
  have e2 : (2 * q0 + 1) * bs = q0 * (2 * bs) + bs := by rw [Nat.succ_mul, e1]
  have g1 := h (2 * q0) (by omega) (by omega)
  have g2 := h (2 * q0 + 1) (by omega) (by omega)
  rw [e1, Nat.min_eq_left (by omega)] at g1
  rw [e2] at g2
  exact ⟨g1, g2⟩
/-- The last block, or two. -/
theorem last_all {bs q0 : Nat} (hq : q0 * (2 * bs) ≤ N) (hq2 : N < q0 * (2 * bs) + 2 * bs) (hD : DoneG pr (2 * bs) (q0 * (2 * bs)) d) (hp : PermIn (q0 * (2 * bs)) N d d') (hG : q0 * (2 * bs) < N → Good pr (q0 * (2 * bs)) N d') : AllG pr (2 * bs) 0 d' := fun q _ hq3 => by
  by_cases e : q = q0
  · subst e; rw [Nat.min_eq_right (by omega)]; exact hG hq3
  · have hlt : q < q0 := by
      refine Nat.lt_of_not_le fun h => ?_
      have := Nat.mul_le_mul_right (2 * bs) (show q0 + 1 ≤ q by omega)
      rw [Nat.succ_mul] at this
      omega
    have := Nat.mul_le_mul_right (2 * bs) (show q + 1 ≤ q0 by omega)
    rw [Nat.succ_mul] at this
    rw [Nat.min_eq_left (by omega)]
    exact good_other hp (.inl this) (hD q this)
theorem one_block {bs q0 : Nat} (h : AllG pr bs (q0 * (2 * bs)) d) (hb : ¬ q0 * (2 * bs) + bs < N) (ha : q0 * (2 * bs) < N) : Good pr (q0 * (2 * bs)) N d := by
  have e1 : (2 * q0) * bs = q0 * (2 * bs) := by rw [Nat.mul_comm 2 q0, Nat.mul_assoc]
  have g1 := h (2 * q0) (by omega) (by omega)
  rw [e1, Nat.min_eq_right (by omega)] at g1
  exact g1
theorem all_last {bs : Nat} (h : AllG pr bs 0 d) (hb : N ≤ bs) : SortedIn pr 0 N d := by
  by_cases h0 : 0 < N
  · have := (h 0 (by omega) (by omega)).1
    rw [Nat.zero_mul, Nat.zero_add, Nat.min_eq_right hb] at this
    exact this
  · intro i j _ _ h3; omega
end Go.Proofs.YtdjkilgcgkhcdaaDoor
