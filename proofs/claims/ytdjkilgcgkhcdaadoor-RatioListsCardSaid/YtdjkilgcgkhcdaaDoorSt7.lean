/-
  The strict order of places, and what an insertion sort of places that stand in their order leaves.
-/
import Derived.Test.YtdjkilgcgkhcdaaDoorSt3
namespace Go.Proofs.YtdjkilgcgkhcdaaDoor
open Go.Fl Go.Sort
/-- The strict order of places: as the floats stand; of alike ones the one ahead first. -/
def prI (l : List Nat) (i j : Nat) : Bool := lessB (l.getD i 0) (l.getD j 0) || (!lessB (l.getD j 0) (l.getD i 0) && decide (i < j))
def prF (l : List Nat) (i j : Fin l.length) : Bool := prI l i.val j.val
theorem prI_eq (l : List Nat) (i j : Nat) : prI l i j = decide (key (l.getD i 0) < key (l.getD j 0) ∨ key (l.getD i 0) = key (l.getD j 0) ∧ i < j) := by
  unfold prI lessB
  rw [Bool.eq_iff_iff]
  simp only [Bool.or_eq_true, Bool.and_eq_true, Bool.not_eq_true', decide_eq_true_eq, decide_eq_false_iff_not]
  omega
theorem prF_swo (l : List Nat) : SWO (prF l) where
  irrefl x := by unfold prF; rw [prI_eq]; simp
  trans x y z h1 h2 := by unfold prF at *; rw [prI_eq, decide_eq_true_eq] at *; omega
  ntrans x y z h1 h2 := by unfold prF at *; rw [prI_eq, decide_eq_false_iff_not] at *; omega
theorem prF_anti (l : List Nat) (x y : Fin l.length) (h1 : prF l x y = false) (h2 : prF l y x = false) : x = y := by
  unfold prF at *; rw [prI_eq, decide_eq_false_iff_not] at *
  exact Fin.ext (by omega)
/-- A later place is ahead of an earlier one just where the program's comparison says so. -/
theorem lt_later (l : List Nat) (x y : Fin l.length) (h : y.val < x.val) : ltOf (cfF l) x y = prF l x y := by
  unfold ltOf cfF cfI prF prI
  have e : decide (x.val < y.val) = false := decide_eq_false (by omega)
  rw [e]
  cases lessB (l.getD x.val 0) (l.getD y.val 0) <;> simp
  split <;> simp
variable {n : Nat} [Inhabited (Fin n)] {lt pr : Fin n → Fin n → Bool}
theorem insInner_eq (hl : ∀ x y : Fin n, y.val < x.val → lt x y = pr x y) (a : Nat) : ∀ (j : Nat) (d : Array (Fin n)), j < d.size → (∀ k, a ≤ k → k < j → (d[k]!).val < (d[j]!).val) → insInner lt a j d = insInner pr a j d
  | 0, _, _, _ => rfl
  | j + 1, d, hj, h => by
    unfold insInner
    by_cases ha : j + 1 > a
    · have e : lt d[j + 1]! d[j]! = pr d[j + 1]! d[j]! := hl _ _ (h j (by omega) (by omega))
      rw [e]
      by_cases hp : pr d[j + 1]! d[j]! = true
      · rw [if_pos (by simp [ha, hp]), if_pos (by simp [ha, hp])]
        refine insInner_eq hl a j _ (by rw [size_swp]; omega) fun k h1 h2 => ?_
        rw [swp_at d _ _ k hj (by omega), swp_at d _ _ j hj (by omega), if_neg (by omega), if_neg (by omega), if_pos rfl]
        exact h k h1 (by omega)
      · rw [if_neg (by simp [hp]), if_neg (by simp [hp])]
    · rw [if_neg (by simp; omega), if_neg (by simp; omega)]
/-- What an insertion keeps. -/
theorem insInner_keeps (a c : Nat) : ∀ (j : Nat) (d : Array (Fin n)), j < d.size → (∀ k, a ≤ k → k ≤ j → (d[k]!).val < c) →
    (∀ k, a ≤ k → k ≤ j → ((insInner pr a j d)[k]!).val < c) ∧ (∀ k, j < k → (insInner pr a j d)[k]! = d[k]!) ∧ (insInner pr a j d).size = d.size
  | 0, d, _, h => ⟨h, fun _ _ => rfl, rfl⟩
  | j + 1, d, hj, h => by
    unfold insInner
    by_cases ht : (decide (j + 1 > a) && pr d[j + 1]! d[j]!) = true
    · rw [if_pos ht]
      have ha : a ≤ j := by simp at ht; omega
      have g : ∀ k, a ≤ k → k ≤ j + 1 → ((swp d (j + 1) j)[k]!).val < c := fun k h1 h2 => by
        rw [swp_at d _ _ k hj (by omega)]
        split
        · exact h _ (by omega) (by omega)
        · split
          · exact h _ (by omega) (by omega)
          · exact h k h1 h2
      obtain ⟨r1, r2, r3⟩ := insInner_keeps a c j (swp d (j + 1) j) (by rw [size_swp]; omega) (fun k h1 h2 => g k h1 (by omega))
      refine ⟨fun k h1 h2 => ?_, fun k h1 => ?_, by rw [r3, size_swp]⟩
      · by_cases e : k = j + 1
        · subst e; rw [r2 _ (by omega)]; exact g _ h1 (by omega)
        · exact r1 k h1 (by omega)
      · rw [r2 k (by omega), swp_at d _ _ k hj (by omega), if_neg (by omega), if_neg (by omega)]
    · rw [if_neg ht]
      exact ⟨h, fun _ _ => rfl, rfl⟩
theorem insOuter_eq (hl : ∀ x y : Fin n, y.val < x.val → lt x y = pr x y) (a b : Nat) : ∀ (f i : Nat) (d : Array (Fin n)), b - i ≤ f → a ≤ i → b ≤ d.size → (∀ k, a ≤ k → k < i → (d[k]!).val < i) → (∀ k, i ≤ k → k < b → (d[k]!).val = k) → insOuter lt a b i d = insOuter pr a b i d
  | 0, i, d, hf, _, _, _, _ => by
    rw [insOuter_stop _ _ _ _ _ (by omega), insOuter_stop _ _ _ _ _ (by omega)]
  | f + 1, i, d, hf, ha, hb, h1, h2 => by
    by_cases hi : i < b
    · rw [insOuter_go _ _ _ _ _ hi, insOuter_go _ _ _ _ _ hi]
      have e := insInner_eq hl a i d (by omega) (fun k g1 g2 => by rw [h2 i (Nat.le_refl _) hi]; exact h1 k g1 g2)
      rw [e]
      obtain ⟨r1, r2, r3⟩ := insInner_keeps (pr := pr) a (i + 1) i d (by omega) (fun k g1 g2 => by
        by_cases e : k = i
        · subst e; rw [h2 _ (Nat.le_refl _) hi]; omega
        · have := h1 k g1 (by omega); omega)
      exact insOuter_eq hl a b f (i + 1) _ (by omega) (by omega) (by omega) (fun k g1 g2 => r1 k g1 (by omega)) (fun k g1 g2 => by rw [r2 k (by omega)]; exact h2 k (by omega) g2)
    · rw [insOuter_stop _ _ _ _ _ hi, insOuter_stop _ _ _ _ _ hi]
/-- A block of places that stand in their order, insertion-sorted. -/
theorem ins_block (hl : ∀ x y : Fin n, y.val < x.val → lt x y = pr x y) (hpr : SWO pr) (a b : Nat) (d : Array (Fin n)) (hab : a ≤ b) (hb : b ≤ d.size) (h : ∀ k, a ≤ k → k < b → (d[k]!).val = k) :
    PermIn a b d (Sort.insertionSort lt d a b) ∧ SortedIn pr a b (Sort.insertionSort lt d a b) := by
  have e : Sort.insertionSort lt d a b = Sort.insertionSort pr d a b := by
    unfold Sort.insertionSort
    by_cases hlt : a < b
    · exact insOuter_eq hl a b (b - (a + 1)) (a + 1) d (by omega) (by omega) hb (fun k g1 g2 => by
        have : k = a := by omega
        subst this; rw [h _ (Nat.le_refl _) hlt]; omega) (fun k g1 g2 => h k (by omega) g2)
    · rw [insOuter_stop _ _ _ _ _ (by omega), insOuter_stop _ _ _ _ _ (by omega)]
  rw [e]
  exact insertionSort_holds hpr d a b hab hb
end Go.Proofs.YtdjkilgcgkhcdaaDoor
