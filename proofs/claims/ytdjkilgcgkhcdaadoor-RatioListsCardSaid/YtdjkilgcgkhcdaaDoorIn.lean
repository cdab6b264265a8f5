/-
  The places of a list in their order: one list alone is so; what an insertion does to it; what Order answers is so.
-/
import Derived.Test.YtdjkilgcgkhcdaaDoorSo
namespace Go.Proofs.YtdjkilgcgkhcdaaDoor
open Go.RowKit Go.Fl Go.Sort Go.Lib
/-- The first i places, in their order. -/
structure Ins (l o : List Nat) (i : Nat) : Prop where
  perm : o.Perm (List.range i)
  sorted : o.Pairwise (fun a b => prI l b a = false)
theorem Ins.length {l o : List Nat} {i : Nat} (h : Ins l o i) : o.length = i := by simpa using h.perm.length_eq
theorem Ins.lt {l o : List Nat} {i : Nat} (h : Ins l o i) {j : Nat} (hj : j ∈ o) : j < i := by simpa using h.perm.subset hj
theorem Ins.at_lt {l o : List Nat} {i : Nat} (h : Ins l o i) (k : Nat) (hk : k < i) : o.getD k 0 < i := by
  have := h.length
  rw [List.getD_eq_getElem?_getD, List.getElem?_eq_getElem (by omega)]
  exact h.lt (List.getElem_mem _)
theorem Ins.nil (l : List Nat) : Ins l [] 0 := ⟨by simp, .nil⟩
/-- There is one such list. -/
theorem Ins.one {l o o' : List Nat} {i : Nat} (h : Ins l o i) (h' : Ins l o' i) : o = o' := by
  refine List.Perm.eq_of_pairwise (le := fun a b => prI l b a = false) (fun a b _ _ h1 h2 => ?_) h.sorted h'.sorted (h.perm.trans h'.perm.symm)
  rw [prI_eq, decide_eq_false_iff_not] at h1 h2
  omega
/-- One place more, ahead of all that stand behind its number, behind one that does not. -/
theorem Ins.step {l o : List Nat} {i p : Nat} (h : Ins l o i) (hp : p ≤ i)
    (h1 : ∀ k, p ≤ k → k < i → lessB (l.getD i 0) (l.getD (o.getD k 0) 0) = true) (h2 : p = 0 ∨ lessB (l.getD i 0) (l.getD (o.getD (p - 1) 0) 0) = false) :
    Ins l (o.take p ++ ([i] ++ o.drop p)) (i + 1) := by
  have hl := h.length
  have hs := List.pairwise_iff_getElem.1 h.sorted
  refine ⟨?_, ?_⟩
  · rw [List.range_succ]
    have e1 : (o.take p ++ ([i] ++ o.drop p)).Perm (o.take p ++ (o.drop p ++ [i])) := List.Perm.append_left _ List.perm_append_comm
    rw [← List.append_assoc (List.take p o) (List.drop p o), List.take_append_drop] at e1
    exact e1.trans (List.Perm.append_right _ h.perm)
  · rw [List.pairwise_append, List.pairwise_append]
    have hd : ∀ b ∈ o.drop p, prI l b i = false := fun b hb => by
      obtain ⟨k, hk, rfl⟩ := List.getElem_of_mem hb
      simp only [List.length_drop] at hk
      have := h1 (p + k) (by omega) (by omega)
      rw [List.getD_eq_getElem?_getD (l := o), List.getElem?_eq_getElem (by omega)] at this
      simp only [Option.getD_some] at this
      rw [List.getElem_drop]
      unfold lessB at this
      rw [decide_eq_true_eq] at this
      rw [prI_eq, decide_eq_false_iff_not]; omega
    have ht : ∀ a ∈ o.take p, prI l i a = false := fun a ha => by
      obtain ⟨k, hk, rfl⟩ := List.getElem_of_mem ha
      simp only [List.length_take] at hk
      rw [List.getElem_take]
      have hlt := h.lt (List.getElem_mem (l := o) (n := k) (by omega))
      rcases h2 with h2 | h2
      · omega
      · rw [List.getD_eq_getElem?_getD (l := o), List.getElem?_eq_getElem (by omega)] at h2
        simp only [Option.getD_some] at h2
        unfold lessB at h2
        rw [decide_eq_false_iff_not] at h2
        rw [prI_eq, decide_eq_false_iff_not]
        by_cases e : k = p - 1
        · subst e; omega
        · have h3 := hs k (p - 1) (by omega) (by omega) (by omega)
          rw [prI_eq, decide_eq_false_iff_not] at h3
          omega
    refine ⟨h.sorted.sublist (List.take_sublist _ _), ⟨List.pairwise_singleton _ _, h.sorted.sublist (List.drop_sublist _ _), fun a ha b hb => ?_⟩, fun a ha b hb => ?_⟩
    · rw [List.mem_singleton.1 ha]; exact hd b hb
    · rcases List.mem_append.1 hb with hb | hb
      · rw [List.mem_singleton.1 hb]; exact ht a ha
      · have := h.sorted
        rw [← List.take_append_drop p o, List.pairwise_append] at this
        exact this.2.2 a ha b hb
/-- What the program's Order answers. -/
theorem Stable.ins {l : List Nat} [Inhabited (Fin l.length)] {r : Array (Fin l.length)} (h : Stable l r) : Ins l (r.toList.map (·.val)) l.length := by
  have hp := h.perm.2.2
  have hs := h.size
  rw [ext_all r _ hs, ext_all _ _ (places_size _)] at hp
  refine ⟨by rw [← places_list]; exact List.Perm.map _ hp, ?_⟩
  rw [List.pairwise_iff_getElem]
  intro i j hi hj hij
  simp only [List.length_map, Array.length_toList] at hi hj
  have := h.sorted i j (by omega) hij (by omega)
  unfold prF at this
  rw [getElem!_pos r i (by omega), getElem!_pos r j (by omega)] at this
  simpa using this
end Go.Proofs.YtdjkilgcgkhcdaaDoor
