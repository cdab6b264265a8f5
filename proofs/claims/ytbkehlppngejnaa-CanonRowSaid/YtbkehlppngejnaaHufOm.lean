/-
  Maths of forests on their way: each tree has its place, the two least are the sorted forest's first two, and what one round does to depths and weights. No condition.
-/
import Derived.Test.YtbkehlppngejnaaHufLn
namespace Go.Proofs.Ytbkehlppngejnaa.Hf
/-- sorted, and no two trees of one number -/
structure Strict (F : List T) : Prop where
  sorted : F.Pairwise T.lt
  nums : (F.map T.n).Nodup
theorem ins_sorted (t : T) : ∀ l : List T, (∀ x ∈ l, t.n ≠ x.n) → l.Pairwise T.lt → (ins t l).Pairwise T.lt
  | [], _, _ => by unfold ins; simp
  | x :: l, hn, h => by
    obtain ⟨h1, h2⟩ := List.pairwise_cons.1 h
    have hx := hn x (by simp)
    unfold ins
    split
    · rename_i hlt
      refine List.pairwise_cons.2 ⟨fun y hy => ?_, h⟩
      rcases List.mem_cons.1 hy with rfl | hy
      · exact hlt
      · have := h1 y hy; unfold T.lt at *; omega
    · rename_i hlt
      have htx : T.lt x t := by unfold T.lt at *; omega
      refine List.pairwise_cons.2 ⟨fun y hy => ?_, ins_sorted t l (fun y hy => hn y (by simp [hy])) h2⟩
      rcases List.mem_cons.1 ((ins_perm t l).mem_iff.1 hy) with rfl | hy
      · exact htx
      · exact h1 y hy
theorem ins_strict (t : T) {l : List T} (hn : ∀ x ∈ l, t.n ≠ x.n) (h : Strict l) : Strict (ins t l) := by
  refine ⟨ins_sorted t l hn h.sorted, ((ins_perm t l).map T.n).nodup_iff.2 ?_⟩
  rw [List.map_cons, List.nodup_cons]
  exact ⟨fun k => by obtain ⟨x, hx, e⟩ := List.mem_map.1 k; exact hn x hx e.symm, h.nums⟩
theorem step_strict {F : List T} (h : Strict F) : Strict (stepT F) := by
  unfold stepT
  split
  · rename_i a b r
    obtain ⟨h1, h2⟩ := List.pairwise_cons.1 h.sorted
    obtain ⟨h3, h4⟩ := List.pairwise_cons.1 h2
    have hn := h.nums
    rw [List.map_cons, List.map_cons] at hn
    obtain ⟨n1, n2⟩ := List.nodup_cons.1 hn
    obtain ⟨n3, n4⟩ := List.nodup_cons.1 n2
    refine ins_strict _ (fun x hx e => ?_) ⟨h4, n4⟩
    have hx' : x.n ∈ r.map T.n := List.mem_map.2 ⟨x, hx, rfl⟩
    have e2 : min a.n b.n = x.n := e
    by_cases hab : a.n ≤ b.n
    · rw [Nat.min_eq_left hab] at e2
      exact n1 (by rw [e2]; simp only [List.mem_cons]; exact .inr hx')
    · rw [Nat.min_eq_right (by omega)] at e2
      exact n3 (by rw [e2]; exact hx')
  · exact h
theorem sortT_strict : ∀ l : List T, (l.map T.n).Nodup → Strict (sortT l)
  | [], _ => ⟨by unfold sortT; simp, by unfold sortT; simp⟩
  | t :: l, h => by
    rw [List.map_cons, List.nodup_cons] at h
    refine ins_strict t (fun x hx e => ?_) (sortT_strict l h.2)
    exact h.1 (by rw [e]; exact List.mem_map.2 ⟨x, (sortT_perm l).mem_iff.1 hx, rfl⟩)
theorem F0_strict (f : List Nat) : Strict (F0 f) := by
  refine sortT_strict _ ?_
  unfold leaves
  rw [List.map_map]
  have : (T.n ∘ fun i => T.leaf i (f.getD i 0)) = id := rfl
  rw [this, List.map_id]
  exact S0_nodup f
/-- the least tree is the sorted forest's first -/
theorem first_is {l rest : List T} {a x : T} (hp : l.Perm (a :: rest)) (hs : (a :: rest).Pairwise T.lt) (hx : x ∈ l) (hm : ∀ y ∈ l, ¬ T.lt y x) : x = a := by
  rcases List.mem_cons.1 (hp.mem_iff.1 hx) with h | h
  · exact h
  · exact absurd ((List.pairwise_cons.1 hs).1 x h) (hm a (hp.mem_iff.2 (by simp)))
theorem erase_perm {α : Type} (l : List α) (k : Nat) (h : k < l.length) : l.Perm (l[k] :: l.eraseIdx k) := by
  have e1 : l = l.take k ++ l[k] :: l.drop (k + 1) := by rw [← List.drop_eq_getElem_cons h, List.take_append_drop]
  have e2 : l.eraseIdx k = l.take k ++ l.drop (k + 1) := List.eraseIdx_eq_take_drop_succ ..
  rw [e2]
  conv => lhs; rw [e1]
  exact List.perm_middle
theorem step_weight (F : List T) : sm T.w (stepT F) = sm T.w F := by
  unfold stepT
  split
  · rename_i a b r
    rw [sm_perm _ (ins_perm _ _)]
    simp only [sm, T.w]; omega
  · rfl
theorem build_len {a b : T} {r : List T} : build (a :: b :: r).length (a :: b :: r) = build (stepT (a :: b :: r)).length (stepT (a :: b :: r)) := by
  rw [step_length, if_pos (by simp)]
  rfl
theorem build_short {F : List T} (h : F.length ≤ 1) : build F.length F = F := by
  match F, h with
  | [], _ => rfl
  | [t], _ => rfl
/-- a forest on the way from f's leaves -/
structure Way (f : List Nat) (F : List T) : Prop where
  grove : Grove (fun i => f.getD i 0) F
  strict : Strict F
  syms : (syms F).Perm (S0 f)
  weight : sm T.w F = tot f
  goal : build F.length F = build (S0 f).length (F0 f)
theorem F0_weight (f : List Nat) : sm T.w (F0 f) = tot f := by
  unfold F0 tot
  rw [sm_perm _ (sortT_perm _)]
  unfold leaves
  rw [sm_map]; rfl
theorem way_start (f : List Nat) : Way f (F0 f) := ⟨F0_grove f, F0_strict f, F0_syms f, F0_weight f, by rw [F0_length]⟩
theorem way_step {f : List Nat} {a b : T} {r : List T} (h : Way f (a :: b :: r)) : Way f (ins (.node a b) r) :=
  ⟨h.grove.step, step_strict h.strict, (step_syms (a :: b :: r)).trans h.syms, (step_weight (a :: b :: r)).trans h.weight, build_len.symm.trans h.goal⟩
theorem way_end {f : List Nat} {F : List T} (h : Way f F) (hl : F.length ≤ 1) (h1 : (S0 f).length ≠ 1) (i : Nat) : dep F i = once f i := by
  have := h.goal
  rw [build_short hl] at this
  unfold once
  rw [if_neg h1, ← this]
theorem tot_le {f : List Nat} (hm : ∀ i, f.getD i 0 ≤ 100000) (hn : f.length ≤ 300) : tot f ≤ 30000000 := by
  have h1 : tot f ≤ sm (fun _ => 100000) (S0 f) := sm_le fun i _ => hm i
  rw [sm_const] at h1
  have h3 : (S0 f).length ≤ f.length := by
    unfold S0; refine Nat.le_trans (List.length_filter_le _ _) ?_; rw [List.length_range]; exact Nat.le_refl _
  have : (S0 f).length * 100000 ≤ 300 * 100000 := Nat.mul_le_mul_right _ (by omega)
  omega
/-- one more at each of these places -/
def plus (D : List Nat) : List Nat → List Nat
  | [] => D
  | i :: l => plus (D.set i (D.getD i 0 + 1)) l
theorem plus_length : ∀ (l D : List Nat), (plus D l).length = D.length
  | [], _ => rfl
  | i :: l, D => by unfold plus; rw [plus_length l, List.length_set]
theorem plus_snoc : ∀ (l D : List Nat) (i : Nat), plus D (l ++ [i]) = (plus D l).set i ((plus D l).getD i 0 + 1)
  | [], _, _ => rfl
  | j :: l, D, i => by rw [List.cons_append, plus, plus, plus_snoc l]
theorem plus_get : ∀ (l D : List Nat) (i : Nat), l.Nodup → i < D.length → (plus D l).getD i 0 = D.getD i 0 + (if i ∈ l then 1 else 0)
  | [], D, i, _, _ => by simp [plus]
  | j :: l, D, i, hn, hi => by
    obtain ⟨h1, h2⟩ := List.nodup_cons.1 hn
    unfold plus
    rw [plus_get l _ i h2 (by rw [List.length_set]; exact hi)]
    have hs : (D.set j (D.getD j 0 + 1)).getD i 0 = if j = i then D.getD j 0 + 1 else D.getD i 0 := by
      rw [List.getD_eq_getElem?_getD, List.getElem?_set]
      split
      · rename_i e; subst e; rw [if_pos hi]; rfl
      · rw [List.getD_eq_getElem?_getD]
    rw [hs]
    by_cases e : j = i
    · subst e
      rw [if_pos rfl, if_neg h1, if_pos (by simp)]
    · rw [if_neg e]
      by_cases hm : i ∈ l
      · rw [if_pos hm, if_pos (by simp [hm])]
      · rw [if_neg hm, if_neg (by simp [hm, Ne.symm e])]
theorem depths_step {n : Nat} {a b : T} {r : List T} (hn : (a.syms ++ b.syms).Nodup) : plus ((List.range n).map (dep (a :: b :: r))) (a.syms ++ b.syms) = (List.range n).map (dep (ins (.node a b) r)) := by
  refine List.ext_getElem (by rw [plus_length, List.length_map, List.length_map]) fun i h1 h2 => ?_
  have hi : i < n := by simpa using h2
  have e := plus_get (a.syms ++ b.syms) ((List.range n).map (dep (a :: b :: r))) i hn (by simpa using hi)
  have e2 : dep (ins (.node a b) r) i = dep (a :: b :: r) i + (if i ∈ a.syms ++ b.syms then 1 else 0) := step_dep a b r i
  rw [List.getD_eq_getElem?_getD, List.getElem?_eq_getElem h1] at e
  simp only [Option.getD_some] at e
  rw [e]
  simp [hi, e2]
end Go.Proofs.Ytbkehlppngejnaa.Hf
