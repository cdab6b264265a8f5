/-
  Maths of the laws on lengths: what is full, what costs the least, what is rare, even, and once more often. No condition.
-/
import Derived.Test.YtbkehlppngejnaaHufOm
namespace Go.Proofs.Ytbkehlppngejnaa.Hf
def costN (f l : List Nat) : Nat := sm (fun i => f.getD i 0 * l.getD i 0) (List.range f.length)
def kraftN (l : List Nat) : Nat := sm (fun i => if 1 ≤ l.getD i 0 then 2 ^ (15 - l.getD i 0) else 0) (List.range l.length)
theorem lens_length (f : List Nat) : (lens f).length = f.length := by unfold lens; simp
theorem lens_get (f : List Nat) (i : Nat) : (lens f).getD i 0 = once (lastF f) i := by
  rw [List.getD_eq_getElem?_getD]
  by_cases h : i < f.length
  · rw [List.getElem?_eq_getElem (by rw [lens_length]; exact h)]
    unfold lens
    simp
  · rw [List.getElem?_eq_none (by rw [lens_length]; omega), once_none (fun k => by
      have := (S0_mem.1 k).1; rw [last_length] at this; exact h this)]
    rfl
theorem lens_there {f : List Nat} {i : Nat} : 1 ≤ (lens f).getD i 0 ↔ i ∈ S0 f := by
  rw [lens_get, ← last_S0]
  constructor
  · intro h
    refine Classical.byContradiction fun k => ?_
    rw [once_none k] at h; omega
  · exact once_pos
theorem lens_le {f : List Nat} (hn : f.length ≤ 300) (i : Nat) : (lens f).getD i 0 ≤ 15 := by rw [lens_get]; exact not_deep (last_not hn) i
theorem sm_part {g : Nat → Nat} {p : Nat → Bool} : ∀ (l : List Nat), (∀ i ∈ l, p i = false → g i = 0) → sm g l = sm g (l.filter p)
  | [], _ => rfl
  | x :: l, h => by
    have ih := sm_part l fun i hi => h i (by simp [hi])
    rw [List.filter_cons]
    cases hp : p x with
    | true => rw [if_pos rfl]; simp only [sm, ih]
    | false => rw [if_neg (by simp)]; simp only [sm]; rw [h x (by simp) hp, ih, Nat.zero_add]
theorem sm_S0 {f : List Nat} {g : Nat → Nat} (h : ∀ i, i < f.length → i ∉ S0 f → g i = 0) : sm g (List.range f.length) = sm g (S0 f) := by
  unfold S0
  refine sm_part _ fun i hi hp => ?_
  refine h i (List.mem_range.1 hi) fun k => ?_
  have := (S0_mem.1 k).2
  simp at hp
  rw [List.getD_eq_getElem?_getD] at this
  omega
theorem cost_S0 (f l : List Nat) : costN f l = sm (fun i => f.getD i 0 * l.getD i 0) (S0 f) := by
  unfold costN
  refine sm_S0 fun i hi hk => ?_
  have : f.getD i 0 = 0 := by
    refine Nat.eq_zero_of_not_pos fun h => hk (S0_mem.2 ⟨hi, h⟩)
  rw [this, Nat.zero_mul]
/-- the codes fill all there is -/
theorem kraft_lens {f : List Nat} (hn : f.length ≤ 300) : kraftN (lens f) = if 2 ≤ (S0 f).length then 32768 else 16384 * (S0 f).length := by
  unfold kraftN
  rw [lens_length, sm_S0 (f := f) fun i _ hk => if_neg fun k => hk (lens_there.1 k)]
  rw [sm_congr (h := fun i => 2 ^ (15 - once (lastF f) i)) fun i hi => by rw [if_pos (lens_there.2 hi), lens_get], ← last_S0]
  split
  · rename_i h
    rw [full h (M := 15) fun i _ => not_deep (last_not hn) i]
  · rename_i h
    by_cases h1 : (S0 (lastF f)).length = 1
    · rw [full_one h1, h1]
    · have h0 : S0 (lastF f) = [] := List.length_eq_zero_iff.1 (by omega)
      rw [h0]; rfl
/-- none cost less -/
theorem least_cost {f l : List Nat} (hd : deep f = false) (hl : l.length = f.length) (h1 : ∀ i, i < f.length → l.getD i 0 ≤ 15) (h2 : ∀ i, i < f.length → 0 < f.getD i 0 → 1 ≤ l.getD i 0) (hk : kraftN l ≤ 32768) : costN f (lens f) ≤ costN f l := by
  rw [cost_S0, cost_S0, sm_congr (h := fun i => f.getD i 0 * once f i) fun i _ => by rw [lens_get, last_same hd]]
  refine opt f (fun i => l.getD i 0) 15 (fun i hi => ⟨h2 i (S0_mem.1 hi).1 (S0_mem.1 hi).2, h1 i (S0_mem.1 hi).1⟩) (Nat.le_trans ?_ hk)
  rw [sm_congr (h := fun i => if 1 ≤ l.getD i 0 then 2 ^ (15 - l.getD i 0) else 0) fun i hi => by rw [if_pos (h2 i (S0_mem.1 hi).1 (S0_mem.1 hi).2)]]
  unfold kraftN S0
  rw [hl]
  exact sm_filter _
theorem rare_lens {f : List Nat} (hd : deep f = false) {a b : Nat} (ha : a < f.length) (hb : b < f.length) (h : f.getD b 0 < f.getD a 0) (h0 : 0 < f.getD b 0) : (lens f).getD a 0 ≤ (lens f).getD b 0 := by
  rw [lens_get, lens_get, last_same hd]
  exact rare (S0_mem.2 ⟨ha, by omega⟩) (S0_mem.2 ⟨hb, h0⟩) h
theorem deep_more (f : List Nat) : deep (f ++ [0]) = deep f := by
  unfold deep
  rw [more, List.length_append, List.length_singleton, List.range_succ, List.any_append]
  have : once f f.length = 0 := once_none fun k => by have := (S0_mem.1 k).1; omega
  simp [this]
theorem half_more (f : List Nat) : half (f ++ [0]) = half f ++ [0] := by unfold half; simp
theorem S0_more (f : List Nat) : S0 (f ++ [0]) = S0 f ∧ ∀ i, (f ++ [0]).getD i 0 = f.getD i 0 := by
  have hg : ∀ i, (f ++ [0]).getD i 0 = f.getD i 0 := fun i => by
    rw [List.getD_eq_getElem?_getD, List.getD_eq_getElem?_getD]
    by_cases h : i < f.length
    · rw [List.getElem?_append_left h]
    · rw [List.getElem?_append_right (by omega), List.getElem?_eq_none (by omega : f.length ≤ i)]
      cases h2 : i - f.length with
      | zero => rfl
      | succ n => rfl
  refine ⟨?_, hg⟩
  unfold S0
  rw [List.length_append, List.length_singleton, List.range_succ, List.filter_append]
  rw [List.filter_congr (q := fun i => decide (0 < f.getD i 0)) (fun i _ => by rw [hg])]
  simp
theorem tot_more (f : List Nat) : tot (f ++ [0]) = tot f := by
  unfold tot
  rw [(S0_more f).1]
  exact sm_congr fun i _ => (S0_more f).2 i
theorem fin_cons : ∀ (k : Nat) (f : List Nat), fin k (f ++ [0]) = fin k f ++ [0]
  | 0, _ => rfl
  | k + 1, f => by
    unfold fin
    rw [deep_more]
    split
    · rw [half_more]; exact fin_cons k (half f)
    · rfl
/-- what is not there changes nothing -/
theorem lens_more (f : List Nat) : lens (f ++ [0]) = lens f ++ [0] := by
  have h : lastF (f ++ [0]) = lastF f ++ [0] := by unfold lastF; rw [tot_more, fin_cons]
  have h0 : once (lastF f) f.length = 0 := once_none fun k => by have := (S0_mem.1 k).1; rw [last_length] at this; omega
  unfold lens
  rw [h, more, List.length_append, List.length_singleton, List.range_succ, List.map_append, List.map_singleton, h0]
theorem even_not {c k : Nat} (hc : 1 ≤ c) (hk : 1 ≤ k) (h8 : k ≤ 8) : deep (List.replicate (2 ^ k) c) = false := by
  unfold deep
  refine List.any_eq_false.2 fun i hi => ?_
  have := even c k hc hk i (by have := List.mem_range.1 hi; rwa [List.length_replicate] at this)
  rw [this]
  simp; omega
theorem even_lens {c k : Nat} (hc : 1 ≤ c) (hk : 1 ≤ k) (h8 : k ≤ 8) : lens (List.replicate (2 ^ k) c) = List.replicate (2 ^ k) k := by
  unfold lens
  rw [last_same (even_not hc hk h8), List.length_replicate]
  refine List.ext_getElem (by simp) fun i h1 h2 => ?_
  rw [List.getElem_map, List.getElem_replicate, List.getElem_range]
  exact even c k hc hk i (by simpa using h1)
theorem even_cost {c k : Nat} : costN (List.replicate (2 ^ k) c) (List.replicate (2 ^ k) k) = 2 ^ k * k * c := by
  unfold costN
  rw [List.length_replicate, sm_congr (h := fun _ => c * k) fun i hi => by
    have := List.mem_range.1 hi
    simp [this]]
  rw [sm_const, List.length_range, Nat.mul_assoc, Nat.mul_comm c k]
/-- once more often: not less -/
theorem steps_cost {f : List Nat} {i : Nat} (hd : deep f = false) (hd2 : deep (f.set i (f.getD i 0 + 1)) = false) : costN f (lens f) ≤ costN (f.set i (f.getD i 0 + 1)) (lens (f.set i (f.getD i 0 + 1))) := by
  rw [cost_S0, cost_S0, sm_congr (h := fun j => f.getD j 0 * once f j) fun j _ => by rw [lens_get, last_same hd],
    sm_congr (g := fun j => (f.set i (f.getD i 0 + 1)).getD j 0 * (lens (f.set i (f.getD i 0 + 1))).getD j 0) (h := fun j => (f.set i (f.getD i 0 + 1)).getD j 0 * once (f.set i (f.getD i 0 + 1)) j) fun j _ => by rw [lens_get, last_same hd2]]
  refine steps (by rw [List.length_set]) fun j => ?_
  rw [List.getD_eq_getElem?_getD, List.getD_eq_getElem?_getD, List.getElem?_set]
  split
  · rename_i e
    subst e
    split
    · show _ ≤ f.getD i 0 + 1
      rw [List.getD_eq_getElem?_getD]; omega
    · rename_i h; rw [List.getElem?_eq_none (by omega)]; exact Nat.le_refl _
  · exact Nat.le_refl _
theorem cost_le {f l : List Nat} (hn : f.length ≤ 300) (h1 : ∀ i, f.getD i 0 ≤ 100000) (h2 : ∀ i, l.getD i 0 ≤ 15) : costN f l ≤ 450000000 := by
  have : costN f l ≤ sm (fun _ => 100000 * 15) (List.range f.length) := sm_le fun i _ => Nat.mul_le_mul (h1 i) (h2 i)
  rw [sm_const, List.length_range] at this
  have := Nat.mul_le_mul_right (100000 * 15) hn
  omega
theorem kraft_le {l : List Nat} (hn : l.length ≤ 300) : kraftN l ≤ 4915200 := by
  have : kraftN l ≤ sm (fun _ => 16384) (List.range l.length) := sm_le fun i _ => by
    split
    · exact Nat.le_trans (Nat.pow_le_pow_right (by decide) (by omega : 15 - l.getD i 0 ≤ 14)) (by decide)
    · exact Nat.zero_le _
  rw [sm_const, List.length_range] at this
  have := Nat.mul_le_mul_right 16384 hn
  omega
theorem fx1 : lens [3, 1, 1, 0] = [1, 2, 2, 0] := by decide +kernel
theorem fx2 : lens [0, 5] = [0, 1] := by decide +kernel
theorem fx3 : costN [3, 1, 1] [1, 2, 2] = 7 := by decide +kernel
theorem fx4 : kraftN [1, 2, 2, 0] = 32768 := by decide +kernel
end Go.Proofs.Ytbkehlppngejnaa.Hf
