/-
  Maths of a disk that dies: where each sector is from; all kept, and none. No condition.
-/
import Derived.Test.YtaamjamcnnalbaaDevMw
namespace Go.Proofs.Ytaamjamcnnalbaa.Dv
set_option maxRecDepth 100000
theorem die_from : ∀ (c : List (Int × ByteArray)) (k : List Bool) (L : List ByteArray) (a : Nat), a < L.length → (∀ p ∈ c, 0 ≤ p.1) →
    (dieC L c k).getD a empty0 = L.getD a empty0 ∨ ∃ i, i < c.length ∧ (c.getD i (0, empty0)).1 = a ∧ (c.getD i (0, empty0)).2 = (dieC L c k).getD a empty0 ∧ i < k.length ∧ k.getD i false = true
  | [], k, L, a, _, _ => by unfold dieC; exact .inl rfl
  | p :: c, [], L, a, _, _ => by unfold dieC; exact .inl rfl
  | p :: c, b :: k, L, a, ha, hc => by
    have hl : (if b = true then setAt L p.1 p.2 else L).length = L.length := by split <;> simp [setAt]
    have e : dieC L (p :: c) (b :: k) = dieC (if b = true then setAt L p.1 p.2 else L) c k := by simp only [dieC]
    rw [e]
    rcases die_from c k (if b = true then setAt L p.1 p.2 else L) a (by rw [hl]; exact ha) (fun q hq => hc q (by simp [hq])) with h | ⟨i, h1, h2, h3, h4, h5⟩
    · rw [h]
      cases b with
      | false => exact .inl (by rw [if_neg (by decide)])
      | true =>
        rw [if_pos rfl]
        by_cases hp : p.1.toNat = a
        · refine .inr ⟨0, by simp, ?_, ?_, by simp, rfl⟩
          · have := hc p (by simp)
            show p.1 = (a : Int)
            omega
          · show p.2 = _
            unfold setAt
            rw [List.getD_eq_getElem?_getD, List.getElem?_set, if_pos hp, if_pos (by rw [hp]; exact ha)]; rfl
        · left
          unfold setAt
          rw [List.getD_eq_getElem?_getD, List.getElem?_set_ne hp, ← List.getD_eq_getElem?_getD]
    · exact .inr ⟨i + 1, by simp; omega, by simpa using h2, by simpa using h3, by simp; omega, by simpa using h5⟩
theorem die_all : ∀ (c : List (Int × ByteArray)) (L : List ByteArray), dieC L c (List.replicate c.length true) = applyC L c
  | [], L => by unfold dieC; rfl
  | p :: c, L => by
    rw [List.length_cons, List.replicate_succ]
    simp only [dieC]
    rw [if_pos trivial, die_all c]
    rfl
theorem die_none (c : List (Int × ByteArray)) (L : List ByteArray) : dieC L c [] = L := by cases c <;> simp only [dieC]
/-- what the law asks of a place of the cache -/
def fits (d : Dsk) (K : List Bool) (x : ByteArray) (a i : Nat) : Bool := ((d.cache.getD i (0, empty0)).1 == (a : Int)) && (((d.cache.getD i (0, empty0)).2.toList == x.toList) && (decide ((i : Int) < (K.length : Int)) && K.getD i false))
/-- is it there among the first i? -/
def found (d : Dsk) (K : List Bool) (x : ByteArray) (a : Nat) (ok : Bool) (i : Nat) : Bool := ok || (List.range i).any (fits d K x a)
theorem found_zero (d : Dsk) (K : List Bool) (x : ByteArray) (a : Nat) (ok : Bool) : found d K x a ok 0 = ok := by unfold found; simp
theorem found_succ (d : Dsk) (K : List Bool) (x : ByteArray) (a : Nat) (ok : Bool) (i : Nat) : found d K x a ok (i + 1) = (found d K x a ok i || fits d K x a i) := by
  unfold found
  rw [List.range_succ, List.any_append, Bool.or_assoc]
  simp
theorem found_all {d : Dsk} (hm : mayD d = true) (K : List Bool) (a : Nat) (ha : a < d.kept.length) :
    found d K ((dieD d K).kept.getD a empty0) a (((dieD d K).kept.getD a empty0).toList == (d.kept.getD a empty0).toList) d.cache.length = true := by
  have hc := (mayD_iff.1 hm).2.2.2.2.2
  have e : (dieD d K).kept = dieC d.kept d.cache K := by rw [dieD_eq hm]
  rw [e]
  unfold found
  rw [Bool.or_eq_true]
  rcases die_from d.cache K d.kept a ha (fun p hp => (hc p hp).1) with h | ⟨i, h1, h2, h3, h4, h5⟩
  · left; rw [h]; simp
  · right
    rw [List.any_eq_true]
    refine ⟨i, List.mem_range.2 h1, ?_⟩
    unfold fits
    rw [h2, h3, h5]
    simp
    omega
theorem die_flush {d : Dsk} (hm : mayD d = true) (hd : d.dead = false) : (dieD d (List.replicate d.cache.length true)).kept = (flushD d).1.kept := by
  rw [dieD_eq hm, flushD_eq hm hd]
  exact die_all _ _
theorem die_nil {d : Dsk} (hm : mayD d = true) : (dieD d []).kept = d.kept := by
  rw [dieD_eq hm]
  exact die_none _ _
theorem revive_kept {d : Dsk} (hm : mayD d = true) : (reviveD d).kept = d.kept := by rw [reviveD_eq hm]
theorem die_length {d : Dsk} (hm : mayD d = true) (K : List Bool) : (dieD d K).kept.length = d.kept.length := by rw [dieD_eq hm]; exact dieC_length _ _ _
end Go.Proofs.Ytaamjamcnnalbaa.Dv

