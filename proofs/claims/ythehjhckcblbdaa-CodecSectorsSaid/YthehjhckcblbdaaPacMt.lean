/-
  Maths of tokens as bits: which bits tokens are, what is read of bits, that what is written is read, that what stands behind is of no moment. No condition.
-/
import Derived.Test.YthehjhckcblbdaaCanD
import Derived.Test.YthehjhckcblbdaaMatD
namespace Go.Proofs.Ythehjhckcblbdaa.Pk
set_option maxRecDepth 100000
open Hf Mb Cn Mt
/-- lengths that may be -/
def ok (l : List Nat) : Prop := l.length ≤ 300 ∧ (∀ i, l.getD i 0 ≤ 15) ∧ kraftN l ≤ 32768
instance (l : List Nat) : Decidable (kraftN l ≤ 32768) := inferInstance
/-- a number of bits, at a place -/
def takeN (b : List Bool) (p w : Nat) : Option Nat := if p + w ≤ b.length then some (num ((b.drop p).take w)) else none
theorem takeN_some {b : List Bool} {p w : Nat} (h : p + w ≤ b.length) : takeN b p w = some (num ((b.drop p).take w)) := if_pos h
theorem takeN_in {b : List Bool} {p w x : Nat} (h : takeN b p w = some x) : p + w ≤ b.length ∧ x = num ((b.drop p).take w) := by
  unfold takeN at h
  split at h
  · rename_i h1
    exact ⟨h1, (Option.some.inj h).symm⟩
  · cases h
theorem takeN_dig {b more : List Bool} {p x w : Nat} (h : b.drop p = dig x w ++ more) (hp : p ≤ b.length) (hx : x < 2 ^ w) : takeN b p w = some x := by
  have hl := congrArg List.length h
  rw [List.length_drop, List.length_append, dig_length] at hl
  rw [takeN_some (by omega), h, List.take_append_of_le_length (by rw [dig_length]; exact Nat.le_refl _), List.take_of_length_le (by rw [dig_length]; exact Nat.le_refl _), dig_of_lt x w hx]
/-- bits that are alike up to a place -/
def Upto (b b' : List Bool) (e : Nat) : Prop := e ≤ b.length ∧ e ≤ b'.length ∧ b.take e = b'.take e
theorem Upto.less {b b' : List Bool} {e d : Nat} (h : Upto b b' e) (hd : d ≤ e) : Upto b b' d := by
  refine ⟨Nat.le_trans hd h.1, Nat.le_trans hd h.2.1, ?_⟩
  have := congrArg (List.take d) h.2.2
  rw [List.take_take, List.take_take, Nat.min_eq_left hd] at this
  exact this
theorem Upto.part {b b' : List Bool} {e p w : Nat} (h : Upto b b' e) (hp : p + w ≤ e) : (b.drop p).take w = (b'.drop p).take w := by
  have h1 := (h.less hp).2.2
  have := congrArg (List.drop p) h1
  rw [List.drop_take, List.drop_take, show p + w - p = w by omega] at this
  exact this
theorem Upto.takeN {b b' : List Bool} {e p w x : Nat} (h : Upto b b' e) (hp : p + w ≤ e) (ht : takeN b p w = some x) : takeN b' p w = some x := by
  obtain ⟨_, h2⟩ := takeN_in ht
  rw [takeN_some (by have := h.2.1; omega), ← h.part hp, h2]
theorem Upto.hit {l : List Nat} {b b' : List Bool} {e p i : Nat} (h : Upto b b' e) (hp : p + l.getD i 0 ≤ e) (ht : hit l b p i = true) : hit l b' p i = true := by
  obtain ⟨h1, _, h3⟩ := hit_iff.1 ht
  exact hit_iff.2 ⟨h1, by have := h.2.1; omega, by rw [← h.part hp]; exact h3⟩
theorem read_hit {l : List Nat} {b : List Bool} {p i : Nat} (h : readN l b p = some i) : hit l b p i = true := by
  unfold readN at h
  exact List.find?_some h
/-! ### the lengths of symbols -/
/-- k symbols and their lengths, each above the one ahead -/
def rdLens (b : List Bool) : Nat → Int → Nat → List Nat → Option (List Nat × Nat)
  | 0, _, p, l => some (l, p)
  | k + 1, last, p, l =>
    match takeN b p 9, takeN b (p + 9) 4 with
    | some s, some n => if last < (s : Int) ∧ s < 272 ∧ 1 ≤ n then rdLens b k s (p + 13) (l.set s n) else none
    | _, _ => none
def rdHead (b : List Bool) : Option (List Nat × Nat) :=
  match takeN b 0 9 with
  | none => none
  | some k =>
    match rdLens b k (-1) 9 (List.replicate 272 0) with
    | none => none
    | some (l, p) => if kraftN l ≤ 32768 then some (l, p) else none
theorem rdLens_end {b : List Bool} : ∀ {k : Nat} {last : Int} {p : Nat} {l l' : List Nat} {e : Nat}, rdLens b k last p l = some (l', e) → e = p + 13 * k ∧ (k = 0 ∨ e ≤ b.length) ∧ l'.length = l.length ∧ ((∀ i, l.getD i 0 ≤ 15) → ∀ i, l'.getD i 0 ≤ 15)
  | 0, last, p, l, l', e, h => by
    simp only [rdLens, Option.some.injEq, Prod.mk.injEq] at h
    obtain ⟨rfl, rfl⟩ := h
    exact ⟨by omega, Or.inl rfl, rfl, fun h => h⟩
  | k + 1, last, p, l, l', e, h => by
    unfold rdLens at h
    split at h
    · rename_i s n h1 h2
      split at h
      · rename_i hc
        obtain ⟨a1, a2, a3, a4⟩ := rdLens_end h
        obtain ⟨b1, b2⟩ := takeN_in h2
        refine ⟨by omega, Or.inr ?_, by rw [a3, List.length_set], fun hl => a4 fun i => ?_⟩
        · rcases a2 with rfl | a2
          · omega
          · exact a2
        · rw [List.getD_eq_getElem?_getD, List.getElem?_set]
          by_cases hsi : s = i
          · subst hsi
            rw [if_pos rfl]
            have hlt := num_lt ((b.drop (p + 9)).take 4)
            have hle : 2 ^ ((b.drop (p + 9)).take 4).length ≤ 2 ^ 4 := Nat.pow_le_pow_right (by decide) (by rw [List.length_take]; omega)
            split
            · show n ≤ 15; omega
            · exact Nat.zero_le _
          · rw [if_neg hsi, ← List.getD_eq_getElem?_getD]; exact hl i
      · cases h
    · cases h
theorem rdLens_upto {b b' : List Bool} : ∀ {k : Nat} {last : Int} {p : Nat} {l l' : List Nat} {e : Nat}, rdLens b k last p l = some (l', e) → Upto b b' e → rdLens b' k last p l = some (l', e)
  | 0, last, p, l, l', e, h, _ => by simpa only [rdLens] using h
  | k + 1, last, p, l, l', e, h, hu => by
    have he := (rdLens_end h).1
    unfold rdLens at h ⊢
    split at h
    · rename_i s n h1 h2
      rw [hu.takeN (by omega) h1, hu.takeN (by omega) h2]
      simp only
      split at h
      · rename_i hc
        rw [if_pos hc]
        exact rdLens_upto h hu
      · cases h
    · cases h
theorem rdHead_end {b : List Bool} {l : List Nat} {e : Nat} (h : rdHead b = some (l, e)) : ok l ∧ 9 ≤ e ∧ e ≤ b.length ∧ l.length = 272 := by
  unfold rdHead at h
  split at h
  · cases h
  · rename_i k hk
    split at h
    · cases h
    · rename_i l2 p hl
      split at h
      · rename_i hkr
        simp only [Option.some.injEq, Prod.mk.injEq] at h
        obtain ⟨rfl, rfl⟩ := h
        obtain ⟨a1, a2, a3, a4⟩ := rdLens_end hl
        have h9 := (takeN_in hk).1
        rw [List.length_replicate] at a3
        refine ⟨⟨by omega, a4 fun i => ?_, hkr⟩, by omega, ?_, a3⟩
        · rw [List.getD_eq_getElem?_getD, List.getElem?_replicate]
          split <;> exact Nat.zero_le _
        · rcases a2 with rfl | a2
          · omega
          · exact a2
      · cases h
theorem rdHead_upto {b b' : List Bool} {l : List Nat} {e : Nat} (h : rdHead b = some (l, e)) (hu : Upto b b' e) : rdHead b' = some (l, e) := by
  have he := (rdHead_end h).2.1
  unfold rdHead at h ⊢
  split at h
  · cases h
  · rename_i k hk
    rw [hu.takeN (by omega) hk]
    simp only
    split at h
    · cases h
    · rename_i l2 p hl
      split at h
      · rename_i hkr
        simp only [Option.some.injEq, Prod.mk.injEq] at h
        obtain ⟨rfl, rfl⟩ := h
        rw [rdLens_upto hl hu]
        simp only
        rw [if_pos hkr]
      · cases h
end Go.Proofs.Ythehjhckcblbdaa.Pk
