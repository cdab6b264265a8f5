/-
  How far tokens of a block are read at most: 9 bits, 13 for each symbol, 15 for each byte; so a text above 924 bytes is none. No condition.
-/
import Derived.Test.YthehjhckcblbdaaCodM
namespace Go.Proofs.Ythehjhckcblbdaa.Pk
set_option maxRecDepth 100000
open Hf Mb Cn Mt
theorem rdLens_few {b : List Bool} : ∀ {k : Nat} {last : Int} {p : Nat} {l l' : List Nat} {e : Nat}, rdLens b k last p l = some (l', e) → last < 272 → (k : Int) + last < 272
  | 0, last, _, _, _, _, _, hl => by omega
  | k + 1, last, p, l, l', e, h, hl => by
    unfold rdLens at h
    split at h
    · split at h
      · rename_i hc
        have := rdLens_few h (by omega)
        omega
      · cases h
    · cases h
theorem rdHead_far {b : List Bool} {l : List Nat} {e : Nat} (h : rdHead b = some (l, e)) : e ≤ 3545 := by
  unfold rdHead at h
  split at h
  · cases h
  · split at h
    · cases h
    · rename_i l2 p hl
      split at h
      · simp only [Option.some.injEq, Prod.mk.injEq] at h
        obtain ⟨rfl, rfl⟩ := h
        have h1 := (rdLens_end hl).1
        have h2 := rdLens_few hl (by decide)
        omega
      · cases h
theorem rdToks_far {l : List Nat} {b : List Bool} {many : Nat} (hl : ∀ i, l.getD i 0 ≤ 15) : ∀ {k told p : Nat} {T : List Tok} {e : Nat}, rdToks l b many k told p = some (T, e) → told ≤ many → e ≤ p + 15 * (many - told)
  | 0, told, p, T, e, h, _ => by
    unfold rdToks at h
    split at h
    · simp only [Option.some.injEq, Prod.mk.injEq] at h
      obtain ⟨rfl, rfl⟩ := h
      omega
    · cases h
  | k + 1, told, p, T, e, h, hm => by
    unfold rdToks at h
    split at h
    · simp only [Option.some.injEq, Prod.mk.injEq] at h
      obtain ⟨rfl, rfl⟩ := h
      omega
    · split at h
      · cases h
      · rename_i s hs
        have h15 := hl s
        split at h
        · obtain ⟨⟨T2, e2⟩, h2, h3⟩ := Option.map_eq_some_iff.1 h
          simp only [Prod.mk.injEq] at h3
          obtain ⟨rfl, rfl⟩ := h3
          have := rdToks_far hl h2 (by omega)
          omega
        · split at h
          · cases h
          · split at h
            · rename_i hc
              obtain ⟨⟨T2, e2⟩, h2, h3⟩ := Option.map_eq_some_iff.1 h
              simp only [Prod.mk.injEq] at h3
              obtain ⟨rfl, rfl⟩ := h3
              have := rdToks_far hl h2 (by omega)
              omega
            · cases h
theorem decode_far {b : List Bool} {T : List Tok} {e : Nat} (h : decode b 256 = some (T, e)) : e ≤ 7385 := by
  unfold decode at h
  split at h
  · split at h
    · cases h
    · rename_i l p hr
      have h1 := rdHead_far hr
      have h2 := rdToks_far (rdHead_end hr).1.2.1 h (by omega)
      omega
  · cases h
/-- a text that is too long is none -/
theorem dec_long {s : ByteArray} (h : 924 < s.size) : decA s true = none := by
  unfold decA
  rw [if_neg (by simp)]
  split
  · rfl
  · rename_i T x hd
    have := decode_far hd
    rw [if_neg (by omega)]
end Go.Proofs.Ythehjhckcblbdaa.Pk
