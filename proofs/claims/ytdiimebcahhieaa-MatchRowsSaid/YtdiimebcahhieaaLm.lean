/-
  Maths: the best among the places from one of the list on is, place by place from the list's end, the longest copy. No condition.
-/
import Derived.Test.YtdiimebcahhieaaNt
namespace Go.Proofs.Ytdiimebcahhieaa
open Mt
theorem run_alike {s : List UInt8} {a p n m : Nat} (h : Run s a p n) (ha : a < p) (hm : m ≤ 18) : alike s p (p - a) m ↔ m ≤ n := by
  constructor
  · rintro ⟨h1, _, _, h4⟩
    rcases h.stop with k | k | k
    · omega
    · omega
    · refine Nat.le_of_not_lt fun hlt => k ?_
      have := h4 n hlt
      rw [this, show p + n - (p - a) = a + n by omega]
  · intro hmn
    refine ⟨by have := h.inn; omega, by omega, by omega, fun i hi => ?_⟩
    rw [show p + i - (p - a) = a + i by omega]
    exact (h.same i (by omega)).symm
theorem run_three {s : List UInt8} {a p n : Nat} (h : Run s a p n) (h3 : p + 3 ≤ s.length) (hk : at3 s a = at3 s p) : 3 ≤ n := by
  obtain ⟨k0, k1, k2⟩ := at3_inj hk
  rcases h.stop with k | k | k
  · omega
  · omega
  · refine Nat.le_of_not_lt fun hlt => k ?_
    match n, hlt with
    | 0, _ => exact k0
    | 1, _ => exact k1
    | 2, _ => exact k2
theorem alike_at {s : List UInt8} {p e m : Nat} (h : alike s p e m) (hm : 3 ≤ m) {lo : Nat} (hlo : lo ≤ p - e) : p - e ∈ posL s lo p (at3 s p) := by
  obtain ⟨h1, h2, h3, h4⟩ := h
  refine posL_mem.2 ⟨hlo, by omega, by omega, ?_⟩
  have e0 := h4 0 (by omega)
  have e1 := h4 1 (by omega)
  have e2 := h4 2 (by omega)
  unfold at3
  simp only [Nat.add_zero] at e0
  rw [show p + 1 - e = p - e + 1 by omega] at e1
  rw [show p + 2 - e = p - e + 2 by omega] at e2
  rw [e0, e1, e2]
/-- the best among the places from the j-th on -/
structure Far (s : List UInt8) (lo p j d n : Nat) : Prop where
  top : ∀ i (_ : j ≤ i) (h : i < (posL s lo p (at3 s p)).length), ∀ m, m ≤ 18 → 3 ≤ m → alike s p (p - (posL s lo p (at3 s p))[i]) m → m ≤ n
  hit : n = 0 ∧ d = 0 ∨ 3 ≤ n ∧ n ≤ 18 ∧ d ≤ 255 ∧ alike s p d n ∧ ∀ e, e < d → ¬ alike s p e n
theorem Far.start (s : List UInt8) (lo p : Nat) : Far s lo p (posL s lo p (at3 s p)).length 0 0 := ⟨fun i h1 h2 => by omega, .inl ⟨rfl, rfl⟩⟩
theorem Far.bound {s : List UInt8} {lo p j d n : Nat} (h : Far s lo p j d n) : n ≤ 18 ∧ d ≤ 255 := by
  rcases h.hit with ⟨h1, h2⟩ | ⟨_, h2, h3, _⟩ <;> omega
theorem rise_lt {l : List Nat} (h : l.Pairwise (· < ·)) {i j : Nat} (hi : i < l.length) (hj : j < l.length) (hij : i < j) : l[i] < l[j] := List.pairwise_iff_getElem.1 h i j hi hj hij
theorem Far.step {s : List UInt8} {lo p j d n k : Nat} (h : Far s lo p (j + 1) d n) (h3 : p + 3 ≤ s.length) (hj : j < (posL s lo p (at3 s p)).length) (hd : p - (posL s lo p (at3 s p))[j] ≤ 255)
    (hr : Run s (posL s lo p (at3 s p))[j] p k) : (n < k → Far s lo p j (p - (posL s lo p (at3 s p))[j]) k) ∧ (¬ n < k → Far s lo p j d n) := by
  have hm := posL_mem.1 (List.getElem_mem hj)
  have k3 := run_three hr h3 hm.2.2.2
  refine ⟨fun hlt => ⟨fun i h1 h2 m m1 m2 hal => ?_, .inr ⟨k3, hr.top, hd, (run_alike hr hm.2.1 hr.top).2 (Nat.le_refl _), fun e he hal => ?_⟩⟩, fun hge => ⟨fun i h1 h2 m m1 m2 hal => ?_, h.hit⟩⟩
  · by_cases e1 : i = j
    · subst e1; exact (run_alike hr hm.2.1 m1).1 hal
    · have := h.top i (by omega) h2 m m1 m2 hal; omega
  · have he1 := hal.2.1
    have he2 := hal.2.2.1
    obtain ⟨i, hi, hie⟩ := List.mem_iff_getElem.1 (alike_at hal k3 (lo := lo) (by omega))
    have hij : j < i := by
      refine Nat.lt_of_not_le fun hle => ?_
      by_cases e1 : i = j
      · subst e1; omega
      · have := rise_lt (posL_rise s lo p (at3 s p)) hi hj (by omega); omega
    have := h.top i (by omega) hi k hr.top k3 (by rw [hie, show p - (p - e) = e by omega]; exact hal)
    omega
  · by_cases e1 : i = j
    · subst e1; have := (run_alike hr hm.2.1 m1).1 hal; omega
    · exact h.top i (by omega) h2 m m1 m2 hal
theorem Far.done {s : List UInt8} {lo p j d n : Nat} (h : Far s lo p j d n) (hlo : lo ≤ p - 255) (hj : j = 0 ∨ (∃ i, j = i + 1 ∧ ∃ (hi : i < (posL s lo p (at3 s p)).length), 255 < p - (posL s lo p (at3 s p))[i]) ∨ 18 ≤ n) : longest s p = (n, d) := by
  refine best_longest ⟨fun e m h1 h2 h3 hal => ?_, h.hit⟩
  have he1 := hal.2.1
  have he2 := hal.2.2.1
  obtain ⟨i, hi, hie⟩ := List.mem_iff_getElem.1 (alike_at hal h3 (lo := lo) (by omega))
  rcases hj with rfl | ⟨i', rfl, hi', hf⟩ | h18
  · exact h.top i (by omega) hi m h2 h3 (by rw [hie, show p - (p - e) = e by omega]; exact hal)
  · by_cases hij : i' + 1 ≤ i
    · exact h.top i hij hi m h2 h3 (by rw [hie, show p - (p - e) = e by omega]; exact hal)
    · exfalso
      by_cases e1 : i = i'
      · subst e1; omega
      · have := rise_lt (posL_rise s lo p (at3 s p)) hi hi' (by omega); omega
  · omega
theorem far_none {s : List UInt8} {p : Nat} (h3 : s.length < p + 3) : longest s p = (0, 0) :=
  best_longest ⟨fun e m h1 h2 h3 hal => by have := hal.1; omega, .inl ⟨rfl, rfl⟩⟩
end Go.Proofs.Ytdiimebcahhieaa
