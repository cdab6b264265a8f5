/-
  Contract of slices.swapRangeCmpFunc: two ranges are exchanged.
-/
import Derived.Test.YtdjkilgcgkhcdaaDoorWk8
import Derived.Sort.LotA
import Derived.BigRegion
import Derived.Deep.LoopGhost
namespace Go.Proofs.YtdjkilgcgkhcdaaDoor
open Go.RowKit Go.Fl Go.Sort Go.Lib
variable {α : Type} [Inhabited α]
theorem swp_at (d : Array α) (i j k : Nat) (hi : i < d.size) (hj : j < d.size) : (swp d i j)[k]! = if k = j then d[i]! else if k = i then d[j]! else d[k]! := by
  by_cases h1 : k = j
  · subst h1; rw [if_pos rfl, swp_right d i k hj]
  · rw [if_neg h1]
    by_cases h2 : k = i
    · subst h2; rw [if_pos rfl, swp_left d k j hi h1]
    · rw [if_neg h2, swp_other d i j k h2 h1]
/-- Two ranges of n places exchanged. -/
def exch (f : Nat → α) (a b n : Nat) (k : Nat) : α := if a ≤ k ∧ k < a + n then f (k - a + b) else if b ≤ k ∧ k < b + n then f (k - b + a) else f k
theorem exch_step (d : Array α) (f : Nat → α) (a b n : Nat) (hab : a + n < b) (hb : b + n < d.size) (h : ∀ k, d[k]! = exch f a b n k) (k : Nat) :
    (swp d (a + n) (b + n))[k]! = exch f a b (n + 1) k := by
  rw [swp_at d _ _ k (by omega) hb]
  have h1 := h (a + n)
  have h2 := h (b + n)
  unfold exch at h1 h2 h ⊢
  rw [if_neg (by omega), if_neg (by omega)] at h1
  rw [if_neg (by omega), if_neg (by omega)] at h2
  rw [h1, h2, h k]
  by_cases c1 : k = b + n
  · subst c1; rw [if_pos rfl, if_neg (by omega), if_pos (by omega)]; congr 1; omega
  · rw [if_neg c1]
    by_cases c2 : k = a + n
    · subst c2; rw [if_pos rfl, if_pos (by omega)]; congr 1; omega
    · rw [if_neg c2]
      by_cases c3 : a ≤ k ∧ k < a + n
      · rw [if_pos c3, if_pos (by omega)]
      · rw [if_neg c3, if_neg (by omega : ¬ (a ≤ k ∧ k < a + (n + 1)))]
        by_cases c4 : b ≤ k ∧ k < b + n
        · rw [if_pos c4, if_pos (by omega)]
        · rw [if_neg c4, if_neg (by omega)]
set_option maxHeartbeats 2000000 in
set_option maxRecDepth 100000 in
theorem swapRange_s {N : Nat} [Inhabited (Fin N)] (blk a b n cap : Nat) (cv : Value) (d0 d : Array (Fin N)) (w0 w : World) (R : Row1 encF w0 blk 0 d0) (hs : d.size = d0.size) (S : SW encF w0 blk 0 d w)
    (hab : a + n ≤ b) (hb : b + n ≤ d.size) (hsz : d.size < 4611686018427387904) :
    Calls Tryd.prog 57 #[.slice (some ⟨blk, 0, none⟩) d.size cap, .int .i64 a, .int .i64 b, .int .i64 n, cv] w fun e w' =>
      e = .returned (.tuple #[]) ∧ ∃ d' : Array (Fin N), SW encF w0 blk 0 d' w' ∧ d'.size = d.size ∧ PermIn a (b + n) d d' ∧ ∀ k, d'[k]! = exch (fun k => d[k]!) a b n k := by
  have S0 : Aside (SW encF w0 blk 0 d w) := S
  clear S
  have HB := Lib.hid hb
  have HA := Lib.hid hab
  have HZ := Lib.hid hsz
  have HS := Lib.hid hs
  clear hb hab hsz hs
  go_enter Tryd.func57, Tryd.ntmps57
  go_wp2
  go_loopw [10] (fun v wr => ∃ (k : Nat) (dk : Array (Fin N)), v = .int .i64 k ∧ k ≤ n ∧ dk.size = d.size ∧ Aside (SW encF w0 blk 0 dk wr) ∧ Hid (PermIn a (b + n) d dk) ∧ Hid (∀ q, dk[q]! = exch (fun k => d[k]!) a b k q)) (fun v _ => n - (intOf v).toNat)
  case atStart => exact ⟨0, d, rfl, by omega, rfl, S0, permIn_refl _ _ _, fun q => by unfold exch; rw [if_neg (by omega), if_neg (by omega)]⟩
  case round =>
    clear S0
    obtain ⟨k, dk, rfl, hk, hsk, SK, HP, HX⟩ := hrel
    by_cases hlt : k < n
    · have e1 := HB.out
      have e2 := HA.out
      have e3 := HZ.out
      have e4 := HS.out
      have i0 : (0 : Int) ≤ (a : Int) + k := by omega
      have i1 : (a : Int) + k < d.size := by omega
      have j0 : (0 : Int) ≤ (b : Int) + k := by omega
      have j1 : (b : Int) + k < d.size := by omega
      have ra : IntKind.i64.wrap ((a : Int) + (k : Int)) = (a : Int) + k := by rw [IntKind.wrap_i64]; omega
      have rb : IntKind.i64.wrap ((b : Int) + (k : Int)) = (b : Int) + k := by rw [IntKind.wrap_i64]; omega
      have ci := SK.out.c1 R (by omega) (a + k) (by omega)
      have cj := SK.out.c1 R (by omega) (b + k) (by omega)
      have fi := SK.out.f1 R (by omega) (a + k) (by omega)
      have fj := SK.out.f1 R (by omega) (b + k) (by omega)
      have S4 : Aside (SW encF w0 blk 0 (swp dk (a + k) (b + k)) ((wr.setCell ⟨blk, 0 + (a + k), none⟩ (encF dk[b + k]!)).setCell ⟨blk, 0 + (b + k), none⟩ (encF dk[a + k]!)).drew) := SK.out.swapped R (a + k) (b + k) (by omega) (by omega)
      obtain ⟨u, cij⟩ := SK.out.c2 R (by omega) (a + k) (b + k) (by omega) (by omega) (encF dk[b + k]!)
      have HX2 : Hid (∀ q, (swp dk (a + k) (b + k))[q]! = exch (fun k => d[k]!) a b (k + 1) q) := fun q => exch_step dk (fun k => d[k]!) a b k (by omega) (by omega) HX.out q
      have HP2 : Hid (PermIn a (b + n) d (swp dk (a + k) (b + k))) := permIn_trans _ _ _ _ _ HP.out (swp_permIn _ _ _ _ _ (by omega) (by omega) (by omega) (by omega) (by omega))
      have HSZ : Hid ((swp dk (a + k) (b + k)).size = d.size) := by show _ = _; rw [size_swp]; exact hsk
      clear SK e1 e2 e3 e4 hsk HX HP
      simp only [Nat.zero_add] at ci cj fi fj cij S4
      obtain ⟨x, hx⟩ : ∃ z : Int, encF dk[a + k]! = .int .i64 z := ⟨_, rfl⟩
      obtain ⟨y, hy⟩ : ∃ z : Int, encF dk[b + k]! = .int .i64 z := ⟨_, rfl⟩
      rw [hx] at ci S4
      rw [hy] at cj S4 cij
      clear hx hy
      generalize swp dk (a + k) (b + k) = dk2 at *
      go_wp2_with fail
      go_region
      generalize ((wr.setCell ⟨blk, a + k, none⟩ (.int .i64 y)).setCell ⟨blk, b + k, none⟩ (.int .i64 x)).drew = w3 at S4 ⊢
      clear ci cj fi fj cij i0 i1 j0 j1 ra rb
      have hz : (n : Int) < 4611686018427387904 := by have := HZ.out; have := HB.out; have := HA.out; omega
      go_wp2
      go_roundw
      case rel => exact ⟨k + 1, dk2, by go_num, by omega, HSZ.out, S4, HP2, HX2⟩
      case measure => simp [intOf]; omega
    · have e : k = n := by omega
      subst e
      go_wp2
      go_end0
      exact ⟨rfl, dk, SK.out, hsk, HP.out, HX.out⟩
end Go.Proofs.YtdjkilgcgkhcdaaDoor
