/-
  Contract of slices.rotateCmpFunc: the places from a on to m, and from m on to b, in turn.
-/
import Derived.Test.YtdjkilgcgkhcdaaDoorSt1
namespace Go.Proofs.YtdjkilgcgkhcdaaDoor
open Go.RowKit Go.Fl Go.Sort Go.Lib
variable {α : Type} [Inhabited α]
/-- The places from a on to m, and from m on to b, in turn. -/
def rotF (f : Nat → α) (a m b : Nat) (k : Nat) : α := if a ≤ k ∧ k < a + (b - m) then f (k - a + m) else if a + (b - m) ≤ k ∧ k < b then f (k - (b - m)) else f k
omit [Inhabited α] in
theorem rot_left (f g : Nat → α) (m i j : Nat) (hij : j < i) (him : i ≤ m) (hg : ∀ k, g k = exch f (m - i) m j k) (q : Nat) : rotF g (m - (i - j)) m (m + j) q = rotF f (m - i) m (m + j) q := by
  unfold rotF
  simp only [hg]
  unfold exch
  (repeat' split) <;> first | rfl | (congr 1; omega) | (exfalso; omega)
omit [Inhabited α] in
theorem rot_right (f g : Nat → α) (m i j : Nat) (hij : i < j) (him : i ≤ m) (hg : ∀ k, g k = exch f (m - i) (m + j - i) i k) (q : Nat) : rotF g (m - i) m (m + (j - i)) q = rotF f (m - i) m (m + j) q := by
  unfold rotF
  simp only [hg]
  unfold exch
  (repeat' split) <;> first | rfl | (congr 1; omega) | (exfalso; omega)
omit [Inhabited α] in
theorem rot_last (f g : Nat → α) (m i : Nat) (him : i ≤ m) (hg : ∀ k, g k = exch f (m - i) m i k) (q : Nat) : g q = rotF f (m - i) m (m + i) q := by
  rw [hg]
  unfold rotF exch
  (repeat' split) <;> first | rfl | (congr 1; omega) | (exfalso; omega)
set_option maxHeartbeats 2000000 in
set_option maxRecDepth 100000 in
theorem rotate_s {N : Nat} [Inhabited (Fin N)] (blk a m b cap : Nat) (cv : Value) (d0 d : Array (Fin N)) (w0 w : World) (R : Row1 encF w0 blk 0 d0) (hs : d.size = d0.size) (S : SW encF w0 blk 0 d w)
    (ham : a < m) (hmb : m < b) (hb : b ≤ d.size) (hsz : d.size < 4611686018427387904) :
    Calls Tryd.prog 50 #[.slice (some ⟨blk, 0, none⟩) d.size cap, .int .i64 a, .int .i64 m, .int .i64 b, cv] w fun e w' =>
      e = .returned (.tuple #[]) ∧ ∃ d' : Array (Fin N), SW encF w0 blk 0 d' w' ∧ d'.size = d.size ∧ PermIn a b d d' ∧ ∀ k, d'[k]! = rotF (fun k => d[k]!) a m b k := by
  have S0 : Aside (SW encF w0 blk 0 d w) := S
  clear S
  have HB := Lib.hid hb
  have HZ := Lib.hid hsz
  have HS := Lib.hid hs
  have HA := Lib.hid ham
  have HM := Lib.hid hmb
  have zm : (m : Int) ≤ 4611686018427387904 := by omega
  have zb : (b : Int) ≤ 4611686018427387904 := by omega
  have s1 : ((m : Int) - a) = ((m - a : Nat) : Int) := by omega
  have s2 : ((b : Int) - m) = ((b - m : Nat) : Int) := by omega
  clear hb hsz hs
  go_enter Tryd.func50, Tryd.ntmps50
  go_wp2
  clear s1 s2
  go_loopw [10, 11] (fun u v wr => ∃ (i j : Nat) (dk : Array (Fin N)), u = .int .i64 i ∧ v = .int .i64 j ∧ 0 < i ∧ 0 < j ∧ i ≤ m - a ∧ j ≤ b - m ∧ dk.size = d.size ∧ Aside (SW encF w0 blk 0 dk wr) ∧ Hid (PermIn a b d dk) ∧ Hid (∀ q, rotF (fun k => dk[k]!) (m - i) m (m + j) q = rotF (fun k => d[k]!) a m b q)) (fun u v _ => (intOf u).toNat + (intOf v).toNat)
  case atStart =>
    refine ⟨m - a, b - m, d, by first | rfl | go_num, by first | rfl | go_num, by omega, by omega, by omega, by omega, rfl, S0, permIn_refl _ _ _, fun q => ?_⟩
    rw [show m - (m - a) = a by omega, show m + (b - m) = b by omega]
  case round =>
    clear S0
    obtain ⟨i, j, dk, rfl, rfl, hi0, hj0, hi, hj, hsk, SK, HP, HX⟩ := hrel
    have e1 := HB.out
    have e3 := HZ.out
    have e4 := HS.out
    have zi : (i : Int) ≤ m := by omega
    have zj : (j : Int) ≤ b := by omega
    by_cases hij : i = j
    · subst hij
      have hc := swapRange_s blk (m - i) m i cap cv d0 dk w0 wr R (by omega) SK.out (by omega) (by omega) (by omega)
      have hr := rot_last (fun k => dk[k]!)
      rw [hsk, show ((m - i : Nat) : Int) = (m : Int) - i by omega] at hc
      have HC := Lib.hid hc
      clear hc SK e1 e3 e4
      go_wp2_with (go_at_call 57; ((with_reducible refine HC.out.mono ?_); rintro e w' ⟨rfl, d', S', hs', hp', hx'⟩))
      go_end0
      exact ⟨rfl, d', S', hs', permIn_trans _ _ _ _ _ HP.out (permIn_mono _ _ _ _ _ _ (by omega) (by omega) (by have := HB.out; omega) hp'), fun k => by rw [← HX.out k]; exact hr (fun k => d'[k]!) m i (by omega) hx' k⟩
    · by_cases hlt : j < i
      · have hc := swapRange_s blk (m - i) m j cap cv d0 dk w0 wr R (by omega) SK.out (by omega) (by omega) (by omega)
        rw [hsk, show ((m - i : Nat) : Int) = (m : Int) - i by omega] at hc
        have HC := Lib.hid hc
        clear hc SK e1 e3 e4
        have t1 : ((i : Int) != j) = true := by simp; omega
        have hlt' : (j : Int) < i := by omega
        go_wp2_with (go_at_call 57; ((with_reducible refine HC.out.mono ?_); rintro e w' ⟨rfl, d', S', hs', hp', hx'⟩; have HP' := Lib.hid (permIn_trans _ _ _ _ _ HP.out (permIn_mono _ _ _ _ _ _ (show a ≤ m - i by omega) (by omega) (by have := HB.out; omega) hp')); have S2 : Aside (SW encF w0 blk 0 d' w') := S'; have HX' := Lib.hid hx'; have HS' := Lib.hid hs'; clear S' hx' hs' hp'))
        rename_i HP' _ HX' HS'
        go_roundw
        case rel => exact ⟨i - j, j, d', by go_num, rfl, by omega, by omega, by omega, by omega, HS'.out, by assumption, HP', fun q => by rw [← HX.out q]; exact rot_left (fun k => dk[k]!) (fun k => d'[k]!) m i j hlt (by omega) HX'.out q⟩
        case measure => simp [intOf]; omega
      · have hc := swapRange_s blk (m - i) (m + j - i) i cap cv d0 dk w0 wr R (by omega) SK.out (by omega) (by omega) (by omega)
        rw [hsk, show ((m - i : Nat) : Int) = (m : Int) - i by omega, show ((m + j - i : Nat) : Int) = (m : Int) + j - i by omega] at hc
        have HC := Lib.hid hc
        clear hc SK e1 e3 e4
        have t1 : ((i : Int) != j) = true := by simp; omega
        have hlt' : ¬ (j : Int) < i := by omega
        have hz1 : (m : Int) + j ≤ 9223372036854775807 := by omega
        go_wp2_with (go_at_call 57; ((with_reducible refine HC.out.mono ?_); rintro e w' ⟨rfl, d', S', hs', hp', hx'⟩; have HP' := Lib.hid (permIn_trans _ _ _ _ _ HP.out (permIn_mono _ _ _ _ _ _ (show a ≤ m - i by omega) (by omega) (by have := HB.out; omega) hp')); have S2 : Aside (SW encF w0 blk 0 d' w') := S'; have HX' := Lib.hid hx'; have HS' := Lib.hid hs'; clear S' hx' hs' hp'))
        rename_i HP' _ HX' HS'
        go_roundw
        case rel => exact ⟨i, j - i, d', rfl, by go_num, by omega, by omega, by omega, by omega, HS'.out, by assumption, HP', fun q => by rw [← HX.out q]; exact rot_right (fun k => dk[k]!) (fun k => d'[k]!) m i j (by omega) (by omega) HX'.out q⟩
        case measure => simp [intOf]; omega
end Go.Proofs.YtdjkilgcgkhcdaaDoor
