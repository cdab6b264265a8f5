/-
  Contract of slices.symMergeCmpFunc where the right part has one element.
-/
import Derived.Test.YtdjkilgcgkhcdaaDoorSt4
import Derived.Deep.QuietTactic
import Derived.BigQuiet
namespace Go.Proofs.YtdjkilgcgkhcdaaDoor
open Go.RowKit Go.Fl Go.Sort Go.Lib
/-- One step to the left. -/
theorem rot_back {α : Type} [Inhabited α] (f : Nat → α) (d : Array α) (m k : Nat) (hk0 : 0 < k) (hkm : k ≤ m) (hk : m < d.size) (h : ∀ q, d[q]! = rotF f k m (m + 1) q) (q : Nat) : (swp d k (k - 1))[q]! = rotF f (k - 1) m (m + 1) q := by
  rw [swp_at d _ _ q (by omega) (by omega)]
  simp only [h]
  unfold rotF
  (repeat' split) <;> first | rfl | (congr 1; omega) | (exfalso; omega)
theorem pr_lift2 {α : Type} {pr : α → α → Bool} (h : SWO pr) {x y z : α} (h1 : pr x y = true) (h2 : pr z y = false) : pr x z = true := by
  cases e : pr x z with
  | true => rfl
  | false => rw [h.ntrans _ _ _ e h2] at h1; cases h1
set_option maxHeartbeats 4000000 in
set_option maxRecDepth 100000 in
theorem merge_right {N : Nat} [Inhabited (Fin N)] (blk a m b cap : Nat) (p : Value) (cf : Fin N → Fin N → Int) (pr : Fin N → Fin N → Bool) (hpr : SWO pr) (d0 d : Array (Fin N)) (w0 w : World) (R : Row1 encF w0 blk 0 d0) (hN : d0.size = N) (hs : d.size = d0.size)
    (S : SW encF w0 blk 0 d w) (hC : CmpQ p cf blk w0) (P : MergePre (ltOf cf) pr a m b d) (ham : a < m) (hm1 : m ≠ a + 1) (hmb : b = m + 1) (hb : b ≤ d.size) (hsz : d.size < 4611686018427387904) :
    Calls Tryd.prog 47 #[.slice (some ⟨blk, 0, none⟩) d.size cap, .int .i64 a, .int .i64 m, .int .i64 b, .func (.func 33) #[] #[p]] w fun e w' =>
      e = .returned (.tuple #[]) ∧ ∃ d' : Array (Fin N), SW encF w0 blk 0 d' w' ∧ d'.size = d.size ∧ MergePost pr a b d d' := by
  subst hmb
  have S0 : Aside (SW encF w0 blk 0 d w) := S
  have HP := Lib.hid P
  have hCq := fun {W : World} (h1 : d.size = N) (S : SW encF w0 blk 0 d W) (x y : Fin N) (n : Nat) => hC.quiet h1 S x y n
  have HB := Lib.hid hb
  have HZ := Lib.hid hsz
  have HS := Lib.hid hs
  have HN := Lib.hid hN
  have HM := Lib.hid ham
  have za : ((m : Int) - a == 1) = false := by simp; omega
  have zb : ((m : Int) + 1) - m = 1 := by omega
  have zm : (m : Int) + 1 ≤ 4611686018427387904 := by omega
  have zam : (a : Int) ≤ m := by omega
  clear S P hb hsz hs hN hC hm1
  go_enter Tryd.func47, Tryd.ntmps47
  go_wp2
  go_loopw [14, 15, 16] (fun u v _ wr => ∃ (i j : Nat), u = .int .i64 i ∧ v = .int .i64 j ∧ a ≤ i ∧ i ≤ j ∧ j ≤ m ∧ Aside (SW encF w0 blk 0 d wr) ∧ Hid (∀ k, a ≤ k → k < i → pr d[m]! d[k]! = false) ∧ Hid (∀ k, j ≤ k → k < m → pr d[m]! d[k]! = true)) (fun u v _ _ => (intOf v).toNat - (intOf u).toNat)
  case atStart => exact ⟨a, m, rfl, rfl, by omega, by omega, by omega, S0, fun k h1 h2 => by omega, fun k h1 h2 => by omega⟩
  case round =>
    clear S0
    obtain ⟨i, j, rfl, rfl, hi, hij, hj, SK, H1, H2⟩ := hrel
    by_cases hlt : i < j
    · have e1 := HB.out
      have e2 := HS.out
      have e3 := HN.out
      have b0 : (0 : Int) ≤ ((i : Int) + j) / 2 := by omega
      have b1 : ((i : Int) + j) / 2 < d.size := by omega
      have b2 : (m : Int) < d.size := by omega
      have ch := SK.out.c1 R e2 ((i + j) / 2) (by omega)
      have ca := SK.out.c1 R e2 m (by omega)
      rw [Nat.zero_add] at ch ca
      have hq := fun n => hCq (by omega) SK.out d[m]! d[(i + j) / 2]! n
      have hcr := HP.out.cross ((i + j) / 2) m (by omega) (by omega) (by omega) (by omega)
      unfold ltOf at hcr
      have HCR := Lib.hid hcr
      obtain ⟨x, hx⟩ : ∃ z : Int, encF d[(i + j) / 2]! = .int .i64 z := ⟨_, rfl⟩
      obtain ⟨y, hy⟩ : ∃ z : Int, encF d[m]! = .int .i64 z := ⟨_, rfl⟩
      rw [hx] at ch hq
      rw [hy] at ca hq
      generalize cf d[m]! d[(i + j) / 2]! = c at hq HCR
      have HQ := Lib.hid hq
      clear hx hy hcr hq e1 e2 e3
      have hmid : i ≤ (i + j) / 2 ∧ (i + j) / 2 < j := by omega
      have HMID := Lib.hid hmid
      clear hmid
      cases hd : decide (c < 0)
      all_goals
        go_wp2_with fail
        go_quiet ((go_at_call 33; exact HQ.out _))
        simp only [Exit.then]
        have SK2 : Aside (SW encF w0 blk 0 d (wr.drewN nq)) := SK.out.drewN nq
        generalize wr.drewN nq = w2 at SK2 ⊢
        clear HQ SK ch ca b0 b1 b2
        have hm1 : (((i + j) / 2 : Nat) : Int) = ((i : Int) + j) / 2 := by omega
        go_wp2
        go_roundw
      case rel =>
        have e := HCR.out
        rw [hd] at e
        exact ⟨(i + j) / 2 + 1, j, by first | rfl | go_num, rfl, by omega, by have := HMID.out; omega, by omega, SK2, fun k k1 k2 => hpr.ntrans _ _ _ e.symm (sorted_le hpr HP.out.left k1 (by omega) (by have := HMID.out; omega)), H2⟩
      case measure => have := HMID.out; simp [intOf]; omega
      case rel =>
        have e := HCR.out
        rw [hd] at e
        exact ⟨i, (i + j) / 2, rfl, by first | rfl | (rw [hm1]) | go_num, by omega, HMID.out.1, by have := HMID.out.2; omega, SK2, H1, fun k k1 k2 => pr_lift2 hpr e.symm (sorted_le hpr HP.out.left (by have := HMID.out; omega) k1 k2)⟩
      case measure => have := HMID.out; simp [intOf]; omega
    · have e : i = j := by omega
      subst e
      go_wp2
      go_loopw [17] (fun v wr => ∃ (k : Nat) (dk : Array (Fin N)), v = .int .i64 k ∧ i ≤ k ∧ k ≤ m ∧ dk.size = d.size ∧ Aside (SW encF w0 blk 0 dk wr) ∧ Hid (PermIn a (m + 1) d dk) ∧ Hid (∀ q, dk[q]! = rotF (fun k => d[k]!) k m (m + 1) q)) (fun v _ => (intOf v).toNat)
      case atStart => exact ⟨m, d, rfl, by omega, by omega, rfl, SK, permIn_refl _ _ _, fun q => by unfold rotF; split <;> (try split) <;> first | rfl | (show d[q]! = d[_]!; congr 1; omega)⟩
      case round =>
        clear SK
        obtain ⟨k, dk, rfl, hak, hki, hsk, SK, HPk, HX⟩ := hrel
        by_cases hlt2 : i < k
        · have e1 := HB.out
          have e2 := HS.out
          have e3 := HN.out
          obtain ⟨kp, hkp⟩ : ∃ kp, k = kp + 1 := ⟨k - 1, by omega⟩
          subst hkp
          have b0 : (0 : Int) ≤ (kp : Int) + 1 := by omega
          have b1 : (kp : Int) + 1 < d.size := by omega
          have b2 : (kp : Int) < d.size := by omega
          have t1 : (i : Int) < (kp : Int) + 1 := by omega
          have ck := SK.out.c1 R (by omega) (kp + 1) (by omega)
          have cl := SK.out.c1 R (by omega) kp (by omega)
          have fk := SK.out.f1 R (by omega) (kp + 1) (by omega)
          have fl := SK.out.f1 R (by omega) kp (by omega)
          have S4 : Aside (SW encF w0 blk 0 (swp dk (kp + 1) kp) ((wr.setCell ⟨blk, 0 + (kp + 1), none⟩ (encF dk[kp]!)).setCell ⟨blk, 0 + kp, none⟩ (encF dk[kp + 1]!)).drew) := SK.out.swapped R (kp + 1) kp (by omega) (by omega)
          obtain ⟨u, ckl⟩ := SK.out.c2 R (by omega) (kp + 1) kp (by omega) (by omega) (encF dk[kp]!)
          have HX2 : Hid (∀ q, (swp dk (kp + 1) kp)[q]! = rotF (fun k => d[k]!) kp m (m + 1) q) := fun q => rot_back (fun k => d[k]!) dk m (kp + 1) (by omega) hki (by omega) HX.out q
          have HP2 : Hid (PermIn a (m + 1) d (swp dk (kp + 1) kp)) := permIn_trans _ _ _ _ _ HPk.out (swp_permIn _ _ _ _ _ (by omega) (by omega) (by omega) (by omega) (by omega))
          have HSZ : Hid ((swp dk (kp + 1) kp).size = d.size) := by show _ = _; rw [size_swp]; exact hsk
          clear SK e1 e2 e3 hsk HX HPk
          simp only [Nat.zero_add] at ck cl fk fl ckl S4
          obtain ⟨x, hx⟩ : ∃ z : Int, encF dk[kp + 1]! = .int .i64 z := ⟨_, rfl⟩
          obtain ⟨y, hy⟩ : ∃ z : Int, encF dk[kp]! = .int .i64 z := ⟨_, rfl⟩
          rw [hx] at ck S4
          rw [hy] at cl S4 ckl
          clear hx hy
          generalize swp dk (kp + 1) kp = dk2 at *
          go_wp2_with fail
          go_region
          generalize ((wr.setCell ⟨blk, kp + 1, none⟩ (.int .i64 y)).setCell ⟨blk, kp, none⟩ (.int .i64 x)).drew = w3 at S4 ⊢
          clear ck cl fk fl ckl b0 b1 b2 t1
          go_wp2
          go_roundw
          case rel => exact ⟨kp, dk2, by first | rfl | go_num, by omega, by omega, HSZ.out, S4, HP2, HX2⟩
          case measure => simp [intOf]
        · have e : k = i := by omega
          subst e
          clear hak hlt2
          go_wp2
          refine bodyPost_ret (results_none rfl _ _ _) rfl ?_
          exact ⟨rfl, dk, SK.out, hsk, HPk.out, merge_last hpr HP.out.left hi hki H1.out H2.out HX.out⟩
end Go.Proofs.YtdjkilgcgkhcdaaDoor
