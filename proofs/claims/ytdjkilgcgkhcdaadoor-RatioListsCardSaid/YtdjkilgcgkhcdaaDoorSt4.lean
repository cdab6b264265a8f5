/-
  Contract of slices.symMergeCmpFunc where the left part has one element.
-/
import Derived.Test.YtdjkilgcgkhcdaaDoorSt3
import Derived.Deep.QuietTactic
import Derived.BigQuiet
namespace Go.Proofs.YtdjkilgcgkhcdaaDoor
open Go.RowKit Go.Fl Go.Sort Go.Lib
/-- One step to the right. -/
theorem rot_step {α : Type} [Inhabited α] (f : Nat → α) (d : Array α) (a k : Nat) (hak : a ≤ k) (hk : k + 1 < d.size) (h : ∀ q, d[q]! = rotF f a (a + 1) (k + 1) q) (q : Nat) : (swp d k (k + 1))[q]! = rotF f a (a + 1) (k + 2) q := by
  rw [swp_at d _ _ q (by omega) hk]
  simp only [h]
  unfold rotF
  (repeat' split) <;> first | rfl | (congr 1; omega) | (exfalso; omega)
theorem pr_lift {α : Type} {pr : α → α → Bool} (h : SWO pr) {x y z : α} (h1 : pr x y = true) (h2 : pr x z = false) : pr z y = true := by
  cases e : pr z y with
  | true => rfl
  | false => rw [h.ntrans _ _ _ h2 e] at h1; cases h1
def CmpQ {N : Nat} [Inhabited (Fin N)] (p : Value) (cf : Fin N → Fin N → Int) (blk : Nat) (w0 : World) : Prop :=
  ∀ (dk : Array (Fin N)) (W : World), dk.size = N → SW encF w0 blk 0 dk W → ∀ x y : Fin N, Calls Tryd.prog 33 #[encF x, encF y, p] W fun e w' => e = .returned (.int .i64 (cf x y)) ∧ ∃ q, w' = W.drewN q
/-- The same, as a drawn region asks it. -/
theorem CmpQ.quiet {N : Nat} [Inhabited (Fin N)] {p : Value} {cf : Fin N → Fin N → Int} {blk : Nat} {w0 : World} (h : CmpQ p cf blk w0) {dk : Array (Fin N)} {W : World} (hs : dk.size = N) (S : SW encF w0 blk 0 dk W) (x y : Fin N) (n : Nat) :
    Calls Tryd.prog 33 #[encF x, encF y, p] (W.drewN n) fun e w' => e = .returned (.int .i64 (cf x y)) ∧ ∃ m, w' = W.drewN m :=
  (h dk _ hs (S.drewN n) x y).mono fun _ _ ⟨he, _, hq⟩ => ⟨he, _, hq.trans (World.drewN_drewN _ _ _)⟩
set_option maxHeartbeats 4000000 in
set_option maxRecDepth 100000 in
theorem merge_left {N : Nat} [Inhabited (Fin N)] (blk a m b cap : Nat) (p : Value) (cf : Fin N → Fin N → Int) (pr : Fin N → Fin N → Bool) (hpr : SWO pr) (d0 d : Array (Fin N)) (w0 w : World) (R : Row1 encF w0 blk 0 d0) (hN : d0.size = N) (hs : d.size = d0.size)
    (S : SW encF w0 blk 0 d w) (hC : CmpQ p cf blk w0) (P : MergePre (ltOf cf) pr a m b d) (ham : m = a + 1) (hmb : m < b) (hb : b ≤ d.size) (hsz : d.size < 4611686018427387904) :
    Calls Tryd.prog 47 #[.slice (some ⟨blk, 0, none⟩) d.size cap, .int .i64 a, .int .i64 m, .int .i64 b, .func (.func 33) #[] #[p]] w fun e w' =>
      e = .returned (.tuple #[]) ∧ ∃ d' : Array (Fin N), SW encF w0 blk 0 d' w' ∧ d'.size = d.size ∧ MergePost pr a b d d' := by
  subst ham
  have S0 : Aside (SW encF w0 blk 0 d w) := S
  have HP := Lib.hid P
  have hCq := fun {W : World} (h1 : d.size = N) (S : SW encF w0 blk 0 d W) (x y : Fin N) (n : Nat) => hC.quiet h1 S x y n
  have HB := Lib.hid hb
  have HZ := Lib.hid hsz
  have HS := Lib.hid hs
  have HN := Lib.hid hN
  have HM := Lib.hid hmb
  have za : ((a : Int) + 1) - a = 1 := by omega
  have zb : (b : Int) ≤ 4611686018427387904 := by omega
  have zm : (a : Int) + 1 ≤ 4611686018427387904 := by omega
  clear S P hb hsz hs hN hC
  go_enter Tryd.func47, Tryd.ntmps47
  go_wp2
  go_loopw [10, 11, 12] (fun u v _ wr => ∃ (i j : Nat), u = .int .i64 i ∧ v = .int .i64 j ∧ a + 1 ≤ i ∧ i ≤ j ∧ j ≤ b ∧ Aside (SW encF w0 blk 0 d wr) ∧ Hid (∀ k, a + 1 ≤ k → k < i → pr d[k]! d[a]! = true) ∧ Hid (∀ k, j ≤ k → k < b → pr d[k]! d[a]! = false)) (fun u v _ _ => (intOf v).toNat - (intOf u).toNat)
  case atStart => exact ⟨a + 1, b, by go_num, rfl, by omega, by omega, by omega, S0, fun k h1 h2 => by omega, fun k h1 h2 => by omega⟩
  case round =>
    clear S0
    obtain ⟨i, j, rfl, rfl, hi, hij, hj, SK, H1, H2⟩ := hrel
    by_cases hlt : i < j
    · have e1 := HB.out
      have e2 := HS.out
      have e3 := HN.out
      have b0 : (0 : Int) ≤ ((i : Int) + j) / 2 := by omega
      have b1 : ((i : Int) + j) / 2 < d.size := by omega
      have b2 : (a : Int) < d.size := by have := HM.out; omega
      have ch := SK.out.c1 R e2 ((i + j) / 2) (by omega)
      have ca := SK.out.c1 R e2 a (by omega)
      rw [Nat.zero_add] at ch ca
      have hq := fun n => hCq (by omega) SK.out d[(i + j) / 2]! d[a]! n
      have hcr := HP.out.cross a ((i + j) / 2) (by omega) (by omega) (by omega) (by omega)
      unfold ltOf at hcr
      have HCR := Lib.hid hcr
      obtain ⟨x, hx⟩ : ∃ z : Int, encF d[(i + j) / 2]! = .int .i64 z := ⟨_, rfl⟩
      obtain ⟨y, hy⟩ : ∃ z : Int, encF d[a]! = .int .i64 z := ⟨_, rfl⟩
      rw [hx] at ch hq
      rw [hy] at ca hq
      generalize cf d[(i + j) / 2]! d[a]! = c at hq HCR
      have HQ := Lib.hid hq
      clear hx hy hcr hq e1 e2 e3
      have hmid : i ≤ (i + j) / 2 ∧ (i + j) / 2 < j := by omega
      have HMID := Lib.hid hmid
      clear hmid
      cases hd : decide (c < 0)
      all_goals
        go_wp2_with fail
        go_quiet ((go_at_call 33; exact HQ.out _))
        simp only [Exit.then]
        have SK2 : Aside (SW encF w0 blk 0 d (wr.drewN nq)) := SK.out.drewN nq
        generalize wr.drewN nq = w2 at SK2 ⊢
        clear HQ SK ch ca b0 b1 b2
        have hm1 : (((i + j) / 2 : Nat) : Int) = ((i : Int) + j) / 2 := by omega
        go_wp2
        go_roundw
      case rel =>
        have e := HCR.out
        rw [hd] at e
        exact ⟨i, (i + j) / 2, rfl, by first | rfl | (rw [hm1]) | go_num, by omega, HMID.out.1, by have := HMID.out.2; omega, SK2, H1, fun k k1 k2 => hpr.ntrans _ _ _ (sorted_le hpr HP.out.right (by have := HMID.out; omega) k1 k2) e.symm⟩
      case measure => have := HMID.out; simp [intOf]; omega
      case rel =>
        have e := HCR.out
        rw [hd] at e
        exact ⟨(i + j) / 2 + 1, j, by first | rfl | go_num, rfl, by omega, by have := HMID.out; omega, by omega, SK2, fun k k1 k2 => pr_lift hpr e.symm (sorted_le hpr HP.out.right k1 (by omega) (by have := HMID.out; omega)), H2⟩
      case measure => have := HMID.out; simp [intOf]; omega
    · have e : i = j := by omega
      subst e
      have i1 : ((i - 1 : Nat) : Int) = (i : Int) - 1 := by omega
      have I1 := Lib.hid i1
      clear i1
      have zi : (i : Int) ≤ b := by omega
      go_wp2
      go_loopw [13] (fun v wr => ∃ (k : Nat) (dk : Array (Fin N)), v = .int .i64 k ∧ a ≤ k ∧ k ≤ i - 1 ∧ dk.size = d.size ∧ Aside (SW encF w0 blk 0 dk wr) ∧ Hid (PermIn a b d dk) ∧ Hid (∀ q, dk[q]! = rotF (fun k => d[k]!) a (a + 1) (k + 1) q)) (fun v _ => (i - 1) - (intOf v).toNat)
      case atStart => exact ⟨a, d, rfl, by omega, by omega, rfl, SK, permIn_refl _ _ _, fun q => by unfold rotF; rw [if_neg (by omega)]; split <;> simp⟩
      case round =>
        clear SK
        obtain ⟨k, dk, rfl, hak, hki, hsk, SK, HPk, HX⟩ := hrel
        by_cases hlt2 : k < i - 1
        · have e1 := HB.out
          have e2 := HS.out
          have e3 := HN.out
          have b0 : (0 : Int) ≤ (k : Int) + 1 := by omega
          have b1 : (k : Int) + 1 < d.size := by omega
          have b2 : (k : Int) < d.size := by omega
          have t1 : (k : Int) < (i : Int) - 1 := by omega
          have ck := SK.out.c1 R (by omega) k (by omega)
          have cl := SK.out.c1 R (by omega) (k + 1) (by omega)
          have fk := SK.out.f1 R (by omega) k (by omega)
          have fl := SK.out.f1 R (by omega) (k + 1) (by omega)
          have S4 : Aside (SW encF w0 blk 0 (swp dk k (k + 1)) ((wr.setCell ⟨blk, 0 + k, none⟩ (encF dk[k + 1]!)).setCell ⟨blk, 0 + (k + 1), none⟩ (encF dk[k]!)).drew) := SK.out.swapped R k (k + 1) (by omega) (by omega)
          obtain ⟨u, ckl⟩ := SK.out.c2 R (by omega) k (k + 1) (by omega) (by omega) (encF dk[k + 1]!)
          have HX2 : Hid (∀ q, (swp dk k (k + 1))[q]! = rotF (fun k => d[k]!) a (a + 1) (k + 1 + 1) q) := fun q => rot_step (fun k => d[k]!) dk a k hak (by omega) HX.out q
          have HP2 : Hid (PermIn a b d (swp dk k (k + 1))) := permIn_trans _ _ _ _ _ HPk.out (swp_permIn _ _ _ _ _ hak (by omega) (by omega) (by omega) (by omega))
          have HSZ : Hid ((swp dk k (k + 1)).size = d.size) := by show _ = _; rw [size_swp]; exact hsk
          clear SK e1 e2 e3 hsk HX HPk
          simp only [Nat.zero_add] at ck cl fk fl ckl S4
          obtain ⟨x, hx⟩ : ∃ z : Int, encF dk[k]! = .int .i64 z := ⟨_, rfl⟩
          obtain ⟨y, hy⟩ : ∃ z : Int, encF dk[k + 1]! = .int .i64 z := ⟨_, rfl⟩
          rw [hx] at ck S4
          rw [hy] at cl S4 ckl
          clear hx hy
          generalize swp dk k (k + 1) = dk2 at *
          go_wp2_with fail
          go_region
          generalize ((wr.setCell ⟨blk, k, none⟩ (.int .i64 y)).setCell ⟨blk, k + 1, none⟩ (.int .i64 x)).drew = w3 at S4 ⊢
          clear ck cl fk fl ckl b0 b1 b2 t1
          go_wp2
          go_roundw
          case rel => exact ⟨k + 1, dk2, by go_num, by omega, by omega, HSZ.out, S4, HP2, HX2⟩
          case measure => simp [intOf]; omega
        · have E : Hid (k = i - 1) := by show _ = _; omega
          have t1 : ¬ (k : Int) < (i : Int) - 1 := by omega
          clear hki hlt2
          go_wp2
          refine bodyPost_ret (results_none rfl _ _ _) rfl ?_
          refine ⟨rfl, dk, SK.out, hsk, HPk.out, merge_one hpr HP.out.right hi hj H1.out H2.out (fun q => ?_)⟩
          rw [HX.out q, E.out, show i - 1 + 1 = i by omega]
end Go.Proofs.YtdjkilgcgkhcdaaDoor
