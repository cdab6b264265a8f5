/-
  Contract of slices.symMergeCmpFunc, one step of it: both parts have two elements or more.
-/
import Derived.Test.YtdjkilgcgkhcdaaDoorSt5
namespace Go.Proofs.YtdjkilgcgkhcdaaDoor
open Go.RowKit Go.Fl Go.Sort Go.Lib
/-- What a merge leaves. -/
def Merged {N : Nat} [Inhabited (Fin N)] (pr : Fin N → Fin N → Bool) (blk a b : Nat) (d : Array (Fin N)) (w0 : World) (e : Ending) (w' : World) : Prop :=
  e = .returned (.tuple #[]) ∧ ∃ d' : Array (Fin N), SW encF w0 blk 0 d' w' ∧ d'.size = N ∧ MergePost pr a b d d'
/-- A merge of fewer than n places. -/
def Merges {N : Nat} [Inhabited (Fin N)] (p : Value) (cf : Fin N → Fin N → Int) (pr : Fin N → Fin N → Bool) (blk cap : Nat) (w0 : World) (n : Nat) : Prop :=
  ∀ (a m b : Nat) (dk : Array (Fin N)) (W : World), b - a < n → a < m → m < b → b ≤ N → dk.size = N → SW encF w0 blk 0 dk W → MergePre (ltOf cf) pr a m b dk →
    Calls Tryd.prog 47 #[.slice (some ⟨blk, 0, none⟩) N cap, .int .i64 a, .int .i64 m, .int .i64 b, .func (.func 33) #[] #[p]] W (Merged pr blk a b dk w0)
/-- The split that the search finds. -/
theorem split_of {N : Nat} [Inhabited (Fin N)] {cf : Fin N → Fin N → Int} {pr : Fin N → Fin N → Bool} (hpr : SWO pr) {a m b M lo hi s : Nat} {d : Array (Fin N)} (P : MergePre (ltOf cf) pr a m b d) (ham : a < m) (hmb : m < b) (hM : M = (a + b) / 2)
    (hlh : M < m ∧ lo = M + m - b ∧ hi = M ∨ m ≤ M ∧ lo = a ∧ hi = m) (h1 : lo ≤ s) (h2 : s ≤ hi)
    (H1 : ∀ c, lo ≤ c → c < s → pr d[M + m - 1 - c]! d[c]! = false) (H2 : ∀ c, s ≤ c → c < hi → pr d[M + m - 1 - c]! d[c]! = true) : Split pr a m b M s d := by
  refine ⟨by omega, by omega, by omega, by omega, fun i j g1 g2 g3 g4 => ?_, fun i j g1 g2 g3 g4 => ?_⟩
  · have hs : lo < s := by omega
    have e := H1 (s - 1) (by omega) (by omega)
    rw [show M + m - 1 - (s - 1) = M + m - s by omega] at e
    exact hpr.ntrans _ _ _ (sorted_le hpr P.right (by omega) g3 g4) (hpr.ntrans _ _ _ e (sorted_le hpr P.left g1 (by omega) (by omega)))
  · have e := H2 s (by omega) (by omega)
    have e2 := sorted_le hpr P.right (i := j) (j := M + m - 1 - s) g3 (by omega) (by omega)
    have e3 := sorted_le hpr P.left (i := s) (j := i) (by omega) g1 g2
    exact pr_lift2 hpr (pr_lift hpr e e2) e3
theorem rot_id {α : Type} (f : Nat → α) (s m e k : Nat) (hsm : s ≤ m) (h : s = m ∨ e = m) : f k = rotF f s m e k := by
  unfold rotF
  rcases h with rfl | rfl
  · (repeat' split) <;> first | rfl | (congr 1; omega)
  · (repeat' split) <;> first | rfl | (congr 1; omega) | (exfalso; omega)
theorem perm_self {α : Type} [Inhabited α] {pr : α → α → Bool} {a b : Nat} {d : Array α} (h : SortedIn pr a b d) : MergePost pr a b d d := ⟨permIn_refl _ _ _, h⟩
set_option maxHeartbeats 8000000 in
set_option maxRecDepth 100000 in
theorem merge_step {N : Nat} [Inhabited (Fin N)] (blk a m b cap : Nat) (p : Value) (cf : Fin N → Fin N → Int) (pr : Fin N → Fin N → Bool) (hpr : SWO pr) (d0 d : Array (Fin N)) (w0 w : World) (R : Row1 encF w0 blk 0 d0) (hN : d0.size = N) (hs : d.size = N)
    (S : SW encF w0 blk 0 d w) (hC : CmpQ p cf blk w0) (P : MergePre (ltOf cf) pr a m b d) (ham : a < m) (hmb : m < b) (ha1 : m ≠ a + 1) (hb1 : b ≠ m + 1) (hb : b ≤ N) (hsz : N < 4611686018427387904) (IH : Merges p cf pr blk cap w0 (b - a)) :
    Calls Tryd.prog 47 #[.slice (some ⟨blk, 0, none⟩) N cap, .int .i64 a, .int .i64 m, .int .i64 b, .func (.func 33) #[] #[p]] w (Merged pr blk a b d w0) := by
  have S0 : Aside (SW encF w0 blk 0 d w) := S
  have HP := Lib.hid P
  have hCq := fun {W : World} (S : SW encF w0 blk 0 d W) (x y : Fin N) (n : Nat) => hC.quiet hs S x y n
  have HB := Lib.hid hb
  have HZ := Lib.hid hsz
  have HS := Lib.hid hs
  have HN := Lib.hid hN
  have HAM := Lib.hid ham
  have HMB := Lib.hid hmb
  have HIH := Lib.hid IH
  obtain ⟨M, hM⟩ : ∃ M, M = (a + b) / 2 := ⟨_, rfl⟩
  have HM := Lib.hid hM
  have za : ((m : Int) - a == 1) = false := by simp; omega
  have zb : ((b : Int) - m == 1) = false := by simp; omega
  have zbb : (b : Int) ≤ 4611686018427387903 := by omega


  have zM : ((a : Int) + b) / 2 = (M : Int) := by omega
  have zMb : (M : Int) ≤ 4611686018427387903 := by omega
  have zaa : (a : Int) ≤ 4611686018427387903 := by omega
  have zmm : (m : Int) ≤ 4611686018427387903 := by omega
  have G := Lib.hid (show a + 1 < m ∧ m + 1 < b by omega)
  clear S P hb hsz hs hN hC ha1 hb1 IH ham hmb hM
  obtain ⟨lo, hi, hlh⟩ : ∃ lo hi, (M < m ∧ lo = M + m - b ∧ hi = M ∨ m ≤ M ∧ lo = a ∧ hi = m) := by
    by_cases h : M < m
    · exact ⟨_, _, .inl ⟨h, rfl, rfl⟩⟩
    · exact ⟨_, _, .inr ⟨by omega, rfl, rfl⟩⟩
  have HLH := Lib.hid hlh
  have zlo : M < m → (M : Int) + m - b = (lo : Int) := fun h => by have := HM.out; have := G.out; omega
  have HR := Lib.hid (show a ≤ lo ∧ lo ≤ hi ∧ hi ≤ m ∧ hi ≤ M ∧ (∀ c, lo ≤ c → c < hi → m ≤ M + m - 1 - c ∧ M + m - 1 - c < b) by have := HM.out; have := G.out; refine ⟨by omega, by omega, by omega, by omega, fun c h1 h2 => by omega⟩)
  have hway : (M : Int) < m ∧ Hid ((M : Int) + m - b = lo ∧ (M : Int) = hi) ∨ (m : Int) ≤ M ∧ Hid ((a : Int) = lo ∧ (m : Int) = hi) := by
    rcases hlh with ⟨h1, h2, h3⟩ | ⟨h1, h2, h3⟩
    · exact .inl ⟨by omega, by show _ ∧ _; have := HM.out; have := G.out; omega⟩
    · exact .inr ⟨by omega, by show _ ∧ _; omega⟩
  clear zlo hlh
  rcases hway with ⟨hcc, HE⟩ | ⟨hcc, HE⟩
  all_goals
    first
      | (have zl : (M : Int) + m - b = lo := HE.out.1)
      | skip
    go_enter Tryd.func47, Tryd.ntmps47
    go_wp2
    go_loopw [20, 21, 23] (fun u v _ wr => ∃ (s r : Nat), u = .int .i64 s ∧ v = .int .i64 r ∧ lo ≤ s ∧ s ≤ r ∧ r ≤ hi ∧ Aside (SW encF w0 blk 0 d wr) ∧ Hid (∀ c, lo ≤ c → c < s → pr d[M + m - 1 - c]! d[c]! = false) ∧ Hid (∀ c, r ≤ c → c < hi → pr d[M + m - 1 - c]! d[c]! = true)) (fun u v _ _ => (intOf v).toNat - (intOf u).toNat)
    case atStart => exact ⟨lo, hi, by first | rfl | rw [HE.out.1], by first | rfl | rw [HE.out.2], Nat.le_refl _, HR.out.2.1, Nat.le_refl _, S0, fun c h1 h2 => by omega, fun c h1 h2 => by omega⟩
    case round =>
      try clear zl
      clear S0 HE
      obtain ⟨s, r, rfl, rfl, hs1, hs2, hs3, SK, H1, H2⟩ := hrel
      have hr := HR.out
      by_cases hlt : s < r
      · have e1 := HB.out
        have e2 := HS.out
        have e3 := HN.out
        have e5 := hr.2.2.2.2 ((s + r) / 2) (by omega) (by omega)
        obtain ⟨q, hq⟩ : ∃ q, q = M + m - 1 - (s + r) / 2 := ⟨_, rfl⟩
        have zq : (M : Int) + m - 1 - ((s : Int) + r) / 2 = (q : Int) := by omega
        have zr : (r : Int) ≤ m := by omega
        have b0 : (0 : Int) ≤ ((s : Int) + r) / 2 := by omega
        have b1 : ((s : Int) + r) / 2 < N := by have := HMB.out; omega
        have b2 : (q : Int) < N := by omega
        have ch := SK.out.c1 R (by omega) ((s + r) / 2) (by have := HMB.out; omega)
        have ca := SK.out.c1 R (by omega) q (by omega)
        rw [Nat.zero_add] at ch ca
        have hqq := fun n => hCq SK.out d[q]! d[(s + r) / 2]! n
        have hcr := HP.out.cross ((s + r) / 2) q (by omega) (by omega) (by omega) (by omega)
        unfold ltOf at hcr
        have HCR := Lib.hid hcr
        obtain ⟨x, hx⟩ : ∃ z : Int, encF d[(s + r) / 2]! = .int .i64 z := ⟨_, rfl⟩
        obtain ⟨y, hy⟩ : ∃ z : Int, encF d[q]! = .int .i64 z := ⟨_, rfl⟩
        rw [hx] at ch hqq
        rw [hy] at ca hqq
        generalize cf d[q]! d[(s + r) / 2]! = c at hqq HCR
        have HQ := Lib.hid hqq
        have HQE := Lib.hid hq
        have HMID : Hid (s ≤ (s + r) / 2 ∧ (s + r) / 2 < r) := by show _ ∧ _; omega
        clear hx hy hcr hqq hq e1 e2 e3 e5 hr
        cases hd : decide (c < 0)
        all_goals
          go_wp2_with fail
          go_quiet ((go_at_call 33; exact HQ.out _))
          simp only [Exit.then]
          have SK2 : Aside (SW encF w0 blk 0 d (wr.drewN nq)) := SK.out.drewN nq
          generalize wr.drewN nq = w2 at SK2 ⊢
          clear HQ SK ch ca b0 b1 b2 zq
          have hm1 : (((s + r) / 2 : Nat) : Int) = ((s : Int) + r) / 2 := by omega
          go_wp2
          go_roundw
        case rel =>
          have e := HCR.out
          rw [hd, HQE.out] at e
          have hr := HR.out
          have hmd := HMID.out
          refine ⟨(s + r) / 2 + 1, r, by first | rfl | go_num, rfl, by omega, by omega, by omega, SK2, fun k k1 k2 => ?_, H2⟩
          have g := hr.2.2.2.2 k k1 (by omega)
          have g2 := hr.2.2.2.2 ((s + r) / 2) (by omega) (by omega)
          exact hpr.ntrans _ _ _ (sorted_le hpr HP.out.right g2.1 (by omega) g.2) (hpr.ntrans _ _ _ e.symm (sorted_le hpr HP.out.left (by omega) (show k ≤ (s + r) / 2 by omega) (by omega)))
        case measure => have := HMID.out; simp [intOf]; omega
        case rel =>
          have e := HCR.out
          rw [hd, HQE.out] at e
          have hr := HR.out
          have hmd := HMID.out
          refine ⟨s, (s + r) / 2, rfl, by first | rfl | (rw [hm1]) | go_num, by omega, by omega, by omega, SK2, H1, fun k k1 k2 => ?_⟩
          have g := hr.2.2.2.2 k (by omega) k2
          have g2 := hr.2.2.2.2 ((s + r) / 2) (by omega) (by omega)
          exact pr_lift2 hpr (pr_lift hpr e.symm (sorted_le hpr HP.out.right g.1 (by omega) g2.2)) (sorted_le hpr HP.out.left (by omega) k1 (by omega))
        case measure => have := HMID.out; simp [intOf]; omega
      · have es : s = r := by omega
        subst es
        have SP : Hid (Split pr a m b M s d) := split_of hpr HP.out HAM.out HMB.out HM.out HLH.out hs1 hs3 H1.out H2.out
        obtain ⟨q, hq⟩ : ∃ q, q = M + m - s := ⟨_, rfl⟩
        have HQ := Lib.hid hq
        have ze : (M : Int) + m - s = (q : Int) := by omega
        have hrg : a ≤ s ∧ s ≤ m ∧ s ≤ M ∧ q ≤ b ∧ M < b ∧ a < M := by have := HM.out; have := G.out; have := SP.out.e_b; omega
        have HRG := Lib.hid hrg
        have zr : (s : Int) ≤ m := by omega
        have zq : (q : Int) ≤ b := by omega
        clear hrg hr hs1 hs2 hs3 hlt H1 H2 hq
        have fin : Hid (∀ (d1 d2 d3 : Array (Fin N)), d1.size = N → PermIn s q d d1 → (∀ k, d1[k]! = rotF (fun k => d[k]!) s m q k) → MergePost pr a M d1 d2 → MergePost pr M b d2 d3 → MergePost pr a b d d3) := fun d1 d2 d3 _ p1 x1 m1 m2 => by
          have := HRG.out
          rw [HQ.out] at p1 x1
          exact split_done (by have := HS.out; have := HB.out; omega) (by omega) (by omega) (permIn_mono _ _ _ _ _ _ (by omega) (by have := SP.out.e_b; omega) (by have := HS.out; have := HB.out; omega) p1) (split_cross hpr HP.out SP.out x1) m1 m2
        have first' : Hid (∀ d1 : Array (Fin N), (∀ k, d1[k]! = rotF (fun k => d[k]!) s m q k) → MergePre (ltOf cf) pr a s M d1) := fun d1 x1 => by rw [HQ.out] at x1; exact split_first HP.out SP.out x1
        have second' : Hid (∀ d1 d2 : Array (Fin N), (∀ k, d1[k]! = rotF (fun k => d[k]!) s m q k) → (∀ k, M ≤ k → d2[k]! = d1[k]!) → MergePre (ltOf cf) pr M q b d2) := fun d1 d2 x1 h2 => by rw [HQ.out] at x1 ⊢; exact split_second HP.out SP.out x1 h2
        by_cases c1 : (s : Int) < m
        · by_cases c2 : (m : Int) < q
          · -- the two parts are turned
            have hrot := rotate_s blk s m q cap (.func (.func 33) #[] #[p]) d0 d w0 wr R (by have := HS.out; have := HN.out; omega) SK.out (by omega) (by omega) (by have := HS.out; have := HB.out; have := HRG.out; omega) (by have := HS.out; have := HZ.out; omega)
            rw [HS.out] at hrot
            have HROT := Lib.hid hrot
            clear hrot SK
            have c3' : (s : Int) < M := by have := HQ.out; omega
            have c4' : (M : Int) < q := by have := HQ.out; omega
            by_cases c3 : (a : Int) < s
            · by_cases c4 : (q : Int) < b
              · go_wp2_with (go_at_call 50; ((with_reducible refine HROT.out.mono ?_); rintro e w1 ⟨rfl, d1, S1, h1, p1, x1⟩))
                have F1 := Lib.hid (And.intro h1 (And.intro p1 x1))
                clear h1 p1 x1
                have hm1 := HIH.out a s M d1 w1 (by have := HRG.out; omega) (by omega) (by omega) (by have := HRG.out; have := HB.out; omega) F1.out.1 S1 (first'.out d1 F1.out.2.2)
                go_wp2_with (go_at_call 47; ((with_reducible refine hm1.mono ?_); rintro e w2 ⟨rfl, d2, S2, h2, m1⟩))
                have F2 := Lib.hid (And.intro h2 m1)
                clear h2 m1 hm1
                have hm2 := HIH.out M q b d2 w2 (by have := HRG.out; omega) (by omega) (by omega) HB.out F2.out.1 S2 (second'.out d1 d2 F1.out.2.2 (fun k hk => F2.out.2.1.2.1 k (.inr hk)))
                go_wp2_with (go_at_call 47; ((with_reducible refine hm2.mono ?_); rintro e w3 ⟨rfl, d3, S3, h3, m2⟩))
                all_goals (go_end0; exact ⟨rfl, d3, S3, h3, fin.out d1 d2 d3 F1.out.1 F1.out.2.1 F1.out.2.2 F2.out.2 m2⟩)
              · have eq : q = b := by omega
                have E := Lib.hid eq
                clear eq
                go_wp2_with (go_at_call 50; ((with_reducible refine HROT.out.mono ?_); rintro e w1 ⟨rfl, d1, S1, h1, p1, x1⟩))
                have F1 := Lib.hid (And.intro h1 (And.intro p1 x1))
                clear h1 p1 x1
                have hm1 := HIH.out a s M d1 w1 (by have := HRG.out; omega) (by omega) (by omega) (by have := HRG.out; have := HB.out; omega) F1.out.1 S1 (first'.out d1 F1.out.2.2)
                go_wp2_with (go_at_call 47; ((with_reducible refine hm1.mono ?_); rintro e w2 ⟨rfl, d2, S2, h2, m1⟩))
                all_goals (go_end0; exact ⟨rfl, d2, S2, h2, fin.out d1 d2 d2 F1.out.1 F1.out.2.1 F1.out.2.2 m1 (perm_self (by have := (second'.out d1 d2 F1.out.2.2 (fun k hk => m1.1.2.1 k (.inr hk))).left; rwa [E.out] at this))⟩)
            · have E : Hid (s = a) := by have := HRG.out; show _ = _; omega
              by_cases c4 : (q : Int) < b
              · go_wp2_with (go_at_call 50; ((with_reducible refine HROT.out.mono ?_); rintro e w1 ⟨rfl, d1, S1, h1, p1, x1⟩))
                all_goals
                  have F1 := Lib.hid (And.intro h1 (And.intro p1 x1))
                  clear h1 p1 x1
                  have hm2 := HIH.out M q b d1 w1 (by have := HRG.out; omega) (by omega) (by omega) HB.out F1.out.1 S1 (second'.out d1 d1 F1.out.2.2 (fun k hk => rfl))
                  go_wp2_with (go_at_call 47; ((with_reducible refine hm2.mono ?_); rintro e w3 ⟨rfl, d3, S3, h3, m2⟩))
                  all_goals (go_end0; exact ⟨rfl, d3, S3, h3, fin.out d1 d1 d3 F1.out.1 F1.out.2.1 F1.out.2.2 (perm_self (by have := (first'.out d1 F1.out.2.2).right; rwa [E.out] at this)) m2⟩)
              · have E2 : Hid (q = b) := by show _ = _; omega
                go_wp2_with (go_at_call 50; ((with_reducible refine HROT.out.mono ?_); rintro e w1 ⟨rfl, d1, S1, h1, p1, x1⟩))
                all_goals (go_end0; exact ⟨rfl, d1, S1, h1, fin.out d1 d1 d1 h1 p1 x1 (perm_self (by have := (first'.out d1 x1).right; rwa [E.out] at this)) (perm_self (by have := (second'.out d1 d1 x1 (fun k hk => rfl)).left; rwa [E2.out] at this))⟩)
          · have E : Hid (q = m ∧ s = M) := by have := HQ.out; have := HRG.out; show _ ∧ _; omega
            have x0 : Hid (∀ k, d[k]! = rotF (fun k => d[k]!) s m q k) := fun k => rot_id (fun k => d[k]!) s m q k (by omega) (.inr E.out.1)
            have t1 : ¬ (s : Int) < M := by have := E.out; omega
            have t2 : (M : Int) < q := by have := E.out; omega
            have t3 : (q : Int) < b := by have := E.out; have := HMB.out; omega
            have hm2 := HIH.out M q b d wr (by have := HRG.out; omega) (by omega) (by omega) HB.out HS.out SK.out (second'.out d d x0.out (fun k hk => rfl))
            by_cases c3 : (a : Int) < s
            all_goals
              go_wp2_with (go_at_call 47; ((with_reducible refine hm2.mono ?_); rintro e w3 ⟨rfl, d3, S3, h3, m2⟩))
              all_goals (go_end0; exact ⟨rfl, d3, S3, h3, fin.out d d d3 HS.out (permIn_refl _ _ _) x0.out (perm_self (by have := (first'.out d x0.out).left; rwa [E.out.2] at this)) m2⟩)
        · have E : Hid (s = m ∧ q = M) := by have := HQ.out; have := HRG.out; show _ ∧ _; omega
          have x0 : Hid (∀ k, d[k]! = rotF (fun k => d[k]!) s m q k) := fun k => rot_id (fun k => d[k]!) s m q k (by have := E.out; omega) (.inl E.out.1)
          have t1 : (a : Int) < s := by have := E.out; have := HAM.out; omega
          have t2 : ¬ (M : Int) < q := by have := E.out; omega
          by_cases c3 : (s : Int) < M
          · have hm1 := HIH.out a s M d wr (by have := HRG.out; omega) (by omega) (by omega) (by have := HRG.out; have := HB.out; omega) HS.out SK.out (first'.out d x0.out)
            go_wp2_with (go_at_call 47; ((with_reducible refine hm1.mono ?_); rintro e w2 ⟨rfl, d2, S2, h2, m1⟩))
            all_goals (go_end0; exact ⟨rfl, d2, S2, h2, fin.out d d2 d2 HS.out (permIn_refl _ _ _) x0.out m1 (perm_self (by have := (second'.out d d2 x0.out (fun k hk => m1.1.2.1 k (.inr hk))).right; rwa [E.out.2] at this))⟩)
          · have E2 : Hid (s = M) := by have := HRG.out; show _ = _; omega
            go_wp2
            all_goals (go_end0; exact ⟨rfl, d, SK.out, HS.out, fin.out d d d HS.out (permIn_refl _ _ _) x0.out (perm_self (by have := (first'.out d x0.out).left; rwa [E2.out] at this)) (perm_self (by have := (second'.out d d x0.out (fun k hk => rfl)).right; rwa [E.out.2] at this))⟩)
end Go.Proofs.YtdjkilgcgkhcdaaDoor
