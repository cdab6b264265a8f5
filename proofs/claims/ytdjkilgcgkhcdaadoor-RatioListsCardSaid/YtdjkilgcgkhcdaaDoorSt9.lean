/-
  Contract of slices.stableCmpFunc at any number of places: sorted by the strict order, a permutation of all places.
-/
import Derived.Test.YtdjkilgcgkhcdaaDoorSt6
import Derived.Test.YtdjkilgcgkhcdaaDoorSt8
namespace Go.Proofs.YtdjkilgcgkhcdaaDoor
open Go.RowKit Go.Fl Go.Sort Go.Lib
/-- THE MERGE, of whichever parts. -/
theorem merges {N : Nat} [Inhabited (Fin N)] (p : Value) (cf : Fin N → Fin N → Int) (pr : Fin N → Fin N → Bool) (hpr : SWO pr) (blk cap : Nat) (d0 : Array (Fin N)) (w0 : World) (R : Row1 encF w0 blk 0 d0) (hN : d0.size = N) (hC : CmpQ p cf blk w0) (hsz : N < 4611686018427387904) :
    ∀ n, Merges p cf pr blk cap w0 n
  | 0 => fun a m b dk W h => absurd h (by omega)
  | n + 1 => fun a m b dk W h ham hmb hb hs S P => by
    by_cases h1 : m = a + 1
    · have := merge_left blk a m b cap p cf pr hpr d0 dk w0 W R hN (by omega) S hC P h1 hmb (by omega) (by omega)
      rw [hs] at this
      exact this
    · by_cases h2 : b = m + 1
      · have := merge_right blk a m b cap p cf pr hpr d0 dk w0 W R hN (by omega) S hC P ham h1 h2 (by omega) (by omega)
        rw [hs] at this
        exact this
      · exact merge_step blk a m b cap p cf pr hpr d0 dk w0 W R hN hs S hC P ham hmb h1 h2 hb hsz
          (fun a' m' b' dk' W' h' => merges p cf pr hpr blk cap d0 w0 R hN hC hsz n a' m' b' dk' W' (by omega))
set_option maxHeartbeats 4000000 in
set_option maxRecDepth 100000 in
theorem stable_any (l : List Nat) [Inhabited (Fin l.length)] (cap bP : Nat) (p : Value) (w : World) (hsz : l.length < 4611686018427387904) (hcmp : CmpLays1 Tryd.prog 33 #[p] encF (cfF l) bP 0 l.length w) (hQ : CmpQ p (cfF l) bP w) (hH : Holds encF w bP 0 (places l.length)) (hblk : bP < w.heap.size) :
    Calls Tryd.prog 41 #[.slice (some ⟨bP, 0, none⟩) l.length cap, .int .i64 l.length, .func (.func 33) #[] #[p]] w fun e w' =>
      e = .returned (.tuple #[]) ∧ ∃ d' : Array (Fin l.length), SW encF w bP 0 d' w' ∧ PermIn 0 l.length (places l.length) d' ∧ SortedIn (prF l) 0 l.length d' := by
  have eg : ∀ args w, (callFunc 33 args).run Tryd.prog w = .ok (.enter 33 args) w := enters_of Tryd.func33 (by kernel_rfl) rfl
  have R : Row1 encF w bP 0 (places l.length) := ⟨fun _ => rfl, hH, hblk⟩
  have HI : Hid (∀ (a b : Nat) (d : Array (Fin l.length)) (W : World), d.size = l.length → SW encF w bP 0 d W → a ≤ b → b ≤ l.length →
      Calls Tryd.prog 46 #[.slice (some ⟨bP, 0, none⟩) l.length cap, .int .i64 a, .int .i64 b, .func (.func 33) #[] #[p]] W fun e w' => e = .returned (.tuple #[]) ∧ SW encF w bP 0 (Sort.insertionSort (ltOf (cfF l)) d a b) w') := fun a b d W hd S hab hb => by
    have := Tryd.insertionSortCmpFunc_s encF (cfF l) 33 #[p] bP 0 cap a b (places l.length) d w W eg (by rw [places_size]; exact hcmp) R (by rw [places_size, hd]) S hab (by omega) (by omega)
    rw [hd] at this
    exact this
  have HM : Hid (∀ (a m b : Nat) (dk : Array (Fin l.length)) (W : World), a < m → m < b → b ≤ l.length → dk.size = l.length → SW encF w bP 0 dk W → MergePre (ltOf (cfF l)) (prF l) a m b dk →
      Calls Tryd.prog 47 #[.slice (some ⟨bP, 0, none⟩) l.length cap, .int .i64 a, .int .i64 m, .int .i64 b, .func (.func 33) #[] #[p]] W (Merged (prF l) bP a b dk w)) := fun a m b dk W h1 h2 h3 h4 h5 h6 =>
    merges p (cfF l) (prF l) (prF_swo l) bP cap (places l.length) w R (places_size _) hQ hsz (b - a + 1) a m b dk W (by omega) h1 h2 h3 h4 h5 h6
  have HL : Hid (∀ x y : Fin l.length, y.val < x.val → ltOf (cfF l) x y = prF l x y) := lt_later l
  have S0 : Aside (SW encF w bP 0 (places l.length) w) := SW.start hH
  have HZ := Lib.hid hsz
  have HP0 : Hid (∀ k, k < l.length → ((places l.length)[k]!).val = k) := fun k hk => by rw [places_at _ k hk]
  have HSZ : Hid ((places l.length).size = l.length) := places_size _
  have HPR := Lib.hid (prF_swo l)
  have zn : (l.length : Int) ≤ 4611686018427387903 := by omega
  clear hcmp hQ hH hblk eg R hsz
  generalize ltOf (cfF l) = lt at HI HM HL
  generalize prF l = pr at HM HL HPR ⊢
  generalize l.length = n at *
  go_enter Tryd.func41, Tryd.ntmps41
  go_wp2
  go_loopw [7, 8] (fun u v wr => ∃ (q : Nat) (dk : Array (Fin n)), u = .int .i64 (q * 20 : Nat) ∧ v = .int .i64 (q * 20 + 20 : Nat) ∧ q * 20 ≤ n ∧ dk.size = n ∧ Aside (SW encF w bP 0 dk wr) ∧ Hid (PermIn 0 n (places n) dk) ∧ Hid (DoneG pr 20 (q * 20) dk) ∧ Hid (∀ k, q * 20 ≤ k → k < n → (dk[k]!).val = k)) (fun u _ _ => n + 20 - (intOf u).toNat)
  case atStart => exact ⟨0, places n, rfl, rfl, by omega, HSZ.out, S0, permIn_refl _ _ _, fun q hq => by omega, fun k _ hk => HP0.out k hk⟩
  case round =>
    clear S0
    obtain ⟨q, dk, rfl, rfl, hq, hsk, SK, HP, HD, HK⟩ := hrel
    obtain ⟨A, hA⟩ : ∃ A, A = q * 20 := ⟨_, rfl⟩
    rw [← hA] at hq HD HK ⊢
    have HA := Lib.hid hA
    clear hA
    by_cases hlt : A + 20 ≤ n
    · have hi := HI.out A (A + 20) dk wr hsk SK.out (by omega) hlt
      obtain ⟨gp, gg⟩ := good_ins HL.out HPR.out (show A ≤ A + 20 by omega) (by omega) (fun k h1 h2 => HK.out k h1 (by omega))
      have HG := Lib.hid (And.intro gp gg)
      have hsz2 : (Sort.insertionSort lt dk A (A + 20)).size = n := by rw [gp.1]; exact hsk
      have HS2 := Lib.hid hsz2
      clear gp gg hsz2 SK
      generalize Sort.insertionSort lt dk A (A + 20) = d2 at *
      have t1 : (A : Int) + 20 ≤ n := by omega
      rw [show ((A + 20 : Nat) : Int) = (A : Int) + 20 by omega] at hi
      go_wp2_with (go_at_call 46; ((with_reducible refine hi.mono ?_); rintro e w' ⟨rfl, S'⟩))
      have S2 : Aside (SW encF w bP 0 d2 w') := S'
      clear S'
      go_roundw
      case rel =>
        have hA := HA.out
        refine ⟨q + 1, d2, by rw [show (q + 1) * 20 = A + 20 by omega]; first | rfl | go_num, by rw [show (q + 1) * 20 + 20 = A + 20 + 20 by omega]; first | rfl | go_num, by omega, HS2.out, S2, permIn_trans _ _ _ _ _ HP.out (permIn_mono _ _ _ _ _ _ (by omega) hlt (by omega) HG.out.1), ?_, fun k h1 h2 => ?_⟩
        · have h1 := HD.out
          have h2 := HG.out
          rw [hA] at h1 h2
          exact done_step (by omega) h1 h2.1 h2.2
        · rw [HG.out.1.2.1 k (.inr (by omega))]; exact HK.out k (by omega) h2
      case measure => simp [intOf]; omega
    · have hi := HI.out A n dk wr hsk SK.out hq (Nat.le_refl _)
      obtain ⟨gp, gg⟩ := good_ins HL.out HPR.out hq (by omega) (fun k h1 h2 => HK.out k h1 h2)
      have HALL : Hid (AllG pr 20 0 (Sort.insertionSort lt dk A n)) := by
        have hA := HA.out
        have h1 := HD.out
        rw [hA] at h1 gp gg ⊢
        exact first_all (by omega) (by omega) h1 gp gg
      have HP1 : Hid (PermIn 0 n (places n) (Sort.insertionSort lt dk A n)) := permIn_trans _ _ _ _ _ HP.out (permIn_mono _ _ _ _ _ _ (by omega) (Nat.le_refl _) (by omega) gp)
      have HS2 : Hid ((Sort.insertionSort lt dk A n).size = n) := by show _ = _; rw [gp.1]; exact hsk
      clear gp gg SK HD HK HP HA hsk
      generalize Sort.insertionSort lt dk A n = d2 at *
      have t1 : ¬ (A : Int) + 20 ≤ n := by omega
      have zA : (A : Int) ≤ n := by omega
      go_wp2_with (go_at_call 46; ((with_reducible refine hi.mono ?_); rintro e w' ⟨rfl, S'⟩))
      have S2 : Aside (SW encF w bP 0 d2 w') := S'
      clear S' hi t1
      go_loopw [6, 7, 8, 9] (fun u _ _ _ wr => ∃ (bs : Nat) (dk : Array (Fin n)), u = .int .i64 bs ∧ 20 ≤ bs ∧ bs ≤ 2 * n + 20 ∧ dk.size = n ∧ Aside (SW encF w bP 0 dk wr) ∧ Hid (PermIn 0 n (places n) dk) ∧ Hid (AllG pr bs 0 dk)) (fun u _ _ _ _ => n - (intOf u).toNat)
      case atStart => exact ⟨20, d2, rfl, by omega, by omega, HS2.out, S2, HP1, HALL⟩
      case round =>
        clear S2 HP1 HALL HS2 d2
        obtain ⟨bs, dk, rfl, hb20, hbn, hsk, SK, HP, HG⟩ := hrel
        by_cases hlt2 : bs < n
        · go_wp2
          go_loopw [7, 8] (fun u v wr => ∃ (q : Nat) (d2 : Array (Fin n)), u = .int .i64 (q * (2 * bs) : Nat) ∧ v = .int .i64 (q * (2 * bs) + 2 * bs : Nat) ∧ q * (2 * bs) ≤ n ∧ d2.size = n ∧ Aside (SW encF w bP 0 d2 wr) ∧ Hid (PermIn 0 n (places n) d2) ∧ Hid (DoneG pr (2 * bs) (q * (2 * bs)) d2) ∧ Hid (AllG pr bs (q * (2 * bs)) d2)) (fun u _ _ => n + 2 * bs - (intOf u).toNat)
          case atStart => exact ⟨0, dk, by rw [Nat.zero_mul]; rfl, by rw [Nat.zero_mul]; first | rfl | go_num, by omega, hsk, SK, HP, fun q hq => by exfalso; rw [Nat.zero_mul] at hq; omega, by rw [Nat.zero_mul]; exact HG.out⟩
          case round =>
            clear SK HP HG hsk dk
            obtain ⟨q, dk, rfl, rfl, hq, hsk, SK, HP, HD, HG⟩ := hrel
            obtain ⟨B, hB⟩ : ∃ B, B = q * (2 * bs) := ⟨_, rfl⟩
            rw [← hB] at hq HD HG ⊢
            have HB := Lib.hid hB
            have HQ : Hid ((q + 1) * (2 * bs) = B + 2 * bs) := by show _ = _; rw [Nat.succ_mul, ← hB]
            clear hB
            have zB : (B : Int) ≤ n := by omega
            by_cases hlt3 : B + 2 * bs ≤ n
            · obtain ⟨g1, g2⟩ := two_blocks (by have := HG.out; rw [HB.out] at this; exact this) (show q * (2 * bs) + bs < n by rw [← HB.out]; omega)
              rw [← HB.out] at g1 g2
              rw [Nat.min_eq_left (by omega)] at g2
              have hm := HM.out B (B + bs) (B + bs + bs) dk wr (by omega) (by omega) (by omega) hsk SK.out (good_pre HL.out g1 g2)
              rw [show ((B + bs : Nat) : Int) = (B : Int) + bs by omega, show ((B + bs + bs : Nat) : Int) = (B : Int) + 2 * bs by omega] at hm
              have G12 := Lib.hid (And.intro g1 g2)
              clear g1 g2 SK
              have t3 : (B : Int) + 2 * bs ≤ n := by omega
              go_wp2_with (go_at_call 47; ((with_reducible refine hm.mono ?_); rintro e w' ⟨rfl, d2, S', hs2, hmp⟩))
              have S2 : Aside (SW encF w bP 0 d2 w') := S'
              have HS2 := Lib.hid (And.intro hs2 hmp)
              clear S' hs2 hmp hm
              go_roundw
              case rel =>
                have hmp := HS2.out.2
                refine ⟨q + 1, d2, by rw [HQ.out]; first | rfl | go_num, by rw [HQ.out]; first | rfl | go_num, by rw [HQ.out]; exact hlt3, HS2.out.1, S2, permIn_trans _ _ _ _ _ HP.out (permIn_mono _ _ _ _ _ _ (by omega) (by omega) (by omega) hmp.1), ?_, ?_⟩
                · have h1 := HD.out
                  have hg := good_post (by omega) (by omega) (by omega) G12.out.1 G12.out.2 hmp
                  have hp := hmp.1
                  rw [show B + bs + bs = B + 2 * bs by omega] at hp hg
                  rw [HB.out] at h1 hp hg
                  exact done_step (by omega) h1 hp hg
                · rw [HQ.out]
                  have hp := hmp.1
                  rw [show B + bs + bs = B + 2 * bs by omega] at hp
                  exact all_other hp HG.out (fun q' h => by omega)
              case measure => simp [intOf]; omega
            · have t3 : ¬ (B : Int) + 2 * bs ≤ n := by omega
              by_cases hm3 : B + bs < n
              · obtain ⟨g1, g2⟩ := two_blocks (by have := HG.out; rw [HB.out] at this; exact this) (show q * (2 * bs) + bs < n by rw [← HB.out]; omega)
                rw [← HB.out] at g1 g2
                rw [Nat.min_eq_right (by omega)] at g2
                have hm := HM.out B (B + bs) n dk wr (by omega) hm3 (Nat.le_refl _) hsk SK.out (good_pre HL.out g1 g2)
                rw [show ((B + bs : Nat) : Int) = (B : Int) + bs by omega] at hm
                have G12 := Lib.hid (And.intro g1 g2)
                clear g1 g2 SK
                have t4 : (B : Int) + bs < n := by omega
                go_wp2_with (go_at_call 47; ((with_reducible refine hm.mono ?_); rintro e w' ⟨rfl, d2, S', hs2, hmp⟩))
                have S2 : Aside (SW encF w bP 0 d2 w') := S'
                have HS2 := Lib.hid (And.intro hs2 hmp)
                clear S' hs2 hmp hm
                go_roundw
                case rel =>
                  have hmp := HS2.out.2
                  refine ⟨2 * bs, d2, by first | rfl | go_num, by omega, by omega, HS2.out.1, S2, permIn_trans _ _ _ _ _ HP.out (permIn_mono _ _ _ _ _ _ (by omega) (by omega) (by omega) hmp.1), ?_⟩
                  have h1 := HD.out
                  have hg := good_post (by omega) (by omega) (by omega) G12.out.1 G12.out.2 hmp
                  have hp := hmp.1
                  rw [HB.out] at h1 hp hg
                  exact last_all (by rw [← HB.out]; exact hq) (by rw [← HB.out]; omega) h1 hp (fun _ => hg)
                case measure => simp [intOf]; omega
              · have t4 : ¬ (B : Int) + bs < n := by omega
                go_wp2
                go_roundw
                case rel =>
                  refine ⟨2 * bs, dk, by first | rfl | go_num, by omega, by omega, hsk, SK, HP, ?_⟩
                  have h1 := HD.out
                  have h2 := HG.out
                  rw [HB.out] at h1 h2
                  exact last_all (by rw [← HB.out]; exact hq) (by rw [← HB.out]; omega) h1 (permIn_refl _ _ _) (fun h => one_block h2 (by rw [← HB.out]; omega) h)
                case measure => simp [intOf]; omega
        · have t2 : ¬ (bs : Int) < n := by omega
          have HZ2 : Hid (n ≤ bs) := by show _ ≤ _; omega
          go_wp2
          go_end0
          exact ⟨rfl, dk, SK.out, HP.out, all_last HG.out HZ2.out⟩
end Go.Proofs.YtdjkilgcgkhcdaaDoor
