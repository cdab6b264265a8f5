/-
  Package canon's Codes.
-/
import Derived.Test.YtbkehlppngejnaaCanMy
import Derived.Laws.OwnMore
namespace Go.Proofs.Ytbkehlppngejnaa
open Go.RowKit Go.Lib Cn
theorem cv_zero (n : Nat) : (madeCells (Value.agg #[.int .i64 0, .int .i64 0]).cells (n * 2)).toList = cv (List.replicate n (0, 0)) := by
  refine List.ext_getElem? fun j => ?_
  by_cases hj : j < n * 2
  · have h1 := cv_at (List.replicate n (0, 0)) (j / 2) (by rw [List.length_replicate]; omega)
    have e0 : (List.replicate n ((0 : Nat), (0 : Nat))).getD (j / 2) (0, 0) = (0, 0) := by
      rw [List.getD_eq_getElem?_getD, List.getElem?_replicate]; split <;> rfl
    rw [e0] at h1
    have e2 : (madeCells (Value.agg #[.int .i64 0, .int .i64 0]).cells (n * 2)).toList[j]? = some (.int .i64 0) := by
      rcases Nat.mod_two_eq_zero_or_one j with z | z <;> simp [madeCells, hj, z, Value.cells]
    rw [e2]
    rcases Nat.mod_two_eq_zero_or_one j with z | z
    · rw [show j = j / 2 * 2 by omega, h1.1]; rfl
    · rw [show j = j / 2 * 2 + 1 by omega, h1.2]; rfl
  · rw [List.getElem?_eq_none (by simp [madeCells]; omega), List.getElem?_eq_none (by rw [cv_length, List.length_replicate]; omega)]
set_option maxHeartbeats 4000000 in
theorem codes_is (l : List Nat) (n : Nat) (p : Option Addr) (c : Nat) (w : World) (hm : MayC l) (hn : l.length = n) (h : IntsLie w p (nums l) c) :
    Calls Try.prog 9 #[.slice p n c] w fun e w' => Below w.heap.size w w' ∧ ∃ q d, e = .returned (.tuple #[.slice q n d, .bool true]) ∧ CodesLie w' q (codesOf l) d := by
  have hmay := may_yes l n p c w hm hn h
  have zn : (n : Int) ≤ 300 := by have := hm.len; omega
  have hcap : (n : Int) ≤ c := by have := h.len; rw [nums_len] at this; omega
  obtain ⟨i0, hi0, hz0, hz1, hz2⟩ := info_parts infoCode
  obtain ⟨w1, hr1, hown, hg1⟩ := run_make_full (P := Try.prog) w w.heap.size 27 42 i0 (.agg #[.int .i64 0, .int .i64 0]) 2 Try.underlying27 hi0 hz0 hz1 .i64 .i64 n (by rw [hz2]; omega) (by unfold maxLen; omega) (Nat.le_refl _)
  rw [cv_zero] at hown
  have hb1 : Below w.heap.size w w1 := (Below.refl _ _).grown hg1 (Nat.le_refl _) (fun b hb => by cases hb)
  have hlt1 := (hown.lt _ rfl).2
  have hla := laid_at l n p c w1 hm hn (h.below hb1)
  have HM := Lib.hid hm
  have Hn := Lib.hid hn
  have HO := Lib.hid hown
  have HB := Lib.hid hb1
  have HL1 := Lib.hid hlt1
  have hp16 := Lib.hid (fun (m : Nat) (hm2 : m < 16) => show prevC l m ≤ 16384 by have h1 := base_prev l m; have h2 := base_le hm (show m ≤ 15 by omega); omega)
  clear h hm hn hown hb1 hlt1 hg1
  go_enter Try.func9, Try.ntmps9
  go_wp2_with (first | (go_at_call 19; refine hmay.mono ?_; rintro e w' ⟨rfl, rfl⟩) | (go_at_call 20; refine hla.mono ?_; rintro e w2 ⟨hb2, vs, hvl, rfl, hrows⟩))
  have HO2 := Lib.hid (own_keep HO.out hb2)
  have HB2 := Lib.hid (HB.out.trans (hb2.mono (by have := HL1.out; omega)))
  have HR2 := Lib.hid hrows
  rw [← Hn.out, ← filledJ_start l, Hn.out] at HO2
  clear hmay hla hb2 hrows HO HB hr1
  go_loopw [5, 18] (fun x v wr => ∃ m : Nat, v = .int .i64 m ∧ m ≤ 16 ∧ x = .int .i64 (prevC l m : Nat) ∧ Hid (wr.ownsRow w'.heap.size 42 2 (.slice (some ⟨w'.heap.size, 0, none⟩) n n) n (cv (filledJ l m 0))) ∧ Hid (RowsOwn wr w1.heap.size l n vs) ∧ Hid (Below w'.heap.size w' wr)) (fun _ v _ => 16 - (RowKit.intOf v).toNat)
  case atStart => exact ⟨0, rfl, by omega, rfl, HO2, HR2, HB2⟩
  case round =>
    clear HO2 HR2 HB2
    obtain ⟨m, rfl, hm, rfl, HO, HR, HB⟩ := hrel
    by_cases hlt : m < 16
    · have hix := index_rows vs hvl hlt wr
      obtain ⟨q1, d1, hv⟩ := HR.out.form hlt
      rw [hv] at hix
      have HV := Lib.hid hv
      have hp := hp16.out m hlt
      have HBP := Lib.hid (base_prev l m)
      have hle := rowOf_le l m n
      obtain ⟨R, hR⟩ : ∃ R, R = rowOf l m n := ⟨_, rfl⟩
      have Hm := Lib.hid hlt
      have HRR := Lib.hid hR
      rw [← hR] at hix hle HV
      have mi : (m : Int) < 16 := by omega
      generalize prevC l m = y at hp HBP ⊢
      have zy : (y : Int) ≤ 16384 := by omega
      obtain ⟨k, hk⟩ : ∃ k, k = R.length := ⟨_, rfl⟩
      rw [← hk] at hix hle HV
      have Hk := Lib.hid hk
      have zk : (k : Int) ≤ 300 := by omega
      clear hv hR hlt hp hle hk
      go_wp2
      go_loopw [5, 26] (fun x v wr => ∃ j : Nat, v = .int .i64 j ∧ j ≤ k ∧ x = .int .i64 ((Cn.base l m + j : Nat) : Int) ∧ Hid (wr.ownsRow w'.heap.size 42 2 (.slice (some ⟨w'.heap.size, 0, none⟩) n n) n (cv (filledJ l m j))) ∧ Hid (RowsOwn wr w1.heap.size l n vs) ∧ Hid (Below w'.heap.size w' wr)) (fun _ v _ => k - (RowKit.intOf v).toNat)
      case atStart => exact ⟨0, rfl, Nat.zero_le _, by rw [HBP.out]; go_num, HO, HR, HB⟩
      case round =>
        clear HO HR HB
        obtain ⟨j, rfl, hj, rfl, HO, HR, HB⟩ := hrel
        by_cases hjk : j < k
        · have hm0 : m ≠ 0 := fun e => by
            have h1 := Hk.out; have h2 := HRR.out
            rw [e, rowOf_zero] at h2
            rw [h2] at h1
            have h3 : k = 0 := h1
            omega
          have hown := HR.out m Hm.out
          rw [HV.out, ← HRR.out, ← Hk.out] at hown
          obtain ⟨g1, rfl⟩ : ∃ g1, q1 = some ⟨g1, 0, none⟩ := by
            rcases hown.2 with ⟨h1, h2⟩ | ⟨g', cap', cur, h1, _⟩
            · omega
            · cases h1; exact ⟨_, rfl⟩
          have cx := (hown.cellAt j (by omega)).trans (iv_get R (by rw [← Hk.out]; exact hjk))
          obtain ⟨s1, s2, s3⟩ := rowOf_get l hm0 n j (by rw [← HRR.out, ← Hk.out]; exact hjk)
          rw [← HRR.out] at s1 s2 s3
          have hkd : (k : Int) ≤ d1 := by
            rcases hown.2 with ⟨h1, _⟩ | ⟨g', cap', cur, h1, _, _, h2, _⟩
            · cases h1
            · cases h1; omega
          have HF := Lib.hid (filledJ_set l hm0 s2 s3)
          have hb15 := Lib.hid (show Cn.base l m ≤ 32768 by have := HBP.out; omega)
          generalize R.getD j 0 = sy at *
          have f1 := HO.out.frozenAt (sy * 2)
          have f2 := HO.out.frozenAt (sy * 2 + 1)
          obtain ⟨e1, e2⟩ := cv_at (filledJ l m j) sy (by rw [filledJ_length, Hn.out]; exact s1)
          have c1 := (HO.out.cellAt (sy * 2) (by omega)).trans e1
          have c2 := (HO.out.cellAt (sy * 2 + 1) (by omega)).trans e2
          obtain ⟨v', hy'⟩ := cell?_setCell_some (w := wr) (p := ⟨w'.heap.size, sy * 2, none⟩) (x := .int .i64 (m : Nat)) (q := ⟨w'.heap.size, sy * 2 + 1, none⟩) c2
          have HO2 : Hid (((wr.setCell ⟨w'.heap.size, sy * 2, none⟩ (.int .i64 (m : Nat))).setCell ⟨w'.heap.size, sy * 2 + 1, none⟩ (.int .i64 ((Cn.base l m + j : Nat) : Int))).ownsRow w'.heap.size 42 2 (.slice (some ⟨w'.heap.size, 0, none⟩) n n) n (cv (filledJ l m (j + 1)))) := by
            show World.ownsRow _ _ _ _ _ _ _
            rw [HF.out, cv_set]
            exact ((HO.out.stored (sy * 2) (.int .i64 (m : Nat))).1.stored (sy * 2 + 1) (.int .i64 ((Cn.base l m + j : Nat) : Int))).1
          have HB2 := Lib.hid ((HB.out.setCell (p := ⟨w'.heap.size, sy * 2, none⟩) (Nat.le_refl _) (.int .i64 (m : Nat))).setCell (p := ⟨w'.heap.size, sy * 2 + 1, none⟩) (Nat.le_refl _) (.int .i64 ((Cn.base l m + j : Nat) : Int)))
          have HR2 := Lib.hid ((HR.out.set (o := sy * 2) (v := .int .i64 (m : Nat)) HL1.out).set (o := sy * 2 + 1) (v := .int .i64 ((Cn.base l m + j : Nat) : Int)) HL1.out)
          have zs : (sy : Int) < n := by omega
          have zb : ((Cn.base l m + j : Nat) : Int) ≤ 33068 := by have := hb15.out; omega
          have ji : (j : Int) < k := by omega
          have HZ : Hid (Cn.base l m + (j + 1) = Cn.base l m + j + 1) := by show _ = _; rfl
          generalize Cn.base l m + j = z at *
          clear HO HB HR HF e1 e2 hown s1 s2 s3 hm0 hix
          go_wp2
          go_roundw
          case measure => simp [RowKit.intOf]; omega
          case rel => exact ⟨j + 1, by go_num, by omega, by rw [HZ.out]; go_num, HO2, HR2, HB2⟩
        · have e : j = k := by omega
          subst e
          have HT : Hid (Cn.base l m + j = prevC l (m + 1)) := by
            show _ = topC l m
            rw [top_row, Hk.out, HRR.out, Hn.out]
          have HF : Hid (filledJ l m j = filledJ l (m + 1) 0) := by
            show _ = _
            rw [← filledJ_next, Hk.out, HRR.out, Hn.out]
          rw [HT.out]
          rw [HF.out] at HO
          clear hjk HF HT hix
          go_wp2
          go_roundw
          case measure => simp [RowKit.intOf]; omega
          case rel => exact ⟨m + 1, by go_num, by omega, rfl, HO, HR, HB⟩
    · have e : m = 16 := by omega
      subst e
      rw [filledJ_end HM.out.le] at HO
      clear hlt hm
      go_wp2
      go_ret2
      exact ⟨HB.out, _, _, rfl, codes_own HO.out (by rw [codesOf_length]; exact Hn.out)⟩
theorem codes_none (L : List Int) (n : Nat) (p : Option Addr) (c : Nat) (w : World) (hm : ∀ l, MayC l → L ≠ nums l) (hn : L.length = n) (hl : n ≤ 281474976710656) (h : IntsLie w p L c) :
    Calls Try.prog 9 #[.slice p n c] w fun e w' => Below w.heap.size w w' ∧ ∃ q d, d ≤ maxLen ∧ e = .returned (.tuple #[.slice q 0 d, .bool false]) := by
  have hmay := may_none L n p c w hm hn hl h
  clear h hm hn
  go_enter Try.func9, Try.ntmps9
  go_wp2_with (first | (go_at_call 19; refine hmay.mono ?_; rintro e w' ⟨rfl, rfl⟩))
  go_ret2
  exact ⟨Below.refl _ _, _, 0, Nat.zero_le _, rfl⟩
end Go.Proofs.Ytbkehlppngejnaa
