/-
  The law CanonRises, given how the package's functions answer.
-/
import Derived.Test.YtbkehlppngejnaaCanFu
import Derived.BigQuiet
namespace Go.Proofs.Ytbkehlppngejnaa
open Go.RowKit Go.Lib Cn
set_option maxRecDepth 100000
set_option maxHeartbeats 8000000 in
theorem rises_in (S : SpecP) (l : List Nat) (n i j : Nat) (p : Option Addr) (c : Nat) (w : World) (hml : MayC l) (hn : l.length = n) (hi : i < n) (hj : j < n) (h : IntsLie w p (nums l) c) :
    Calls Try.prog 6 #[.slice p n c, .int .i64 i, .int .i64 j] w fun e w' => e = .returned (.bool true) ∧ Below w.heap.size w w' := by
  have hc := S.codes l n p c w hml hn h
  have FA := Lib.hid (fixed_any S)
  have HM := Lib.hid hml
  have Hn := Lib.hid hn
  have z3 : (n : Int) ≤ 300 := by have := hml.len; omega
  have hcap : (n : Int) ≤ c := by have := h.len; rw [nums_len] at this; omega
  have ii : (i : Int) < n := by omega
  have jj : (j : Int) < n := by omega
  obtain ⟨blk, off, rfl, hcl⟩ := h.at (i := i) (by rw [nums_len, hn]; exact hi)
  have cx := hcl i (by rw [nums_len, hn]; exact hi)
  have cy := hcl j (by rw [nums_len, hn]; exact hj)
  rw [nums_get] at cx cy
  have CA := Lib.hid (fun (w' : World) (hb : Below w.heap.size w w') => show w'.cell? ⟨blk, off + i, none⟩ = some (.int .i64 (l.getD i 0 : Nat)) by rw [hb.cell (p := ⟨blk, off + i, none⟩) (World.block_lt_of_cell? w _ cx)]; exact cx)
  have CB := Lib.hid (fun (w' : World) (hb : Below w.heap.size w w') => show w'.cell? ⟨blk, off + j, none⟩ = some (.int .i64 (l.getD j 0 : Nat)) by rw [hb.cell (p := ⟨blk, off + j, none⟩) (World.block_lt_of_cell? w _ cy)]; exact cy)
  clear h hml hn hcl cx cy
  go_enter Try.func6, Try.ntmps6
  go_wp2_with fail
  go_at_call 9
  refine hc.mono ?_
  rintro e w1 ⟨b1, q1, d1, rfl, hE⟩
  obtain ⟨g, o, rfl, hA⟩ := (hE.below (Below.refl _ _)).at (i := i) (by rw [codesOf_length, Hn.out]; exact hi)
  have B1 := Lib.hid b1
  have HE := Lib.hid hA
  have hd1 : (n : Int) ≤ d1 := by have := hE.len; rw [codesOf_length, Hn.out] at this; omega
  clear b1 hc hE hA
  go_wp2_with fail
  refine (FA.out _).mono ?_
  rintro e w2 ⟨rfl, b2⟩
  have B2 := Lib.hid (B1.out.next b2)
  obtain ⟨x1, x2⟩ := (HE.out.below b2) i (by rw [codesOf_length, Hn.out]; exact hi)
  obtain ⟨y1, y2⟩ := (HE.out.below b2) j (by rw [codesOf_length, Hn.out]; exact hj)
  rw [codesOf_get l (by rw [Hn.out]; exact hi)] at x1 x2
  rw [codesOf_get l (by rw [Hn.out]; exact hj)] at y1 y2
  have ca := CA.out w2 B2.out
  have cb := CB.out w2 B2.out
  clear b2 B1 HE
  by_cases hK : 1 ≤ l.getD i 0
  · rw [codeOf_one hK] at x1 x2
    have hK15 := HM.out.le i
    have hU15 := HM.out.le j
    have hbt := bits_lt HM.out.le HM.out.kraft hK
    by_cases hU : 1 ≤ l.getD j 0
    · rw [codeOf_one hU] at y1 y2
      by_cases hij : i = j
      · subst hij
        generalize l.getD i 0 = K at *
        have z1 : (1 : Int) ≤ K := by omega
        clear x1 x2 y1 y2
        go_wp2
        go_ret
        exact ⟨rfl, B2.out⟩
      · have hne : ((i : Int) == (j : Int)) = false := by rw [beq_eq_false_iff_ne]; omega
        have hp := power_any (l.getD i 0) (by omega)
        have HR1 := Lib.hid (fun (he : l.getD i 0 = l.getD j 0) => show decide (bitsOf l i < bitsOf l j) = decide (i < j) from by
          by_cases hlt : i < j
          · rw [decide_eq_true hlt, decide_eq_true (rises HM.out.le hK he hlt)]
          · have := rises HM.out.le hU he.symm (show j < i by omega)
            rw [decide_eq_false hlt, decide_eq_false (by omega)])
        have HR2 := Lib.hid (fun (he : l.getD i 0 < l.getD j 0) => above HM.out.le hK hU (Or.inl he))
        obtain ⟨P, hP⟩ : ∃ P, P = 2 ^ l.getD i 0 := ⟨_, rfl⟩
        rw [← hP] at hp hbt
        have hP0 : (P : Int) ≤ 32768 := by
          have : 2 ^ l.getD i 0 ≤ 2 ^ 15 := Nat.pow_le_pow_right (by decide) hK15
          rw [← hP] at this
          omega
        have HBu := Lib.hid (show bitsOf l j ≤ 32768 from Nat.le_of_lt (Nat.lt_of_lt_of_le (bits_lt HM.out.le HM.out.kraft hU) (Nat.le_trans (Nat.pow_le_pow_right (by decide) hU15) (by decide))))
        generalize l.getD i 0 = K at *
        generalize l.getD j 0 = U at *
        generalize bitsOf l i = bt at *
        generalize bitsOf l j = bu at *
        have z1 : (1 : Int) ≤ K := by omega
        have z2 : (1 : Int) ≤ U := by omega
        have z5 : (K : Int) ≤ 15 := by omega
        have z6 : (U : Int) ≤ 15 := by omega
        have z7 : (bt : Int) < P := by omega
        have e1 : ((K : Int) == 0) = false := by rw [beq_eq_false_iff_ne]; omega
        have e2 : ((U : Int) == 0) = false := by rw [beq_eq_false_iff_ne]; omega
        have HPw := Lib.hid hp
        clear hP hbt hp hij hK hU
        go_wp2
        go_quiet ((go_at_call 18; exact Calls.quiet_of_same (HPw.out _)))
        go_wp2
        by_cases he : K = U
        · subst he
          have hr := HR1.out rfl
          have hzz : ((K : Int) == (K : Int)) = true := by simp
          clear HR1 HR2 HPw e2 CB
          have Hr := Lib.hid hr
          clear hr
          go_quiet (fail)
          go_wp2
          go_quiet (fail)
          go_wp2
          go_ret
          exact ⟨ret_bool (by rw [Hr.out]; simp), drawn_below (drawn_below (drawn_below B2.out _) _) _⟩
        · have hz : ((K : Int) == (U : Int)) = false := by rw [beq_eq_false_iff_ne]; omega
          by_cases hKU : K < U
          · have ha := HR2.out hKU
            obtain ⟨D, hD⟩ : ∃ D, D = U - K := ⟨_, rfl⟩
            have hp2 := power_any D (by omega)
            rw [← hD] at ha
            have hpos : 0 < 2 ^ D := Nat.pow_pos (by decide)
            have hP2 : 2 ^ D ≤ 2 ^ 15 := Nat.pow_le_pow_right (by decide) (by omega)
            generalize 2 ^ D = P2 at *
            obtain ⟨Q, hQ⟩ : ∃ Q, Q = bu / P2 := ⟨_, rfl⟩
            have eQ : (bu : Int) / (P2 : Int) = (Q : Int) := by rw [hQ]; simp
            have eD : (U : Int) - (K : Int) = (D : Int) := by omega
            have zP1 : (1 : Int) ≤ P2 := by omega
            have zP2 : (P2 : Int) ≤ 32768 := by omega
            have zK : (K : Int) < U := by omega
            have zQ : (bt : Int) < Q := by rw [← hQ] at ha; omega
            have zbu : (bu : Int) ≤ 32768 := by have := HBu.out; omega
            have zQ2 : (Q : Int) ≤ 32768 := by have := Nat.div_le_self bu P2; omega
            have wD : IntKind.i64.wrap (D : Int) = (D : Int) := by rw [IntKind.wrap_i64]; omega
            have wQ : IntKind.i64.wrap (Q : Int) = (Q : Int) := by rw [IntKind.wrap_i64]; omega
            have HP2 := Lib.hid hp2
            have zg : decide (U < K) = false := decide_eq_false (by omega)
            clear HR1 HR2 HPw he hKU ha hp2 hD hpos hP2 hQ
            go_quiet (fail)
            go_wp2
            go_quiet ((go_at_call 18; exact (HP2.out _).mono fun _ _ h => ⟨h.1, _, h.2⟩))
            go_wp2
            go_ret
            exact ⟨rfl, drawn_below (drawn_below (drawn_below B2.out _) _) _⟩
          · have zK : (U : Int) < K := by omega
            have zg : decide (U < K) = true := decide_eq_true (by omega)
            clear HR1 HR2 HPw he hKU
            go_quiet (fail)
            go_wp2
            go_quiet (fail)
            go_wp2
            go_ret
            exact ⟨rfl, drawn_below (drawn_below (drawn_below B2.out _) _) _⟩
    · have hU0 : l.getD j 0 = 0 := by omega
      rw [hU0] at cb
      generalize l.getD i 0 = K at *
      have z1 : (1 : Int) ≤ K := by omega
      have e1 : ((K : Int) == 0) = false := by rw [beq_eq_false_iff_ne]; omega
      clear x1 x2 y1 y2 CB hU0 hU
      go_wp2
      go_ret
      exact ⟨rfl, B2.out⟩
  · rw [codeOf_none hK] at x1 x2
    have hK0 : l.getD i 0 = 0 := by omega
    rw [hK0] at ca
    clear y1 y2 cb CA hK0 hK
    go_wp2
    go_ret
    exact ⟨rfl, B2.out⟩
set_option maxHeartbeats 2000000 in
theorem rises_any (S : SpecP) (L : List Int) (n : Nat) (a b : Int) (p : Option Addr) (c : Nat) (w : World) (hn : L.length = n) (hnl : n ≤ 281474976710656) (h : IntsLie w p L c) :
    Calls Try.prog 6 #[.slice p n c, .int .i64 a, .int .i64 b] w fun e w' => e = .returned (.bool true) ∧ Below w.heap.size w w' := by
  have FA := Lib.hid (fixed_any S)
  by_cases hm : ∃ l, MayC l ∧ L = nums l
  · obtain ⟨l, hm, rfl⟩ := hm
    have hll : l.length = n := by rw [← hn, nums_len]
    by_cases hin : (0 ≤ a ∧ a < n) ∧ 0 ≤ b ∧ b < n
    · obtain ⟨i, rfl⟩ := Int.eq_ofNat_of_zero_le hin.1.1
      obtain ⟨j, rfl⟩ := Int.eq_ofNat_of_zero_le hin.2.1
      exact rises_in S l n i j p c w hm hll (by omega) (by omega) h
    · have hc := S.codes l n p c w hm hll h
      have z3 : (n : Int) ≤ 300 := by have := hm.len; omega
      clear h hm hn hll
      by_cases a0 : a < 0
      · clear hin
        go_enter Try.func6, Try.ntmps6
        go_wp2_with fail
        go_at_call 9
        refine hc.mono ?_
        rintro e w1 ⟨b1, q1, d1, rfl, _⟩
        have B1 := Lib.hid b1
        clear b1 hc
        go_wp2_with fail
        refine (FA.out _).mono ?_
        rintro e w2 ⟨rfl, b2⟩
        have B2 := Lib.hid (B1.out.next b2)
        clear b2
        go_wp2_with fail
        refine (FA.out _).mono ?_
        rintro e w3 ⟨rfl, b3⟩
        have B3 := Lib.hid (B2.out.next b3)
        clear b3
        go_wp2
        go_ret
        exact ⟨rfl, B3.out⟩
      · have a0' : 0 ≤ a := by omega
        by_cases b0 : b < 0
        · clear hin a0
          go_enter Try.func6, Try.ntmps6
          go_wp2_with fail
          go_at_call 9
          refine hc.mono ?_
          rintro e w1 ⟨b1, q1, d1, rfl, _⟩
          have B1 := Lib.hid b1
          clear b1 hc
          go_wp2_with fail
          refine (FA.out _).mono ?_
          rintro e w2 ⟨rfl, b2⟩
          have B2 := Lib.hid (B1.out.next b2)
          clear b2
          go_wp2_with fail
          refine (FA.out _).mono ?_
          rintro e w3 ⟨rfl, b3⟩
          have B3 := Lib.hid (B2.out.next b3)
          clear b3
          go_wp2
          go_ret
          exact ⟨rfl, B3.out⟩
        · have b0' : 0 ≤ b := by omega
          by_cases a1 : (n : Int) ≤ a
          · clear hin a0 b0
            go_enter Try.func6, Try.ntmps6
            go_wp2_with fail
            go_at_call 9
            refine hc.mono ?_
            rintro e w1 ⟨b1, q1, d1, rfl, _⟩
            have B1 := Lib.hid b1
            clear b1 hc
            go_wp2_with fail
            refine (FA.out _).mono ?_
            rintro e w2 ⟨rfl, b2⟩
            have B2 := Lib.hid (B1.out.next b2)
            clear b2
            go_wp2_with fail
            refine (FA.out _).mono ?_
            rintro e w3 ⟨rfl, b3⟩
            have B3 := Lib.hid (B2.out.next b3)
            clear b3
            go_wp2
            go_ret
            exact ⟨rfl, B3.out⟩
          · have a1' : a < (n : Int) := by omega
            have b1' : (n : Int) ≤ b := by omega
            clear hin a0 b0 a1
            go_enter Try.func6, Try.ntmps6
            go_wp2_with fail
            go_at_call 9
            refine hc.mono ?_
            rintro e w1 ⟨b1, q1, d1, rfl, _⟩
            have B1 := Lib.hid b1
            clear b1 hc
            go_wp2_with fail
            refine (FA.out _).mono ?_
            rintro e w2 ⟨rfl, b2⟩
            have B2 := Lib.hid (B1.out.next b2)
            clear b2
            go_wp2_with fail
            refine (FA.out _).mono ?_
            rintro e w3 ⟨rfl, b3⟩
            have B3 := Lib.hid (B2.out.next b3)
            clear b3
            go_wp2
            go_ret
            exact ⟨rfl, B3.out⟩
  · have hc := S.codes_no L n p c w (fun l h1 h2 => hm ⟨l, h1, h2⟩) hn hnl h
    have zn : (n : Int) ≤ 281474976710656 := by omega
    clear h hm hn hnl
    go_enter Try.func6, Try.ntmps6
    go_wp2_with fail
    go_at_call 9
    refine hc.mono ?_
    rintro e w1 ⟨b1, q1, d1, _, rfl⟩
    have B1 := Lib.hid b1
    clear b1 hc
    go_wp2_with fail
    refine (FA.out _).mono ?_
    rintro e w2 ⟨rfl, b2⟩
    have B2 := Lib.hid (B1.out.next b2)
    clear b2
    go_wp2_with fail
    refine (FA.out _).mono ?_
    rintro e w3 ⟨rfl, b3⟩
    have B3 := Lib.hid (B2.out.next b3)
    clear b3
    go_wp2
    go_ret
    exact ⟨rfl, B3.out⟩
end Go.Proofs.Ytbkehlppngejnaa
