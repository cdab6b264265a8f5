/-
  The law PackCut, from what the package owes.
-/
import Derived.Test.YtgkmmflamnijdaaPacTl
namespace Go.Proofs.Ytgkmmflamnijdaa.Pk
set_option maxRecDepth 100000
open Go.RowKit Mt Ma Mb Cn Go.Lib
theorem told_two (R : Option (List UInt8)) : ∃ (s : ByteArray) (ok : Bool), told R = .tuple #[.string s, .bool ok] ∧ (∀ q, R = some q → ok = true ∧ s.size = q.length) ∧ (R = none → ok = false) := by
  cases R with
  | none => exact ⟨_, false, rfl, (fun q h => by cases h), fun _ => rfl⟩
  | some q => exact ⟨⟨q.toArray⟩, true, rfl, (fun r h => by cases h; exact ⟨rfl, by simp [ByteArray.size]⟩), fun h => by cases h⟩
theorem write_ok {T : List Tok} {e : Ending} {w' : World} (h : WriteB T e w') (hm : mayW T = true) : ∃ q d, e = .returned (.tuple #[.slice q (encode T).length d, .bool true]) ∧ FlagsLie w' q (encode T) d := by
  rcases h with ⟨_, h⟩ | ⟨h, _⟩
  · exact h
  · rw [hm] at h; cases h
set_option maxHeartbeats 16000000 in
theorem cut_any (S : SpecK) (T : List Tok) (n : Nat) (p : Option Addr) (c : Nat) (w : World) (hn : T.length = n) (hnl : n ≤ 281474976710656) (h : ToksLie w p T c)
    (U : List Tok) (m : Nat) (p2 : Option Addr) (d : Nat) (hm : U.length = m) (hml : m ≤ 281474976710656) (h2 : ToksLie w p2 U d) (x : Int) :
    Calls Try.prog 7 #[.slice p n c, .slice p2 m d, .int .i64 x] w fun e w' => e = .returned (.bool true) ∧ Below w.heap.size w w' := by
  have kf := fun w => fixed_any S w
  have k0 := expand_all T n hn p c 1000 (by decide) w hnl h
  have k1 := fun w1 (h1 : Below w.heap.size w w1) => expand_all U m hm p2 d 1000 (by decide) w1 hml (h2.below h1)
  have zc : (n : Int) ≤ c := by have := h.len; omega
  have zd : (m : Int) ≤ d := by have := h2.len; omega
  have zn : (n : Int) ≤ 281474976710656 := by omega
  have zm : (m : Int) ≤ 281474976710656 := by omega
  have HL := Lib.hid h
  have H2 := Lib.hid h2
  have Hn := Lib.hid hn
  have Hm := Lib.hid hm
  obtain ⟨s, ok1, hs1, hs2, hs3⟩ := told_two (expand 1000 [] T)
  obtain ⟨t, ok2, ht1, ht2, ht3⟩ := told_two (expand 1000 [] U)
  rw [hs1] at k0
  rw [ht1] at k1
  clear h h2 hn hm
  have arm : ok1 = false ∨ (ok1 = true ∧ ok2 = false) ∨ (ok1 = true ∧ ok2 = true ∧ 200 < n) ∨ (ok1 = true ∧ ok2 = true ∧ n ≤ 200 ∧ 200 < m) ∨ (ok1 = true ∧ ok2 = true ∧ n ≤ 200 ∧ m ≤ 200 ∧ ∃ q r, expand 1000 [] T = some q ∧ expand 1000 [] U = some r) := by
    cases hq : expand 1000 [] T with
    | none => exact .inl (hs3 hq)
    | some q =>
      have h1 := (hs2 q hq).1
      cases hr : expand 1000 [] U with
      | none => exact .inr (.inl ⟨h1, ht3 hr⟩)
      | some r =>
        have h2 := (ht2 r hr).1
        by_cases a1 : 200 < n
        · exact .inr (.inr (.inl ⟨h1, h2, a1⟩))
        · by_cases a2 : 200 < m
          · exact .inr (.inr (.inr (.inl ⟨h1, h2, by omega, a2⟩)))
          · exact .inr (.inr (.inr (.inr ⟨h1, h2, by omega, by omega, q, r, rfl, rfl⟩)))
  clear hs1 ht1 hs3 ht3
  rcases arm with rfl | ⟨rfl, rfl⟩ | ⟨rfl, rfl, a1⟩ | ⟨rfl, rfl, a1, a2⟩ | ⟨rfl, rfl, a1, a2, q, r, hq, hr⟩
  case inr.inr.inr.inr =>
    have hsz := (hs2 q hq).2
    have htz := (ht2 r hr).2
    have hq1 := told_le hq
    have hr1 := told_le hr
    have hmT := may_told Hn.out (by omega) hq
    have hmU := may_told Hm.out (by omega) hr
    have eT := (enc_le Hn.out (by omega)).2
    have eU := (enc_le Hm.out (by omega)).2
    have HI : Hid (s.size = t.size → decide (encode T = encode U) = decide (T = U)) := Lib.hid fun e => by
      by_cases h : T = U
      · rw [decide_eq_true h, decide_eq_true (by rw [h])]
      · rw [decide_eq_false h, decide_eq_false]
        exact fun e2 => h (encode_inj (many := q.length) (Pk.expand_room hq) rfl (by rw [show q.length = r.length by omega]; exact Pk.expand_room hr) (by omega) hq1 e2)
    have HC : Hid (∀ j, j < (encode T).length → decodeI ((encode T).take j) (s.size : Int) = none) := Lib.hid fun j hj => by
      unfold decodeI
      rw [if_pos (by omega), Int.toNat_natCast, hsz]
      exact decode_cut (Pk.expand_room hq) rfl hq1 hj
    have zs : (s.size : Int) ≤ 1000 := by omega
    have zt : (t.size : Int) ≤ 1000 := by omega
    have z1 : (n : Int) ≤ 200 := by omega
    have z2 : (m : Int) ≤ 200 := by omega
    clear hs2 ht2 hq hr hsz htz hq1 hr1
    generalize hX : encode T = X at *
    generalize hY : encode U = Y at *
    obtain ⟨L, hL⟩ : ∃ L, X.length = L := ⟨_, rfl⟩
    obtain ⟨M, hM⟩ : ∃ M, Y.length = M := ⟨_, rfl⟩
    rw [hL] at eT HC
    rw [hM] at eU
    have zL : (L : Int) ≤ 11000 := by omega
    have zM : (M : Int) ≤ 11000 := by omega
    replace hL := Lib.hid hL
    replace hM := Lib.hid hM
    have k2 := fun w1 (h1 : Below w.heap.size w w1) => S.write T n p c w1 Hn.out hnl (HL.out.below h1)
    have k3 := fun w1 (h1 : Below w.heap.size w w1) => S.write U m p2 d w1 Hm.out hml (H2.out.below h1)
    go_enter Try.func7, Try.ntmps7
    go_wp2_with fail
    go_at_call 18
    refine k0.mono ?_
    rintro e w1 ⟨rfl, hb1⟩
    have h4 := k1 w1 hb1
    have B1 := Lib.hid hb1
    clear k0 k1 hb1
    go_wp2_with fail
    go_at_call 18
    refine h4.mono ?_
    rintro e w2 ⟨rfl, hb2⟩
    have B2 := Lib.hid (B1.out.next hb2)
    clear h4 hb2 B1
    go_wp2_with fail
    go_at_call 9
    refine (kf _).mono ?_
    rintro e w3 ⟨rfl, hb3⟩
    have B3 := Lib.hid (B2.out.next hb3)
    have h5 := k2 w3 B3.out
    clear hb3 B2 kf k2
    go_wp2_with fail
    go_at_call 10
    refine h5.mono ?_
    rintro e w4 ⟨hb4, ha⟩
    obtain ⟨q1, c1, rfl, hF⟩ := write_ok ha hmT
    rw [hX] at hF
    simp only [hX, hL.out]
    have B4 := Lib.hid (B3.out.next hb4)
    have F4 := Lib.hid hF
    have h6 := k3 w4 B4.out
    clear h5 hb4 ha hF B3 k3
    go_wp2_with fail
    go_at_call 10
    refine h6.mono ?_
    rintro e w5 ⟨hb5, ha⟩
    obtain ⟨q2, c2, rfl, hG⟩ := write_ok ha hmU
    rw [hY] at hG
    simp only [hY, hM.out]
    have B5 := Lib.hid (B4.out.next hb5)
    have F5 := Lib.hid (F4.out.below hb5)
    have G5 := Lib.hid hG
    have zc1 : (L : Int) ≤ c1 := by have := F5.out.len; rw [hL.out] at this; omega
    clear h6 hb5 ha hG B4 F4 hX hY
    have arm2 : (¬ (0 ≤ x ∧ x < L) ∧ (x < 0 ∨ (0 ≤ x ∧ (L : Int) ≤ x))) ∨ ∃ j : Nat, x = j ∧ j < L := by
      by_cases h1 : x < 0
      · exact .inl ⟨by omega, .inl h1⟩
      · by_cases h2 : (L : Int) ≤ x
        · exact .inl ⟨by omega, .inr ⟨by omega, h2⟩⟩
        · exact .inr ⟨x.toNat, by omega, by omega⟩
    have fin : Hid (∀ w6, Below w5.heap.size w5 w6 → Calls Try.prog 14 #[.slice q1 L c1, .slice q2 M c2] w6 fun e w' => e = .returned (.bool (decide (X = Y))) ∧ Below w6.heap.size w6 w') := Lib.hid fun w6 h6 => by
      have := flags_doc X Y (by rw [hL.out]; omega) (by rw [hM.out]; omega) q1 q2 c1 c2 w6 (F5.out.below h6) (G5.out.below h6)
      rw [hL.out, hM.out] at this
      exact this
    have fin2 : Hid (∀ w6, Below w.heap.size w w6 → Calls Try.prog 17 #[.slice p n c, .slice p2 m d] w6 fun e w' => e = .returned (.bool (decide (T = U))) ∧ Below w6.heap.size w6 w') := Lib.hid fun w6 h6 =>
      toks_same T U n m Hn.out Hm.out (by omega) (by omega) p p2 c d w6 (HL.out.below h6) (H2.out.below h6)
    have W0 : Hid (Below w5.heap.size w5 w5) := Lib.hid (Below.refl _ _)
    rcases arm2 with ⟨_, hx⟩ | ⟨j, rfl, hj⟩
    · clear HC
      rcases hx with hx | ⟨hx1, hx2⟩
      all_goals
        obtain ⟨w6, rfl⟩ : ∃ w6, w6 = w5 := ⟨_, rfl⟩
        have B6 := B5
        have W6 := W0
        by_cases he : s.size = t.size
        · have HE := Lib.hid (HI.out he)
          have hz : ((s.size : Int) == (t.size : Int)) = true := by simp; omega
          have hz1 : (s.size : Int) = t.size := by omega
          go_wp2_with fail
          go_at_call 14
          refine (fin.out w6 W6.out).mono ?_
          rintro e w7 ⟨rfl, hb7⟩
          have B7 := Lib.hid (B6.out.next hb7)
          clear hb7
          go_wp2_with fail
          go_at_call 17
          refine (fin2.out w7 B7.out).mono ?_
          rintro e w8 ⟨rfl, hb8⟩
          have B8 := Lib.hid (B7.out.next hb8)
          clear hb8
          rw [HE.out]
          cases decide (T = U)
          all_goals
            go_wp2
            go_ret
            exact ⟨rfl, B8.out⟩
        · have hz : ((s.size : Int) == (t.size : Int)) = false := by simp; omega
          go_wp2
          go_ret
          exact ⟨rfl, B6.out⟩
    · have hF7 := take_lie F5.out (x := j) (by rw [hL.out]; omega)
      have h7 := S.read (X.take j) j (s.size : Int) q1 c1 w5 (by rw [List.length_take, hL.out]; omega) (by omega) hF7
      rw [HC.out j hj] at h7
      unfold ReadB at h7
      simp only at h7
      have zj : (j : Int) < L := by omega
      clear hF7 HC
      go_wp2_with fail
      go_at_call 15
      refine h7.mono ?_
      rintro e w6 ⟨hb6, q6, c6, _, rfl⟩
      have B6 := Lib.hid (B5.out.next hb6)
      have W6 := Lib.hid hb6
      clear h7 hb6 B5
      by_cases he : s.size = t.size
      · have HE := Lib.hid (HI.out he)
        have hz : ((s.size : Int) == (t.size : Int)) = true := by simp; omega
        have hz1 : (s.size : Int) = t.size := by omega
        go_wp2_with fail
        go_at_call 14
        refine (fin.out w6 W6.out).mono ?_
        rintro e w7 ⟨rfl, hb7⟩
        have B7 := Lib.hid (B6.out.next hb7)
        clear hb7
        go_wp2_with fail
        go_at_call 17
        refine (fin2.out w7 B7.out).mono ?_
        rintro e w8 ⟨rfl, hb8⟩
        have B8 := Lib.hid (B7.out.next hb8)
        clear hb8
        rw [HE.out]
        cases decide (T = U)
        all_goals
          go_wp2
          go_ret
          exact ⟨rfl, B8.out⟩
      · have hz : ((s.size : Int) == (t.size : Int)) = false := by simp; omega
        go_wp2
        go_ret
        exact ⟨rfl, B6.out⟩
  all_goals
    go_enter Try.func7, Try.ntmps7
    go_wp2_with fail
    go_at_call 18
    refine k0.mono ?_
    rintro e w1 ⟨rfl, hb1⟩
    have h4 := k1 w1 hb1
    have B1 := Lib.hid hb1
    clear k0 k1 hb1
    go_wp2_with fail
    go_at_call 18
    refine h4.mono ?_
    rintro e w2 ⟨rfl, hb2⟩
    have B2 := Lib.hid (B1.out.next hb2)
    clear h4 hb2 B1
    go_wp2_with fail
    go_at_call 9
    refine (kf _).mono ?_
    rintro e w3 ⟨rfl, hb3⟩
    have B3 := Lib.hid (B2.out.next hb3)
    clear hb3 B2
    go_wp2_with fail
    go_at_call 9
    refine (kf _).mono ?_
    rintro e w4 ⟨rfl, hb4⟩
    have B4 := Lib.hid (B3.out.next hb4)
    clear hb4 B3 kf
    go_wp2
    go_ret
    exact ⟨rfl, B4.out⟩
end Go.Proofs.Ytgkmmflamnijdaa.Pk
