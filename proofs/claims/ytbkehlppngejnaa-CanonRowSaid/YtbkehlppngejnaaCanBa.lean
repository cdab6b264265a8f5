/-
  The law CanonBack, given how the package's functions answer.
-/
import Derived.Test.YtbkehlppngejnaaCanTe
import Derived.BigQuiet
namespace Go.Proofs.Ytbkehlppngejnaa
open Go.RowKit Go.Lib Cn
set_option maxRecDepth 100000
theorem flags_cells {w : World} {b : List Bool} {a : Addr} {d : Nat} (h : FlagsLie w (some a) b d) : ∀ j u, (flv b)[j]? = some u → w.cell? (a.add j) = some u := fun j u hj => by
  have hjl : j < b.length := by
    rcases Nat.lt_or_ge j b.length with z | z
    · exact z
    · rw [List.getElem?_eq_none (by rw [flv_length]; omega)] at hj; cases hj
  obtain ⟨blk, off, e, hc⟩ := h.at hjl
  cases e
  rw [Addr.add_lit, hc j hjl, ← hj]
  unfold flv
  rw [List.getElem?_map, List.getElem?_eq_getElem hjl]
  simp [hjl]
theorem FlagsLie.take {w : World} {q : Option Addr} {b : List Bool} {d : Nat} (h : FlagsLie w q b d) (k : Nat) : FlagsLie w q (b.take k) d := by
  refine ⟨by rw [List.length_take]; have := h.len; omega, h.cap, ?_⟩
  by_cases h0 : b.take k = []
  · exact Or.inl h0
  · have hpos : 0 < (b.take k).length := List.length_pos_iff.2 h0
    rw [List.length_take] at hpos
    obtain ⟨blk, off, e, hc⟩ := h.at (i := 0) (by omega)
    refine Or.inr ⟨blk, off, e, fun i hi => ?_⟩
    rw [List.length_take] at hi
    rw [hc i (by omega), List.getD_eq_getElem?_getD, List.getD_eq_getElem?_getD, List.getElem?_take, if_pos (by omega)]
set_option maxHeartbeats 4000000 in
theorem back_any (S : SpecP) (L : List Int) (b : List Bool) (n m : Nat) (x y : Int) (p q : Option Addr) (c d : Nat) (w : World) (hn : L.length = n) (hm : b.length = m) (hnl : n ≤ 281474976710656) (hml : m ≤ 281474976710656) (h : IntsLie w p L c) (hq : FlagsLie w q b d) (hq0 : q = none → d = 0) :
    Calls Try.prog 4 #[.slice p n c, .agg #[.int .i64 x, .int .i64 y], .slice q m d] w fun e w' => e = .returned (.bool true) ∧ Below w.heap.size w w' := by
  have zn : (n : Int) ≤ 281474976710656 := by omega
  have zm : (m : Int) ≤ 281474976710656 := by omega
  obtain ⟨w0, hw0⟩ : ∃ w0, w0 = w.alloc (.cells #[.int .i64 x, .int .i64 y] 25) := ⟨_, rfl⟩
  have B0 : Hid (Below w.heap.size w w0) := by rw [hw0]; exact (Below.refl _ _).alloc (Nat.le_refl _) _
  have k0 : w0.cell? ⟨w.heap.size, 0, none⟩ = some (.int .i64 x) := by rw [hw0]; exact cell_of_row _ _ 0 _ 25 (0, 0) (heap_alloc_new w _)
  have k1 : w0.cell? ⟨w.heap.size, 1, none⟩ = some (.int .i64 y) := by rw [hw0]; exact cell_of_row _ _ 1 _ 25 (0, 0) (heap_alloc_new w _)
  have FA := Lib.hid (fixed_any S)
  have FW := Lib.hid (fun (w1 w2 : World) (h1 : Below w0.heap.size w0 w1) (h2 : Below w1.heap.size w1 w2) => show Below w.heap.size w w2 from B0.out.trans ((h1.next h2).mono B0.out.size))
  by_cases hbig : 300 < n ∨ 1000 < m
  · clear h hq hn hm hnl hml hq0
    by_cases h3 : 300 < n
    · have z3 : (300 : Int) < n := by omega
      clear hbig h3
      go_enter Try.func4, Try.ntmps4
      go_wp2_with fail
      rw [← hw0]
      clear hw0
      go_quiet (fail)
      go_wp2_with fail
      refine (FA.out _).mono ?_
      rintro e w1 ⟨rfl, b1⟩
      have B1 := Lib.hid ((drawn_below (Below.refl w0.heap.size w0) _).next b1)
      clear b1
      go_wp2_with fail
      refine (FA.out _).mono ?_
      rintro e w2 ⟨rfl, b2⟩
      have B2 := Lib.hid (FW.out _ _ B1.out b2)
      clear b2
      go_wp2
      go_ret
      exact ⟨rfl, B2.out⟩
    · have z3 : (n : Int) ≤ 300 := by omega
      have z4 : (1000 : Int) < m := by omega
      clear hbig h3
      go_enter Try.func4, Try.ntmps4
      go_wp2_with fail
      rw [← hw0]
      clear hw0
      go_quiet (fail)
      go_wp2_with fail
      refine (FA.out _).mono ?_
      rintro e w1 ⟨rfl, b1⟩
      have B1 := Lib.hid ((drawn_below (Below.refl w0.heap.size w0) _).next b1)
      clear b1
      go_wp2_with fail
      refine (FA.out _).mono ?_
      rintro e w2 ⟨rfl, b2⟩
      have B2 := Lib.hid (FW.out _ _ B1.out b2)
      clear b2
      go_wp2
      go_ret
      exact ⟨rfl, B2.out⟩
  have z3 : (n : Int) ≤ 300 := by omega
  have z4 : (m : Int) ≤ 1000 := by omega
  have HI := Lib.hid (h.below B0.out)
  have HQ := Lib.hid (hq.below B0.out)
  by_cases hx : ∃ l, MayC l ∧ L = nums l ∧ ∃ i : Nat, x = i ∧ 1 ≤ l.getD i 0
  · obtain ⟨l, hml2, rfl, i, rfl, hi⟩ := hx
    have hll : l.length = n := by rw [← hn, nums_len]
    have HWr := Lib.hid (fun (w : World) (h : IntsLie w p (nums l) c) => S.write l n i p c w hml2 hll hi h)
    have HRd := Lib.hid (fun (b2 : List Bool) (m2 : Nat) (q2 : Option Addr) (d2 : Nat) (w : World) (hb : b2.length = m2) (hm2 : m2 ≤ 100000) (hh : hit l b2 0 i = true) (h : IntsLie w p (nums l) c) (h2 : FlagsLie w q2 b2 d2) => S.read l n b2 m2 0 i p q2 c d2 w hml2 hll hb hm2 hh h h2)
    obtain ⟨F, k, wk, hF, hk, hWy, hT⟩ : ∃ (F : List Bool) (k : Nat) (wk : Bool), F.length = k ∧ k ≤ 15 ∧ (∀ w, IntsLie w p (nums l) c → Calls Try.prog 11 #[.slice p n c, .int .i64 y] w fun e w' => Below w.heap.size w w' ∧ ∃ q d, e = .returned (.tuple #[.slice q k d, .bool wk]) ∧ FlagsLie w' q F d) ∧
        (wk = true → (i : Int) ≠ y → l.getD i 0 ≤ k → F.take (l.getD i 0) ≠ code l i) := by
      by_cases hy : ∃ j : Nat, y = j ∧ 1 ≤ l.getD j 0
      · obtain ⟨j, rfl, hj⟩ := hy
        refine ⟨code l j, _, true, rfl, by rw [code_length]; exact hml2.le j, fun w h => S.write l n j p c w hml2 hll hj h, fun _ h1 h2 h3 => h1 ?_⟩
        rw [code_length] at h2
        rw [code_apart hml2.le hml2.kraft hi hj h2 h3]
      · exact ⟨[], 0, false, rfl, Nat.zero_le _, fun w h => (S.write_no (nums l) n y p c w (fun l2 h1 h2 j h3 h4 => hy ⟨j, h3, by rw [nums_inj h2]; exact h4⟩) hn (by omega) h).mono fun e w' ⟨hb, q, d, hd, he⟩ => ⟨hb, q, d, he, none_flags hd⟩, fun h => by cases h⟩
    have hit_ := fun (more : List Bool) => code_hit hml2.le hml2.kraft (at_ := 0) hi (b := code l i ++ more) (more := more) (by rw [List.drop_zero]) (Nat.zero_le _)
    have HHit := Lib.hid hit_
    have hil := there_lt hi
    have hc0 : (n : Int) ≤ c := by have := h.len; rw [nums_len] at this; omega
    obtain ⟨blk, off, rfl, hcl⟩ := (h.below B0.out).at (i := i) (by rw [nums_len]; exact hil)
    have cx := hcl i (by rw [nums_len]; exact hil)
    rw [nums_get] at cx
    have CX := Lib.hid (fun (w' : World) (hb : Below w0.heap.size w0 w') => show w'.cell? ⟨blk, off + i, none⟩ = some (.int .i64 (l.getD i 0 : Nat)) by rw [hb.cell (p := ⟨blk, off + i, none⟩) (World.block_lt_of_cell? w0 _ cx)]; exact cx)
    have hA := code_length l i
    have h15 := hml2.le i
    have ii : (i : Int) < n := by omega
    have HWy := Lib.hid hWy
    have HT := Lib.hid hT
    have HF := Lib.hid hF
    have Hm := Lib.hid hm
    have Hq0 := Lib.hid hq0
    generalize code l i = A at *
    generalize l.getD i 0 = K at *
    have zK : (1 : Int) ≤ K := by omega
    have zK2 : (K : Int) ≤ 15 := by omega
    have zk : (k : Int) ≤ 15 := by omega
    have HA := Lib.hid hA
    obtain ⟨i0, hi0, hz0, hz1, hz2⟩ := info_parts infoBool
    clear hcl cx hil hbig h hq hn hm hq0 hF hk hWy hT hA hit_ hi hml2 hll hml
    go_enter Try.func4, Try.ntmps4
    go_wp2_with fail
    rw [← hw0]
    clear hw0
    go_quiet (fail)
    go_wp2_with fail
    refine (FA.out _).mono ?_
    rintro e w1 ⟨rfl, b1⟩
    have B1 := Lib.hid ((drawn_below (Below.refl w0.heap.size w0) _).next b1)
    have hw := HWr.out w1 (HI.out.below B1.out)
    rw [HA.out] at hw
    clear b1
    go_wp2_with fail
    go_at_call 11
    refine hw.mono ?_
    rintro e w2 ⟨b2, q2, d2, rfl, h2⟩
    have B2 := Lib.hid (B1.out.next b2)
    obtain ⟨⟨g, o, sp⟩, rfl⟩ : ∃ a, q2 = some a := by
      obtain ⟨blk, off, e, _⟩ := h2.at (i := 0) (by rw [HA.out]; omega)
      exact ⟨_, e⟩
    have H2 := Lib.hid h2
    have HR2 := Lib.hid (FRow.made w2)
    have o1 := HR2.out.own
    have o2 := flags_cells (h2.below ((Below.refl w2.heap.size w2).alloc (Nat.le_refl _) (.cells #[] 4)))
    have o3 : (flv A).length = K * 1 := by rw [flv_length, HA.out]; omega
    clear b2 hw h2
    go_wp2_with (with_reducible refine stop_append ?_)
    unfold Stop
    refine wpList_append_own _ rfl _ _ 23 rfl w2.heap.size 4 i0 (.bool false) 1 1 Try.underlying23 hi0 hz0 hz1 hz2 rfl (by decide) _ 0 [] rfl o1 ⟨g, o, sp⟩ K d2 (flv A) rfl o3 o2 (flv_one _) (by unfold maxLen; omega) (by omega) (by simp) ?_
    intro v1 w3 own1 gr1 nn1
    obtain ⟨g1, c1, hv, R3⟩ := HR2.out.more (m := A) (Below.refl _ _) (by rw [HA.out]; simpa [flv] using own1) gr1 (fun e => by have := (nn1.1 e).2; omega)
    simp only [List.length_nil, Nat.zero_add, List.nil_append] at hv R3
    subst hv
    have HR3 := Lib.hid R3
    rw [HA.out]
    clear own1 gr1 nn1 o1 o2 o3 R3 HR2
    cases q with
    | none =>
      have hd0 := Hq0.out rfl
      have hm0 : m = 0 := by have := HQ.out.len; have := Hm.out; omega
      have hb0 : b = [] := List.length_eq_zero_iff.1 (by rw [Hm.out]; exact hm0)
      subst hd0
      subst hm0
      subst hb0
      have o4 := HR3.out.own
      rw [HA.out] at o4
      go_wp2_with (with_reducible refine stop_append ?_)
      unfold Stop
      refine wpList_append_own_none rfl _ _ 23 rfl w2.heap.size 4 i0 1 Try.underlying23 hi0 _ K (flv A) rfl o4 rfl ?_
      obtain ⟨g2, hg2⟩ : ∃ g2, g2 = g1 := ⟨_, rfl⟩
      obtain ⟨c2, hc2⟩ : ∃ c2, c2 = c1 := ⟨_, rfl⟩
      obtain ⟨w4, hw4⟩ : ∃ w4, w4 = w3 := ⟨_, rfl⟩
      have HMM : Hid ((A ++ ([] : List Bool)).length = K) := by show _ = _; rw [List.append_nil, HA.out]
      have R4 : Hid (FRow w2.heap.size w2 w4 g2 c2 (A ++ [])) := by rw [List.append_nil, hg2, hc2, hw4]; exact HR3
      have B4 := Lib.hid (B2.out.next R4.out.below)
      have zmm : (K : Int) ≤ 1015 := by omega
      rw [← hg2, ← hc2, ← hw4]
      clear o4 HR3 hg2 hc2 hw4
      have hrd := HRd.out (A ++ []) K (some ⟨g2, 0, none⟩) c2 w4 HMM.out (by omega) (HHit.out []) (HI.out.below B4.out) R4.out.lies
      have HL4 := Lib.hid (H2.out.below (R4.out.below))
      clear R4
      go_wp2_with fail
      go_at_call 13
      refine hrd.mono ?_
      rintro e w5 ⟨b5, rfl⟩
      have B5 := Lib.hid (B4.out.next b5)
      have HL5 := Lib.hid (HL4.out.below b5)
      have cx := CX.out w5 B5.out
      have hwy := HWy.out w5 (HI.out.below B5.out)
      clear b5 hrd B4 HL4
      go_wp2_with fail
      go_at_call 11
      refine hwy.mono ?_
      rintro e w6 ⟨b6, q6, d6, rfl, h6⟩
      have B6 := Lib.hid (FW.out _ _ B5.out b6)
      have HL6 := Lib.hid (HL5.out.below b6)
      have H6 := Lib.hid h6
      have hkd : (k : Int) ≤ d6 := by have := h6.len; have := HF.out; omega
      clear b6 hwy B5 HL5 h6 cx
      cases wk with
      | false =>
        go_wp2
        go_ret
        exact ⟨rfl, B6.out⟩
      | true =>
        by_cases hiy : (i : Int) = y
        · go_wp2
          go_ret
          exact ⟨rfl, B6.out⟩
        · by_cases hkK : k < K
          · have zkK : (k : Int) < K := by omega
            go_wp2
            go_ret
            exact ⟨rfl, B6.out⟩
          · have hne := HT.out rfl hiy (by omega)
            have zkK : (K : Int) ≤ k := by omega
            have hfl := flags_doc (F.take K) A (by rw [List.length_take]; have := HF.out; omega) (by rw [HA.out]; omega) q6 (some ⟨g, o, sp⟩) d6 d2 w6 (H6.out.take K) HL6.out
            rw [decide_eq_false hne, HA.out, show (F.take K).length = K by rw [List.length_take]; have := HF.out; omega] at hfl
            clear hne hkK
            go_wp2_with fail
            go_at_call 16
            refine hfl.mono ?_
            rintro e w7 ⟨rfl, b7⟩
            have B7 := Lib.hid (B6.out.next b7)
            clear b7 hfl
            go_wp2
            go_ret
            exact ⟨rfl, B7.out⟩
    | some a =>
      have o4 := HR3.out.own
      rw [HA.out] at o4
      have o5 := flags_cells ((HQ.out.below (B2.out.next HR3.out.below)))
      have o6 : (flv b).length = m * 1 := by rw [flv_length, Hm.out]; omega
      go_wp2_with (with_reducible refine stop_append ?_)
      unfold Stop
      refine wpList_append_own _ rfl _ _ 23 rfl w2.heap.size 4 i0 (.bool false) 1 1 Try.underlying23 hi0 hz0 hz1 hz2 rfl (by decide) _ K (flv A) rfl o4 a m d (flv b) rfl o6 o5 (flv_one _) (by unfold maxLen; omega) (by omega) HR3.out.size ?_
      intro v2 w4 own2 gr2 nn2
      obtain ⟨g2, c2, hv, R4⟩ := HR3.out.more (m := b) (Below.refl _ _) (by rw [HA.out, Hm.out]; exact own2) (by rw [HA.out]; exact gr2) (fun e => by
        have h : Value.slice (some ⟨g1, 0, none⟩) K c1 = .slice none 0 0 := (nn2.1 e).1
        cases h)
      subst hv
      have R4 := Lib.hid R4
      have B4 := Lib.hid (B2.out.next R4.out.below)
      have HMM : Hid ((A ++ b).length = K + m) := by show _ = _; rw [List.length_append, HA.out, Hm.out]
      rw [HA.out, Hm.out]
      clear own2 gr2 nn2 o4 o5 o6 HR3
      obtain ⟨mm, hmm⟩ : ∃ mm, mm = K + m := ⟨_, rfl⟩
      have zmm : (mm : Int) ≤ 1015 := by omega
      rw [← hmm] at HMM ⊢
      clear hmm
      have hrd := HRd.out (A ++ b) mm (some ⟨g2, 0, none⟩) c2 w4 HMM.out (by omega) (HHit.out b) (HI.out.below B4.out) R4.out.lies
      have HL4 := Lib.hid (H2.out.below (R4.out.below))
      clear R4
      go_wp2_with fail
      go_at_call 13
      refine hrd.mono ?_
      rintro e w5 ⟨b5, rfl⟩
      have B5 := Lib.hid (B4.out.next b5)
      have HL5 := Lib.hid (HL4.out.below b5)
      have cx := CX.out w5 B5.out
      have hwy := HWy.out w5 (HI.out.below B5.out)
      clear b5 hrd B4 HL4
      go_wp2_with fail
      go_at_call 11
      refine hwy.mono ?_
      rintro e w6 ⟨b6, q6, d6, rfl, h6⟩
      have B6 := Lib.hid (FW.out _ _ B5.out b6)
      have HL6 := Lib.hid (HL5.out.below b6)
      have H6 := Lib.hid h6
      have hkd : (k : Int) ≤ d6 := by have := h6.len; have := HF.out; omega
      clear b6 hwy B5 HL5 h6 cx
      cases wk with
      | false =>
        go_wp2
        go_ret
        exact ⟨rfl, B6.out⟩
      | true =>
        by_cases hiy : (i : Int) = y
        · go_wp2
          go_ret
          exact ⟨rfl, B6.out⟩
        · by_cases hkK : k < K
          · have zkK : (k : Int) < K := by omega
            go_wp2
            go_ret
            exact ⟨rfl, B6.out⟩
          · have hne := HT.out rfl hiy (by omega)
            have zkK : (K : Int) ≤ k := by omega
            have hfl := flags_doc (F.take K) A (by rw [List.length_take]; have := HF.out; omega) (by rw [HA.out]; omega) q6 (some ⟨g, o, sp⟩) d6 d2 w6 (H6.out.take K) HL6.out
            rw [decide_eq_false hne, HA.out, show (F.take K).length = K by rw [List.length_take]; have := HF.out; omega] at hfl
            clear hne hkK
            go_wp2_with fail
            go_at_call 16
            refine hfl.mono ?_
            rintro e w7 ⟨rfl, b7⟩
            have B7 := Lib.hid (B6.out.next b7)
            clear b7 hfl
            go_wp2
            go_ret
            exact ⟨rfl, B7.out⟩
  · have hwn := fun (w : World) (h : IntsLie w p L c) => S.write_no L n x p c w (fun l h1 h2 i h3 h4 => hx ⟨l, h1, h2, i, h3, h4⟩) hn (by omega) h
    have HWN := Lib.hid hwn
    clear hwn hx h hq hn hm hnl hml hq0 hbig
    go_enter Try.func4, Try.ntmps4
    go_wp2_with fail
    rw [← hw0]
    clear hw0
    go_quiet (fail)
    go_wp2_with fail
    refine (FA.out _).mono ?_
    rintro e w1 ⟨rfl, b1⟩
    have B1 := Lib.hid ((drawn_below (Below.refl w0.heap.size w0) _).next b1)
    have hw := HWN.out w1 (HI.out.below B1.out)
    clear b1
    go_wp2_with fail
    go_at_call 11
    refine hw.mono ?_
    rintro e w2 ⟨b2, q2, d2, _, rfl⟩
    have B2 := Lib.hid (FW.out _ _ B1.out b2)
    clear b2 hw
    go_wp2
    go_ret
    exact ⟨rfl, B2.out⟩
end Go.Proofs.Ytbkehlppngejnaa
