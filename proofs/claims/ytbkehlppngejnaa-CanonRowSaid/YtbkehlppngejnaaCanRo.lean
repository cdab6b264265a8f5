/-
  The law CanonRow, given how the package's functions answer.
-/
import Derived.Test.YtbkehlppngejnaaCanBa
namespace Go.Proofs.Ytbkehlppngejnaa
open Go.RowKit Go.Lib Cn
set_option maxRecDepth 100000
/-- the codes of the first symbols, one behind the other -/
def cat (A : Int → List Bool) (T : List Int) (i : Nat) : List Bool := (T.take i).flatMap A
theorem cat_succ (A : Int → List Bool) (T : List Int) {i : Nat} (h : i < T.length) : cat A T (i + 1) = cat A T i ++ A T[i] := by
  unfold cat
  rw [List.take_succ_eq_append_getElem h, List.flatMap_append]
  simp
theorem cat_drop (A : Int → List Bool) (T : List Int) {i : Nat} (h : i < T.length) : (cat A T T.length).drop (cat A T i).length = A T[i] ++ (T.drop (i + 1)).flatMap A := by
  have e : cat A T T.length = cat A T i ++ (T.drop i).flatMap A := by
    unfold cat
    rw [← List.flatMap_append, List.take_append_drop, List.take_length]
  rw [e, List.drop_left, List.drop_eq_getElem_cons h, List.flatMap_cons]
theorem cat_le (A : Int → List Bool) (T : List Int) {i : Nat} (_h : i ≤ T.length) : (cat A T i).length ≤ (cat A T T.length).length := by
  have e : cat A T T.length = cat A T i ++ (T.drop i).flatMap A := by
    unfold cat
    rw [← List.flatMap_append, List.take_append_drop, List.take_length]
  rw [e, List.length_append]; omega
set_option maxHeartbeats 4000000 in
theorem row_in (S : SpecP) (L T : List Int) (n t : Nat) (p q : Option Addr) (c d : Nat) (w : World) (hn : L.length = n) (ht : T.length = t) (h3 : n ≤ 300) (h4 : t ≤ 100) (h : IntsLie w p L c) (hq : IntsLie w q T d)
    (A : Int → List Bool) (ok : Int → Bool) (hA : ∀ x, (A x).length ≤ 15) (hA1 : ∀ x, ok x = true → 1 ≤ (A x).length)
    (hW : ∀ x w, IntsLie w p L c → Calls Try.prog 11 #[.slice p n c, .int .i64 x] w fun e w' => Below w.heap.size w w' ∧ ∃ q d, e = .returned (.tuple #[.slice q (A x).length d, .bool (ok x)]) ∧ FlagsLie w' q (A x) d)
    (hR : ∀ x (b : List Bool) (m at_ : Nat) (more : List Bool) w q d, ok x = true → b.length = m → m ≤ 100000 → at_ ≤ m → b.drop at_ = A x ++ more → IntsLie w p L c → FlagsLie w q b d → Calls Try.prog 13 #[.slice p n c, .slice q m d, .int .i64 at_] w fun e w' => Below w.heap.size w w' ∧ e = .returned (.tuple #[.int .i64 x, .int .i64 ((at_ + (A x).length : Nat) : Int), .bool true])) :
    Calls Try.prog 7 #[.slice p n c, .slice q t d] w fun e w' => e = .returned (.bool true) ∧ Below w.heap.size w w' := by
  have z3 : (n : Int) ≤ 300 := by omega
  have z4 : (t : Int) ≤ 100 := by omega
  have HI := Lib.hid h
  have HT := Lib.hid hq
  have Ht := Lib.hid ht
  have HA := Lib.hid hA
  have HA1 := Lib.hid hA1
  have HW := Lib.hid hW
  have HR := Lib.hid hR
  have hf := fixed_any S w
  have hcd : (t : Int) ≤ d := by have := hq.len; omega
  obtain ⟨i0, hi0, hz0, hz1, hz2⟩ := info_parts infoBool
  clear h hq ht hA hA1 hW hR hn h3 h4
  go_enter Try.func7, Try.ntmps7
  go_wp2_with fail
  go_at_call 8
  refine hf.mono ?_
  rintro e w1 ⟨rfl, b1⟩
  have B1 := Lib.hid b1
  have HR0 := Lib.hid (FRow.made w1)
  clear b1 hf
  go_wp2
  go_loopw [5, 6] (fun v i wr => ∃ k ln g c1 : Nat, i = .int .i64 k ∧ k ≤ t ∧ v = .slice (some ⟨g, 0, none⟩) ln c1 ∧ ln ≤ 15 * k ∧ Hid ((cat A T k).length = ln) ∧ Hid (∀ j (hj : j < T.length), j < k → ok T[j] = true) ∧ Hid (FRow w1.heap.size w1 wr g c1 (cat A T k))) (fun _ i _ => t - (RowKit.intOf i).toNat)
  case atStart => exact ⟨0, 0, _, 0, rfl, Nat.zero_le _, rfl, by omega, rfl, fun j _ hj => by omega, HR0⟩
  case round =>
    clear HR0
    obtain ⟨k, ln, g, c1, rfl, hk, rfl, hln, HLn, HOk, HRow⟩ := hrel
    by_cases hlt : k < t
    · have hkT : k < T.length := by rw [Ht.out]; exact hlt
      have hB := B1.out.next HRow.out.below
      obtain ⟨blk, off, rfl, hcl⟩ := (HT.out.below hB).at hkT
      have cx := hcl k hkT
      have HS := Lib.hid (cat_succ A T hkT)
      have HOk2 := Lib.hid (fun (hx : ok T[k] = true) => show ∀ j (hj : j < T.length), j < k + 1 → ok T[j] = true from fun j hj hj2 => by
        by_cases e : j = k
        · subst e; exact hx
        · exact HOk.out j hj (by omega))
      generalize T[k] = x at *
      have hw := HW.out x wr (HI.out.below hB)
      have hAx := HA.out x
      have hA1x := Lib.hid (HA1.out x)
      have ii : (k : Int) < t := by omega
      obtain ⟨y, hy⟩ : ∃ y, y = (A x).length := ⟨_, rfl⟩
      rw [← hy] at hw hAx hA1x
      have Hy := Lib.hid hy
      have zy : (y : Int) ≤ 15 := by omega
      have zln : (ln : Int) ≤ 1500 := by omega
      clear hcl hy hB hkT
      cases hok : ok x with
      | false =>
        rw [hok] at hw
        clear HOk2 hA1x hok
        go_wp2_with fail
        go_at_call 11
        refine hw.mono ?_
        rintro e w2 ⟨b2, q2, d2, rfl, _⟩
        have B2 := Lib.hid ((B1.out.next HRow.out.below).next b2)
        clear b2 hw
        go_wp2
        go_ret
        exact ⟨rfl, B2.out⟩
      | true =>
        rw [hok] at hw hA1x
        have HOk3 := Lib.hid (HOk2.out hok)
        have hy1 := hA1x.out rfl
        clear HOk2 hA1x hok
        go_wp2_with fail
        go_at_call 11
        refine hw.mono ?_
        rintro e w2 ⟨b2, q2, d2, rfl, h2⟩
        obtain ⟨⟨g2, o2, sp⟩, rfl⟩ : ∃ a, q2 = some a := by
          obtain ⟨blk, off, e, _⟩ := h2.at (i := 0) (by rw [← Hy.out]; omega)
          exact ⟨_, e⟩
        have o1 := own_keep HRow.out.own b2
        rw [HLn.out] at o1
        have o3 := flags_cells h2
        have o4 : (flv (A x)).length = y * 1 := by rw [flv_length, ← Hy.out]; omega
        have hsz : w1.heap.size ≤ w2.heap.size := Nat.le_trans HRow.out.size b2.size
        have HRow2 : Hid (FRow w1.heap.size w1 w2 g c1 (cat A T k)) := ⟨own_keep HRow.out.own b2, HRow.out.below.next b2, HRow.out.room⟩
        clear b2 hw h2 HRow
        go_wp2_with (with_reducible refine stop_append ?_)
        unfold Stop
        refine wpList_append_own _ rfl _ _ 23 rfl w1.heap.size 4 i0 (.bool false) 1 1 Try.underlying23 hi0 hz0 hz1 hz2 rfl (by decide) _ ln (flv (cat A T k)) rfl o1 ⟨g2, o2, sp⟩ y d2 (flv (A x)) rfl o4 o3 (flv_one _) (by unfold maxLen; omega) (by omega) hsz ?_
        intro v1 w3 own1 gr1 nn1
        obtain ⟨g3, c3, hv, R3⟩ := HRow2.out.more (m := A x) (Below.refl _ _) (by rw [HLn.out, ← Hy.out]; exact own1) (by rw [HLn.out]; exact gr1) (fun e => by
          have h : Value.slice (some ⟨g, 0, none⟩) ln c1 = .slice none 0 0 := (nn1.1 e).1
          cases h)
        subst hv
        rw [← HS.out] at R3
        have HR3 := Lib.hid R3
        have HL3 : Hid ((cat A T (k + 1)).length = ln + y) := by show _ = _; rw [HS.out, List.length_append, HLn.out, ← Hy.out]
        rw [HLn.out, ← Hy.out]
        clear own1 gr1 nn1 o1 o3 o4 R3 HRow2 HS
        go_wp2
        go_roundw
        case measure => simp [RowKit.intOf]; omega
        case rel => exact ⟨k + 1, ln + y, g3, c3, by go_num, by omega, rfl, by omega, HL3, HOk3, HR3⟩
    · have e : k = t := by omega
      subst e
      have HB3 := Lib.hid (B1.out.next HRow.out.below)
      have HF3 := Lib.hid HRow.out.lies
      have hlen : ln ≤ 1500 := by omega
      have zln : (ln : Int) ≤ 1500 := by omega
      clear hlt HRow hk hln
      obtain ⟨w4, hw4⟩ : ∃ w4, w4 = wr := ⟨_, rfl⟩
      rw [← hw4] at HB3 HF3
      rw [← hw4]
      clear hw4
      go_wp2
      go_loopw [9, 10] (fun a i wr => ∃ j s : Nat, i = .int .i64 j ∧ j ≤ k ∧ a = .int .i64 s ∧ Hid ((cat A T j).length = s) ∧ Hid (Below w4.heap.size w4 wr)) (fun _ i _ => k - (RowKit.intOf i).toNat)
      case atStart => exact ⟨0, 0, rfl, Nat.zero_le _, rfl, rfl, Below.refl _ _⟩
      case round =>
        obtain ⟨j, s, rfl, hj, rfl, HS, HB⟩ := hrel
        by_cases hlt : j < k
        · have hjT : j < T.length := by rw [Ht.out]; exact hlt
          have hB := HB3.out.next HB.out
          have hBw : Below w.heap.size w wr := hB
          obtain ⟨blk, off, rfl, hcl⟩ := (HT.out.below hBw).at hjT
          have cx := hcl j hjT
          have HSc := Lib.hid (cat_succ A T hjT)
          have hdrop := cat_drop A T hjT
          have hok := HOk.out j hjT hlt
          have hle := cat_le A T (Nat.le_of_lt hjT)
          rw [Ht.out, HLn.out, HS.out] at hle
          rw [Ht.out, HS.out] at hdrop
          generalize T[j] = x at *
          have hr := HR.out x (cat A T k) ln s _ wr _ _ hok HLn.out (by omega) hle hdrop (HI.out.below hBw) (HF3.out.below HB.out)
          have CX := Lib.hid (fun (w' : World) (hb : Below wr.heap.size wr w') => show w'.cell? ⟨blk, off + j, none⟩ = some (.int .i64 x) by rw [hb.cell (p := ⟨blk, off + j, none⟩) (World.block_lt_of_cell? wr _ cx)]; exact cx)
          obtain ⟨y, hy⟩ : ∃ y, y = (A x).length := ⟨_, rfl⟩
          rw [← hy] at hr
          have HS2 : Hid ((cat A T (j + 1)).length = s + y) := by show _ = _; rw [HSc.out, List.length_append, HS.out, hy]
          have ii : (j : Int) < k := by omega
          clear hcl hy hB hjT hdrop hok hle cx hBw HSc
          go_wp2_with fail
          go_at_call 13
          refine hr.mono ?_
          rintro e w5 ⟨b5, rfl⟩
          have cx := CX.out w5 b5
          have HB5 := Lib.hid (HB.out.next b5)
          clear b5 hr CX HB
          go_wp2
          go_roundw
          case measure => simp [RowKit.intOf]; omega
          case rel => exact ⟨j + 1, s + y, by go_num, by omega, rfl, HS2, HB5⟩
        · have e : j = k := by omega
          subst e
          have e2 : s = ln := by rw [← HS.out, ← HLn.out]
          subst e2
          go_wp2
          go_ret
          exact ⟨rfl, HB3.out.next HB.out⟩
theorem row_any (S : SpecP) (L T : List Int) (n t : Nat) (p q : Option Addr) (c d : Nat) (w : World) (hn : L.length = n) (ht : T.length = t) (hnl : n ≤ 281474976710656) (htl : t ≤ 281474976710656) (h : IntsLie w p L c) (hq : IntsLie w q T d) :
    Calls Try.prog 7 #[.slice p n c, .slice q t d] w fun e w' => e = .returned (.bool true) ∧ Below w.heap.size w w' := by
  by_cases h3 : n ≤ 300
  · by_cases h4 : t ≤ 100
    · by_cases hm : ∃ l, MayC l ∧ L = nums l
      · obtain ⟨l, hm, rfl⟩ := hm
        have hll : l.length = n := by rw [← hn, nums_len]
        refine row_in S (nums l) T n t p q c d w hn ht h3 h4 h hq (fun x => if 0 ≤ x ∧ 1 ≤ l.getD x.toNat 0 then code l x.toNat else []) (fun x => decide (0 ≤ x ∧ 1 ≤ l.getD x.toNat 0)) (fun x => ?_) (fun x hx => ?_) (fun x w h => ?_) (fun x b m at_ more w q d hx hb hm2 hat hdr h hq => ?_)
        · split
          · rw [code_length]; exact hm.le _
          · exact Nat.zero_le _
        · have hx := of_decide_eq_true hx
          rw [if_pos hx, code_length]; exact hx.2
        · by_cases hx : 0 ≤ x ∧ 1 ≤ l.getD x.toNat 0
          · rw [if_pos hx, decide_eq_true hx]
            have := S.write l n x.toNat p c w hm hll hx.2 h
            rw [Int.toNat_of_nonneg hx.1] at this
            exact this
          · rw [if_neg hx, decide_eq_false hx]
            exact (S.write_no (nums l) n x p c w (fun l2 h1 h2 i h5 h6 => hx (by
              rw [nums_inj h2, h5]
              exact ⟨by omega, by simpa using h6⟩)) hn (by omega) h).mono fun e w' ⟨hb, q, d, hd, he⟩ => ⟨hb, q, d, he, none_flags hd⟩
        · have hx := of_decide_eq_true hx
          rw [if_pos hx] at hdr ⊢
          have hh := code_hit hm.le hm.kraft hx.2 hdr (by rw [hb]; exact hat)
          have := S.read l n b m at_ x.toNat p q c d w hm hll hb hm2 hh h hq
          rw [Int.toNat_of_nonneg hx.1] at this
          rw [code_length]
          exact this
      · refine row_in S L T n t p q c d w hn ht h3 h4 h hq (fun _ => []) (fun _ => false) (fun _ => Nat.zero_le _) (fun _ h => by cases h) (fun x w h => ?_) (fun _ _ _ _ _ _ _ _ h => by cases h)
        exact (S.write_no L n x p c w (fun l2 h1 h2 => absurd ⟨l2, h1, h2⟩ hm) hn (by omega) h).mono fun e w' ⟨hb, q, d, hd, he⟩ => ⟨hb, q, d, he, none_flags hd⟩
    · have z3 : (n : Int) ≤ 300 := by omega
      have z4 : (100 : Int) < t := by omega
      have zt : (t : Int) ≤ 281474976710656 := by omega
      have FA := Lib.hid (fixed_any S)
      clear h hq hn ht h3 h4 htl hnl
      go_enter Try.func7, Try.ntmps7
      go_wp2_with fail
      refine (FA.out _).mono ?_
      rintro e w1 ⟨rfl, b1⟩
      have B1 := Lib.hid b1
      clear b1
      go_wp2_with fail
      refine (FA.out _).mono ?_
      rintro e w2 ⟨rfl, b2⟩
      have B2 := Lib.hid (B1.out.next b2)
      clear b2
      go_wp2
      go_ret
      exact ⟨rfl, B2.out⟩
  · have z3 : (300 : Int) < n := by omega
    have zn : (n : Int) ≤ 281474976710656 := by omega
    have FA := Lib.hid (fixed_any S)
    clear h hq hn ht h3 htl hnl
    go_enter Try.func7, Try.ntmps7
    go_wp2_with fail
    refine (FA.out _).mono ?_
    rintro e w1 ⟨rfl, b1⟩
    have B1 := Lib.hid b1
    clear b1
    go_wp2_with fail
    refine (FA.out _).mono ?_
    rintro e w2 ⟨rfl, b2⟩
    have B2 := Lib.hid (B1.out.next b2)
    clear b2
    go_wp2
    go_ret
    exact ⟨rfl, B2.out⟩
end Go.Proofs.Ytbkehlppngejnaa
