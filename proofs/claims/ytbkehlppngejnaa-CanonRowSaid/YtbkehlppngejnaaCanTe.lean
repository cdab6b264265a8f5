/-
  The law CanonTells, given how the package's functions answer.
-/
import Derived.Test.YtbkehlppngejnaaCanFx
namespace Go.Proofs.Ytbkehlppngejnaa
open Go.RowKit Go.Lib Cn
set_option maxRecDepth 100000
theorem none_codes {w : World} {q : Option Addr} {d : Nat} (h : d ≤ maxLen) : CodesLie w q [] d := ⟨Nat.zero_le _, h, Or.inl rfl⟩
theorem none_flags {w : World} {q : Option Addr} {d : Nat} (h : d ≤ maxLen) : FlagsLie w q [] d := ⟨Nat.zero_le _, h, Or.inl rfl⟩
/-- two functions that answer so answer alike -/
theorem codes_ans (L : List Int) (n : Nat) (hn : L.length = n) (hl : n ≤ 281474976710656) : ∃ (E : List (Nat × Nat)) (k : Nat) (ok : Bool), E.length = k ∧ k ≤ n ∧ ∀ (C W R : FuncId), SpecC C W R → ∀ p c w, IntsLie w p L c →
    Calls Try.prog C #[.slice p n c] w fun e w' => Below w.heap.size w w' ∧ ∃ q d, e = .returned (.tuple #[.slice q k d, .bool ok]) ∧ CodesLie w' q E d := by
  by_cases hm : ∃ l, MayC l ∧ L = nums l
  · obtain ⟨l, hm, rfl⟩ := hm
    have hll : l.length = n := by rw [← hn, nums_len]
    exact ⟨codesOf l, n, true, by rw [codesOf_length]; exact hll, Nat.le_refl _, fun C W R S p c w h => S.codes l n p c w hm hll h⟩
  · exact ⟨[], 0, false, rfl, Nat.zero_le _, fun C W R S p c w h => (S.codes_no L n p c w (fun l h1 h2 => hm ⟨l, h1, h2⟩) hn hl h).mono fun e w' ⟨hb, q, d, hd, he⟩ => ⟨hb, q, d, he, none_codes hd⟩⟩
theorem write_ans (L : List Int) (n : Nat) (x : Int) (hn : L.length = n) (hl : n ≤ 1000000) : ∃ (B : List Bool) (k : Nat) (ok : Bool), B.length = k ∧ k ≤ 15 ∧ ∀ (C W R : FuncId), SpecC C W R → ∀ p c w, IntsLie w p L c →
    Calls Try.prog W #[.slice p n c, .int .i64 x] w fun e w' => Below w.heap.size w w' ∧ ∃ q d, e = .returned (.tuple #[.slice q k d, .bool ok]) ∧ FlagsLie w' q B d := by
  by_cases hm : ∃ l, MayC l ∧ L = nums l ∧ ∃ i : Nat, x = i ∧ 1 ≤ l.getD i 0
  · obtain ⟨l, hm, rfl, i, rfl, hi⟩ := hm
    have hll : l.length = n := by rw [← hn, nums_len]
    exact ⟨code l i, _, true, rfl, by rw [code_length]; exact hm.le i, fun C W R S p c w h => S.write l n i p c w hm hll hi h⟩
  · exact ⟨[], 0, false, rfl, Nat.zero_le _, fun C W R S p c w h => (S.write_no L n x p c w (fun l h1 h2 i h3 h4 => hm ⟨l, h1, h2, i, h3, h4⟩) hn hl h).mono fun e w' ⟨hb, q, d, hd, he⟩ => ⟨hb, q, d, he, none_flags hd⟩⟩
theorem read_ans (L : List Int) (n : Nat) (b : List Bool) (m : Nat) (x : Int) (hn : L.length = n) (hl : n ≤ 1000000) (hb : b.length = m) (hm : m ≤ 100000) : ∃ (r s : Int) (ok : Bool), ∀ (C W R : FuncId), SpecC C W R → ∀ p c q d w, IntsLie w p L c → FlagsLie w q b d →
    Calls Try.prog R #[.slice p n c, .slice q m d, .int .i64 x] w fun e w' => Below w.heap.size w w' ∧ e = .returned (.tuple #[.int .i64 r, .int .i64 s, .bool ok]) := by
  by_cases hr : ∃ l, MayC l ∧ L = nums l ∧ ∃ at_ i : Nat, x = at_ ∧ hit l b at_ i = true
  · obtain ⟨l, hml, rfl, at_, i, rfl, hi⟩ := hr
    have hll : l.length = n := by rw [← hn, nums_len]
    exact ⟨_, _, true, fun C W R S p c q d w h hq => S.read l n b m at_ i p q c d w hml hll hb hm hi h hq⟩
  · exact ⟨0, 0, false, fun C W R S p c q d w h hq => S.read_no L n b m x p q c d w (fun l h1 h2 at_ h3 i => by
      cases hh : hit l b at_ i with
      | false => rfl
      | true => exact absurd ⟨l, h1, h2, at_, i, h3, hh⟩ hr) hn hl hb hm h hq⟩
set_option maxHeartbeats 4000000 in
theorem tells_any (S : SpecP) (L : List Int) (b : List Bool) (n m : Nat) (s a : Int) (p q : Option Addr) (c d : Nat) (w : World) (hn : L.length = n) (hm : b.length = m) (hnl : n ≤ 281474976710656) (hml : m ≤ 281474976710656) (h : IntsLie w p L c) (hq : FlagsLie w q b d) :
    Calls Try.prog 3 #[.slice p n c, .slice q m d, .agg #[.int .i64 s, .int .i64 a]] w fun e w' => e = .returned (.bool true) ∧ Below w.heap.size w w' := by
  have zn : (n : Int) ≤ 281474976710656 := by omega
  have zm : (m : Int) ≤ 281474976710656 := by omega
  by_cases hbig : 300 < n ∨ 1000 < m
  · have hf := fixed_any S (w.alloc (.cells #[.int .i64 s, .int .i64 a] 25))
    clear h hq hn hm hnl hml
    by_cases h3 : 300 < n
    · have z3 : (300 : Int) < n := by omega
      clear hbig h3
      go_enter Try.func3, Try.ntmps3
      go_wp2_with fail
      go_at_call 8
      refine hf.mono ?_
      rintro e w1 ⟨rfl, hb⟩
      have HB := Lib.hid hb
      clear hf hb
      go_wp2
      go_ret
      exact ⟨rfl, fx_new HB.out⟩
    · have z3 : (n : Int) ≤ 300 := by omega
      have z4 : (1000 : Int) < m := by omega
      clear hbig h3
      go_enter Try.func3, Try.ntmps3
      go_wp2_with fail
      go_at_call 8
      refine hf.mono ?_
      rintro e w1 ⟨rfl, hb⟩
      have HB := Lib.hid hb
      clear hf hb
      go_wp2
      go_ret
      exact ⟨rfl, fx_new HB.out⟩
  · have z3 : (n : Int) ≤ 300 := by omega
    have z4 : (m : Int) ≤ 1000 := by omega
    obtain ⟨E, k, ok, hE, hk, CA⟩ := codes_ans L n hn hnl
    obtain ⟨F, j, wk, hF, hj, WA⟩ := write_ans L n s hn (by omega)
    obtain ⟨r, t, rk, RA⟩ := read_ans L n b m a hn (by omega) hm (by omega)
    have zk : (k : Int) ≤ 300 := by omega
    have zj : (j : Int) ≤ 15 := by omega
    have CA := Lib.hid CA
    have WA := Lib.hid WA
    have RA := Lib.hid RA
    have HE := Lib.hid hE
    have HF := Lib.hid hF
    obtain ⟨w0, hw0⟩ : ∃ w0, w0 = w.alloc (.cells #[.int .i64 s, .int .i64 a] 25) := ⟨_, rfl⟩
    have B0 : Hid (Below w.heap.size w w0) := by rw [hw0]; exact (Below.refl _ _).alloc (Nat.le_refl _) _
    have HI := Lib.hid (h.below B0.out)
    have HQ := Lib.hid (hq.below B0.out)
    have k0 : w0.cell? ⟨w.heap.size, 0, none⟩ = some (.int .i64 s) := by rw [hw0]; exact cell_of_row _ _ 0 _ 25 (0, 0) (heap_alloc_new w _)
    have k1 : w0.cell? ⟨w.heap.size, 1, none⟩ = some (.int .i64 a) := by rw [hw0]; exact cell_of_row _ _ 1 _ 25 (0, 0) (heap_alloc_new w _)
    have KS := Lib.hid (fun (w' : World) (hb : Below w0.heap.size w0 w') => show w'.cell? ⟨w.heap.size, 0, none⟩ = some (.int .i64 s) ∧ w'.cell? ⟨w.heap.size, 1, none⟩ = some (.int .i64 a) from
      ⟨by rw [hb.cell (p := ⟨w.heap.size, 0, none⟩) (World.block_lt_of_cell? w0 _ k0)]; exact k0, by rw [hb.cell (p := ⟨w.heap.size, 1, none⟩) (World.block_lt_of_cell? w0 _ k1)]; exact k1⟩)
    have hc1 := CA.out _ _ _ S p c w0 HI.out
    clear h hq hn hm hnl hml hbig hE hF hk hj k0 k1
    go_enter Try.func3, Try.ntmps3
    go_wp2_with fail
    rw [← hw0]
    clear hw0
    go_at_call 9
    refine hc1.mono ?_
    rintro e w1 ⟨b1, q1, d1, rfl, h1⟩
    have B1 := Lib.hid b1
    have H1 := Lib.hid h1
    have hc2 := CA.out _ _ _ specDoc p c w1 (HI.out.below b1)
    clear b1 h1 hc1
    go_wp2_with fail
    go_at_call 10
    refine hc2.mono ?_
    rintro e w2 ⟨b2, q2, d2, rfl, h2⟩
    have B2 := Lib.hid (B1.out.next b2)
    have H12 := Lib.hid (H1.out.below b2)
    have H22 := Lib.hid h2
    have hc3 := WA.out _ _ _ S p c w2 (HI.out.below B2.out)
    obtain ⟨x0, x1⟩ := KS.out w2 B2.out
    clear b2 h2 hc2 B1 H1
    go_wp2_with fail
    go_at_call 11
    refine hc3.mono ?_
    rintro e w3 ⟨b3, q3, d3, rfl, h3⟩
    clear x0 x1
    have B3 := Lib.hid (B2.out.next b3)
    have H13 := Lib.hid (H12.out.below b3)
    have H23 := Lib.hid (H22.out.below b3)
    have H33 := Lib.hid h3
    have hc4 := WA.out _ _ _ specDoc p c w3 (HI.out.below B3.out)
    obtain ⟨x0, x1⟩ := KS.out w3 B3.out
    clear b3 h3 hc3 B2 H12 H22
    go_wp2_with fail
    go_at_call 12
    refine hc4.mono ?_
    rintro e w4 ⟨b4, q4, d4, rfl, h4⟩
    clear x0 x1
    have B4 := Lib.hid (B3.out.next b4)
    have H14 := Lib.hid (H13.out.below b4)
    have H24 := Lib.hid (H23.out.below b4)
    have H34 := Lib.hid (H33.out.below b4)
    have H44 := Lib.hid h4
    have hc5 := RA.out _ _ _ S p c q d w4 (HI.out.below B4.out) (HQ.out.below B4.out)
    obtain ⟨x0, x1⟩ := KS.out w4 B4.out
    clear b4 h4 hc4 B3 H13 H23 H33
    go_wp2_with fail
    go_at_call 13
    refine hc5.mono ?_
    rintro e w5 ⟨b5, rfl⟩
    clear x0 x1
    have B5 := Lib.hid (B4.out.next b5)
    have H15 := Lib.hid (H14.out.below b5)
    have H25 := Lib.hid (H24.out.below b5)
    have H35 := Lib.hid (H34.out.below b5)
    have H45 := Lib.hid (H44.out.below b5)
    have hc6 := RA.out _ _ _ specDoc p c q d w5 (HI.out.below B5.out) (HQ.out.below B5.out)
    obtain ⟨x0, x1⟩ := KS.out w5 B5.out
    clear b5 hc5 B4 H14 H24 H34 H44
    go_wp2_with fail
    go_at_call 14
    refine hc6.mono ?_
    rintro e w6 ⟨b6, rfl⟩
    clear x0 x1
    have B6 := Lib.hid (B5.out.next b6)
    have H16 := Lib.hid (H15.out.below b6)
    have H26 := Lib.hid (H25.out.below b6)
    have H36 := Lib.hid (H35.out.below b6)
    have H46 := Lib.hid (H45.out.below b6)
    have hc7 := fixed_any S w6
    clear b6 hc6 B5 H15 H25 H35 H45
    go_wp2_with fail
    go_at_call 8
    refine hc7.mono ?_
    rintro e w7 ⟨rfl, b7⟩
    have B7 := Lib.hid (B6.out.next b7)
    have hc8 := codes_same E E k k HE.out HE.out (by omega) (by omega) q1 q2 d1 d2 w7 (H16.out.below b7) (H26.out.below b7)
    rw [decide_eq_true rfl] at hc8
    have H37 := Lib.hid (H36.out.below b7)
    have H47 := Lib.hid (H46.out.below b7)
    clear b7 hc7 B6 H16 H26 H36 H46
    go_wp2_with fail
    go_at_call 15
    refine hc8.mono ?_
    rintro e w8 ⟨rfl, b8⟩
    have B8 := Lib.hid (B7.out.next b8)
    have hc9 := flags_doc F F (by rw [HF.out]; omega) (by rw [HF.out]; omega) q3 q4 d3 d4 w8 (H37.out.below b8) (H47.out.below b8)
    rw [decide_eq_true rfl, HF.out] at hc9
    clear b8 hc8 B7 H37 H47
    go_wp2_with fail
    go_at_call 16
    refine hc9.mono ?_
    rintro e w9 ⟨rfl, b9⟩
    have B9 := Lib.hid (B0.out.trans ((B8.out.next b9).mono B0.out.size))
    clear b9 hc9 B8
    go_wp2
    go_ret
    exact ⟨rfl, B9.out⟩
end Go.Proofs.Ytbkehlppngejnaa
