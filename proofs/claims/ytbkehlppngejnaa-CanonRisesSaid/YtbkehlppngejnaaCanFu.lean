/-
  The law CanonFull, given how the package's functions answer.
-/
import Derived.Test.YtbkehlppngejnaaCanRo
namespace Go.Proofs.Ytbkehlppngejnaa
open Go.RowKit Go.Lib Cn
set_option maxRecDepth 100000
theorem own_lies {w : World} {B n g c : Nat} {b : List Bool} (h : w.ownsRow B 4 1 (.slice (some ⟨g, 0, Option.none⟩) n c) n (flv b)) (hn : b.length = n) : FlagsLie w (some ⟨g, 0, none⟩) b c := by
  subst hn
  exact FRow.lies (base := 0) (w0 := w) ⟨⟨h.1, h.2.imp id fun ⟨g', cap', cur, h1, _, h3⟩ => ⟨g', cap', cur, h1, Nat.zero_le _, h3⟩⟩, Below.refl _ _, Nat.zero_le _⟩
theorem flv_snoc (b : List Bool) (x : Bool) : flv b ++ flv [x] = flv (b ++ [x]) := by simp [flv]
set_option maxHeartbeats 4000000 in
theorem full_in (S : SpecP) (l : List Nat) (n : Nat) (cs : Array Value) (b : List Bool) (p : Option Addr) (c : Nat) (w : World) (hml : MayC l) (hn : l.length = n) (hb : b.length = 15) (hcs : ∀ i, i < 15 → cs[i]? = some (.bool (b.getD i false))) (h : IntsLie w p (nums l) c) :
    Calls Try.prog 5 #[.slice p n c, .agg cs] w fun e w' => e = .returned (.bool true) ∧ Below w.heap.size w w' := by
  obtain ⟨w0, hw0⟩ : ∃ w0, w0 = w.alloc (.cells cs 38) := ⟨_, rfl⟩
  have B0 : Hid (Below w.heap.size w w0) := by rw [hw0]; exact (Below.refl _ _).alloc (Nat.le_refl _) _
  have hbox : ∀ i, i < 15 → w0.cell? ⟨w.heap.size, i, none⟩ = some (.bool (b.getD i false)) := fun i hi => by
    rw [hw0, cell_of_row _ _ i cs 38 (0, 0) (heap_alloc_new w _)]; exact hcs i hi
  have HX := Lib.hid (fun (w' : World) (hb : Below w0.heap.size w0 w') (i : Nat) (hi : i < 15) => show w'.cell? ⟨w.heap.size, i, none⟩ = some (.bool (b.getD i false)) by
    rw [hb.cell (p := ⟨w.heap.size, i, none⟩) (World.block_lt_of_cell? w0 _ (hbox i hi))]; exact hbox i hi)
  have FA := Lib.hid (fixed_any S)
  have HI := Lib.hid (h.below B0.out)
  have HM := Lib.hid hml
  have Hn := Lib.hid hn
  have Hb := Lib.hid hb
  have z3 : (n : Int) ≤ 300 := by have := hml.len; omega
  have hc := S.codes l n p c w0 hml hn HI.out
  obtain ⟨i0, hi0, hz0, hz1, hz2⟩ := info_parts infoBool
  clear h hml hn hb hcs hbox
  go_enter Try.func5, Try.ntmps5
  go_wp2_with fail
  rw [← hw0]
  clear hw0
  go_at_call 9
  refine hc.mono ?_
  rintro e w1 ⟨b1, q1, d1, rfl, _⟩
  have B1 := Lib.hid b1
  clear b1 hc
  go_wp2_with fail
  refine (FA.out _).mono ?_
  rintro e w2 ⟨rfl, b2⟩
  have B2 := Lib.hid (B1.out.next b2)
  clear b2 B1
  have R1 : Hid (((w2.alloc (.cells #[] 4)).alloc (.cells #[] 4)).ownsRow w2.heap.size 4 1 (.slice (some ⟨w2.heap.size, 0, none⟩) 0 0) 0 (flv (b.take 0))) :=
    Lib.hid ((World.ownsRow_made (base := w2.heap.size) (e := 4) (size := 1) w2 #[] 0 (Nat.le_refl _) (by decide) rfl).alloc _)
  have R2 : Hid (((w2.alloc (.cells #[] 4)).alloc (.cells #[] 4)).ownsRow w2.heap.size 4 1 (.slice (some ⟨w2.heap.size + 1, 0, none⟩) 0 0) 0 (flv (List.replicate 0 true))) := by
    have := World.ownsRow_made (base := w2.heap.size) (e := 4) (size := 1) (w2.alloc (.cells #[] 4)) #[] 0 (by simp) (by decide) rfl
    rw [show (w2.alloc (.cells #[] 4)).heap.size = w2.heap.size + 1 by simp] at this
    exact this
  have BB := Lib.hid (((Below.refl w2.heap.size w2).alloc (Nat.le_refl _) (.cells #[] 4)).alloc (by simp) (.cells #[] 4))
  go_wp2
  go_loopw [7, 8, 9] (fun u v i wr => ∃ k g1 c1 g2 c2 : Nat, i = .int .i64 k ∧ k ≤ 15 ∧ u = .slice (some ⟨g1, 0, none⟩) k c1 ∧ v = .slice (some ⟨g2, 0, none⟩) k c2 ∧ g1 ≠ g2 ∧ Hid (wr.ownsRow w2.heap.size 4 1 (.slice (some ⟨g1, 0, none⟩) k c1) k (flv (b.take k))) ∧ Hid (wr.ownsRow w2.heap.size 4 1 (.slice (some ⟨g2, 0, none⟩) k c2) k (flv (List.replicate k true))) ∧ Hid (Below w2.heap.size w2 wr)) (fun _ _ i _ => 15 - (RowKit.intOf i).toNat)
  case atStart => exact ⟨0, _, 0, _, 0, rfl, by omega, rfl, rfl, by omega, R1, R2, BB⟩
  case round =>
    clear R1 R2 BB
    obtain ⟨k, g1, c1, g2, c2, rfl, hk, rfl, rfl, hne, R1, R2, BB⟩ := hrel
    by_cases hlt : k < 15
    · have cx := HX.out wr (B2.out.next BB.out) k hlt
      have HT1 : Hid (b.take (k + 1) = b.take k ++ [b.getD k false]) := take_getD b k (by rw [Hb.out]; exact hlt)
      have HT2 : Hid (List.replicate (k + 1) true = List.replicate k true ++ [true]) := List.replicate_succ'
      generalize b.getD k false = x at *
      have kk : (k : Int) < 15 := by omega
      have o1 := R1.out.alloc (.cells #[.bool x] 4)
      have o2 := one_flag wr x
      have hB0 := BB.out.size
      have hl1 := (R1.out.lt g1 rfl).2
      have hl2 := (R2.out.lt g2 rfl).2
      go_wp2_with (with_reducible refine stop_append ?_)
      unfold Stop
      refine wpList_append_lies _ rfl _ _ 23 rfl w2.heap.size 4 i0 (.bool false) 1 1 Try.underlying23 hi0 hz0 hz1 hz2 rfl (by decide) _ k (flv (b.take k)) rfl o1 ⟨wr.heap.size, 0, none⟩ 1 1 (flv [x]) rfl rfl o2 (flv_one _) (by omega) (by unfold maxLen; omega) (by omega) (by simp; omega) (wr.heap.size + 1) (by simp) ?_
      intro g3 c3 w3 own3 gr3 hob3 hlt3
      have R3 : Hid (w3.ownsRow w2.heap.size 4 1 (.slice (some ⟨g3, 0, none⟩) (k + 1) c3) (k + 1) (flv (b.take (k + 1)))) := by
        show World.ownsRow _ _ _ _ _ _ _
        rw [HT1.out, ← flv_snoc]; exact own3
      have R4 := Lib.hid ((R2.out.alloc (.cells #[.bool x] 4)).kept gr3 (Or.inr (by
        show some g2 ≠ some g1
        intro e; cases e; exact hne rfl)))
      have B3 := Lib.hid ((BB.out.alloc BB.out.size (.cells #[.bool x] 4)).grown gr3 (by simp; omega) (fun bb hbb => (R1.out.lt bb hbb).1))
      have hne3 : g3 ≠ g2 := by
        rcases hob3 with e | e
        · have e2 : some g1 = some g3 := e
          have e3 := Option.some.inj e2
          omega
        · omega
      have hs3 : wr.heap.size < w3.heap.size := by have := gr3.size; simp at this; omega
      clear own3 gr3 hob3 o1 o2 R1 R2 BB cx
      have o1 := R4.out.alloc (.cells #[.bool true] 4)
      have o2 := one_flag w3 true
      go_wp2_with (with_reducible refine stop_append ?_)
      unfold Stop
      refine wpList_append_lies _ rfl _ _ 23 rfl w2.heap.size 4 i0 (.bool false) 1 1 Try.underlying23 hi0 hz0 hz1 hz2 rfl (by decide) _ k (flv (List.replicate k true)) rfl o1 ⟨w3.heap.size, 0, none⟩ 1 1 (flv [true]) rfl rfl o2 (flv_one _) (by omega) (by unfold maxLen; omega) (by omega) (by simp; omega) (w3.heap.size + 1) (by simp) ?_
      intro g4 c4 w4 own4 gr4 hob4 hlt4
      have R5 : Hid (w4.ownsRow w2.heap.size 4 1 (.slice (some ⟨g4, 0, none⟩) (k + 1) c4) (k + 1) (flv (List.replicate (k + 1) true))) := by
        show World.ownsRow _ _ _ _ _ _ _
        rw [HT2.out, ← flv_snoc]; exact own4
      have R6 := Lib.hid ((R3.out.alloc (.cells #[.bool true] 4)).kept gr4 (Or.inr (by
        show some g3 ≠ some g2
        intro e; cases e; exact hne3 rfl)))
      have B4 := Lib.hid ((B3.out.alloc B3.out.size (.cells #[.bool true] 4)).grown gr4 (by simp; omega) (fun bb hbb => (R4.out.lt bb hbb).1))
      have hne4 : g3 ≠ g4 := by
        rcases hob4 with e | e
        · have e2 : some g2 = some g4 := e
          have e3 := Option.some.inj e2
          omega
        · omega
      clear own4 gr4 hob4 o1 o2 R3 R4 B3
      go_wp2
      go_roundw
      case measure => simp [RowKit.intOf]; omega
      case rel => exact ⟨k + 1, g3, c3, g4, c4, by go_num, by omega, rfl, rfl, hne4, R6, R5, B4⟩
    · have e : k = 15 := by omega
      subst e
      have hBw := B2.out.next BB.out
      have hkr := kraft_doc l p c wr HM.out.len HM.out.le (HI.out.below hBw)
      rw [Hn.out] at hkr
      have hF1 := own_lies R1.out (by rw [List.length_take, Hb.out]; rfl)
      have hF2 := own_lies R2.out (by simp)
      have e15 : b.take 15 = b := List.take_of_length_le (by rw [Hb.out]; exact Nat.le_refl _)
      rw [e15] at hF1
      have BW := Lib.hid (B0.out.trans (hBw.mono B0.out.size))
      by_cases hK : Hf.kraftN l = 32768
      · obtain ⟨i, hi⟩ := full_hit HM.out.le hK Hb.out
        have hrd := S.read l n b 15 0 i p _ c _ wr HM.out Hn.out Hb.out (by decide) hi (HI.out.below hBw) hF1
        have h1 := (hit_iff.1 hi).1
        have h15 := HM.out.le i
        rw [hK] at hkr
        generalize l.getD i 0 = y at *
        have z1 : (1 : Int) ≤ y := by omega
        have z15 : (y : Int) ≤ 15 := by omega
        clear hi hK hF1 hF2 R1 R2 BB hBw e15 hlt hk hne
        go_wp2_with fail
        go_at_call 17
        refine hkr.mono ?_
        rintro e w5 ⟨rfl, rfl⟩
        clear hkr
        go_wp2_with fail
        go_at_call 13
        refine hrd.mono ?_
        rintro e w6 ⟨b6, rfl⟩
        have B6 := Lib.hid (BW.out.next b6)
        clear b6 hrd
        go_wp2
        go_ret
        exact ⟨rfl, B6.out⟩
      · have hno := ones_none HM.out.le (by have := HM.out.kraft; omega)
        have hrd := S.read_no (nums l) n (List.replicate 15 true) 15 0 p _ c _ wr (fun l2 _ h2 at_ h3 i => by
          have e : at_ = 0 := by omega
          subst e
          rw [← nums_inj h2]; exact hno i) (by rw [nums_len]; exact Hn.out) (by omega) (by simp) (by decide) (HI.out.below hBw) hF2
        generalize Hf.kraftN l = K at *
        have hz : ((K : Int) == 32768) = false := by rw [beq_eq_false_iff_ne]; omega
        clear hno hK hF1 hF2 R1 R2 BB hBw e15 hlt hk hne
        go_wp2_with fail
        go_at_call 17
        refine hkr.mono ?_
        rintro e w5 ⟨rfl, rfl⟩
        clear hkr
        go_wp2_with fail
        go_at_call 13
        refine hrd.mono ?_
        rintro e w6 ⟨b6, rfl⟩
        have B6 := Lib.hid (BW.out.next b6)
        clear b6 hrd
        go_wp2
        go_ret
        exact ⟨rfl, B6.out⟩
set_option maxHeartbeats 2000000 in
theorem full_any (S : SpecP) (L : List Int) (n : Nat) (cs : Array Value) (b : List Bool) (p : Option Addr) (c : Nat) (w : World) (hn : L.length = n) (hnl : n ≤ 281474976710656) (hb : b.length = 15) (hcs : ∀ i, i < 15 → cs[i]? = some (.bool (b.getD i false))) (h : IntsLie w p L c) :
    Calls Try.prog 5 #[.slice p n c, .agg cs] w fun e w' => e = .returned (.bool true) ∧ Below w.heap.size w w' := by
  by_cases hm : ∃ l, MayC l ∧ L = nums l
  · obtain ⟨l, hm, rfl⟩ := hm
    exact full_in S l n cs b p c w hm (by rw [← hn, nums_len]) hb hcs h
  · obtain ⟨w0, hw0⟩ : ∃ w0, w0 = w.alloc (.cells cs 38) := ⟨_, rfl⟩
    have B0 : Hid (Below w.heap.size w w0) := by rw [hw0]; exact (Below.refl _ _).alloc (Nat.le_refl _) _
    have FA := Lib.hid (fixed_any S)
    have hc := S.codes_no L n p c w0 (fun l h1 h2 => hm ⟨l, h1, h2⟩) hn hnl (h.below B0.out)
    have FW := Lib.hid (fun (w1 : World) (h1 : Below w0.heap.size w0 w1) => show Below w.heap.size w w1 from B0.out.trans (h1.mono B0.out.size))
    clear h hm hn hb hcs hnl
    go_enter Try.func5, Try.ntmps5
    go_wp2_with fail
    rw [← hw0]
    clear hw0
    go_at_call 9
    refine hc.mono ?_
    rintro e w1 ⟨b1, q1, d1, _, rfl⟩
    have B1 := Lib.hid b1
    clear b1 hc
    go_wp2_with fail
    refine (FA.out _).mono ?_
    rintro e w2 ⟨rfl, b2⟩
    have B2 := Lib.hid (B1.out.next b2)
    clear b2
    go_wp2_with fail
    refine (FA.out _).mono ?_
    rintro e w3 ⟨rfl, b3⟩
    have B3 := Lib.hid (FW.out _ (B2.out.next b3))
    clear b3
    go_wp2
    go_ret
    exact ⟨rfl, B3.out⟩
end Go.Proofs.Ytbkehlppngejnaa
