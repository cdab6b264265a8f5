/-
  HuffFull: just symbols that are there have codes, of at most 15 bits, and they fill all there is.
-/
import Derived.Test.YtengkkbiceennaaHufFx
namespace Go.Proofs.Ytengkkbiceennaa
open Go.RowKit Go.Lib
theorem mayI_nums (L : List Int) (h : L.all mayI = true) : ∃ f : List Nat, L = nums f ∧ ∀ i, f.getD i 0 ≤ 100000 := by
  have ha := List.all_eq_true.1 h
  refine ⟨L.map Int.toNat, ?_, fun i => ?_⟩
  · unfold nums
    rw [List.map_map]
    conv => lhs; rw [← List.map_id L]
    refine List.map_congr_left fun x hx => ?_
    have := ha x hx
    simp [mayI] at this
    simp; omega
  · rw [List.getD_eq_getElem?_getD, List.getElem?_map]
    by_cases hi : i < L.length
    · rw [List.getElem?_eq_getElem hi]
      have := ha _ (List.getElem_mem hi)
      simp [mayI] at this
      simp; omega
    · rw [List.getElem?_eq_none (by omega)]; exact Nat.zero_le _
theorem lens_lie {f : List Nat} (_hn : f.length ≤ 300) {w : World} {q : Option Addr} {c i : Nat} (h : IntsLie w q (nums (Hf.lens f)) c) (hi : i < f.length) :
    ∃ blk off, q = some ⟨blk, off, none⟩ ∧ w.cell? ⟨blk, off + i, none⟩ = some (.int .i64 ((Hf.lens f).getD i 0 : Nat)) := by
  have hl : i < (nums (Hf.lens f)).length := by rw [nums_len, Hf.lens_length]; exact hi
  obtain ⟨blk, off, rfl, hc⟩ := h.at hl
  have := hc i hl
  rw [nums_get] at this
  exact ⟨blk, off, rfl, this⟩
theorem f_lie {f : List Nat} {w : World} {q : Option Addr} {c i : Nat} (h : IntsLie w q (nums f) c) (hi : i < f.length) :
    ∃ blk off, q = some ⟨blk, off, none⟩ ∧ w.cell? ⟨blk, off + i, none⟩ = some (.int .i64 (f.getD i 0 : Nat)) := by
  have hl : i < (nums f).length := by rw [nums_len]; exact hi
  obtain ⟨blk, off, rfl, hc⟩ := h.at hl
  have := hc i hl
  rw [nums_get] at this
  exact ⟨blk, off, rfl, this⟩
set_option maxRecDepth 100000 in
set_option maxHeartbeats 2000000 in
theorem full_any (S : Spec) (L : List Int) (p : Option Addr) (cap : Nat) (w : World) (h : IntsLie w p L cap) (hl : L.length ≤ 281474976710656) :
    Calls Try.prog 3 #[.slice p L.length cap] w fun e w' => e = .returned (.bool true) ∧ Below w.heap.size w w' := by
  have hmay := fun w1 hb => may_doc L p cap w1 (h.below hb) hl
  have HI := Lib.hid h
  by_cases hv : (L.all mayI && decide (L.length ≤ 300)) = true
  · rw [Bool.and_eq_true, decide_eq_true_eq] at hv
    obtain ⟨hv1, hn⟩ := hv
    simp only [hv1, decide_eq_true hn, Bool.and_self] at hmay
    obtain ⟨f, rfl, hf⟩ := mayI_nums L hv1
    rw [nums_len] at hn
    simp only [nums_len] at hmay
    rw [nums_len]
    have hlens := fun w1 hb => S.lens f p cap w1 hn hf (h.below hb)
    have hth := fun w1 hb => there_any f hn p cap w1 (h.below hb)
    have hkr := Lib.hid (fun q c w1 (hq : IntsLie w1 q (nums (Hf.lens f)) c) => by
      have := S.kraft (Hf.lens f) q c w1 (by rw [Hf.lens_length]; exact hn) (Hf.lens_le hn) hq
      rw [Hf.lens_length, Hf.kraft_lens hn] at this
      exact this)
    have hn2 := Lib.hid hn
    have zn : (f.length : Int) ≤ 300 := by omega
    clear h hv1 hl hn
    go_enter Try.func3, Try.ntmps3
    go_wp2_with (first
      | (go_at_call 8; ((with_reducible refine (fixed_any S _).mono ?_); rintro e w1 ⟨rfl, H1⟩; replace H1 := Lib.hid H1))
      | (go_at_call 9; ((with_reducible refine (hmay _ H1.out).mono ?_); rintro e w2 ⟨rfl, rfl⟩))
      | (go_at_call 10; ((with_reducible refine (hlens _ H1.out).mono ?_); rintro e w3 ⟨q, c, rfl, I3, H3⟩; replace I3 := Lib.hid I3; replace H3 := Lib.hid H3)))
    have H13 := Lib.hid (H1.out.next H3.out)
    have hcap : (f.length : Int) ≤ cap := by have := HI.out.len; rw [nums_len] at this; omega
    have hcap2 : (f.length : Int) ≤ c := by have := I3.out.len; rw [nums_len, Hf.lens_length] at this; omega
    clear hmay hlens
    go_loopw [4] (fun v wz => ∃ i : Nat, i ≤ f.length ∧ v = .int .i64 i ∧ Hid (Below w3.heap.size w3 wz)) (fun v _ => f.length - (RowKit.intOf v).toNat)
    case atStart => exact ⟨0, Nat.zero_le _, rfl, Lib.hid (Below.refl _ _)⟩
    case round =>
      obtain ⟨i, hi, rfl, HW⟩ := hrel
      by_cases hlt : i < f.length
      · have ii : (i : Int) < f.length := by omega
        obtain ⟨b1, o1, rfl, cf⟩ := f_lie (HI.out.below (H13.out.next HW.out)) hlt
        obtain ⟨b2, o2, rfl, cl⟩ := lens_lie hn2.out (I3.out.below HW.out) hlt
        have h15 := Hf.lens_le hn2.out i
        have hth2 : 1 ≤ (Hf.lens f).getD i 0 ↔ 0 < f.getD i 0 := by rw [Hf.lens_there, Hf.S0_mem]; exact ⟨fun k => k.2, fun k => ⟨hlt, k⟩⟩
        generalize (Hf.lens f).getD i 0 = x at *
        generalize f.getD i 0 = y at *
        have zx : (x : Int) ≤ 15 := by omega
        by_cases hy : 0 < y
        · have zy : (1 : Int) ≤ y := by omega
          have zx1 : (1 : Int) ≤ x := by omega
          have d1 : decide (0 < x) = true := by simp; omega
          have d2 : decide (0 < y) = true := by simp; omega
          clear hth2 h15 hy
          go_wp2_with fail
          go_quiet (fail)
          simp only [Exit.then]
          go_wp2
          go_roundw
          case rel => exact ⟨i + 1, by omega, by go_num, Lib.hid (below_drewN HW.out _)⟩
          case measure => simp [RowKit.intOf]; omega
        · have y0 : y = 0 := by omega
          have x0 : x = 0 := by omega
          subst y0 x0
          clear hth2 h15 hy zx
          go_wp2_with fail
          go_quiet (fail)
          simp only [Exit.then]
          go_wp2
          go_roundw
          case rel => exact ⟨i + 1, by omega, by go_num, Lib.hid (below_drewN HW.out _)⟩
          case measure => simp [RowKit.intOf]; omega
      · have e : i = f.length := by omega
        subst e
        have hth3 := hth wr (H13.out.next HW.out)
        have hkr3 := fun w1 hb => hkr.out q c w1 (I3.out.below hb)
        have hSl : (Hf.S0 f).length ≤ 300 := by
          have : (Hf.S0 f).length ≤ f.length := by
            unfold Hf.S0; refine Nat.le_trans (List.length_filter_le _ _) ?_; rw [List.length_range]; exact Nat.le_refl _
          have := hn2.out; omega
        generalize (Hf.S0 f).length = n at *
        have HW2 := Lib.hid (H13.out.next HW.out)
        by_cases h2 : 2 ≤ n
        · simp only [if_pos h2] at hkr3
          have zn2 : (2 : Int) ≤ n := by omega
          clear hth hkr h2 hlt hi
          go_wp2_with (first
            | (go_at_call 11; ((with_reducible refine hth3.mono ?_); rintro e w4 ⟨rfl, rfl⟩))
            | (go_at_call 12; ((with_reducible refine (hkr3 _ HW.out).mono ?_); rintro e w5 ⟨rfl, H5⟩; replace H5 := Lib.hid H5)))
          go_ret
          exact ⟨rfl, HW2.out.next H5.out⟩
        · simp only [if_neg h2] at hkr3
          have zn2 : (n : Int) ≤ 1 := by omega
          clear hth hkr h2 hlt hi
          go_wp2_with (first
            | (go_at_call 11; ((with_reducible refine hth3.mono ?_); rintro e w4 ⟨rfl, rfl⟩))
            | (go_at_call 12; ((with_reducible refine (hkr3 _ HW.out).mono ?_); rintro e w5 ⟨rfl, H5⟩; replace H5 := Lib.hid H5)))
          go_ret
          exact ⟨rfl, HW2.out.next H5.out⟩
  · replace hv : (L.all mayI && decide (L.length ≤ 300)) = false := by simpa using hv
    simp only [hv] at hmay
    clear h hl hv
    go_enter Try.func3, Try.ntmps3
    go_wp2_with (first
      | (go_at_call 9; ((with_reducible refine (hmay _ H1.out).mono ?_); rintro e w2 ⟨rfl, rfl⟩; have G1 := Lib.hid H1.out; clear H1))
      | (go_at_call 8; ((with_reducible refine (fixed_any S _).mono ?_); rintro e w1 ⟨rfl, H1⟩; replace H1 := Lib.hid H1)))
    go_ret
    exact ⟨rfl, G1.out.next H1.out⟩
end Go.Proofs.Ytengkkbiceennaa

