/-
  HuffSteps: once more often does not cost less.
-/
import Derived.Test.YtengkkbiceennaaHufEv
namespace Go.Proofs.Ytengkkbiceennaa
open Go.RowKit Go.Lib
theorem lie_cells {f : List Nat} {w : World} {p : Option Addr} {c : Nat} (h : IntsLie w p (nums f) c) (h0 : 0 < f.length) : ∃ blk off, p = some ⟨blk, off, none⟩ ∧ ∀ w1, Below w.heap.size w w1 → ∀ j u, (ints f)[j]? = some u → w1.cell? ((⟨blk, off, none⟩ : Addr).add j) = some u := by
  obtain ⟨blk, off, rfl, _⟩ := h.at (i := 0) (by rw [nums_len]; exact h0)
  refine ⟨blk, off, rfl, fun w1 hb j u hj => ?_⟩
  have hjl : j < f.length := by
    have := (List.getElem?_eq_some_iff.1 hj).1
    rw [ints_len] at this; omega
  obtain ⟨b2, o2, e2, hc⟩ := (h.below hb).at (i := j) (by rw [nums_len]; exact hjl)
  cases e2
  rw [Addr.add_lit, hc j (by rw [nums_len]; exact hjl), nums_at]
  unfold ints at hj
  rw [List.getElem?_map, List.getElem?_eq_getElem hjl] at hj
  exact hj
theorem set_ints (f : List Nat) (i : Nat) : (ints f).set i (.int .i64 (((f.getD i 0 + 1 : Nat)) : Int)) = ints (f.set i (f.getD i 0 + 1)) := by
  unfold ints; rw [List.map_set]
theorem set_le {f : List Nat} (hf : ∀ i, f.getD i 0 ≤ 100000) {i : Nat} (hi : f.getD i 0 < 100000) (j : Nat) : (f.set i (f.getD i 0 + 1)).getD j 0 ≤ 100000 := by
  rw [List.getD_eq_getElem?_getD, List.getElem?_set]
  split
  · split
    · show f.getD i 0 + 1 ≤ _; omega
    · exact Nat.zero_le _
  · have := hf j; rw [List.getD_eq_getElem?_getD] at this; exact this
set_option maxRecDepth 100000 in
set_option maxHeartbeats 4000000 in
theorem steps_any (S : Spec) (L : List Int) (a : Int) (p : Option Addr) (cap : Nat) (w : World) (h : IntsLie w p L cap) (hl : L.length ≤ 281474976710656) :
    Calls Try.prog 7 #[.slice p L.length cap, .int .i64 a] w fun e w' => e = .returned (.bool true) ∧ Below w.heap.size w w' := by
  have hmay := fun w1 hb => may_doc L p cap w1 (h.below hb) hl
  have HI := Lib.hid h
  by_cases hv : (L.all mayI && decide (L.length ≤ 300)) = true
  · rw [Bool.and_eq_true, decide_eq_true_eq] at hv
    obtain ⟨hv1, hn⟩ := hv
    simp only [hv1, decide_eq_true hn, Bool.and_self] at hmay
    obtain ⟨f, rfl, hf⟩ := mayI_nums L hv1
    rw [nums_len] at hn
    simp only [nums_len] at hmay
    rw [nums_len]
    have hn2 := Lib.hid hn
    have hf2 := Lib.hid hf
    have zn : (f.length : Int) ≤ 300 := by omega
    have hcap : (f.length : Int) ≤ cap := by have := h.len; rw [nums_len] at this; omega
    clear hv1 hl hn hf
    by_cases ha0 : a < 0
    · clear h
      go_enter Try.func7, Try.ntmps7
      go_wp2_with (first
        | (go_at_call 9; ((with_reducible refine (hmay _ H1.out).mono ?_); rintro e w2 ⟨rfl, rfl⟩; have G1 := Lib.hid H1.out; clear H1))
        | (go_at_call 8; ((with_reducible refine (fixed_any S _).mono ?_); rintro e w1 ⟨rfl, H1⟩; replace H1 := Lib.hid H1)))
      go_ret
      exact ⟨rfl, G1.out.next H1.out⟩
    · obtain ⟨i, rfl⟩ : ∃ i : Nat, a = i := ⟨a.toNat, by omega⟩
      clear ha0
      by_cases hi : i < f.length
      · obtain ⟨blk, off, rfl, hc⟩ := lie_cells h (by omega)
        obtain ⟨b2, o2, e2, c1⟩ := f_lie h hi
        cases e2
        have cx : Hid (∀ w1, Below w.heap.size w w1 → w1.cell? ⟨blk, off + i, none⟩ = some (.int .i64 (f.getD i 0 : Nat))) := Lib.hid fun w1 hb => by
          obtain ⟨b3, o3, e3, c3⟩ := f_lie (h.below hb) hi
          cases e3; exact c3
        clear h c1
        have zi : (i : Int) < f.length := by omega
        have hc2 := Lib.hid hc
        clear hc
        have hi2 := Lib.hid hi
        by_cases h9 : f.getD i 0 = 100000
        · have cx2 : Hid (∀ w1, Below w.heap.size w w1 → w1.cell? ⟨blk, off + i, none⟩ = some (.int .i64 100000)) := Lib.hid fun w1 hb => by
            have := cx.out w1 hb; rw [h9] at this; exact this
          clear hi h9 cx
          go_enter Try.func7, Try.ntmps7
          go_wp2_with (first
            | (go_at_call 9; ((with_reducible refine (hmay _ H1.out).mono ?_); rintro e w2 ⟨rfl, rfl⟩; have G1 := Lib.hid H1.out; have cc := cx2.out _ H1.out; clear H1))
            | (go_at_call 8; ((with_reducible refine (fixed_any S _).mono ?_); rintro e w1 ⟨rfl, H1⟩; replace H1 := Lib.hid H1)))
          go_ret
          exact ⟨rfl, G1.out.next H1.out⟩
        · have hx9 : f.getD i 0 < 100000 := by have := hf2.out i; omega
          obtain ⟨i0, hi0, hz0, hz1, hz2⟩ := info_parts info3
          have hset := Lib.hid (set_ints f i)
          have hg9 := Lib.hid (set_le hf2.out hx9)
          have hgl : Hid ((f.set i (f.getD i 0 + 1)).length = f.length) := by show _ = _; rw [List.length_set]
          have hcost := Lib.hid (fun h1 h2 => Hf.steps_cost (f := f) (i := i) h1 h2)
          obtain ⟨x, hx⟩ : ∃ x, f.getD i 0 = x := ⟨_, rfl⟩
          have hx1 : Hid (∀ h : i < f.length, f[i] = x) := Lib.hid fun h => by rw [← hx, List.getD_eq_getElem?_getD, List.getElem?_eq_getElem h]; rfl
          simp only [hx] at cx h9 hx9 hset hg9 hgl hcost
          have zx9 : (x : Int) ≤ 99999 := by omega
          have zx3 : ((x : Int) == 100000) = false := by simp; omega
          clear hx h9 hx9 hi
          generalize f.set i (x + 1) = g at *
          have honce := Lib.hid (fun (D : List Nat) hD hD2 p c w1 hq => once_any D hD hD2 p c w1 hq)
          have hdeep := Lib.hid (fun (D : List Nat) hD q c w1 hq => deep_any D hD (q := q) (c := c) w1 hq)
          go_enter Try.func7, Try.ntmps7
          go_wp2_with (first
            | (go_at_call 9; ((with_reducible refine (hmay _ H1.out).mono ?_); rintro e w2 ⟨rfl, rfl⟩; have cc := cx.out _ H1.out))
            | (go_at_call 8; ((with_reducible refine (fixed_any S _).mono ?_); rintro e w1 ⟨rfl, H1⟩; replace H1 := Lib.hid H1))
            | (with_reducible refine stop_append ?_))
          unfold Stop
          have B2 := Lib.hid (belowNew H1.out (.cells #[] 3))
          have R0 : Hid ((w2.alloc (.cells #[] 3)).ownsRow w.heap.size 3 1 (.slice (some ⟨w2.heap.size, 0, none⟩) 0 0) 0 []) := Lib.hid (World.ownsRow_made w2 #[] 0 H1.out.size (by decide) rfl)
          refine wpList_append_own _ rfl _ _ 22 rfl w.heap.size 3 i0 (.int .i64 0) 1 8 Try.underlying22 hi0 hz0 hz1 hz2 rfl (by decide) _ 0 [] rfl R0.out ⟨blk, off, Option.none⟩ f.length cap (ints f) rfl (ints_len _) (hc2.out _ B2.out) (ints_one _) (by unfold maxLen; omega) (by omega) B2.out.size ?_
          intro v3 w3 own3 gr3 nn3
          rw [Nat.zero_add, List.nil_append] at own3
          have B3 := Lib.hid (B2.out.grown gr3 B2.out.size (fun b hb => (R0.out.lt b hb).1))
          obtain ⟨g3, c3, rfl, h31, h32, _, _⟩ := row_form own3 (by have := hi2.out; omega)
          have c4 := ints_get own3 hi2.out
          rw [hx1.out hi2.out] at c4
          have fz := own3.frozenAt i
          obtain ⟨st1, st2⟩ := own3.stored i (.int .i64 ((x + 1 : Nat) : Int))
          rw [hset.out] at st1
          rw [show ((x + 1 : Nat) : Int) = (x : Int) + 1 by omega] at st1 st2
          have B4 := Lib.hid (B3.out.grown st2 B3.out.size (fun b hb => by cases hb; exact (own3.lt g3 rfl).1))
          obtain ⟨q4, d4, e4, I4⟩ := row_lie (by rw [hgl.out]) st1
          cases e4
          replace I4 := Lib.hid I4
          have z31 : (f.length : Int) ≤ c3 := by omega
          clear own3 gr3 nn3 st1 st2 h31 h32 R0 B2 cx cc H1 hmay hx1 hset
          have g1 := fun w5 hb => once_any f hn2.out hf2.out (some ⟨blk, off, none⟩) cap w5 (HI.out.below hb)
          have g2 := fun q5 c5 w5 hq => deep_any f hn2.out (q := q5) (c := c5) w5 hq
          have g3' := fun w5 hb => once_any g (by rw [hgl.out]; exact hn2.out) hg9.out (some ⟨g3, 0, none⟩) c3 w5 (I4.out.below hb)
          have g4 := fun q5 c5 w5 hq => deep_any g (by rw [hgl.out]; exact hn2.out) (q := q5) (c := c5) w5 hq
          have g5 := fun w5 hb => S.lens f (some ⟨blk, off, none⟩) cap w5 hn2.out hf2.out (HI.out.below hb)
          have g6 := fun q d w5 hb hq => S.cost f (Hf.lens f) (some ⟨blk, off, none⟩) q cap d w5 (Hf.lens_length f).symm hn2.out hf2.out (Hf.lens_le hn2.out) (HI.out.below hb) hq
          have g7 := fun w5 hb => S.lens g (some ⟨g3, 0, none⟩) c3 w5 (by rw [hgl.out]; exact hn2.out) hg9.out (I4.out.below hb)
          have g8 := fun q d w5 hb hq => S.cost g (Hf.lens g) (some ⟨g3, 0, none⟩) q c3 d w5 (Hf.lens_length g).symm (by rw [hgl.out]; exact hn2.out) hg9.out (Hf.lens_le (by rw [hgl.out]; exact hn2.out)) (I4.out.below hb) hq
          rw [hgl.out] at g3' g4 g7 g8
          have hco := hcost.out
          have b1 := Hf.cost_le (f := f) (l := Hf.lens f) hn2.out hf2.out (Hf.lens_le hn2.out)
          have b2 := Hf.cost_le (f := g) (l := Hf.lens g) (by rw [hgl.out]; exact hn2.out) hg9.out (Hf.lens_le (by rw [hgl.out]; exact hn2.out))
          generalize Hf.costN f (Hf.lens f) = A at *
          generalize Hf.costN g (Hf.lens g) = B at *
          have z1 : (A : Int) ≤ 450000000 := by omega
          have z2 : (B : Int) ≤ 450000000 := by omega
          clear b1 b2 honce hdeep hc2 hcost
          cases hd1 : Hf.deep f with
          | true =>
            simp only [hd1] at g2
            clear hd1 g3' g4 g5 g6 g7 g8 hco
            go_wp2_with (first
              | (go_at_call 14; ((with_reducible refine (g1 _ B4.out).mono ?_); rintro e w5 ⟨q5, c5, rfl, I5, H5⟩; replace I5 := Lib.hid I5; have G5 := Lib.hid (B4.out.next H5); clear H5))
              | (go_at_call 13; ((with_reducible refine (g2 _ _ _ I5.out).mono ?_); rintro e w6 ⟨rfl, rfl⟩)))
            go_ret
            exact ⟨rfl, G5.out⟩
          | false =>
            simp only [hd1] at g2
            cases hd2 : Hf.deep g with
            | true =>
              simp only [hd2] at g4
              clear hd1 hd2 g5 g6 g7 g8 hco
              go_wp2_with (first
                | (go_at_call 14; ((with_reducible refine (g1 _ B4.out).mono ?_); rintro e w5 ⟨q5, c5, rfl, I5, H5⟩; replace I5 := Lib.hid I5; have G5 := Lib.hid H5; clear H5))
                | (go_at_call 13; ((with_reducible refine (g2 _ _ _ I5.out).mono ?_); rintro e w6 ⟨rfl, rfl⟩; clear I5))
                | (go_at_call 14; ((with_reducible refine (g3' _ G5.out).mono ?_); rintro e w7 ⟨q7, c7, rfl, I7, H7⟩; replace I7 := Lib.hid I7; have G7 := Lib.hid ((B4.out.next G5.out).next H7); clear H7))
                | (go_at_call 13; ((with_reducible refine (g4 _ _ _ I7.out).mono ?_); rintro e w8 ⟨rfl, rfl⟩)))
              go_ret
              exact ⟨rfl, G7.out⟩
            | false =>
              simp only [hd2] at g4
              have zAB : (A : Int) ≤ B := by have := hco hd1 hd2; omega
              clear hd1 hd2 hco
              go_wp2_with (first
                | (go_at_call 14; ((with_reducible refine (g1 _ B4.out).mono ?_); rintro e w5 ⟨q5, c5, rfl, I5, H5⟩; replace I5 := Lib.hid I5; have G5 := Lib.hid H5; clear H5))
                | (go_at_call 13; ((with_reducible refine (g2 _ _ _ I5.out).mono ?_); rintro e w6 ⟨rfl, rfl⟩; clear I5))
                | (go_at_call 14; ((with_reducible refine (g3' _ G5.out).mono ?_); rintro e w7 ⟨q7, c7, rfl, I7, H7⟩; replace I7 := Lib.hid I7; have G7 := Lib.hid (G5.out.next H7); clear H7))
                | (go_at_call 13; ((with_reducible refine (g4 _ _ _ I7.out).mono ?_); rintro e w8 ⟨rfl, rfl⟩))
                | (go_at_call 10; ((with_reducible refine (g5 _ (B4.out.next G7.out)).mono ?_); rintro e w9 ⟨q9, c9, rfl, I9, H9⟩; replace I9 := Lib.hid I9; have G9 := Lib.hid (G7.out.next H9); clear H9))
                | (go_at_call 15; ((with_reducible refine (g6 _ _ _ (B4.out.next G9.out) I9.out).mono ?_); rintro e w10 ⟨rfl, H10⟩; have G10 := Lib.hid (G9.out.next H10); clear H10))
                | (go_at_call 10; ((with_reducible refine (g7 _ G10.out).mono ?_); rintro e w11 ⟨q11, c11, rfl, I11, H11⟩; replace I11 := Lib.hid I11; have G11 := Lib.hid (G10.out.next H11); clear H11))
                | (go_at_call 15; ((with_reducible refine (g8 _ _ _ G11.out I11.out).mono ?_); rintro e w12 ⟨rfl, H12⟩; have G12 := Lib.hid (G11.out.next H12); clear H12)))
              go_ret
              exact ⟨rfl, B4.out.next G12.out⟩
      · have zi : (f.length : Int) ≤ i := by omega
        clear h hi
        go_enter Try.func7, Try.ntmps7
        go_wp2_with (first
          | (go_at_call 9; ((with_reducible refine (hmay _ H1.out).mono ?_); rintro e w2 ⟨rfl, rfl⟩; have G1 := Lib.hid H1.out; clear H1))
          | (go_at_call 8; ((with_reducible refine (fixed_any S _).mono ?_); rintro e w1 ⟨rfl, H1⟩; replace H1 := Lib.hid H1)))
        go_ret
        exact ⟨rfl, G1.out.next H1.out⟩
  · replace hv : (L.all mayI && decide (L.length ≤ 300)) = false := by simpa using hv
    simp only [hv] at hmay
    clear h hl hv
    go_enter Try.func7, Try.ntmps7
    go_wp2_with (first
      | (go_at_call 9; ((with_reducible refine (hmay _ H1.out).mono ?_); rintro e w2 ⟨rfl, rfl⟩; have G1 := Lib.hid H1.out; clear H1))
      | (go_at_call 8; ((with_reducible refine (fixed_any S _).mono ?_); rintro e w1 ⟨rfl, H1⟩; replace H1 := Lib.hid H1)))
    go_ret
    exact ⟨rfl, G1.out.next H1.out⟩
end Go.Proofs.Ytengkkbiceennaa

