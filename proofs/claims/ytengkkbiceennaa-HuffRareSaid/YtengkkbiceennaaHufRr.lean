/-
  HuffRare: what is there more often has no longer code; what is not there changes nothing.
-/
import Derived.Test.YtengkkbiceennaaHufSt
namespace Go.Proofs.Ytengkkbiceennaa
open Go.RowKit Go.Lib
section
variable {P : Program} {ops : Array Oper} {Q : Exit → Act → World → Prop}
/-- one operation alone may come up -/
theorem head_step {fuel i : Nat} {o : Oper} {listed : Array Bool} {a : Act} {w : World} (hr : Region.ready .any ops listed = [i]) (ho : ops[i]? = some o)
    (h : ∀ K : Act → World → Prop, (∀ a w, wpAny P .any ops Q fuel (listed.setIfInBounds i true) a w → K a w) → if Region.wanted o (yielded ops a.tmps) = true then Oper.wp P o a w K Q else K (a.put o.dst undef) w) : wpAny P .any ops Q (fuel + 1) listed a w :=
  wpAny_ready hr (by simp) (AllReady.cons ho h AllReady.nil)
/-- from here on only reads -/
theorem tail_quiet (k : Nat) {fuel : Nat} {listed : Array Bool} {a : Act} {w : World} (hs : Region.noSelect ops = true) (hf : (ops.toList.drop k).length = fuel) (hB : Region.lexFrom .any ops fuel k listed = true)
    (h : wpQuiet P ops (fun w' => ∃ n, w' = w.drewN n) (fun a' => ∀ w', (∃ n, w' = w.drewN n) → Q .normal a' w') (ops.toList.drop k) a) : wpAny P .any ops Q fuel listed a w := by
  subst hf
  refine wpAny_of_quiet (C := fun w' => ∃ n, w' = w.drewN n) (Q := fun a' => ∀ w', (∃ n, w' = w.drewN n) → Q .normal a' w') (fun _ w' hw' h => h w' hw') _ _ _ _ ⟨0, rfl⟩ ?_
  exact wpAnyQ_lex hs _ k listed a (fun j => by rw [List.getElem?_drop, Array.getElem?_toList]) hB h
end
theorem lie_part {l : List Nat} {w : World} {q : Option Addr} {c : Nat} (h : IntsLie w q (nums (l ++ [0])) c) : IntsLie w q (nums l) c := by
  have hlen := h.len
  rw [nums_len, List.length_append] at hlen
  refine ⟨by rw [nums_len]; omega, h.cap, ?_⟩
  by_cases h0 : l.length = 0
  · exact .inl (List.length_eq_zero_iff.1 (by rw [nums_len]; exact h0))
  · obtain ⟨blk, off, e, hc⟩ := h.at (i := 0) (by rw [nums_len, List.length_append]; omega)
    refine .inr ⟨blk, off, e, fun i hi => ?_⟩
    have hi' : i < l.length := by rw [nums_len] at hi; exact hi
    rw [hc i (by rw [nums_len, List.length_append]; omega), nums_at, nums_at, List.getElem_append_left hi']
set_option maxRecDepth 100000 in
set_option maxHeartbeats 4000000 in
theorem rare_any (S : Spec) (L : List Int) (a b : Int) (p : Option Addr) (cap : Nat) (w : World) (h : IntsLie w p L cap) (hl : L.length ≤ 281474976710656) :
    Calls Try.prog 5 #[.slice p L.length cap, .int .i64 a, .int .i64 b] w fun e w' => e = .returned (.bool true) ∧ Below w.heap.size w w' := by
  have hmay := fun w1 hb => may_doc L p cap w1 (h.below hb) hl
  have HI := Lib.hid h
  by_cases hv : (L.all mayI && decide (L.length ≤ 300)) = true
  · rw [Bool.and_eq_true, decide_eq_true_eq] at hv
    obtain ⟨hv1, hn⟩ := hv
    simp only [hv1, decide_eq_true hn, Bool.and_self] at hmay
    obtain ⟨f, rfl, hf⟩ := mayI_nums L hv1
    rw [nums_len] at hn
    simp only [nums_len] at hmay
    rw [nums_len]
    have hn2 := Lib.hid hn
    have hf2 := Lib.hid hf
    have zn : (f.length : Int) ≤ 300 := by omega
    have hcap : (f.length : Int) ≤ cap := by have := h.len; rw [nums_len] at this; omega
    clear hv1 hl hn hf
    by_cases hgood : f.length ≤ 299 ∧ 0 ≤ a ∧ 0 ≤ b ∧ a < f.length ∧ b < f.length
    · obtain ⟨h299, ha0, hb0, ha, hb⟩ := hgood
      obtain ⟨i, rfl⟩ : ∃ i : Nat, a = i := ⟨a.toNat, by omega⟩
      obtain ⟨j, rfl⟩ : ∃ j : Nat, b = j := ⟨b.toNat, by omega⟩
      have hij : Hid (i < f.length ∧ j < f.length ∧ f.length ≤ 299) := Lib.hid (by omega)
      obtain ⟨blk, off, rfl, hc⟩ := lie_cells h (by omega)
      have hc2 := Lib.hid hc
      have z299 : (f.length : Int) ≤ 299 := by omega
      obtain ⟨i0, hi0, hz0, hz1, hz2⟩ := info_parts info3
      have hlens := fun w1 hb => S.lens f (some ⟨blk, off, none⟩) cap w1 hn2.out hf2.out (HI.out.below hb)
      have hgr : Hid (ints f ++ ints [0] = ints (f ++ [0])) := by show _ = _; unfold ints; rw [List.map_append]
      clear h hc h299 ha0 hb0
      go_enter Try.func5, Try.ntmps5
      go_wp2_with (first
        | (go_at_call 9; ((with_reducible refine (hmay _ H1.out).mono ?_); rintro e w2 ⟨rfl, rfl⟩))
        | (go_at_call 8; ((with_reducible refine (fixed_any S _).mono ?_); rintro e w1 ⟨rfl, H1⟩; replace H1 := Lib.hid H1))
        | (go_at_call 10; ((with_reducible refine (hlens _ H1.out).mono ?_); rintro e w3 ⟨q3, c3, rfl, I3, H3⟩; replace I3 := Lib.hid I3; have G3 := Lib.hid (H1.out.next H3)))
        | (with_reducible refine stop_append ?_))
      unfold Stop
      have B2 : Hid (Below w3.heap.size w3 (w3.alloc (.cells #[] 3))) := Lib.hid ((Below.refl w3.heap.size w3).alloc (Nat.le_refl _) _)
      have R0 : Hid ((w3.alloc (.cells #[] 3)).ownsRow w3.heap.size 3 1 (.slice (some ⟨w3.heap.size, 0, none⟩) 0 0) 0 []) := Lib.hid (World.ownsRow_made w3 #[] 0 (Nat.le_refl _) (by decide) rfl)
      refine wpList_append_own _ rfl _ _ 22 rfl w3.heap.size 3 i0 (.int .i64 0) 1 8 Try.underlying22 hi0 hz0 hz1 hz2 rfl (by decide) _ 0 [] rfl R0.out ⟨blk, off, Option.none⟩ f.length cap (ints f) rfl (ints_len _) (hc2.out _ (G3.out.next B2.out)) (ints_one _) (by unfold maxLen; omega) (by omega) B2.out.size ?_
      intro v5 w5 own5 gr5 nn5
      rw [Nat.zero_add, List.nil_append] at own5
      have B5 := Lib.hid (B2.out.grown gr5 B2.out.size (fun b hb => (R0.out.lt b hb).1))
      have B6 := Lib.hid (belowNew B5.out (.cells #[.int .i64 0] 3))
      have R6 := Lib.hid (own5.alloc (.cells #[.int .i64 0] 3))
      clear own5 gr5 nn5 R0 B2 H3 H1 hmay hlens
      go_wp2_with (with_reducible refine stop_append ?_)
      unfold Stop
      refine wpList_append_own _ rfl _ _ 22 rfl w3.heap.size 3 i0 (.int .i64 0) 1 8 Try.underlying22 hi0 hz0 hz1 hz2 rfl (by decide) v5 f.length (ints f) rfl R6.out ⟨w5.heap.size, 0, Option.none⟩ 1 1 (ints [0]) rfl rfl (one_int w5 0) (ints_one _) (by unfold maxLen; omega) (by omega) B6.out.size ?_
      intro v7 w7 own7 gr7 nn7
      rw [hgr.out] at own7
      have B7 := Lib.hid (B6.out.grown gr7 B6.out.size (fun b hb => (R6.out.lt b hb).1))
      obtain ⟨q7, c7, rfl, I7⟩ := row_lie (by simp) own7
      have hm7 : ∀ i, (f ++ [0]).getD i 0 ≤ 100000 := fun i => by rw [(Hf.S0_more f).2]; exact hf2.out i
      have hle7 := S.lens (f ++ [0]) q7 c7 w7 (by rw [List.length_append, List.length_singleton]; omega) hm7 I7
      rw [Hf.lens_more, List.length_append, List.length_singleton] at hle7
      have hin := fun q8 c8 w8 (hb8 : Below w3.heap.size w3 w8) (h8 : IntsLie w8 q8 (nums (Hf.lens f)) c8) => ints_doc (nums (Hf.lens f)) (nums (Hf.lens f)) q8 q3 c8 c3 w8 h8 (I3.out.below hb8) (by rw [nums_len, Hf.lens_length]; omega) (by rw [nums_len, Hf.lens_length]; omega)
      simp only [nums_len, Hf.lens_length, decide_true] at hin
      clear own7 gr7 nn7 B5 B6 R6 I7 hm7
      go_wp2_with (first
        | (go_at_call 10; ((with_reducible refine hle7.mono ?_); rintro e w8 ⟨q8, c8, rfl, I8, H8⟩; have hcap8 : (f.length : Int) + 1 ≤ c8 := (by have := I8.len; rw [nums_len, List.length_append, Hf.lens_length] at this; simp at this; omega); replace I8 := Lib.hid (lie_part I8); have B8 := Lib.hid (B7.out.next H8); clear H8))
        | (go_at_call 16; ((with_reducible refine (hin _ _ _ B8.out I8.out).mono ?_); rintro e w9 ⟨rfl, H9⟩; have B9 := Lib.hid (B8.out.next H9); clear H9)))
      have BW9 := Lib.hid (G3.out.next B9.out)
      have g1 := fun w10 hb => once_any f hn2.out hf2.out (some ⟨blk, off, none⟩) cap w10 (HI.out.below hb)
      have g2 := fun q5 c5 w10 hq => deep_any f hn2.out (q := q5) (c := c5) w10 hq
      have D9 : Hid (Below w9.heap.size w9 w9.drew) := Lib.hid (Below.refl _ _).drew
      cases hd : Hf.deep f with
      | true =>
        simp only [hd] at g2
        clear hle7 hin B7 B8 I8
        refine wp_region_any (by kernel_rfl) ?_
        refine head_step (i := 0) (by kernel_rfl) rfl (fun K hK => ?_)
        go_simp
        refine hK _ _ ?_
        clear hK K
        refine head_step (i := 1) (by kernel_rfl) rfl (fun K hK => ?_)
        go_simp
        refine (g1 w9.drew (BW9.out.next D9.out)).mono ?_
        rintro e w10 ⟨q10, c10, rfl, I10, H10⟩
        replace I10 := Lib.hid I10
        have E10 := Lib.hid (D9.out.next H10)
        clear H10
        refine hK _ _ ?_
        clear hK K
        refine head_step (i := 2) (by kernel_rfl) rfl (fun K hK => ?_)
        go_simp
        refine (g2 _ _ _ I10.out).mono ?_
        rintro e w11 ⟨rfl, rfl⟩
        refine hK _ _ ?_
        clear hK K
        refine head_step (i := 3) (by kernel_rfl) rfl (fun K hK => ?_)
        go_simp
        refine hK _ _ ?_
        clear hK K
        clear g1 g2
        refine tail_quiet 4 (by kernel_rfl) rfl (by kernel_rfl) ?_
        simp only [List.drop_succ_cons, List.drop_zero]
        repeat (first | go_big_quiet_step (fail) | quiet_step (fail))
        refine wpQuiet_nil ?_
        rintro _ ⟨n, rfl⟩
        simp only [Exit.then]
        go_wp2
        go_ret
        exact ⟨rfl, below_drewN (BW9.out.next E10.out) _⟩
      | false =>
        simp only [hd] at g2
        have cA : Hid (∀ w1, Below w.heap.size w w1 → w1.cell? ⟨blk, off + i, none⟩ = some (.int .i64 (f.getD i 0 : Nat))) := Lib.hid fun w1 hb => by
          obtain ⟨b3, o3, e3, c3⟩ := f_lie (HI.out.below hb) hij.out.1
          cases e3; exact c3
        have cB : Hid (∀ w1, Below w.heap.size w w1 → w1.cell? ⟨blk, off + j, none⟩ = some (.int .i64 (f.getD j 0 : Nat))) := Lib.hid fun w1 hb => by
          obtain ⟨b3, o3, e3, c3⟩ := f_lie (HI.out.below hb) hij.out.2.1
          cases e3; exact c3
        obtain ⟨b3, o3, rfl, _⟩ := lens_lie hn2.out I3.out hij.out.1
        have cC : Hid (∀ w1, Below w3.heap.size w3 w1 → w1.cell? ⟨b3, o3 + i, none⟩ = some (.int .i64 ((Hf.lens f).getD i 0 : Nat))) := Lib.hid fun w1 hb => by
          obtain ⟨b4, o4, e4, c4⟩ := lens_lie hn2.out (I3.out.below hb) hij.out.1
          cases e4; exact c4
        have cD : Hid (∀ w1, Below w3.heap.size w3 w1 → w1.cell? ⟨b3, o3 + j, none⟩ = some (.int .i64 ((Hf.lens f).getD j 0 : Nat))) := Lib.hid fun w1 hb => by
          obtain ⟨b4, o4, e4, c4⟩ := lens_lie hn2.out (I3.out.below hb) hij.out.2.1
          cases e4; exact c4
        have hrare := fun h1 h2 => Hf.rare_lens hd hij.out.1 hij.out.2.1 h1 h2
        have zc3 : (f.length : Int) ≤ c3 := by have := I3.out.len; rw [nums_len, Hf.lens_length] at this; omega
        clear hle7 hin B7 B8 I8 hd
        generalize f.getD i 0 = x at *
        generalize f.getD j 0 = y at *
        generalize (Hf.lens f).getD i 0 = u at *
        generalize (Hf.lens f).getD j 0 = v at *
        by_cases hxy : x ≤ y
        · have zxy : (x : Int) ≤ y := by omega
          clear hrare hxy
          refine wp_region_any (by kernel_rfl) ?_
          refine head_step (i := 0) (by kernel_rfl) rfl (fun K hK => ?_)
          go_simp
          refine hK _ _ ?_
          clear hK K
          refine head_step (i := 1) (by kernel_rfl) rfl (fun K hK => ?_)
          go_simp
          refine (g1 w9.drew (BW9.out.next D9.out)).mono ?_
          rintro e w10 ⟨q10, c10, rfl, I10, H10⟩
          replace I10 := Lib.hid I10
          have E10 := Lib.hid (D9.out.next H10)
          clear H10
          refine hK _ _ ?_
          clear hK K
          refine head_step (i := 2) (by kernel_rfl) rfl (fun K hK => ?_)
          go_simp
          refine (g2 _ _ _ I10.out).mono ?_
          rintro e w11 ⟨rfl, rfl⟩
          refine hK _ _ ?_
          clear hK K
          refine head_step (i := 3) (by kernel_rfl) rfl (fun K hK => ?_)
          go_simp
          refine hK _ _ ?_
          clear hK K
          clear g1 g2
          have k1 := cA.out _ (BW9.out.next E10.out)
          have k2 := cB.out _ (BW9.out.next E10.out)
          have k3 := cC.out _ (B9.out.next E10.out)
          have k4 := cD.out _ (B9.out.next E10.out)
          refine tail_quiet 4 (by kernel_rfl) rfl (by kernel_rfl) ?_
          simp only [List.drop_succ_cons, List.drop_zero]
          repeat (first | go_big_quiet_step (fail) | quiet_step (fail))
          refine wpQuiet_nil ?_
          rintro _ ⟨n, rfl⟩
          simp only [Exit.then]
          go_wp2
          go_ret
          exact ⟨rfl, below_drewN (BW9.out.next E10.out) _⟩
        · by_cases hy : y = 0
          · subst hy
            have zxy : decide (x ≤ 0) = false := by simp; omega
            have zxy2 : (1 : Int) ≤ x := by omega
            have zxy3 : decide (x = 0) = false := by simp; omega
            have zxy4 : decide ((x : Int) ≤ 0) = false := by simp; omega
            clear hrare hxy
            refine wp_region_any (by kernel_rfl) ?_
            refine head_step (i := 0) (by kernel_rfl) rfl (fun K hK => ?_)
            go_simp
            refine hK _ _ ?_
            clear hK K
            refine head_step (i := 1) (by kernel_rfl) rfl (fun K hK => ?_)
            go_simp
            refine (g1 w9.drew (BW9.out.next D9.out)).mono ?_
            rintro e w10 ⟨q10, c10, rfl, I10, H10⟩
            replace I10 := Lib.hid I10
            have E10 := Lib.hid (D9.out.next H10)
            clear H10
            refine hK _ _ ?_
            clear hK K
            refine head_step (i := 2) (by kernel_rfl) rfl (fun K hK => ?_)
            go_simp
            refine (g2 _ _ _ I10.out).mono ?_
            rintro e w11 ⟨rfl, rfl⟩
            refine hK _ _ ?_
            clear hK K
            refine head_step (i := 3) (by kernel_rfl) rfl (fun K hK => ?_)
            go_simp
            refine hK _ _ ?_
            clear hK K
            clear g1 g2
            have k1 := cA.out _ (BW9.out.next E10.out)
            have k2 := cB.out _ (BW9.out.next E10.out)
            have k3 := cC.out _ (B9.out.next E10.out)
            have k4 := cD.out _ (B9.out.next E10.out)
            refine tail_quiet 4 (by kernel_rfl) rfl (by kernel_rfl) ?_
            simp only [List.drop_succ_cons, List.drop_zero]
            repeat (first | go_big_quiet_step (fail) | quiet_step (fail))
            refine wpQuiet_nil ?_
            rintro _ ⟨n, rfl⟩
            simp only [Exit.then]
            go_wp2
            go_ret
            exact ⟨rfl, below_drewN (BW9.out.next E10.out) _⟩
          · have huv : (u : Int) ≤ v := by have := hrare (by omega) (by omega); omega
            have zxy : decide (x ≤ y) = false := by simp; omega
            have zy0 : ((y : Int) == 0) = false := by simp; omega
            have zy1 : decide (y = 0) = false := by simp; omega
            clear hrare hxy hy
            refine wp_region_any (by kernel_rfl) ?_
            refine head_step (i := 0) (by kernel_rfl) rfl (fun K hK => ?_)
            go_simp
            refine hK _ _ ?_
            clear hK K
            refine head_step (i := 1) (by kernel_rfl) rfl (fun K hK => ?_)
            go_simp
            refine (g1 w9.drew (BW9.out.next D9.out)).mono ?_
            rintro e w10 ⟨q10, c10, rfl, I10, H10⟩
            replace I10 := Lib.hid I10
            have E10 := Lib.hid (D9.out.next H10)
            clear H10
            refine hK _ _ ?_
            clear hK K
            refine head_step (i := 2) (by kernel_rfl) rfl (fun K hK => ?_)
            go_simp
            refine (g2 _ _ _ I10.out).mono ?_
            rintro e w11 ⟨rfl, rfl⟩
            refine hK _ _ ?_
            clear hK K
            refine head_step (i := 3) (by kernel_rfl) rfl (fun K hK => ?_)
            go_simp
            refine hK _ _ ?_
            clear hK K
            clear g1 g2
            have k1 := cA.out _ (BW9.out.next E10.out)
            have k2 := cB.out _ (BW9.out.next E10.out)
            have k3 := cC.out _ (B9.out.next E10.out)
            have k4 := cD.out _ (B9.out.next E10.out)
            refine tail_quiet 4 (by kernel_rfl) rfl (by kernel_rfl) ?_
            simp only [List.drop_succ_cons, List.drop_zero]
            repeat (first | go_big_quiet_step (fail) | quiet_step (fail))
            refine wpQuiet_nil ?_
            rintro _ ⟨n, rfl⟩
            simp only [Exit.then]
            go_wp2
            go_ret
            exact ⟨rfl, below_drewN (BW9.out.next E10.out) _⟩
    · have hbad : 299 < f.length ∨ f.length ≤ 299 ∧ (a < 0 ∨ 0 ≤ a ∧ (b < 0 ∨ 0 ≤ b ∧ (f.length ≤ a ∨ a < f.length ∧ (f.length : Int) ≤ b))) := by omega
      clear h hgood
      rcases hbad with h1 | ⟨h1, h2 | ⟨h2, h3 | ⟨h3, h4 | ⟨h4, h5⟩⟩⟩⟩
      all_goals
        try replace h1 : (299 : Int) < f.length := by omega
        try replace h1 : (f.length : Int) ≤ 299 := by omega
        go_enter Try.func5, Try.ntmps5
        go_wp2_with (first
          | (go_at_call 9; ((with_reducible refine (hmay _ H1.out).mono ?_); rintro e w2 ⟨rfl, rfl⟩; have G1 := Lib.hid H1.out; clear H1))
          | (go_at_call 8; ((with_reducible refine (fixed_any S _).mono ?_); rintro e w1 ⟨rfl, H1⟩; replace H1 := Lib.hid H1)))
        go_ret
        exact ⟨rfl, G1.out.next H1.out⟩
  · replace hv : (L.all mayI && decide (L.length ≤ 300)) = false := by simpa using hv
    simp only [hv] at hmay
    clear h hl hv
    go_enter Try.func5, Try.ntmps5
    go_wp2_with (first
      | (go_at_call 9; ((with_reducible refine (hmay _ H1.out).mono ?_); rintro e w2 ⟨rfl, rfl⟩; have G1 := Lib.hid H1.out; clear H1))
      | (go_at_call 8; ((with_reducible refine (fixed_any S _).mono ?_); rintro e w1 ⟨rfl, H1⟩; replace H1 := Lib.hid H1)))
    go_ret
    exact ⟨rfl, G1.out.next H1.out⟩
end Go.Proofs.Ytengkkbiceennaa

