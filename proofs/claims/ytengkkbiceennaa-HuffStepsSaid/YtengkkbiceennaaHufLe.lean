/-
  HuffLeast: no lengths cost less.
-/
import Derived.Test.YtengkkbiceennaaHufFu
namespace Go.Proofs.Ytengkkbiceennaa
open Go.RowKit Go.Lib
theorem deep_is (f : List Nat) : ((nums ((List.range f.length).map (Hf.once f))).any fun x => decide (15 < x)) = Hf.deep f := by
  unfold nums Hf.deep
  rw [List.map_map, List.any_map]
  congr 1
  funext i
  simp only [Function.comp]
  rw [Bool.eq_iff_iff]; simp; omega
/-- the document's test whether a code is too long -/
theorem deep_any (f : List Nat) (hn : f.length ≤ 300) {q : Option Addr} {c : Nat} (w : World) (h : IntsLie w q (nums ((List.range f.length).map (Hf.once f))) c) :
    Calls Try.prog 13 #[.slice q f.length c] w fun e w' => e = .returned (.bool (Hf.deep f)) ∧ w' = w := by
  have := deep_doc (nums ((List.range f.length).map (Hf.once f))) q c w h (by rw [nums_len]; simp; omega)
  rw [deep_is, nums_len] at this
  simpa using this
theorem nums_of (L : List Int) (h : ∀ i (hi : i < L.length), 0 ≤ L[i] ∧ L[i] ≤ 15) : ∃ l : List Nat, L = nums l ∧ ∀ i, l.getD i 0 ≤ 15 := by
  refine ⟨L.map Int.toNat, ?_, fun i => ?_⟩
  · unfold nums
    rw [List.map_map]
    conv => lhs; rw [← List.map_id L]
    refine List.map_congr_left fun x hx => ?_
    obtain ⟨i, hi, rfl⟩ := List.mem_iff_getElem.1 hx
    have := (h i hi).1
    simp; omega
  · rw [List.getD_eq_getElem?_getD, List.getElem?_map]
    by_cases hi : i < L.length
    · rw [List.getElem?_eq_getElem hi]
      have := h i hi
      simp; omega
    · rw [List.getElem?_eq_none (by omega)]; exact Nat.zero_le _
set_option maxRecDepth 100000 in
set_option maxHeartbeats 4000000 in
theorem least_any (S : Spec) (L M : List Int) (p p2 : Option Addr) (cap c2 : Nat) (w : World) (h : IntsLie w p L cap) (h2 : IntsLie w p2 M c2) (hl : L.length ≤ 281474976710656) (hl2 : M.length ≤ 281474976710656) :
    Calls Try.prog 4 #[.slice p L.length cap, .slice p2 M.length c2] w fun e w' => e = .returned (.bool true) ∧ Below w.heap.size w w' := by
  have hmay := fun w1 hb => may_doc L p cap w1 (h.below hb) hl
  have HI := Lib.hid h
  have HJ := Lib.hid h2
  have zm : (M.length : Int) ≤ 281474976710656 := by omega
  by_cases hv : (L.all mayI && decide (L.length ≤ 300)) = true
  · rw [Bool.and_eq_true, decide_eq_true_eq] at hv
    obtain ⟨hv1, hn⟩ := hv
    simp only [hv1, decide_eq_true hn, Bool.and_self] at hmay
    obtain ⟨f, rfl, hf⟩ := mayI_nums L hv1
    rw [nums_len] at hn
    simp only [nums_len] at hmay
    rw [nums_len]
    have hn2 := Lib.hid hn
    have hf2 := Lib.hid hf
    have zn : (f.length : Int) ≤ 300 := by omega
    have honce := fun w1 hb => once_any f hn hf p cap w1 (h.below hb)
    clear h h2 hv1 hl hl2 hf
    by_cases hlen : M.length = f.length
    · have HLn := Lib.hid hlen
      rw [hlen]
      clear hlen zm hn
      cases hd : Hf.deep f with
      | true =>
        have hdeep := fun q c w1 hq => deep_any f hn2.out (q := q) (c := c) w1 hq
        simp only [hd] at hdeep
        clear hd
        go_enter Try.func4, Try.ntmps4
        go_wp2_with (first
          | (go_at_call 14; ((with_reducible refine (honce _ H1.out).mono ?_); rintro e w3 ⟨q, c, rfl, I3, H3⟩; replace I3 := Lib.hid I3; have G1 := Lib.hid (H1.out.next H3); clear H1 H3))
          | (go_at_call 13; ((with_reducible refine (hdeep _ _ _ I3.out).mono ?_); rintro e w4 ⟨rfl, rfl⟩))
          | (go_at_call 9; ((with_reducible refine (hmay _ H1.out).mono ?_); rintro e w2 ⟨rfl, rfl⟩))
          | (go_at_call 8; ((with_reducible refine (fixed_any S _).mono ?_); rintro e w1 ⟨rfl, H1⟩; replace H1 := Lib.hid H1)))
        go_ret
        exact ⟨rfl, G1.out.next H1.out⟩
      | false =>
        have hdeep := fun q c w1 hq => deep_any f hn2.out (q := q) (c := c) w1 hq
        simp only [hd] at hdeep
        have hd2 := Lib.hid hd
        clear hd
        have hcap : (f.length : Int) ≤ cap := by have := HI.out.len; rw [nums_len] at this; omega
        have hcap2 : (f.length : Int) ≤ c2 := by have := HJ.out.len; have := HLn.out; omega
        go_enter Try.func4, Try.ntmps4
        go_wp2_with (first
          | (go_at_call 14; ((with_reducible refine (honce _ H1.out).mono ?_); rintro e w3 ⟨q, c, rfl, I3, H3⟩; replace I3 := Lib.hid I3; have G1 := Lib.hid (H1.out.next H3); clear H1 H3))
          | (go_at_call 13; ((with_reducible refine (hdeep _ _ _ I3.out).mono ?_); rintro e w4 ⟨rfl, rfl⟩))
          | (go_at_call 9; ((with_reducible refine (hmay _ H1.out).mono ?_); rintro e w2 ⟨rfl, rfl⟩))
          | (go_at_call 8; ((with_reducible refine (fixed_any S _).mono ?_); rintro e w1 ⟨rfl, H1⟩; replace H1 := Lib.hid H1)))
        clear hmay honce hdeep
        go_loop [5] (fun v => ∃ i : Nat, i ≤ f.length ∧ v = .int .i64 i ∧ Hid (∀ j (_ : j < i) (hj : j < M.length), 0 ≤ M[j] ∧ M[j] ≤ 15 ∧ (0 < f.getD j 0 → 1 ≤ M[j]))) (fun v => f.length - (RowKit.intOf v).toNat)
        case atStart => exact ⟨0, Nat.zero_le _, rfl, Lib.hid fun j hj => by omega⟩
        case round =>
          obtain ⟨i, hi, rfl, HA⟩ := hrel
          by_cases hlt : i < f.length
          · have ii : (i : Int) < f.length := by omega
            have hm : i < M.length := by rw [HLn.out]; exact hlt
            obtain ⟨b1, o1, rfl, cf⟩ := f_lie (HI.out.below G1.out) hlt
            obtain ⟨b2, o2, rfl, cm⟩ := (HJ.out.below G1.out).at hm
            have cl := cm i hm
            have step : Hid (∀ x y, M[i] = x → f.getD i 0 = y → 0 ≤ x → x ≤ 15 → (0 < y → 1 ≤ x) → ∀ j (_ : j < i + 1) (hj : j < M.length), 0 ≤ M[j] ∧ M[j] ≤ 15 ∧ (0 < f.getD j 0 → 1 ≤ M[j])) := Lib.hid fun x y e1 e2 k1 k2 k3 j hj1 hj => by
              by_cases e : j = i
              · subst e; rw [e1, e2]; exact ⟨k1, k2, k3⟩
              · exact HA.out j (by omega) hj
            obtain ⟨x, hx⟩ : ∃ x, M[i] = x := ⟨_, rfl⟩
            obtain ⟨y, hy⟩ : ∃ y, f.getD i 0 = y := ⟨_, rfl⟩
            have step2 := Lib.hid (step.out x y hx hy)
            rw [hx] at cl
            rw [hy] at cf
            clear step hx hy cm hm
            by_cases h0 : x < 0
            · clear step2
              go_wp2
              go_ret
              exact ⟨rfl, G1.out⟩
            · by_cases h15 : 15 < x
              · have z0 : 0 ≤ x := by omega
                clear step2 h0
                go_wp2
                go_ret
                exact ⟨rfl, G1.out⟩
              · have z0 : 0 ≤ x := by omega
                have z15 : x ≤ 15 := by omega
                clear h0 h15
                by_cases hy0 : 0 < y
                · have zy : (1 : Int) ≤ y := by omega
                  by_cases hx0 : x = 0
                  · subst hx0
                    clear step2 hy0
                    go_wp2
                    go_ret
                    exact ⟨rfl, G1.out⟩
                  · have zx : 1 ≤ x := by omega
                    have T := Lib.hid (step2.out z0 z15 (fun _ => zx))
                    have zx3 : (x == 0) = false := by simp; omega
                    clear step2 hy0 hx0 z0
                    go_wp2
                    go_round
                    case rel => exact ⟨i + 1, by omega, by go_num, T⟩
                    case measure => simp [RowKit.intOf]; omega
                · have zy : (y : Int) ≤ 0 := by omega
                  have T := Lib.hid (step2.out z0 z15 (fun k => absurd k hy0))
                  clear step2 hy0
                  go_wp2
                  go_round
                  case rel => exact ⟨i + 1, by omega, by go_num, T⟩
                  case measure => simp [RowKit.intOf]; omega
          · have e : i = f.length := by omega
            subst e
            obtain ⟨l, hl, hl15⟩ := nums_of M (fun j hj => by have := HA.out j (by have := HLn.out; omega) hj; exact ⟨this.1, this.2.1⟩)
            have hget : ∀ j, j < f.length → 0 < f.getD j 0 → 1 ≤ l.getD j 0 := fun j hj k => by
              have h1 := (HA.out j hj (by have := HLn.out; omega)).2.2 k
              subst hl
              rw [nums_get] at h1
              omega
            subst hl
            have hll : l.length = f.length := by have := HLn.out; rwa [nums_len] at this
            have hk := fun w1 hb => S.kraft l p2 c2 w1 (by rw [hll]; exact hn2.out) hl15 (HJ.out.below hb)
            rw [hll] at hk
            have hc1 := fun q d w1 hb hq => S.cost f (Hf.lens f) p q cap d w1 (Hf.lens_length f).symm hn2.out hf2.out (Hf.lens_le hn2.out) (HI.out.below hb) hq
            have hc2 := fun w1 hb => S.cost f l p p2 cap c2 w1 hll.symm hn2.out hf2.out hl15 (HI.out.below hb) (HJ.out.below hb)
            have hle := fun w1 hb => S.lens f p cap w1 hn2.out hf2.out (HI.out.below hb)
            have hleast := Hf.least_cost hd2.out hll (fun j _ => hl15 j) hget
            have b1 := Hf.cost_le (f := f) (l := Hf.lens f) hn2.out hf2.out (Hf.lens_le hn2.out)
            have b2 := Hf.cost_le (f := f) (l := l) hn2.out hf2.out hl15
            have b3 := Hf.kraft_le (l := l) (by rw [hll]; exact hn2.out)
            generalize Hf.kraftN l = K at *
            generalize Hf.costN f (Hf.lens f) = A at *
            generalize Hf.costN f l = B at *
            have z1 : (A : Int) ≤ 450000000 := by omega
            have z2 : (B : Int) ≤ 450000000 := by omega
            have z3 : (K : Int) ≤ 4915200 := by omega
            clear b1 b2 b3 hlt hi
            by_cases hK : K ≤ 32768
            · have zK : (K : Int) ≤ 32768 := by omega
              have zAB : (A : Int) ≤ B := by have := hleast hK; omega
              clear hK hleast
              go_wp2_with (first
                | (go_at_call 12; ((with_reducible refine (hk _ G1.out).mono ?_); rintro e w5 ⟨rfl, H5⟩; have G5 := Lib.hid (G1.out.next H5); clear H5))
                | (go_at_call 10; ((with_reducible refine (hle _ G5.out).mono ?_); rintro e w6 ⟨q6, c6, rfl, I6, H6⟩; replace I6 := Lib.hid I6; have G6 := Lib.hid (G5.out.next H6); clear H6))
                | (go_at_call 15; ((with_reducible refine (hc1 _ _ _ G6.out I6.out).mono ?_); rintro e w7 ⟨rfl, H7⟩; have G7 := Lib.hid (G6.out.next H7); clear H7))
                | (go_at_call 15; ((with_reducible refine (hc2 _ G7.out).mono ?_); rintro e w8 ⟨rfl, H8⟩; have G8 := Lib.hid (G7.out.next H8); clear H8)))
              go_ret
              exact ⟨rfl, G8.out⟩
            · have zK : (32769 : Int) ≤ K := by omega
              clear hK hleast
              go_wp2_with (go_at_call 12; ((with_reducible refine (hk _ G1.out).mono ?_); rintro e w5 ⟨rfl, H5⟩; have G5 := Lib.hid (G1.out.next H5); clear H5))
              go_ret
              exact ⟨rfl, G5.out⟩
    · have zne : ((M.length : Int) == f.length) = false := by simp; omega
      have zne2 : (M.length == f.length) = false := by simp; omega
      have zne3 : ¬ ((M.length : Int) = f.length) := by omega
      clear hlen
      go_enter Try.func4, Try.ntmps4
      go_wp2_with (first
        | (go_at_call 9; ((with_reducible refine (hmay _ H1.out).mono ?_); rintro e w2 ⟨rfl, rfl⟩; have G1 := Lib.hid H1.out; clear H1))
        | (go_at_call 8; ((with_reducible refine (fixed_any S _).mono ?_); rintro e w1 ⟨rfl, H1⟩; replace H1 := Lib.hid H1)))
      go_ret
      exact ⟨rfl, G1.out.next H1.out⟩
  · replace hv : (L.all mayI && decide (L.length ≤ 300)) = false := by simpa using hv
    simp only [hv] at hmay
    clear h h2 hl hl2 hv
    go_enter Try.func4, Try.ntmps4
    go_wp2_with (first
      | (go_at_call 9; ((with_reducible refine (hmay _ H1.out).mono ?_); rintro e w2 ⟨rfl, rfl⟩; have G1 := Lib.hid H1.out; clear H1))
      | (go_at_call 8; ((with_reducible refine (fixed_any S _).mono ?_); rintro e w1 ⟨rfl, H1⟩; replace H1 := Lib.hid H1)))
    go_ret
    exact ⟨rfl, G1.out.next H1.out⟩
end Go.Proofs.Ytengkkbiceennaa

