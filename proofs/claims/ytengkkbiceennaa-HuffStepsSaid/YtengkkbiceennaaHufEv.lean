/-
  HuffEven: symbols that are all there as often, and are a power of two many.
-/
import Derived.Test.YtengkkbiceennaaHufLe
namespace Go.Proofs.Ytengkkbiceennaa
open Go.RowKit Go.Lib
theorem row_lie {B : Nat} {w : World} {v : Value} {D : List Nat} {n : Nat} (hn : n = D.length) (h : w.ownsRow B 3 1 v n (ints D)) : ∃ q c, v = .slice q n c ∧ IntsLie w q (nums D) c := by
  subst hn
  rcases h.2 with ⟨rfl, h0⟩ | ⟨g, cap, cur, rfl, _, hg, h1, h2, _⟩
  · exact ⟨none, 0, by rw [h0], by rw [nums_len]; omega, Nat.zero_le _, .inl (List.length_eq_zero_iff.1 (by rw [nums_len]; omega))⟩
  · refine ⟨_, _, rfl, by rw [nums_len]; exact h1, h2, .inr ⟨g, 0, rfl, fun i hi => ?_⟩⟩
    have hi' : i < D.length := by rw [nums_len] at hi; exact hi
    have := ints_get h hi'
    rw [Nat.zero_add, this, nums_at]
theorem rep_get (n c i : Nat) : (List.replicate n c).getD i 0 ≤ c := by
  rw [List.getD_eq_getElem?_getD, List.getElem?_replicate]
  split
  · exact Nat.le_refl _
  · exact Nat.zero_le _
set_option maxRecDepth 100000 in
set_option maxHeartbeats 4000000 in
theorem even_any (S : Spec) (k c : Int) (w : World) :
    Calls Try.prog 6 #[.int .i64 k, .int .i64 c] w fun e w' => e = .returned (.bool true) ∧ Below w.heap.size w w' := by
  by_cases hk1 : k < 1
  · go_enter Try.func6, Try.ntmps6
    go_wp2_with (first
      | (go_at_call 8; ((with_reducible refine (fixed_any S _).mono ?_); rintro e w2 ⟨rfl, H2⟩; have G2 := Lib.hid (H1.out.next H2); clear H2 H1))
      | (go_at_call 8; ((with_reducible refine (fixed_any S _).mono ?_); rintro e w1 ⟨rfl, H1⟩; replace H1 := Lib.hid H1)))
    go_ret
    exact ⟨rfl, G2.out⟩
  · by_cases hk8 : 8 < k
    · have z1 : 1 ≤ k := by omega
      clear hk1
      go_enter Try.func6, Try.ntmps6
      go_wp2_with (first
        | (go_at_call 8; ((with_reducible refine (fixed_any S _).mono ?_); rintro e w2 ⟨rfl, H2⟩; have G2 := Lib.hid (H1.out.next H2); clear H2 H1))
        | (go_at_call 8; ((with_reducible refine (fixed_any S _).mono ?_); rintro e w1 ⟨rfl, H1⟩; replace H1 := Lib.hid H1)))
      go_ret
      exact ⟨rfl, G2.out⟩
    · by_cases hc1 : c < 1
      · have z1 : 1 ≤ k := by omega
        have z8 : k ≤ 8 := by omega
        clear hk1 hk8
        go_enter Try.func6, Try.ntmps6
        go_wp2_with (first
          | (go_at_call 8; ((with_reducible refine (fixed_any S _).mono ?_); rintro e w2 ⟨rfl, H2⟩; have G2 := Lib.hid (H1.out.next H2); clear H2 H1))
          | (go_at_call 8; ((with_reducible refine (fixed_any S _).mono ?_); rintro e w1 ⟨rfl, H1⟩; replace H1 := Lib.hid H1)))
        go_ret
        exact ⟨rfl, G2.out⟩
      · by_cases hc9 : 100000 < c
        · have z1 : 1 ≤ k := by omega
          have z8 : k ≤ 8 := by omega
          have y1 : 1 ≤ c := by omega
          clear hk1 hk8 hc1
          go_enter Try.func6, Try.ntmps6
          go_wp2_with (first
            | (go_at_call 8; ((with_reducible refine (fixed_any S _).mono ?_); rintro e w2 ⟨rfl, H2⟩; have G2 := Lib.hid (H1.out.next H2); clear H2 H1))
            | (go_at_call 8; ((with_reducible refine (fixed_any S _).mono ?_); rintro e w1 ⟨rfl, H1⟩; replace H1 := Lib.hid H1)))
          go_ret
          exact ⟨rfl, G2.out⟩
        · obtain ⟨K, rfl⟩ : ∃ K : Nat, k = K := ⟨k.toNat, by omega⟩
          obtain ⟨C, rfl⟩ : ∃ C : Nat, c = C := ⟨c.toNat, by omega⟩
          have z1 : (1 : Int) ≤ K := by omega
          have z8 : (K : Int) ≤ 8 := by omega
          have y1 : (1 : Int) ≤ C := by omega
          have y9 : (C : Int) ≤ 100000 := by omega
          have hb : Hid (1 ≤ K ∧ K ≤ 8 ∧ 1 ≤ C ∧ C ≤ 100000) := Lib.hid (by omega)
          clear hk1 hk8 hc1 hc9
          obtain ⟨i0, hi0, hz0, hz1, hz2⟩ := info_parts info3
          go_enter Try.func6, Try.ntmps6
          go_wp2_with (go_at_call 8; ((with_reducible refine (fixed_any S _).mono ?_); rintro e w1 ⟨rfl, H1⟩; replace H1 := Lib.hid H1))
          have R0 : Hid ((w1.alloc (.cells #[] 3)).ownsRow w.heap.size 3 1 (.slice (some ⟨w1.heap.size, 0, none⟩) 0 0) 0 (ints (List.replicate 0 C))) := Lib.hid (World.ownsRow_made w1 #[] 0 H1.out.size (by decide) rfl)
          have B0 : Hid (Below w.heap.size w (w1.alloc (.cells #[] 3))) := Lib.hid (belowNew H1.out _)
          go_loopw [6, 7] (fun a v wz => ∃ i : Nat, i ≤ K ∧ v = .int .i64 i ∧ a = .int .i64 ((2 ^ i : Nat) : Int) ∧ wz = w1.alloc (.cells #[] 3)) (fun _ v _ => K - (RowKit.intOf v).toNat)
          case atStart => exact ⟨0, Nat.zero_le _, rfl, rfl, rfl⟩
          case round =>
            obtain ⟨i, hi, rfl, rfl, rfl⟩ := hrel
            by_cases hlt : i < K
            · have hp : Hid (2 ^ (i + 1) = 2 * 2 ^ i) := by show _ = _; rw [Nat.pow_succ]; omega
              have hp2 : 2 ^ i ≤ 256 := Nat.pow_le_pow_right (by decide) (by have := hb.out; omega : i ≤ 8)
              generalize 2 ^ i = x at *
              have zi : (i : Int) < K := by omega
              have zx : (x : Int) ≤ 256 := by omega
              clear hp2
              go_wp2
              go_roundw
              case rel => exact ⟨i + 1, by omega, by go_num, by rw [hp.out]; go_num, trivial⟩
              case measure => simp [RowKit.intOf]; omega
            · have e : i = K := by omega
              subst e
              have hN : 2 ^ i ≤ 256 := Nat.pow_le_pow_right (by decide) (by have := hb.out; omega : i ≤ 8)
              have hN2 : Hid (∀ D, D = List.replicate (2 ^ i) C → Hf.lens D = List.replicate (2 ^ i) i ∧ Hf.costN D (List.replicate (2 ^ i) i) = 2 ^ i * i * C) := Lib.hid fun D e => by
                subst e
                exact ⟨Hf.even_lens (by have := hb.out; omega) (by have := hb.out; omega) (by have := hb.out; omega), Hf.even_cost⟩
              generalize 2 ^ i = n at *
              have zn : (n : Int) ≤ 256 := by omega
              clear hN hlt hi
              go_wp2
              go_loopw [5, 8] (fun v5 v8 wz => ∃ j : Nat, j ≤ n ∧ v8 = .int .i64 j ∧ Hid (wz.ownsRow w.heap.size 3 1 v5 j (ints (List.replicate j C))) ∧ Hid (Below w.heap.size w wz)) (fun _ v _ => n - (RowKit.intOf v).toNat)
              case atStart => exact ⟨0, Nat.zero_le _, rfl, R0, B0⟩
              case round =>
                clear R0 B0
                obtain ⟨j, hj, rfl, HR, HB⟩ := hrel
                by_cases hlt : j < n
                · have zj : (j : Int) < n := by omega
                  have hO := HB.out.size
                  have R1 := Lib.hid (HR.out.alloc (.cells #[.int .i64 (C : Int)] 3))
                  have B1 := Lib.hid (belowNew HB.out (.cells #[.int .i64 (C : Int)] 3))
                  have hrep : Hid (ints (List.replicate j C) ++ ints [C] = ints (List.replicate (j + 1) C)) := by
                    show _ = _
                    unfold ints
                    rw [← List.map_append, ← List.replicate_succ']
                  go_wp2_with (with_reducible refine stop_append ?_)
                  unfold Stop
                  refine wpList_append_own _ rfl _ _ 22 rfl w.heap.size 3 i0 (.int .i64 0) 1 8 Try.underlying22 hi0 hz0 hz1 hz2 rfl (by decide) u5 j (ints (List.replicate j C)) rfl R1.out ⟨_, 0, Option.none⟩ 1 1 (ints [C]) rfl rfl (one_int _ C) (ints_one _) (by unfold maxLen; omega) (by omega) (by simp; omega) ?_
                  intro v3 w3 own3 gr3 nn3
                  rw [hrep.out] at own3
                  have HB3 := Lib.hid (B1.out.grown gr3 B1.out.size (fun b hb => (R1.out.lt b hb).1))
                  replace own3 := Lib.hid own3
                  clear gr3 nn3 hO R1 B1 HR HB
                  go_wp2
                  go_roundw
                  case rel => exact ⟨j + 1, by omega, by go_num, own3, HB3⟩
                  case measure => simp [RowKit.intOf]; omega
                · have e : j = n := by omega
                  subst e
                  obtain ⟨q, d, rfl, I5⟩ := row_lie (by rw [List.length_replicate]) HR.out
                  obtain ⟨D, hD⟩ : ∃ D, D = List.replicate j C := ⟨_, rfl⟩
                  obtain ⟨e1, e2⟩ := hN2.out D hD
                  have hDl : D.length = j := by rw [hD, List.length_replicate]
                  have hD9 : ∀ i, D.getD i 0 ≤ 100000 := fun i => by rw [hD]; have := rep_get j C i; have := hb.out; omega
                  have hL9 : ∀ m, (List.replicate j i).getD m 0 ≤ 15 := fun m => by have := rep_get j i m; have := hb.out; omega
                  rw [← hD] at I5
                  have hle := S.lens D q d wr (by omega) hD9 I5
                  rw [e1, hDl] at hle
                  have hco := fun q2 d2 w2 hb2 hq => S.cost D (List.replicate j i) q q2 d d2 w2 (by rw [hDl, List.length_replicate]) (by omega) hD9 hL9 (I5.below hb2) hq
                  rw [e2, hDl] at hco
                  have hj2 : Hid (j ≤ 256) := by show _ ≤ _; omega
                  clear hN2 e1 e2 hDl hD9 hL9 I5 hD hlt hj
                  obtain ⟨X, hX⟩ : ∃ X, X = j * i := ⟨_, rfl⟩
                  obtain ⟨Y, hY⟩ : ∃ Y, Y = X * C := ⟨_, rfl⟩
                  rw [← hX, ← hY] at hco
                  have hX2 : X ≤ 2048 := by rw [hX]; exact Nat.le_trans (Nat.mul_le_mul hj2.out hb.out.2.1) (by decide)
                  have hY2 : Y ≤ 204800000 := by rw [hY]; exact Nat.le_trans (Nat.mul_le_mul hX2 hb.out.2.2.2) (by decide)
                  have p1 : (j : Int) * i = X := by rw [hX, Int.natCast_mul]
                  have p2 : (X : Int) * C = Y := by rw [hY, Int.natCast_mul]
                  have zX : (X : Int) ≤ 2048 := by omega
                  have zY : (Y : Int) ≤ 204800000 := by omega
                  clear hX hY hX2 hY2
                  go_wp2_with (go_at_call 10; ((with_reducible refine hle.mono ?_); rintro e w5 ⟨q5, c5, rfl, I5, H5⟩; replace I5 := Lib.hid I5; replace H5 := Lib.hid H5))
                  have hcap : (j : Int) ≤ c5 := by have := I5.out.len; rw [nums_len, List.length_replicate] at this; omega
                  clear hle
                  go_loopw [10] (fun v wz => ∃ m : Nat, m ≤ j ∧ v = .int .i64 m ∧ Hid (Below w5.heap.size w5 wz)) (fun v _ => j - (RowKit.intOf v).toNat)
                  case atStart => exact ⟨0, Nat.zero_le _, rfl, Lib.hid (Below.refl _ _)⟩
                  case round =>
                    obtain ⟨m, hm, rfl, HW⟩ := hrel
                    by_cases hlt : m < j
                    · have hml : m < (nums (List.replicate j i)).length := by rw [nums_len, List.length_replicate]; exact hlt
                      obtain ⟨blk, off, rfl, hc⟩ := (I5.out.below HW.out).at hml
                      have cl := hc m hml
                      rw [nums_at, List.getElem_replicate] at cl
                      have zm : (m : Int) < j := by omega
                      clear hc hml
                      go_wp2
                      go_roundw
                      case rel => exact ⟨m + 1, by omega, by go_num, HW⟩
                      case measure => simp [RowKit.intOf]; omega
                    · have e : m = j := by omega
                      subst e
                      have G5 := Lib.hid ((HB.out.next H5.out).next HW.out)
                      go_wp2_with (go_at_call 15; ((with_reducible refine (hco _ _ _ (H5.out.next HW.out) (I5.out.below HW.out)).mono ?_); rintro e w7 ⟨rfl, H7⟩; have G7 := Lib.hid (G5.out.next H7); clear H7))
                      go_ret
                      exact ⟨rfl, G7.out⟩
end Go.Proofs.Ytengkkbiceennaa

