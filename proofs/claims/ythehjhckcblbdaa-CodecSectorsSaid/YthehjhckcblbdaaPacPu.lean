/-
  The document's Put behind any bits.
-/
import Derived.Test.YthehjhckcblbdaaCanD
namespace Go.Proofs.Ythehjhckcblbdaa
set_option maxRecDepth 100000
open Go.RowKit Mb Go.Lib
theorem flags_news {w : World} {b : List Bool} {a : Addr} {d : Nat} (h : FlagsLie w (some a) b d) : ∀ j u, (flv b)[j]? = some u → w.cell? (a.add j) = some u := fun j u hj => by
  have hjl : j < b.length := by
    rcases Nat.lt_or_ge j b.length with z | z
    · exact z
    · rw [List.getElem?_eq_none (by rw [flv_length]; omega)] at hj; cases hj
  obtain ⟨blk, off, e, hc⟩ := h.at hjl
  cases e
  rw [Addr.add_lit, hc j hjl, ← hj]
  unfold flv
  rw [List.getElem?_map, List.getElem?_eq_getElem hjl]
  simp [hjl]
set_option maxHeartbeats 4000000 in
theorem put_any (b : List Bool) (k : Nat) (hb : b.length = k) (hk : k ≤ 1000000) (q : Option Addr) (d x n : Nat) (hn : n ≤ 30) (hx : x < 2 ^ n) (w : World) (h : FlagsLie w q b d) (hq0 : q = none → d = 0) :
    Calls Try.prog 70 #[.slice q k d, .int .i64 x, .int .i64 n] w fun e w' => ∃ g c, e = .returned (.tuple #[.slice (some ⟨g, 0, Option.none⟩) (b ++ dig x n).length c, .bool true]) ∧ FRow w.heap.size w w' g c (b ++ dig x n) := by
  have hx30 : x < 2 ^ 30 := Nat.lt_of_lt_of_le hx (Nat.pow_le_pow_right (by decide) hn)
  have zx : (x : Int) ≤ 1073741823 := by omega
  have zn : (n : Int) ≤ 30 := by omega
  have zk : (k : Int) ≤ 1000000 := by omega
  have hp := power_any n hn w
  obtain ⟨y, hy⟩ : ∃ y, y = 2 ^ n := ⟨_, rfl⟩
  rw [← hy] at hp
  have hxy : (x : Int) < (y : Int) := by omega
  have hdec : decide (y ≤ x) = false := decide_eq_false (by omega)
  have HP := Lib.hid (fun (k : Nat) (hk : k ≤ 30) (w : World) => power_any k hk w)
  have HR := Lib.hid (FRow.made w)
  obtain ⟨B, hB⟩ : ∃ B, B = w.heap.size := ⟨_, rfl⟩
  have HB := Lib.hid hB
  have HR : Hid (FRow B w (w.alloc (.cells #[] 4)) w.heap.size 0 []) := by rw [hB]; exact HR
  obtain ⟨i0, hi0, hz0, hz1, hz2⟩ := info_parts infoBool
  have o1 := HR.out.own
  have o3 := HR.out.size
  have Hb := Lib.hid hb
  have HQ := Lib.hid h
  have Hq0 := Lib.hid hq0
  clear hB hx hy hx30 h hb hq0
  go_enter Try.func70, Try.ntmps70
  go_wp2_with fail
  go_at_call 50
  refine hp.mono ?_
  rintro e w2 ⟨rfl, rfl⟩
  clear hp
  cases q with
  | none =>
    have hd0 := Hq0.out rfl
    have hk0 : k = 0 := by have := HQ.out.len; have := Hb.out; omega
    have hb0 : b = [] := List.length_eq_zero_iff.1 (by rw [Hb.out]; exact hk0)
    subst hd0
    go_wp2_with (first | (at_builtin; refine wpList_append_own_none rfl _ _ 33 rfl B 4 i0 1 Try.underlying33 hi0 _ 0 [] rfl o1 (by rw [hk0]) ?_) | go_in)
    have HS0 : Hid (FRow B w2 (w2.alloc (.cells #[] 4)) w2.heap.size 0 b) := by rw [hb0]; exact HR
    clear o1 o3 HR hb0
    subst hk0
    go_wp2
    go_loopw [8, 9] (fun v i wr => ∃ (j u g1 c1 : Nat), j + u = n ∧ v = .slice (some ⟨g1, 0, Option.none⟩) (j : Nat) c1 ∧ i = .int .i64 ((u : Int) - 1) ∧ Hid (FRow B w2 wr g1 c1 (b ++ (dig x n).take j))) (fun _ i _ => (RowKit.intOf i + 1).toNat)
    case atStart => exact ⟨0, n, _, _, by omega, rfl, by go_num, by simpa using HS0⟩
    case round =>
      clear HS0
      obtain ⟨j, u, g1, c1, hjk, rfl, rfl, HS⟩ := hrel
      rcases Nat.eq_zero_or_pos u with hk | hk
      · subst hk
        have e : (dig x n).take j = dig x n := List.take_of_length_le (by rw [dig_length]; omega)
        rw [e] at HS
        have ej : j = n := by omega
        subst ej
        go_wp2
        go_ret2
        exact ⟨g1, c1, by simp [dig_length, Hb.out], HB.out ▸ HS.out⟩
      · obtain ⟨u, rfl⟩ : ∃ q, u = q + 1 := ⟨u - 1, by omega⟩
        have ek : ((u + 1 : Nat) : Int) - 1 = u := by omega
        simp only [ek]
        have hbit := digit_is x u
        have hpk := HP.out u (by omega) wr
        have HM : Hid ((dig x n).take (j + 1) = (dig x n).take j ++ [x.testBit u]) := by
          show _ = _
          rw [dig_take x n j (by omega), show n - 1 - j = u by omega]
        generalize x.testBit u = y at hbit HM
        have hpos : (1 : Int) ≤ ((2 ^ u : Nat) : Int) := by have : 0 < 2 ^ u := Nat.pow_pos (by decide); omega
        generalize (2 ^ u : Nat) = z at hbit hpk hpos
        have hlt : (b ++ (dig x n).take j).length = j := by rw [List.length_append, List.length_take, dig_length, Hb.out]; omega
        have o1 := fun O => (HS.out.own).alloc (w := wr) O
        rw [hlt] at o1
        have o2 := one_flag wr y
        have o3 : B ≤ (wr.alloc (.cells #[.bool y] 4)).heap.size := by have := HS.out.size; simp; omega
        have hq : 0 ≤ (x : Int) / (z : Int) := Int.ediv_nonneg (by omega) (by omega)
        have hq2 : (x : Int) / (z : Int) ≤ 1073741823 := by
          refine Int.le_trans (Int.ediv_le_self _ (by omega)) zx
        clear ek
        go_wp2_with fail
        go_at_call 50
        refine hpk.mono ?_
        rintro e w3 ⟨rfl, rfl⟩
        clear hpk
        go_wp2_with (first
          | (at_builtin; refine wpList_append_own _ rfl _ _ 33 rfl B 4 i0 (.bool false) 1 1 Try.underlying33 hi0 hz0 hz1 hz2 rfl (by decide) _ j (flv (b ++ (dig x n).take j)) rfl (o1 _) ⟨w3.heap.size, 0, Option.none⟩ 1 1 (flv [y]) rfl rfl o2 (flv_one _) (by unfold maxLen; omega) (by omega) o3 ?_)
          | go_in)
        intro v1 w4 own1 gr1 nn1
        rw [show j + 1 = (b ++ (dig x n).take j).length + [y].length by rw [hlt]; rfl] at own1
        obtain ⟨g2, c2, rfl, HN⟩ := HS.out.more ((Below.refl w3.heap.size w3).alloc (Nat.le_refl _) (.cells #[.bool y] 4)) own1 (by rw [hlt]; exact gr1) nn1
        replace HN := Lib.hid HN
        rw [List.append_assoc, ← HM.out] at HN
        rw [show (b ++ (dig x n).take j).length + [y].length = j + 1 by rw [hlt]; rfl]
        clear own1 gr1 nn1 o1 o2 o3 HS hlt
        go_wp2
        go_roundw
        case rel => exact ⟨j + 1, u, g2, c2, by omega, rfl, by go_num, HN⟩
        case measure => simp [RowKit.intOf]
  | some a =>
    have o2 := flags_news (HQ.out.below ((Below.refl w2.heap.size w2).alloc (Nat.le_refl _) (.cells #[] 4)))
    have o4 : (flv b).length = k * 1 := by rw [flv_length, Hb.out]; omega
    go_wp2_with (with_reducible refine stop_append ?_)
    unfold Stop
    refine wpList_append_own _ rfl _ _ 33 rfl B 4 i0 (.bool false) 1 1 Try.underlying33 hi0 hz0 hz1 hz2 rfl (by decide) _ 0 [] rfl o1 a k d (flv b) rfl o4 o2 (flv_one _) (by unfold maxLen; omega) (by omega) o3 ?_
    intro v1 w3 own1 gr1 nn1
    obtain ⟨g1, c1, hv, R3⟩ := HR.out.more (m := b) (Below.refl _ _) (by rw [Hb.out]; simpa [flv] using own1) gr1 (fun e => by
      have h : Value.slice (some ⟨w2.heap.size, 0, none⟩) 0 0 = .slice none 0 0 := (nn1.1 e).1
      cases h)
    simp only [List.length_nil, Nat.zero_add, List.nil_append] at hv R3
    subst hv
    have HS0 := Lib.hid R3
    rw [Hb.out]
    clear own1 gr1 nn1 o1 o2 o3 o4 R3 HR
    go_wp2
    go_loopw [8, 9] (fun v i wr => ∃ (j u g1 c1 : Nat), j + u = n ∧ v = .slice (some ⟨g1, 0, Option.none⟩) (k + j : Nat) c1 ∧ i = .int .i64 ((u : Int) - 1) ∧ Hid (FRow B w2 wr g1 c1 (b ++ (dig x n).take j))) (fun _ i _ => (RowKit.intOf i + 1).toNat)
    case atStart => exact ⟨0, n, _, _, by omega, rfl, by go_num, by simpa using HS0⟩
    case round =>
      clear HS0
      obtain ⟨j, u, g1, c1, hjk, rfl, rfl, HS⟩ := hrel
      rcases Nat.eq_zero_or_pos u with hk | hk
      · subst hk
        have e : (dig x n).take j = dig x n := List.take_of_length_le (by rw [dig_length]; omega)
        rw [e] at HS
        have ej : j = n := by omega
        subst ej
        go_wp2
        go_ret2
        exact ⟨g1, c1, by simp [dig_length, Hb.out], HB.out ▸ HS.out⟩
      · obtain ⟨u, rfl⟩ : ∃ q, u = q + 1 := ⟨u - 1, by omega⟩
        have ek : ((u + 1 : Nat) : Int) - 1 = u := by omega
        simp only [ek]
        have hbit := digit_is x u
        have hpk := HP.out u (by omega) wr
        have HM : Hid ((dig x n).take (j + 1) = (dig x n).take j ++ [x.testBit u]) := by
          show _ = _
          rw [dig_take x n j (by omega), show n - 1 - j = u by omega]
        generalize x.testBit u = y at hbit HM
        have hpos : (1 : Int) ≤ ((2 ^ u : Nat) : Int) := by have : 0 < 2 ^ u := Nat.pow_pos (by decide); omega
        generalize (2 ^ u : Nat) = z at hbit hpk hpos
        have hlt : (b ++ (dig x n).take j).length = k + j := by rw [List.length_append, List.length_take, dig_length, Hb.out]; omega
        have o1 := fun O => (HS.out.own).alloc (w := wr) O
        rw [hlt] at o1
        have o2 := one_flag wr y
        have o3 : B ≤ (wr.alloc (.cells #[.bool y] 4)).heap.size := by have := HS.out.size; simp; omega
        have hq : 0 ≤ (x : Int) / (z : Int) := Int.ediv_nonneg (by omega) (by omega)
        have hq2 : (x : Int) / (z : Int) ≤ 1073741823 := by
          refine Int.le_trans (Int.ediv_le_self _ (by omega)) zx
        clear ek
        go_wp2_with fail
        go_at_call 50
        refine hpk.mono ?_
        rintro e w3 ⟨rfl, rfl⟩
        clear hpk
        go_wp2_with (first
          | (at_builtin; refine wpList_append_own _ rfl _ _ 33 rfl B 4 i0 (.bool false) 1 1 Try.underlying33 hi0 hz0 hz1 hz2 rfl (by decide) _ (k + j) (flv (b ++ (dig x n).take j)) rfl (o1 _) ⟨w3.heap.size, 0, Option.none⟩ 1 1 (flv [y]) rfl rfl o2 (flv_one _) (by unfold maxLen; omega) (by omega) o3 ?_)
          | go_in)
        intro v1 w4 own1 gr1 nn1
        rw [show k + j + 1 = (b ++ (dig x n).take j).length + [y].length by rw [hlt]; rfl] at own1
        obtain ⟨g2, c2, rfl, HN⟩ := HS.out.more ((Below.refl w3.heap.size w3).alloc (Nat.le_refl _) (.cells #[.bool y] 4)) own1 (by rw [hlt]; exact gr1) nn1
        replace HN := Lib.hid HN
        rw [List.append_assoc, ← HM.out] at HN
        rw [show (b ++ (dig x n).take j).length + [y].length = k + (j + 1) by rw [hlt]; rfl]
        clear own1 gr1 nn1 o1 o2 o3 HS hlt
        go_wp2
        go_roundw
        case rel => exact ⟨j + 1, u, g2, c2, by omega, rfl, by go_num, HN⟩
        case measure => simp [RowKit.intOf]
end Go.Proofs.Ythehjhckcblbdaa
