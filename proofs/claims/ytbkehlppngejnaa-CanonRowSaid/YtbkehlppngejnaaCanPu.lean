/-
  The document's Put onto nothing; rows of bits that the call has made.
-/
import Derived.Test.YtbkehlppngejnaaCanRd
import Derived.Laws.AppendOwnNone
namespace Go.Proofs.Ytbkehlppngejnaa
open Go.RowKit Mb Go.Lib
theorem infoBool : (Try.prog.info? 4).map (fun i => (i.zero, i.size, i.bytes)) = some (some (.bool false), 1, 1) := by kernel_rfl
def flv (l : List Bool) : List Value := l.map Value.bool
theorem flv_one (l : List Bool) : ∀ u ∈ flv l, u.oneCell' = true := fun u hu => by
  obtain ⟨j, _, rfl⟩ := List.mem_map.1 hu
  rfl
theorem flv_length (l : List Bool) : (flv l).length = l.length := by simp [flv]
theorem own_keep {w w' : World} {B n size : Nat} {e : TypeId} {v : Value} {xs : List Value} (h : w.ownsRow B e size v n xs) (hb : Below w.heap.size w w') : w'.ownsRow B e size v n xs := by
  refine ⟨h.1, ?_⟩
  rcases h.2 with h1 | ⟨g', cap', cur, h1, h2, h3, h4⟩
  · exact Or.inl h1
  · refine Or.inr ⟨g', cap', cur, h1, h2, ?_, h4⟩
    have : g' < w.heap.size := by
      rcases Nat.lt_or_ge g' w.heap.size with z | z
      · exact z
      · rw [Array.getElem?_eq_none z] at h3; cases h3
    rw [hb.block g' this]; exact h3
/-- a row of bits of the call's own; all that was there is as it was -/
structure FRow (base : Nat) (w0 w : World) (g cap : Nat) (l : List Bool) : Prop where
  own : w.ownsRow base 4 1 (.slice (some ⟨g, 0, Option.none⟩) l.length cap) l.length (flv l)
  below : Below base w0 w
  room : base ≤ w0.heap.size
theorem FRow.size {base : Nat} {w0 w : World} {g cap : Nat} {l : List Bool} (h : FRow base w0 w g cap l) : base ≤ w.heap.size := Nat.le_trans h.room h.below.size
theorem FRow.lies {base : Nat} {w0 w : World} {g cap : Nat} {l : List Bool} (h : FRow base w0 w g cap l) : FlagsLie w (some ⟨g, 0, none⟩) l cap := by
  rcases h.own.2 with ⟨h1, _⟩ | ⟨g', cap', cur, h1, _, _, h2, h3, _⟩
  · cases h1
  · cases h1
    refine ⟨h2, h3, .inr ⟨g, 0, rfl, fun i hi => ?_⟩⟩
    have := h.own.cells (g := g) rfl i (.bool (l.getD i false)) (by unfold flv; rw [List.getElem?_map, List.getElem?_eq_getElem hi]; simp [hi])
    rwa [Addr.add_lit] at this
theorem FRow.lt {base : Nat} {w0 w : World} {g cap : Nat} {l : List Bool} (h : FRow base w0 w g cap l) : base ≤ g ∧ g < w.heap.size := h.own.lt g rfl
/-- elements more in the row -/
theorem FRow.more {base : Nat} {w0 wr w2 w3 : World} {g cap : Nat} {l : List Bool} {m : List Bool} {v : Value} (h : FRow base w0 wr g cap l) (hb : Below wr.heap.size wr w2)
    (own1 : w3.ownsRow base 4 1 v (l.length + m.length) (flv l ++ flv m)) (gr : w2.grownBy w3 (Value.slice (some ⟨g, 0, Option.none⟩) l.length cap).ownBlock)
    (nn : ¬ v = .slice Option.none 0 0) : ∃ g1 c1, v = .slice (some ⟨g1, 0, Option.none⟩) (l.length + m.length) c1 ∧ FRow base w0 w3 g1 c1 (l ++ m) := by
  obtain ⟨g1, c1, rfl⟩ := own_some own1 nn
  refine ⟨g1, c1, rfl, by simpa [flv] using own1, ?_, h.room⟩
  have hb2 : Below base w0 w2 := h.below.trans (hb.mono h.size)
  exact hb2.grown gr (Nat.le_trans h.room hb2.size) (fun b hb => (h.own.lt b hb).1)
theorem one_flag (wr : World) (x : Bool) : ∀ j u, (flv [x])[j]? = some u → (wr.alloc (.cells #[.bool x] 4)).cell? ((⟨wr.heap.size, 0, Option.none⟩ : Addr).add j) = some u := fun j u hj => by
  match j, hj with
  | 0, hj => simp [flv] at hj; subst hj; simp [Addr.add]
  | j + 1, hj => simp [flv] at hj
theorem FRow.made (w : World) : FRow w.heap.size w (w.alloc (.cells #[] 4)) w.heap.size 0 [] :=
  ⟨World.ownsRow_made w _ 0 (Nat.le_refl _) (by decide) rfl, (Below.refl _ _).alloc (Nat.le_refl _) _, Nat.le_refl _⟩
theorem digit_is (x k : Nat) : (((x : Int) / ((2 ^ k : Nat) : Int)) % 2 == 1) = x.testBit k := by
  rw [Nat.testBit_eq_decide_div_mod_eq]
  have e : ((x : Int) / ((2 ^ k : Nat) : Int)) % 2 = ((x / 2 ^ k % 2 : Nat) : Int) := by simp
  rw [e, Bool.eq_iff_iff, beq_iff_eq, decide_eq_true_eq]
  omega
set_option maxHeartbeats 2000000 in
theorem put_doc (x n : Nat) (hn : n ≤ 30) (hx : x < 2 ^ n) (w : World) :
    Calls Try.prog 22 #[.slice Option.none 0 0, .int .i64 x, .int .i64 n] w fun e w' => ∃ g c, e = .returned (.tuple #[.slice (some ⟨g, 0, Option.none⟩) (dig x n).length c, .bool true]) ∧ FRow w.heap.size w w' g c (dig x n) := by
  have hx30 : x < 2 ^ 30 := Nat.lt_of_lt_of_le hx (Nat.pow_le_pow_right (by decide) hn)
  have zx : (x : Int) ≤ 1073741823 := by omega
  have zn : (n : Int) ≤ 30 := by omega
  have hp := power_any n hn w
  obtain ⟨y, hy⟩ : ∃ y, y = 2 ^ n := ⟨_, rfl⟩
  rw [← hy] at hp
  have hxy : (x : Int) < (y : Int) := by omega
  have HP := Lib.hid (fun (k : Nat) (hk : k ≤ 30) (w : World) => power_any k hk w)
  have HR := Lib.hid (FRow.made w)
  obtain ⟨B, hB⟩ : ∃ B, B = w.heap.size := ⟨_, rfl⟩
  have HB := Lib.hid hB
  have HR : Hid (FRow B w (w.alloc (.cells #[] 4)) w.heap.size 0 []) := by rw [hB]; exact HR
  obtain ⟨i0, hi0, hz0, hz1, hz2⟩ := info_parts infoBool
  have o1 := HR.out.own
  have o3 := HR.out.size
  clear hB hx hy hx30
  go_enter Try.func22, Try.ntmps22
  go_wp2_with fail
  go_at_call 18
  refine hp.mono ?_
  rintro e w2 ⟨rfl, rfl⟩
  clear hp
  go_wp2_with (first | (at_builtin; refine wpList_append_own_none rfl _ _ 23 rfl B 4 i0 1 Try.underlying23 hi0 _ 0 [] rfl o1 rfl ?_) | go_in)
  clear o1 o3
  go_wp2
  go_loopw [8, 9] (fun v i wr => ∃ (j k g1 c1 : Nat), j + k = n ∧ v = .slice (some ⟨g1, 0, Option.none⟩) j c1 ∧ i = .int .i64 ((k : Int) - 1) ∧ Hid (FRow B w2 wr g1 c1 ((dig x n).take j))) (fun _ i _ => (RowKit.intOf i + 1).toNat)
  case atStart => exact ⟨0, n, _, 0, by omega, rfl, by go_num, HR⟩
  case round =>
    clear HR
    obtain ⟨j, k, g1, c1, hjk, rfl, rfl, HS⟩ := hrel
    rcases Nat.eq_zero_or_pos k with hk | hk
    · subst hk
      have e : (dig x n).take j = dig x n := List.take_of_length_le (by rw [dig_length]; omega)
      rw [e] at HS
      have ej : j = n := by omega
      subst ej
      go_wp2
      go_ret2
      exact ⟨g1, c1, by simp [dig_length], HB.out ▸ HS.out⟩
    · obtain ⟨k, rfl⟩ : ∃ q, k = q + 1 := ⟨k - 1, by omega⟩
      have ek : ((k + 1 : Nat) : Int) - 1 = k := by omega
      simp only [ek]
      have hb := digit_is x k
      have hpk := HP.out k (by omega) wr
      have HM : Hid ((dig x n).take (j + 1) = (dig x n).take j ++ [x.testBit k]) := by
        show _ = _
        rw [dig_take x n j (by omega), show n - 1 - j = k by omega]
      generalize x.testBit k = b at hb HM
      have hpos : (1 : Int) ≤ ((2 ^ k : Nat) : Int) := by have : 0 < 2 ^ k := Nat.pow_pos (by decide); omega
      generalize (2 ^ k : Nat) = z at hb hpk hpos
      have hlt : ((dig x n).take j).length = j := by rw [List.length_take, dig_length]; omega
      have o1 := fun O => (HS.out.own).alloc (w := wr) O
      rw [hlt] at o1
      have o2 := one_flag wr b
      have o3 : B ≤ (wr.alloc (.cells #[.bool b] 4)).heap.size := by have := HS.out.size; simp; omega
      have hq : 0 ≤ (x : Int) / (z : Int) := Int.ediv_nonneg (by omega) (by omega)
      have hq2 : (x : Int) / (z : Int) ≤ 1073741823 := by
        refine Int.le_trans (Int.ediv_le_self _ (by omega)) zx
      clear ek
      go_wp2_with fail
      go_at_call 18
      refine hpk.mono ?_
      rintro e w3 ⟨rfl, rfl⟩
      clear hpk
      go_wp2_with (first
        | (at_builtin; refine wpList_append_own _ rfl _ _ 23 rfl B 4 i0 (.bool false) 1 1 Try.underlying23 hi0 hz0 hz1 hz2 rfl (by decide) _ j (flv ((dig x n).take j)) rfl (o1 _) ⟨w3.heap.size, 0, Option.none⟩ 1 1 (flv [b]) rfl rfl o2 (flv_one _) (by unfold maxLen; omega) (by omega) o3 ?_)
        | go_in)
      intro v1 w4 own1 gr1 nn1
      rw [show j + 1 = ((dig x n).take j).length + [b].length by rw [hlt]; rfl] at own1
      obtain ⟨g2, c2, rfl, HN⟩ := HS.out.more ((Below.refl w3.heap.size w3).alloc (Nat.le_refl _) (.cells #[.bool b] 4)) own1 (by rw [hlt]; exact gr1) nn1
      replace HN := Lib.hid HN
      rw [← HM.out] at HN
      rw [show ((dig x n).take j).length + [b].length = j + 1 by rw [hlt]; rfl]
      clear own1 gr1 nn1 o1 o2 o3 HS hlt
      go_wp2
      go_roundw
      case rel => exact ⟨j + 1, k, g2, c2, by omega, rfl, by go_num, HN⟩
      case measure => simp [RowKit.intOf]
end Go.Proofs.Ytbkehlppngejnaa
