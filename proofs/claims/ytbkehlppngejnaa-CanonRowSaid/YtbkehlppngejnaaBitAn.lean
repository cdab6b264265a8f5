/-
  Contract of appendNumber: a row of the call's own with the bits of a number behind it.
-/
import Derived.Test.YtbkehlppngejnaaBitTa
namespace Go.Proofs.Ytbkehlppngejnaa
open Go.RowKit Mb Go.Lib
theorem info4 : (Try.prog.info? 4).map (fun i => (i.zero, i.size, i.bytes)) = some (some (.bool false), 1, 1) := by kernel_rfl
def pbv (l : List Bool) : List Value := l.map Value.bool
theorem pbv_one (l : List Bool) : ∀ u ∈ pbv l, u.oneCell' = true := fun u hu => by
  obtain ⟨j, _, rfl⟩ := List.mem_map.1 hu
  rfl
theorem pbv_length (l : List Bool) : (pbv l).length = l.length := by simp [pbv]
/-- a row of bools of the call's own; all that was there is as it was -/
structure RowB (base : Nat) (w0 w : World) (g cap : Nat) (l : List Bool) : Prop where
  own : w.ownsRow base 4 1 (.slice (some ⟨g, 0, Option.none⟩) l.length cap) l.length (pbv l)
  below : Below base w0 w
  room : base ≤ w0.heap.size
theorem RowB.size {base : Nat} {w0 w : World} {g cap : Nat} {l : List Bool} (h : RowB base w0 w g cap l) : base ≤ w.heap.size := Nat.le_trans h.room h.below.size
theorem RowB.cap {base : Nat} {w0 w : World} {g cap : Nat} {l : List Bool} (h : RowB base w0 w g cap l) : l.length ≤ cap ∧ cap ≤ maxLen := by
  rcases h.own.2 with ⟨h1, _⟩ | ⟨g', cap', cur, h1, _, _, h2, h3, _⟩
  · cases h1
  · cases h1; exact ⟨h2, h3⟩
theorem RowB.at {base : Nat} {w0 w : World} {g cap : Nat} {l : List Bool} (h : RowB base w0 w g cap l) : BoolsAt w g 0 l := ⟨fun i hi => by
  have := h.own.cells (g := g) rfl i (.bool (l.getD i false)) (by unfold pbv; rw [List.getElem?_map, List.getElem?_eq_getElem hi]; simp [hi])
  rwa [Addr.add_lit] at this⟩
theorem RowB.lt {base : Nat} {w0 w : World} {g cap : Nat} {l : List Bool} (h : RowB base w0 w g cap l) : base ≤ g ∧ g < w.heap.size := h.own.lt g rfl
/-- elements more in the row -/
theorem RowB.more {base : Nat} {w0 wr w2 w3 : World} {g cap : Nat} {l : List Bool} {m : List Bool} {v : Value} (h : RowB base w0 wr g cap l) (hb : Below wr.heap.size wr w2)
    (own1 : w3.ownsRow base 4 1 v (l.length + m.length) (pbv l ++ pbv m)) (gr : w2.grownBy w3 (Value.slice (some ⟨g, 0, Option.none⟩) l.length cap).ownBlock)
    (nn : ¬ v = .slice Option.none 0 0) : ∃ g1 c1, v = .slice (some ⟨g1, 0, Option.none⟩) (l.length + m.length) c1 ∧ RowB base w0 w3 g1 c1 (l ++ m) := by
  obtain ⟨g1, c1, rfl⟩ := own_some own1 nn
  refine ⟨g1, c1, rfl, by simpa [pbv] using own1, ?_, h.room⟩
  have hb2 : Below base w0 w2 := h.below.trans (hb.mono h.size)
  exact hb2.grown gr (Nat.le_trans h.room hb2.size) (fun b hb => (h.own.lt b hb).1)
theorem one_cell (wr : World) (x : Bool) : ∀ j u, (pbv [x])[j]? = some u → (wr.alloc (.cells #[.bool x] 4)).cell? ((⟨wr.heap.size, 0, Option.none⟩ : Addr).add j) = some u := fun j u hj => by
  match j, hj with
  | 0, hj => simp [pbv] at hj; subst hj; simp [Addr.add]
  | j + 1, hj => simp [pbv] at hj
theorem i64_and1 (n : Int) : Go.bits .and .i64 n 1 = n % 2 := by
  have h1 : (BitVec.ofInt 64 1).toNat = 2 ^ 1 - 1 := by decide
  have key : (BitVec.ofInt 64 n &&& BitVec.ofInt 64 1).toNat = (n % ((2 ^ 64 : Nat) : Int)).toNat % 2 ^ 1 := by
    rw [BitVec.toNat_and, BitVec.toNat_ofInt, h1, Nat.and_two_pow_sub_one_eq_mod]
  show IntKind.i64.wrap ((BitVec.ofInt 64 n &&& BitVec.ofInt 64 1).toNat : Nat) = n % 2
  rw [key, IntKind.wrap_i64]
  omega
theorem bit_is (x k : Nat) : (Go.bits .and .i64 ((x : Int) / 2 ^ k) 1 == 1) = x.testBit k := by
  rw [i64_and1, Nat.testBit_eq_decide_div_mod_eq]
  have e : ((x : Int) / 2 ^ k) % 2 = ((x / 2 ^ k % 2 : Nat) : Int) := by simp
  rw [e, Bool.eq_iff_iff, beq_iff_eq, decide_eq_true_eq]
  omega
set_option maxHeartbeats 1000000 in
theorem append_any (base : Nat) (w0 : World) (l : List Bool) (x n g cap : Nat) (hn : n ≤ 30) (_hx : x < 2 ^ 30) (hl : l.length ≤ 140737488355000) (w : World) (H : RowB base w0 w g cap l) :
    Calls Try.prog 29 #[.slice (some ⟨g, 0, Option.none⟩) l.length cap, .int .i64 x, .int .i64 n] w fun e w' => ∃ g1 c1, e = .returned (.slice (some ⟨g1, 0, Option.none⟩) (l.length + n : Nat) c1) ∧ RowB base w0 w' g1 c1 (l ++ dig x n) := by
  have HS := Lib.hid H
  clear H
  obtain ⟨i0, hi0, hz0, hz1, hz2⟩ := info_parts info4
  go_enter Try.func29, Try.ntmps29
  go_wp2
  go_loopw [0, 7] (fun v i wr => ∃ (j k g1 c1 : Nat), j + k = n ∧ v = .slice (some ⟨g1, 0, Option.none⟩) (l.length + j : Nat) c1 ∧ i = .int .i64 ((k : Int) - 1) ∧ Hid (RowB base w0 wr g1 c1 (l ++ (dig x n).take j))) (fun _ i _ => (RowKit.intOf i + 1).toNat)
  case atStart => exact ⟨0, n, g, cap, by omega, rfl, rfl, by simpa using HS⟩
  case round =>
    clear HS
    obtain ⟨j, k, g1, c1, hjk, rfl, rfl, HS⟩ := hrel
    rcases Nat.eq_zero_or_pos k with hk | hk
    · subst hk
      have e : (dig x n).take j = dig x n := List.take_of_length_le (by rw [dig_length]; omega)
      rw [e] at HS
      have ej : j = n := by omega
      subst ej
      go_wp2
      go_ret
      exact ⟨g1, c1, rfl, HS.out⟩
    · obtain ⟨k, rfl⟩ : ∃ q, k = q + 1 := ⟨k - 1, by omega⟩
      have ek : ((k + 1 : Nat) : Int) - 1 = k := by omega
      simp only [ek]
      have hb := bit_is x k
      have HM : Hid ((dig x n).take (j + 1) = (dig x n).take j ++ [x.testBit k]) := by
        show _ = _
        rw [dig_take x n j (by omega), show n - 1 - j = k by omega]
      generalize x.testBit k = b at hb HM
      have hlt : ((dig x n).take j).length = j := by rw [List.length_take, dig_length]; omega
      have hll : (l ++ (dig x n).take j).length = l.length + j := by rw [List.length_append, hlt]
      have o1 := fun O => (HS.out.own).alloc (w := wr) O
      rw [hll] at o1
      have o2 := one_cell wr b
      have o3 : base ≤ (wr.alloc (.cells #[.bool b] 4)).heap.size := by have := HS.out.size; simp; omega
      clear ek
      go_wp2_with (first
        | (at_builtin; refine wpList_append_own _ rfl _ _ 23 rfl base 4 i0 (.bool false) 1 1 Try.underlying23 hi0 hz0 hz1 hz2 rfl (by decide) _ (l.length + j) (pbv (l ++ (dig x n).take j)) rfl (o1 _) ⟨wr.heap.size, 0, Option.none⟩ 1 1 (pbv [b]) rfl rfl o2 (pbv_one _) (by unfold maxLen; omega) (by omega) o3 ?_)
        | go_in)
      intro v1 w3 own1 gr1 nn1
      rw [← hll] at own1
      obtain ⟨g2, c2, rfl, HN⟩ := HS.out.more ((Below.refl wr.heap.size wr).alloc (Nat.le_refl _) (.cells #[.bool b] 4)) own1 (by rw [hll]; exact gr1) nn1
      replace HN := Lib.hid HN
      rw [List.append_assoc, ← HM.out] at HN
      clear own1 gr1 nn1 o1 o2 o3 HS
      rw [hll]
      clear hll hlt
      go_wp2
      go_roundw
      case rel => exact ⟨j + 1, k, g2, c2, by omega, rfl, by go_num, HN⟩
      case measure => simp [RowKit.intOf]
end Go.Proofs.Ytbkehlppngejnaa

