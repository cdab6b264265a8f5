/-
  Maths of bits: the number that a list of bits is, the bits of a number, bytes of bits, bits of bytes. No condition.
-/
import Derived.Test.YthehjhckcblbdaaRows
import Derived.Test.YthehjhckcblbdaaGe
import Derived.BigQuiet
import Derived.OwnWalk
import Derived.Laws.MakeOwn
import Derived.Laws.AppendOwnNone
namespace Go.Proofs.Ythehjhckcblbdaa.Mb
set_option maxRecDepth 100000
def num (l : List Bool) : Nat := l.foldl (fun n b => 2 * n + b.toNat) 0
def dig (n w : Nat) : List Bool := (List.range w).map fun j => n.testBit (w - 1 - j)
theorem num_nil : num [] = 0 := rfl
theorem num_snoc (l : List Bool) (b : Bool) : num (l ++ [b]) = 2 * num l + b.toNat := by simp [num]
theorem num_append (a b : List Bool) : num (a ++ b) = num a * 2 ^ b.length + num b := by
  suffices h : ∀ (r : List Bool), num (a ++ r.reverse) = num a * 2 ^ r.length + num r.reverse by simpa using h b.reverse
  intro r
  induction r with
  | nil => simp [num_nil]
  | cons x r ih =>
    rw [List.reverse_cons, ← List.append_assoc, num_snoc, num_snoc, ih, List.length_cons, Nat.pow_succ, Nat.mul_add]
    rw [show num a * (2 ^ r.length * 2) = 2 * (num a * 2 ^ r.length) by rw [← Nat.mul_assoc, Nat.mul_comm]]
    omega
theorem num_lt (l : List Bool) : num l < 2 ^ l.length := by
  suffices h : ∀ (r : List Bool), num r.reverse < 2 ^ r.length by simpa using h l.reverse
  intro r
  induction r with
  | nil => simp [num_nil]
  | cons x r ih =>
    rw [List.reverse_cons, num_snoc, List.length_cons, Nat.pow_succ]
    have : x.toNat ≤ 1 := by cases x <;> simp
    omega
theorem num_zeros (n : Nat) : num (List.replicate n false) = 0 := by
  induction n with
  | zero => rfl
  | succ n ih => rw [List.replicate_succ', num_snoc, ih]; rfl
theorem dig_length (n w : Nat) : (dig n w).length = w := by simp [dig]
theorem dig_zero (n : Nat) : dig n 0 = [] := rfl
theorem dig_succ (n w : Nat) : dig n (w + 1) = dig (n / 2) w ++ [n.testBit 0] := by
  unfold dig
  rw [List.range_succ, List.map_append]
  congr 1
  · refine List.map_congr_left fun j hj => ?_
    have : j < w := by simpa using hj
    rw [show w + 1 - 1 - j = (w - 1 - j) + 1 by omega, Nat.testBit_succ]
  · simp
theorem dig_take (n w j : Nat) (h : j < w) : (dig n w).take (j + 1) = (dig n w).take j ++ [n.testBit (w - 1 - j)] := by
  rw [List.take_succ_eq_append_getElem (by rw [dig_length]; exact h)]
  congr 1
  simp [dig]
theorem num_dig (n w : Nat) : num (dig n w) = n % 2 ^ w := by
  induction w generalizing n with
  | zero => simp [dig_zero, num_nil, Nat.mod_one]
  | succ w ih =>
    rw [dig_succ, num_snoc, ih, Nat.testBit_zero, Nat.pow_succ]
    rw [Nat.mul_comm (2 ^ w) 2, Nat.mod_mul]
    have : (decide (n % 2 = 1)).toNat = n % 2 := by rcases Nat.mod_two_eq_zero_or_one n with h | h <;> simp [h]
    rw [this]; omega
theorem dig_num (l : List Bool) : dig (num l) l.length = l := by
  suffices h : ∀ (r : List Bool), dig (num r.reverse) r.reverse.length = r.reverse by simpa using h l.reverse
  intro r
  induction r with
  | nil => rfl
  | cons x r ih =>
    have e : (List.reverse (x :: r)).length = r.reverse.length + 1 := by simp
    rw [e, List.reverse_cons, dig_succ, num_snoc]
    have h1 : (2 * num r.reverse + x.toNat) / 2 = num r.reverse := by
      have : x.toNat ≤ 1 := by cases x <;> simp
      omega
    have h2 : (2 * num r.reverse + x.toNat).testBit 0 = x := by
      rw [Nat.testBit_zero]
      cases x <;> simp <;> omega
    rw [h1, h2, ih]
theorem dig_add (n a b : Nat) : dig n (a + b) = dig (n / 2 ^ b) a ++ dig n b := by
  induction b generalizing n with
  | zero => simp [dig_zero]
  | succ b ih =>
    rw [show a + (b + 1) = (a + b) + 1 by omega, dig_succ, ih, dig_succ, List.append_assoc, Nat.div_div_eq_div_mul, Nat.pow_succ, Nat.mul_comm 2]
theorem dig_mod (n b : Nat) : dig (n % 2 ^ b) b = dig n b := by
  have h := dig_num (dig n b)
  rwa [num_dig, dig_length] at h
theorem dig_of_lt (n w : Nat) (h : n < 2 ^ w) : num (dig n w) = n := by rw [num_dig, Nat.mod_eq_of_lt h]
/-- a bit of a list, by its number -/
theorem num_bit (l : List Bool) (i : Nat) (h : i < l.length) : (num l).testBit (l.length - 1 - i) = l.getD i false := by
  have e := congrArg (fun m => m.getD i false) (dig_num l)
  rw [← e]
  simp [dig, h]
theorem num_div (l : List Bool) (i : Nat) (h : i < l.length) : num l / 2 ^ (l.length - 1 - i) % 2 = (l.getD i false).toNat := by
  rw [← num_bit l i h, Nat.toNat_testBit]
/-- eight bits from place 8k on, with 0 where there is none -/
def eight (l : List Bool) (k : Nat) : List Bool := (List.range 8).map fun i => l.getD (8 * k + i) false
theorem eight_length (l : List Bool) (k : Nat) : (eight l k).length = 8 := by simp [eight]
def byteAt (l : List Bool) (k : Nat) : Nat := num (eight l k)
theorem byteAt_lt (l : List Bool) (k : Nat) : byteAt l k < 256 := by
  have := num_lt (eight l k)
  rw [eight_length] at this
  exact this
theorem eight_is (l : List Bool) (k : Nat) : eight l k = (l.drop (8 * k)).take 8 ++ List.replicate (8 - (l.length - 8 * k)) false := by
  apply List.ext_getElem
  · simp [eight]; omega
  · intro i h1 h2
    have hi : i < 8 := by simpa [eight] using h1
    by_cases h : 8 * k + i < l.length
    · rw [List.getElem_append_left (by simp; omega)]
      simp [eight, h]
    · rw [List.getElem_append_right (by simp; omega)]
      simp [eight, h]
theorem byteAt_is (l : List Bool) (k n : Nat) (hn : n = min (l.length - 8 * k) 8) : byteAt l k = num ((l.drop (8 * k)).take n) * 2 ^ (8 - n) := by
  have e : (l.drop (8 * k)).take n = (l.drop (8 * k)).take 8 := by
    rw [hn, List.take_eq_take_iff, List.length_drop]; omega
  rw [e]
  unfold byteAt
  rw [eight_is, num_append, num_zeros, List.length_replicate, Nat.add_zero]
  congr 2
  omega
def packN (l : List Bool) (n : Nat) : List UInt8 := (List.range n).map fun k => UInt8.ofNat (byteAt l k)
def packL (l : List Bool) : List UInt8 := packN l ((l.length + 7) / 8)
theorem packN_length (l : List Bool) (n : Nat) : (packN l n).length = n := by simp [packN]
theorem packN_snoc (l : List Bool) (n : Nat) : packN l (n + 1) = packN l n ++ [UInt8.ofNat (byteAt l n)] := by simp [packN, List.range_succ]
theorem packL_length (l : List Bool) : (packL l).length = (l.length + 7) / 8 := packN_length _ _
def unpackL (s : List UInt8) : List Bool := s.flatMap fun x => dig x.toNat 8
theorem unpackL_length (s : List UInt8) : (unpackL s).length = 8 * s.length := by
  induction s with
  | nil => rfl
  | cons x s ih => unfold unpackL at *; rw [List.flatMap_cons, List.length_append, ih, dig_length, List.length_cons]; omega
theorem unpackL_snoc (s : List UInt8) (x : UInt8) : unpackL (s ++ [x]) = unpackL s ++ dig x.toNat 8 := by simp [unpackL]
theorem eights (f : Nat → Bool) (n : Nat) : ((List.range n).flatMap fun k => (List.range 8).map fun i => f (8 * k + i)) = (List.range (8 * n)).map f := by
  induction n with
  | zero => rfl
  | succ n ih =>
    rw [show List.range (n + 1) = List.range n ++ [n] from List.range_succ, List.flatMap_append, ih, Nat.mul_add, Nat.mul_one, List.range_add, List.map_append]
    simp
theorem unpack_packN (l : List Bool) (n : Nat) : unpackL (packN l n) = (List.range (8 * n)).map fun j => l.getD j false := by
  rw [← eights]
  unfold unpackL packN
  rw [List.flatMap_map]
  congr 1
  funext k
  have h := dig_num (eight l k)
  rw [eight_length] at h
  have e : (UInt8.ofNat (byteAt l k)).toNat = num (eight l k) := by
    have := byteAt_lt l k
    simp
    unfold byteAt at *
    omega
  rw [e, h]
  rfl
theorem unpack_pack (l : List Bool) : unpackL (packL l) = l ++ List.replicate (8 * ((l.length + 7) / 8) - l.length) false := by
  unfold packL
  rw [unpack_packN]
  apply List.ext_getElem
  · simp; omega
  · intro i h1 h2
    by_cases h : i < l.length
    · rw [List.getElem_append_left h]; simp [h]
    · rw [List.getElem_append_right (by omega)]; simp [h]
theorem unpack_getD (s : List UInt8) (k i : Nat) (hi : i < 8) (hk : k < s.length) : (unpackL s).getD (8 * k + i) false = (dig (s[k]).toNat 8).getD i false := by
  induction s generalizing k with
  | nil => simp at hk
  | cons x s ih =>
    unfold unpackL at *
    rw [List.flatMap_cons]
    cases k with
    | zero => rw [List.getD_eq_getElem?_getD, List.getElem?_append_left (by rw [dig_length]; omega), Nat.mul_zero, Nat.zero_add, ← List.getD_eq_getElem?_getD]; rfl
    | succ k =>
      rw [List.getD_eq_getElem?_getD, List.getElem?_append_right (by rw [dig_length]; omega), dig_length, ← List.getD_eq_getElem?_getD, show 8 * (k + 1) + i - 8 = 8 * k + i by omega, ih k (by simpa using hk)]
      rfl
theorem pack_unpack (s : List UInt8) : packL (unpackL s) = s := by
  apply List.ext_getElem
  · rw [packL_length, unpackL_length]; omega
  · intro k h1 h2
    have hk : k < s.length := h2
    have e : eight (unpackL s) k = dig (s[k]).toNat 8 := by
      unfold eight
      apply List.ext_getElem
      · simp [dig_length]
      · intro i g1 g2
        have hi : i < 8 := by simpa using g1
        simp only [List.getElem_map, List.getElem_range]
        rw [unpack_getD s k i hi hk, List.getD_eq_getElem?_getD, List.getElem?_eq_getElem g2]; rfl
    have hb : byteAt (unpackL s) k = (s[k]).toNat := by
      unfold byteAt
      rw [e, num_dig, Nat.mod_eq_of_lt (s[k]).toNat_lt]
    simp [packL, packN, hb]
end Go.Proofs.Ythehjhckcblbdaa.Mb
/-
  Contracts of what only reads: widthFits, the document's Power, number, the document's Same.
-/
namespace Go.Proofs.Ythehjhckcblbdaa
set_option maxRecDepth 100000
open Go.RowKit Mb Go.Lib
/-- bools that lie from a place on -/
structure BoolsAt (w : World) (blk off : Nat) (l : List Bool) : Prop where
  cell : ∀ i, i < l.length → w.cell? ⟨blk, off + i, none⟩ = some (.bool (l.getD i false))
theorem width_any (n : Int) (w : World) : Calls Try.prog 88 #[.int .i64 n] w fun e w' => e = .returned (.bool (decide (0 ≤ n) && decide (n ≤ 30))) ∧ w' = w := by
  by_cases h1 : 0 ≤ n <;> by_cases h2 : n ≤ 30
  all_goals
    go_enter Try.func88, Try.ntmps88
    go_wp2
    go_ret
    exact ⟨by simp [h1, h2], rfl⟩
theorem number_any (l : List Bool) (hl : l.length ≤ 30) (blk off cap : Nat) (w : World) (hc : BoolsAt w blk off l) :
    Calls Try.prog 38 #[.slice (some ⟨blk, off, none⟩) l.length cap] w fun e w' => e = .returned (.int .i64 (num l : Int)) ∧ w' = w := by
  have HC := Lib.hid hc
  clear hc
  go_enter Try.func38, Try.ntmps38
  go_wp2
  go_loop [3, 5, 8] (fun x _ i => ∃ k : Nat, k ≤ l.length ∧ i = .int .i64 k ∧ x = .int .i64 (num (l.take k) : Int)) (fun _ _ i => l.length - (RowKit.intOf i).toNat)
  case atStart => exact ⟨0, Nat.zero_le _, rfl, rfl⟩
  case round =>
    obtain ⟨k, hk, rfl, rfl⟩ := hrel
    by_cases hlt : k < l.length
    · have c := HC.out.cell k hlt
      have HB : Hid (num (l.take k) < 1073741824) := by
        show _ < _
        have h := num_lt (l.take k)
        have h2 : 2 ^ (l.take k).length ≤ 2 ^ 30 := Nat.pow_le_pow_right (by decide) (by rw [List.length_take]; omega)
        omega
      have HS : Hid (num (l.take (k + 1)) = 2 * num (l.take k) + (l.getD k false).toNat) := by
        show _ = _
        rw [take_getD l k hlt, num_snoc]
      generalize num (l.take k) = x at HB HS ⊢
      have hb := HB.out
      cases hx : l.getD k false
      all_goals
        rw [hx] at c HS
        go_wp2
        go_round
        case rel => exact ⟨k + 1, by omega, by go_num, by rw [HS.out]; go_num⟩
        case measure => simp [RowKit.intOf]; omega
    · have e : l.take k = l := List.take_of_length_le (by omega)
      rw [e]
      go_wp2
      go_ret
      exact ⟨rfl, rfl⟩
end Go.Proofs.Ythehjhckcblbdaa
/-
  Contracts of the document's Same and of Take.
-/
namespace Go.Proofs.Ythehjhckcblbdaa
set_option maxRecDepth 100000
open Go.RowKit Mb Go.Lib
theorem BoolsAt.below {w w' : World} {blk off : Nat} {l : List Bool} (h : BoolsAt w blk off l) (hb : Below w.heap.size w w') : BoolsAt w' blk off l :=
  ⟨fun i hi => by rw [hb.cell (p := ⟨blk, off + i, none⟩) (World.block_lt_of_cell? w _ (h.cell i hi))]; exact h.cell i hi⟩
end Go.Proofs.Ythehjhckcblbdaa
/-
  Contract of Take, of a place and a width that go into the list, and of such as do not.
-/
namespace Go.Proofs.Ythehjhckcblbdaa
set_option maxRecDepth 100000
open Go.RowKit Mb Go.Lib
theorem getD_part (l : List Bool) (p n i : Nat) (hi : i < n) : ((l.drop p).take n).getD i false = l.getD (p + i) false := by
  rw [List.getD_eq_getElem?_getD, List.getElem?_take, if_pos hi, List.getElem?_drop, List.getD_eq_getElem?_getD]
theorem BoolsAt.part {w : World} {blk off : Nat} {l : List Bool} (h : BoolsAt w blk off l) (p n : Nat) (hp : p + n ≤ l.length) : BoolsAt w blk (off + p) ((l.drop p).take n) :=
  ⟨fun i hi => by
    have hi' : i < n := by simp at hi; omega
    rw [getD_part l p n i hi', Nat.add_assoc]
    exact h.cell (p + i) (by omega)⟩
theorem BoolsAt.none (w : World) (blk off : Nat) : BoolsAt w blk off [] := ⟨fun i hi => by simp at hi⟩
theorem take_no (l : List Bool) (p n blk off cap : Nat) (hn : n ≤ 30) (hl : l.length ≤ maxLen) (hp : p ≤ l.length) (hno : l.length < p + n) (w : World) :
    Calls Try.prog 104 #[.slice (some ⟨blk, off, Option.none⟩) l.length cap, .int .i64 p, .int .i64 n] w fun e w' => e = .returned (.tuple #[.int .i64 0, .int .i64 0, .bool false]) ∧ w' = w := by
  unfold maxLen at hl
  have b1 : (p : Int) ≤ l.length := by omega
  have b2 : (l.length : Int) - p < n := by omega
  have b3 : (l.length : Int) ≤ 9223372036854775807 := by omega
  have b4 : (decide ((0 : Int) ≤ n) && decide ((n : Int) ≤ 30)) = true := by simp; omega
  have hw := width_any n w
  rw [b4] at hw
  clear b4
  go_enter Try.func104, Try.ntmps104
  go_wp2_with (go_at_call 88; ((with_reducible refine hw.mono ?_); rintro e w' ⟨rfl, rfl⟩))
  go_ret3
  exact ⟨rfl, rfl⟩
theorem take_in (l : List Bool) (p n blk off cap : Nat) (hn : n ≤ 30) (hl : l.length ≤ maxLen) (hp : p + n ≤ l.length) (hcap : l.length ≤ cap) (hcm : cap ≤ maxLen) (w : World) (hc : BoolsAt w blk off l) :
    Calls Try.prog 104 #[.slice (some ⟨blk, off, Option.none⟩) l.length cap, .int .i64 p, .int .i64 n] w fun e w' => e = .returned (.tuple #[.int .i64 (num ((l.drop p).take n) : Int), .int .i64 ((p + n : Nat) : Int), .bool true]) ∧ w' = w := by
  unfold maxLen at hl hcm
  have hlen : ((l.drop p).take n).length = n := by simp; omega
  have b0 : (n : Int) ≤ 30 := by omega
  have b1 : (p : Int) ≤ l.length := by omega
  have b2 : ¬ ((l.length : Int) - p < n) := by omega
  have b3 : (l.length : Int) ≤ 9223372036854775807 := by omega
  have b4 : (decide ((0 : Int) ≤ n) && decide ((n : Int) ≤ 30)) = true := by simp; omega
  have b5 : (p : Int) + n ≤ l.length := by omega
  have b6 : (l.length : Int) ≤ cap := by omega
  have b7 : (cap : Int) ≤ 9223372036854775807 := by omega
  have hw := width_any n w
  rw [b4] at hw
  clear b4
  rcases Nat.lt_or_eq_of_le (show p ≤ cap by omega) with hpc | hpc
  · have hpc' : (p : Int) < cap := by omega
    have hk := fun c => number_any ((l.drop p).take n) (by omega) blk (off + p) c w (hc.part p n hp)
    rw [hlen] at hk
    generalize num ((l.drop p).take n) = x at hk ⊢
    clear hc hlen hcap hcm hl hp hn
    go_enter Try.func104, Try.ntmps104
    go_wp2_with (first | (go_at_call 88; ((with_reducible refine hw.mono ?_); rintro e w' ⟨rfl, rfl⟩)) | (go_at_call 38; ((with_reducible refine (hk _).mono ?_); rintro e w' ⟨rfl, rfl⟩)))
    go_ret3
    exact ⟨rfl, rfl⟩
  · have hx : (l.drop p).take n = [] := by rw [show n = 0 by omega]; rfl
    have hk := fun c => number_any ((l.drop p).take n) (by omega) blk off c w (by rw [hx]; exact .none w blk off)
    rw [hlen] at hk
    have hli : (l.length : Int) = p := by omega
    generalize num ((l.drop p).take n) = x at hk ⊢
    subst hpc
    clear hc hlen hcap hcm hl hp hn hx
    go_enter Try.func104, Try.ntmps104
    go_wp2_with (first | (go_at_call 88; ((with_reducible refine hw.mono ?_); rintro e w' ⟨rfl, rfl⟩)) | (go_at_call 38; ((with_reducible refine (hk _).mono ?_); rintro e w' ⟨rfl, rfl⟩)))
    go_ret3
    exact ⟨rfl, rfl⟩
end Go.Proofs.Ythehjhckcblbdaa
/-
  Contract of appendNumber: a row of the call's own with the bits of a number behind it.
-/
namespace Go.Proofs.Ythehjhckcblbdaa
set_option maxRecDepth 100000
open Go.RowKit Mb Go.Lib
theorem info4 : (Try.prog.info? 4).map (fun i => (i.zero, i.size, i.bytes)) = some (some (.bool false), 1, 1) := by kernel_rfl
def pbv (l : List Bool) : List Value := l.map Value.bool
theorem pbv_one (l : List Bool) : ∀ u ∈ pbv l, u.oneCell' = true := fun u hu => by
  obtain ⟨j, _, rfl⟩ := List.mem_map.1 hu
  rfl
theorem pbv_length (l : List Bool) : (pbv l).length = l.length := by simp [pbv]
/-- a row of bools of the call's own; all that was there is as it was -/
structure RowB (base : Nat) (w0 w : World) (g cap : Nat) (l : List Bool) : Prop where
  own : w.ownsRow base 4 1 (.slice (some ⟨g, 0, Option.none⟩) l.length cap) l.length (pbv l)
  below : Below base w0 w
  room : base ≤ w0.heap.size
theorem RowB.size {base : Nat} {w0 w : World} {g cap : Nat} {l : List Bool} (h : RowB base w0 w g cap l) : base ≤ w.heap.size := Nat.le_trans h.room h.below.size
theorem RowB.cap {base : Nat} {w0 w : World} {g cap : Nat} {l : List Bool} (h : RowB base w0 w g cap l) : l.length ≤ cap ∧ cap ≤ maxLen := by
  rcases h.own.2 with ⟨h1, _⟩ | ⟨g', cap', cur, h1, _, _, h2, h3, _⟩
  · cases h1
  · cases h1; exact ⟨h2, h3⟩
theorem RowB.at {base : Nat} {w0 w : World} {g cap : Nat} {l : List Bool} (h : RowB base w0 w g cap l) : BoolsAt w g 0 l := ⟨fun i hi => by
  have := h.own.cells (g := g) rfl i (.bool (l.getD i false)) (by unfold pbv; rw [List.getElem?_map, List.getElem?_eq_getElem hi]; simp [hi])
  rwa [Addr.add_lit] at this⟩
theorem RowB.lt {base : Nat} {w0 w : World} {g cap : Nat} {l : List Bool} (h : RowB base w0 w g cap l) : base ≤ g ∧ g < w.heap.size := h.own.lt g rfl
/-- elements more in the row -/
theorem RowB.more {base : Nat} {w0 wr w2 w3 : World} {g cap : Nat} {l : List Bool} {m : List Bool} {v : Value} (h : RowB base w0 wr g cap l) (hb : Below wr.heap.size wr w2)
    (own1 : w3.ownsRow base 4 1 v (l.length + m.length) (pbv l ++ pbv m)) (gr : w2.grownBy w3 (Value.slice (some ⟨g, 0, Option.none⟩) l.length cap).ownBlock)
    (nn : ¬ v = .slice Option.none 0 0) : ∃ g1 c1, v = .slice (some ⟨g1, 0, Option.none⟩) (l.length + m.length) c1 ∧ RowB base w0 w3 g1 c1 (l ++ m) := by
  obtain ⟨g1, c1, rfl⟩ := own_some own1 nn
  refine ⟨g1, c1, rfl, by simpa [pbv] using own1, ?_, h.room⟩
  have hb2 : Below base w0 w2 := h.below.trans (hb.mono h.size)
  exact hb2.grown gr (Nat.le_trans h.room hb2.size) (fun b hb => (h.own.lt b hb).1)
theorem one_cell (wr : World) (x : Bool) : ∀ j u, (pbv [x])[j]? = some u → (wr.alloc (.cells #[.bool x] 4)).cell? ((⟨wr.heap.size, 0, Option.none⟩ : Addr).add j) = some u := fun j u hj => by
  match j, hj with
  | 0, hj => simp [pbv] at hj; subst hj; simp [Addr.add]
  | j + 1, hj => simp [pbv] at hj
theorem i64_and1 (n : Int) : Go.bits .and .i64 n 1 = n % 2 := by
  have h1 : (BitVec.ofInt 64 1).toNat = 2 ^ 1 - 1 := by decide
  have key : (BitVec.ofInt 64 n &&& BitVec.ofInt 64 1).toNat = (n % ((2 ^ 64 : Nat) : Int)).toNat % 2 ^ 1 := by
    rw [BitVec.toNat_and, BitVec.toNat_ofInt, h1, Nat.and_two_pow_sub_one_eq_mod]
  show IntKind.i64.wrap ((BitVec.ofInt 64 n &&& BitVec.ofInt 64 1).toNat : Nat) = n % 2
  rw [key, IntKind.wrap_i64]
  omega
theorem bit_is (x k : Nat) : (Go.bits .and .i64 ((x : Int) / 2 ^ k) 1 == 1) = x.testBit k := by
  rw [i64_and1, Nat.testBit_eq_decide_div_mod_eq]
  have e : ((x : Int) / 2 ^ k) % 2 = ((x / 2 ^ k % 2 : Nat) : Int) := by simp
  rw [e, Bool.eq_iff_iff, beq_iff_eq, decide_eq_true_eq]
  omega
set_option maxHeartbeats 1000000 in
theorem append_any (base : Nat) (w0 : World) (l : List Bool) (x n g cap : Nat) (hn : n ≤ 30) (_hx : x < 2 ^ 30) (hl : l.length ≤ 140737488355000) (w : World) (H : RowB base w0 w g cap l) :
    Calls Try.prog 73 #[.slice (some ⟨g, 0, Option.none⟩) l.length cap, .int .i64 x, .int .i64 n] w fun e w' => ∃ g1 c1, e = .returned (.slice (some ⟨g1, 0, Option.none⟩) (l.length + n : Nat) c1) ∧ RowB base w0 w' g1 c1 (l ++ dig x n) := by
  have HS := Lib.hid H
  clear H
  obtain ⟨i0, hi0, hz0, hz1, hz2⟩ := info_parts info4
  go_enter Try.func73, Try.ntmps73
  go_wp2
  go_loopw [0, 7] (fun v i wr => ∃ (j k g1 c1 : Nat), j + k = n ∧ v = .slice (some ⟨g1, 0, Option.none⟩) (l.length + j : Nat) c1 ∧ i = .int .i64 ((k : Int) - 1) ∧ Hid (RowB base w0 wr g1 c1 (l ++ (dig x n).take j))) (fun _ i _ => (RowKit.intOf i + 1).toNat)
  case atStart => exact ⟨0, n, g, cap, by omega, rfl, rfl, by simpa using HS⟩
  case round =>
    clear HS
    obtain ⟨j, k, g1, c1, hjk, rfl, rfl, HS⟩ := hrel
    rcases Nat.eq_zero_or_pos k with hk | hk
    · subst hk
      have e : (dig x n).take j = dig x n := List.take_of_length_le (by rw [dig_length]; omega)
      rw [e] at HS
      have ej : j = n := by omega
      subst ej
      go_wp2
      go_ret
      exact ⟨g1, c1, rfl, HS.out⟩
    · obtain ⟨k, rfl⟩ : ∃ q, k = q + 1 := ⟨k - 1, by omega⟩
      have ek : ((k + 1 : Nat) : Int) - 1 = k := by omega
      simp only [ek]
      have hb := bit_is x k
      have HM : Hid ((dig x n).take (j + 1) = (dig x n).take j ++ [x.testBit k]) := by
        show _ = _
        rw [dig_take x n j (by omega), show n - 1 - j = k by omega]
      generalize x.testBit k = b at hb HM
      have hlt : ((dig x n).take j).length = j := by rw [List.length_take, dig_length]; omega
      have hll : (l ++ (dig x n).take j).length = l.length + j := by rw [List.length_append, hlt]
      have o1 := fun O => (HS.out.own).alloc (w := wr) O
      rw [hll] at o1
      have o2 := one_cell wr b
      have o3 : base ≤ (wr.alloc (.cells #[.bool b] 4)).heap.size := by have := HS.out.size; simp; omega
      clear ek
      go_wp2_with (first
        | (at_builtin; refine wpList_append_own _ rfl _ _ 33 rfl base 4 i0 (.bool false) 1 1 Try.underlying33 hi0 hz0 hz1 hz2 rfl (by decide) _ (l.length + j) (pbv (l ++ (dig x n).take j)) rfl (o1 _) ⟨wr.heap.size, 0, Option.none⟩ 1 1 (pbv [b]) rfl rfl o2 (pbv_one _) (by unfold maxLen; omega) (by omega) o3 ?_)
        | go_in)
      intro v1 w3 own1 gr1 nn1
      rw [← hll] at own1
      obtain ⟨g2, c2, rfl, HN⟩ := HS.out.more ((Below.refl wr.heap.size wr).alloc (Nat.le_refl _) (.cells #[.bool b] 4)) own1 (by rw [hll]; exact gr1) nn1
      replace HN := Lib.hid HN
      rw [List.append_assoc, ← HM.out] at HN
      clear own1 gr1 nn1 o1 o2 o3 HS
      rw [hll]
      clear hll hlt
      go_wp2
      go_roundw
      case rel => exact ⟨j + 1, k, g2, c2, by omega, rfl, by go_num, HN⟩
      case measure => simp [RowKit.intOf]
end Go.Proofs.Ythehjhckcblbdaa
/-
  Contract of Put: of a list that is nil, of one that is there, and of numbers and widths that do not go.
-/
namespace Go.Proofs.Ythehjhckcblbdaa
set_option maxRecDepth 100000
open Go.RowKit Mb Go.Lib
/-- a number that goes into so many bits -/
def fits (x n : Int) : Bool := decide (0 ≤ n) && decide (n ≤ 30) && (decide (0 ≤ x) && decide (x < ((2 ^ n.toNat : Nat) : Int)))
theorem fits_nat {x n : Int} (h : fits x n = true) : ∃ y m : Nat, x = y ∧ n = m ∧ m ≤ 30 ∧ y < 2 ^ m ∧ y < 2 ^ 30 := by
  unfold fits at h
  simp only [Bool.and_eq_true, decide_eq_true_eq] at h
  obtain ⟨⟨h1, h2⟩, h3, h4⟩ := h
  obtain ⟨y, rfl⟩ := Int.eq_ofNat_of_zero_le h3
  obtain ⟨m, rfl⟩ := Int.eq_ofNat_of_zero_le h1
  have h5 : y < 2 ^ m := by rw [Int.toNat_natCast] at h4; exact Int.ofNat_lt.1 h4
  have h6 : 2 ^ m ≤ 2 ^ 30 := Nat.pow_le_pow_right (by decide) (by omega)
  exact ⟨y, m, rfl, rfl, by omega, h5, by omega⟩
theorem make_bools (n : Nat) (hn : n ≤ 140737488355300) (w : World) :
    (Instr.makeSlice 33 (.int .i64 0) (.int .i64 n)).run Try.prog w = .ok (.slice (some ⟨w.heap.size, 0, Option.none⟩) 0 n) (w.alloc (.cells (madeCells #[.bool false] n) 4)) := by
  obtain ⟨i0, hi0, hz0, hz1, hz2⟩ := info_parts info4
  have h := run_make (P := Try.prog) w 33 4 i0 (.bool false) Try.underlying33 hi0 hz0 .i64 .i64 0 n (by omega) (by omega) (by rw [hz2]; omega) (by omega)
  rw [hz1] at h
  simp only [Int.toNat_zero, Int.toNat_natCast, Nat.mul_one] at h
  exact h
theorem RowB.made (w : World) (n : Nat) (hn : n ≤ maxLen) : RowB w.heap.size w (w.alloc (.cells (madeCells #[.bool false] n) 4)) w.heap.size n [] :=
  ⟨World.ownsRow_made w _ n (Nat.le_refl _) hn (by simp [size_madeCells]), (Below.refl _ _).alloc (Nat.le_refl _) _, Nat.le_refl _⟩
set_option maxHeartbeats 1000000 in
theorem put_some (l : List Bool) (a : Addr) (cap x n : Nat) (hn : n ≤ 30) (hx : x < 2 ^ n) (hl : l.length ≤ 140737488355000) (w : World) (hc : ∀ i, i < l.length → w.cell? (a.add i) = some (.bool (l.getD i false))) :
    Calls Try.prog 64 #[.slice (some a) l.length cap, .int .i64 x, .int .i64 n] w fun e w' => ∃ g c, e = .returned (.tuple #[.slice (some ⟨g, 0, Option.none⟩) (l ++ dig x n).length c, .bool true]) ∧ RowB w.heap.size w w' g c (l ++ dig x n) := by
  have hx30 : x < 2 ^ 30 := Nat.lt_of_lt_of_le hx (Nat.pow_le_pow_right (by decide) hn)
  have hp : (2 : Int) ^ n ≤ 1073741824 := by
    have h6 : 2 ^ n ≤ 2 ^ 30 := Nat.pow_le_pow_right (by decide) hn
    have h7 : ((2 ^ n : Nat) : Int) ≤ ((2 ^ 30 : Nat) : Int) := by omega
    simpa using h7
  have hp0 : (x : Int) < 2 ^ n := by
    have h7 : (x : Int) < ((2 ^ n : Nat) : Int) := by omega
    simpa using h7
  have hw := width_any n w
  have b0 : (n : Int) ≤ 30 := by omega
  have b4 : (decide ((0 : Int) ≤ n) && decide ((n : Int) ≤ 30)) = true := by simp; omega
  rw [b4] at hw
  clear b4
  have hmk := fun w => make_bools (l.length + n) (by omega) w
  rw [show ((l.length + n : Nat) : Int) = (l.length : Int) + n by omega] at hmk
  have bl : (l.length : Int) ≤ 140737488355000 := by omega
  have HX := Lib.hid hx
  clear hx
  obtain ⟨i0, hi0, hz0, hz1, hz2⟩ := info_parts info4
  have HR : Hid (RowB w.heap.size w (w.alloc (.cells (madeCells #[.bool false] (l.length + n)) 4)) w.heap.size (l.length + n) []) := RowB.made w _ (by unfold maxLen; omega)
  obtain ⟨B, hB⟩ : ∃ B, B = w.heap.size := ⟨_, rfl⟩
  have HB := Lib.hid hB
  have HR : Hid (RowB B w (w.alloc (.cells (madeCells #[.bool false] (l.length + n)) 4)) w.heap.size (l.length + n) []) := by rw [hB]; exact HR
  clear hB
  have o1 := HR.out.own
  have o3 := HR.out.size
  have n1 : (pbv l).length = l.length * 1 := by simp [pbv]
  have n2 : ∀ j u, (pbv l)[j]? = some u → (w.alloc (.cells (madeCells #[.bool false] (l.length + n)) 4)).cell? (a.add j) = some u := fun j u hj => by
    by_cases h : j < l.length
    · have e := hc j h
      have hb := World.block_lt_of_cell? w _ e
      rw [World.cell?_alloc_old _ _ _ (by omega), e, ← hj]
      unfold pbv
      rw [List.getElem?_map, List.getElem?_eq_getElem h]
      simp [h]
    · unfold pbv at hj
      rw [List.getElem?_map, List.getElem?_eq_none (by omega)] at hj
      simp at hj
  clear hc
  generalize hw1 : w.alloc (.cells (madeCells #[.bool false] (l.length + n)) 4) = w1 at *
  go_enter Try.func64, Try.ntmps64
  go_wp2_with (first
    | (go_at_call 88; ((with_reducible refine hw.mono ?_); rintro e w' ⟨rfl, rfl⟩))
    | (at_builtin; refine wpList_append_own _ rfl _ _ 33 rfl B 4 i0 (.bool false) 1 1 Try.underlying33 hi0 hz0 hz1 hz2 rfl (by decide) _ 0 [] rfl o1 a l.length cap (pbv l) rfl n1 n2 (pbv_one _) (by unfold maxLen; omega) (by omega) o3 ?_)
    | go_in)
  intro v1 w3 own1 gr1 nn1
  obtain ⟨g2, c2, hv, HN⟩ := HR.out.more (m := l) (Below.refl _ _) (by simpa [pbv] using own1) gr1 nn1
  simp only [List.length_nil, Nat.zero_add, List.nil_append] at hv HN
  subst hv
  replace HN := Lib.hid HN
  have hk := append_any B _ l x n g2 c2 hn hx30 (by omega) _ HN.out
  clear HN HR hmk o1 o3 n1 n2 gr1 own1 nn1
  go_wp2_with (go_at_call 73; ((with_reducible refine hk.mono ?_); rintro e w' ⟨g3, c3, rfl, HF⟩))
  go_ret2
  exact ⟨g3, c3, by simp [dig_length], HB.out ▸ HF⟩
set_option maxHeartbeats 1000000 in
theorem put_nil (x n : Nat) (hn : n ≤ 30) (hx : x < 2 ^ n) (w : World) :
    Calls Try.prog 64 #[.slice Option.none 0 0, .int .i64 x, .int .i64 n] w fun e w' => ∃ g c, e = .returned (.tuple #[.slice (some ⟨g, 0, Option.none⟩) (dig x n).length c, .bool true]) ∧ RowB w.heap.size w w' g c (dig x n) := by
  have hx30 : x < 2 ^ 30 := Nat.lt_of_lt_of_le hx (Nat.pow_le_pow_right (by decide) hn)
  have hp : (2 : Int) ^ n ≤ 1073741824 := by
    have h6 : 2 ^ n ≤ 2 ^ 30 := Nat.pow_le_pow_right (by decide) hn
    have h7 : ((2 ^ n : Nat) : Int) ≤ ((2 ^ 30 : Nat) : Int) := by omega
    simpa using h7
  have hp0 : (x : Int) < 2 ^ n := by
    have h7 : (x : Int) < ((2 ^ n : Nat) : Int) := by omega
    simpa using h7
  have hw := width_any n w
  have b0 : (n : Int) ≤ 30 := by omega
  have b4 : (decide ((0 : Int) ≤ n) && decide ((n : Int) ≤ 30)) = true := by simp; omega
  rw [b4] at hw
  clear b4
  have hmk := fun w => make_bools n (by omega) w
  have HX := Lib.hid hx
  clear hx
  obtain ⟨i0, hi0, hz0, hz1, hz2⟩ := info_parts info4
  have HR : Hid (RowB w.heap.size w (w.alloc (.cells (madeCells #[.bool false] n) 4)) w.heap.size n []) := RowB.made w _ (by unfold maxLen; omega)
  obtain ⟨B, hB⟩ : ∃ B, B = w.heap.size := ⟨_, rfl⟩
  have HB := Lib.hid hB
  have HR : Hid (RowB B w (w.alloc (.cells (madeCells #[.bool false] n) 4)) w.heap.size n []) := by rw [hB]; exact HR
  clear hB
  have o1 := HR.out.own
  have o3 := HR.out.size
  have hk := append_any B _ [] x n _ _ hn hx30 (by decide) _ HR.out
  simp only [List.length_nil] at hk
  generalize hw1 : w.alloc (.cells (madeCells #[.bool false] n) 4) = w1 at *
  go_enter Try.func64, Try.ntmps64
  go_wp2_with (first
    | (go_at_call 88; ((with_reducible refine hw.mono ?_); rintro e w' ⟨rfl, rfl⟩))
    | (at_builtin; refine wpList_append_own_none rfl _ _ 33 rfl B 4 i0 1 Try.underlying33 hi0 _ 0 [] rfl o1 rfl ?_)
    | (go_at_call 73; ((with_reducible refine hk.mono ?_); rintro e w' ⟨g3, c3, rfl, HF⟩))
    | go_in)
  go_ret2
  exact ⟨g3, c3, by simp [dig_length], HB.out ▸ HF⟩
/-- what does not go -/
theorem put_no (v : Value) (x n : Int) (h : fits x n = false) (w : World) :
    Calls Try.prog 64 #[v, .int .i64 x, .int .i64 n] w fun e w' => e = .returned (.tuple #[.slice Option.none 0 0, .bool false]) ∧ w' = w := by
  have hw := width_any n w
  by_cases h1 : 0 ≤ n ∧ n ≤ 30
  · obtain ⟨m, rfl⟩ := Int.eq_ofNat_of_zero_le h1.1
    have b4 : (decide ((0 : Int) ≤ m) && decide ((m : Int) ≤ 30)) = true := by simp; omega
    have hp : (2 : Int) ^ m ≤ 1073741824 := by
      have h6 : 2 ^ m ≤ 2 ^ 30 := Nat.pow_le_pow_right (by decide) (by omega)
      have h7 : ((2 ^ m : Nat) : Int) ≤ ((2 ^ 30 : Nat) : Int) := by omega
      simpa using h7
    have b0 : (m : Int) ≤ 30 := h1.2
    unfold fits at h
    rw [b4] at hw h
    clear b4
    by_cases h2 : x < 0
    · clear h
      go_enter Try.func64, Try.ntmps64
      go_wp2_with (go_at_call 88; ((with_reducible refine hw.mono ?_); rintro e w' ⟨rfl, rfl⟩))
      go_ret2
      exact ⟨rfl, rfl⟩
    · have h3 : (2 : Int) ^ m ≤ x := by
        have h4 : ¬ x < ((2 ^ m : Nat) : Int) := by
          intro h5
          have h6 : 0 ≤ x := by omega
          simp [h6] at h
          simp at h5
          omega
        simp at h4
        exact h4
      have hp0 : (0 : Int) ≤ 2 ^ m := by
        have h7 : (0 : Int) ≤ ((2 ^ m : Nat) : Int) := Int.natCast_nonneg _
        simpa using h7
      clear h
      go_enter Try.func64, Try.ntmps64
      go_wp2_with (go_at_call 88; ((with_reducible refine hw.mono ?_); rintro e w' ⟨rfl, rfl⟩))
      go_ret2
      exact ⟨rfl, rfl⟩
  · have b4 : (decide ((0 : Int) ≤ n) && decide ((n : Int) ≤ 30)) = false := by
      cases hq : (decide ((0 : Int) ≤ n) && decide ((n : Int) ≤ 30))
      · rfl
      · simp at hq; omega
    rw [b4] at hw
    clear b4 h
    go_enter Try.func64, Try.ntmps64
    go_wp2_with (go_at_call 88; ((with_reducible refine hw.mono ?_); rintro e w' ⟨rfl, rfl⟩))
    go_ret2
    exact ⟨rfl, rfl⟩
end Go.Proofs.Ythehjhckcblbdaa
/-
  Contract of Unpack: a row of the call's own with the bits of all bytes. The text at most 10000 bytes long.
-/
namespace Go.Proofs.Ythehjhckcblbdaa
set_option maxRecDepth 100000
open Go.RowKit Mb Go.Lib
set_option maxHeartbeats 1000000 in
theorem unpack_any (s : ByteArray) (hs : s.size ≤ 10000) (w : World) :
    Calls Try.prog 46 #[.string s] w fun e w' => ∃ g c, e = .returned (.slice (some ⟨g, 0, Option.none⟩) (unpackL s.data.toList).length c) ∧ RowB w.heap.size w w' g c (unpackL s.data.toList) := by
  have hmk := fun w => make_bools (s.size * 8) (by omega) w
  rw [show ((s.size * 8 : Nat) : Int) = (s.size : Int) * 8 by omega] at hmk
  have HR : Hid (RowB w.heap.size w (w.alloc (.cells (madeCells #[.bool false] (s.size * 8)) 4)) w.heap.size (s.size * 8) []) := RowB.made w _ (by unfold maxLen; omega)
  have zs : (s.size : Int) ≤ 10000 := by omega
  go_enter Try.func46, Try.ntmps46
  go_wp2
  go_loopw [3, 4, 11] (fun v _ i wr => ∃ (k g c : Nat), k ≤ s.size ∧ i = .int .i64 k ∧ v = .slice (some ⟨g, 0, Option.none⟩) (unpackL (s.data.toList.take k)).length c ∧ Hid (RowB w.heap.size w wr g c (unpackL (s.data.toList.take k)))) (fun _ _ i _ => s.size - (RowKit.intOf i).toNat)
  case atStart => exact ⟨0, _, _, Nat.zero_le _, rfl, rfl, HR⟩
  case round =>
    clear HR
    obtain ⟨k, g, c, hk, rfl, rfl, HS⟩ := hrel
    by_cases hlt : k < s.size
    · have HT : Hid (unpackL (s.data.toList.take (k + 1)) = unpackL (s.data.toList.take k) ++ dig (s[k]).toNat 8) := by
        show _ = _
        rw [take_snoc s k hlt, unpackL_snoc]
      have hlen : (unpackL (s.data.toList.take k)).length = 8 * k := by
        rw [unpackL_length, List.length_take]
        have := Lib.size_eq s
        omega
      have hb := (s[k]).toNat_lt
      have hk8 := append_any w.heap.size w (unpackL (s.data.toList.take k)) (s[k]).toNat 8 g c (by decide) (by omega) (by omega) wr HS.out
      rw [← HT.out, hlen, show ((8 : Nat) : Int) = 8 from rfl] at hk8
      have HL := Lib.hid hlen
      clear HS
      go_wp2_with (go_at_call 73; ((with_reducible refine hk8.mono ?_); rintro e w' ⟨g2, c2, rfl, HN⟩))
      replace HN := Lib.hid HN
      go_roundw
      case rel => exact ⟨k + 1, g2, c2, by omega, by go_num, by rw [HT.out, List.length_append, dig_length, HL.out], HN⟩
      case measure => simp [RowKit.intOf]; omega
    · have e : s.data.toList.take k = s.data.toList := List.take_of_length_le (by have := Lib.size_eq s; omega)
      rw [e] at HS ⊢
      go_wp2
      go_ret
      exact ⟨g, c, rfl, HS.out⟩
end Go.Proofs.Ythehjhckcblbdaa
/-
  Contract of Pack: the bytes that the bits are.
-/
namespace Go.Proofs.Ythehjhckcblbdaa
set_option maxRecDepth 100000
open Go.RowKit Mb Go.Lib
theorem info5 : (Try.prog.info? 5).map (fun i => (i.zero, i.size, i.bytes)) = some (some (.int .u8 0), 1, 1) := by kernel_rfl
def pb (o : List UInt8) : List Value := o.map fun x => Value.int .u8 (x.toNat : Int)
theorem pb_one (o : List UInt8) : ∀ u ∈ pb o, u.oneCell' = true := fun u hu => by
  obtain ⟨j, _, rfl⟩ := List.mem_map.1 hu
  rfl
/-- a row of bytes of the call's own -/
structure RowU (w0 w : World) (g cap : Nat) (o : List UInt8) : Prop where
  own : w.ownsRow w0.heap.size 5 1 (.slice (some ⟨g, 0, Option.none⟩) o.length cap) o.length (pb o)
  below : Below w0.heap.size w0 w
theorem RowU.text {o : List UInt8} {w0 w : World} {g cap : Nat} (h : RowU w0 w g cap o) : (convert 66 9 (.slice (some ⟨g, 0, Option.none⟩) o.length cap)).run Try.prog w = .ok (.string ⟨o.toArray⟩) w := by
  refine run_convert_bytes_back w 66 9 5 ⟨g, 0, Option.none⟩ cap o Try.underlying66 Try.underlying5 Try.underlying9 (fun j hj => ?_)
  exact h.own.cells (g := g) rfl j (.int .u8 (o[j].toNat : Int)) (by unfold pb; rw [List.getElem?_map, List.getElem?_eq_getElem hj]; rfl)
theorem RowU.more {w0 wr w2 w3 : World} {g cap : Nat} {l m : List UInt8} {v : Value} (h : RowU w0 wr g cap l) (hb : Below wr.heap.size wr w2)
    (own1 : w3.ownsRow w0.heap.size 5 1 v (l.length + m.length) (pb l ++ pb m)) (gr : w2.grownBy w3 (Value.slice (some ⟨g, 0, Option.none⟩) l.length cap).ownBlock)
    (nn : ¬ v = .slice Option.none 0 0) : ∃ g1 c1, v = .slice (some ⟨g1, 0, Option.none⟩) (l.length + m.length) c1 ∧ RowU w0 w3 g1 c1 (l ++ m) := by
  obtain ⟨g1, c1, rfl⟩ := own_some own1 nn
  refine ⟨g1, c1, rfl, by simpa [pb] using own1, ?_⟩
  have hb2 : Below w0.heap.size w0 w2 := h.below.trans (hb.mono h.below.size)
  exact hb2.grown gr hb2.size (fun b hb => (h.own.lt b hb).1)
theorem one_byte (wr : World) (x : UInt8) : ∀ j u, (pb [x])[j]? = some u → (wr.alloc (.cells #[.int .u8 (x.toNat : Int)] 5)).cell? ((⟨wr.heap.size, 0, Option.none⟩ : Addr).add j) = some u := fun j u hj => by
  match j, hj with
  | 0, hj => simp [pb] at hj; subst hj; simp [Addr.add]
  | j + 1, hj => simp [pb] at hj
theorem make_bytes (n : Nat) (hn : n ≤ 140737488355300) (w : World) :
    (Instr.makeSlice 66 (.int .i64 0) (.int .i64 n)).run Try.prog w = .ok (.slice (some ⟨w.heap.size, 0, Option.none⟩) 0 n) (w.alloc (.cells (madeCells #[.int .u8 0] n) 5)) := by
  obtain ⟨i0, hi0, hz0, hz1, hz2⟩ := info_parts info5
  have h := run_make (P := Try.prog) w 66 5 i0 (.int .u8 0) Try.underlying66 hi0 hz0 .i64 .i64 0 n (by omega) (by omega) (by rw [hz2]; omega) (by omega)
  rw [hz1] at h
  simp only [Int.toNat_zero, Int.toNat_natCast, Nat.mul_one] at h
  exact h
theorem RowU.made (w : World) (n : Nat) (hn : n ≤ maxLen) : RowU w (w.alloc (.cells (madeCells #[.int .u8 0] n) 5)) w.heap.size n [] :=
  ⟨World.ownsRow_made w _ n (Nat.le_refl _) hn (by simp [size_madeCells]), (Below.refl _ _).alloc (Nat.le_refl _) _⟩
theorem wrap_byte (z : Nat) (h : z < 256) : wrap64 (z : Int) % 256 = (z : Int) := by
  unfold wrap64; omega
set_option maxHeartbeats 10000000 in
theorem pack_lit (l : List Bool) (blk off cap : Nat) (hl : l.length ≤ 100000) (hcap : l.length ≤ cap) (hcm : cap ≤ maxLen) (w : World) (hc : BoolsAt w blk off l) (hblk : blk < w.heap.size) :
    Calls Try.prog 18 #[.slice (some ⟨blk, off, Option.none⟩) l.length cap] w fun e w' => e = .returned (.string ⟨(packL l).toArray⟩) ∧ Below w.heap.size w w' := by
  have hmk := fun w => make_bytes ((l.length + 7) / 8) (by omega) w
  rw [show (((l.length + 7) / 8 : Nat) : Int) = ((l.length : Int) + 8 - 1) / 8 by omega] at hmk
  have zl : (l.length : Int) ≤ 100000 := by omega
  have HR : Hid (RowU w (w.alloc (.cells (madeCells #[.int .u8 0] ((l.length + 7) / 8)) 5)) w.heap.size ((l.length + 7) / 8) []) := RowU.made w _ (by unfold maxLen; omega)
  have HC : Hid (BoolsAt w blk off l) := hc
  have HK : Hid (blk < w.heap.size) := hblk
  have HM : Hid (cap ≤ maxLen) := hcm
  clear hc hblk hcm
  obtain ⟨i0, hi0, hz0, hz1, hz2⟩ := info_parts info5
  go_enter Try.func18, Try.ntmps18
  go_wp2
  go_loopw [0, 3, 4] (fun b v _ wr => ∃ (k r off' cap' g c : Nat), 8 * k ≤ l.length + 7 ∧ r = l.length - 8 * k ∧ r ≤ cap' ∧ cap' ≤ cap ∧ b = .slice (some ⟨blk, off', Option.none⟩) r cap' ∧ v = .slice (some ⟨g, 0, Option.none⟩) k c ∧ Hid (BoolsAt w blk off' (l.drop (8 * k))) ∧ Hid (RowU w wr g c (packN l k)))
    (fun b _ _ _ => match b with | .slice _ n _ => n | _ => 0)
  case atStart => exact ⟨0, l.length, off, cap, _, _, by omega, by omega, hcap, Nat.le_refl _, rfl, rfl, by simpa using HC, HR⟩
  case round =>
    clear HR HC hcap
    obtain ⟨k, r, off', cap', g, c, hk, hr, hrc, hcc, rfl, rfl, HC, HS⟩ := hrel
    have HMc : Hid (cap' ≤ maxLen) := Nat.le_trans hcc HM.out
    have hcm : (cap' : Int) ≤ 9223372036854775807 := by have := HMc.out; unfold maxLen at this; omega
    rcases Nat.eq_zero_or_pos r with h0 | h0
    · subst h0
      have ek : k = (l.length + 7) / 8 := by omega
      have htx := HS.out.text
      rw [packN_length] at htx
      have HL : Hid (packN l k = packL l) := by show _ = _; rw [ek]; rfl
      rw [HL.out] at htx
      clear hr ek hrc hk
      go_wp2
      go_ret
      exact ⟨rfl, HS.out.below⟩
    · obtain ⟨n, hn⟩ : ∃ n, n = min r 8 := ⟨_, rfl⟩
      have hdl : (l.drop (8 * k)).length = r := by rw [List.length_drop]; omega
      have hcl : ((l.drop (8 * k)).take n).length = n := by rw [List.length_take, hdl]; omega
      have hkk := fun c => number_any ((l.drop (8 * k)).take n) (by omega) blk off' c wr (by simpa using (HC.out.below HS.out.below).part 0 n (by omega))
      rw [hcl] at hkk
      have hx := byteAt_is l k n (by omega)
      have hx2 := byteAt_lt l k
      obtain ⟨u, hu⟩ : ∃ u, u = UInt8.ofNat (byteAt l k) := ⟨_, rfl⟩
      have hun : u.toNat = byteAt l k := by rw [hu]; simp; omega
      have HP : Hid (packN l (k + 1) = packN l k ++ [u]) := by show _ = _; rw [packN_snoc, hu]
      have HE : Hid (∀ off2, (8 < r → off2 = off' + 8) → BoolsAt w blk off2 (l.drop (8 * (k + 1)))) := by
        show ∀ _, _
        intro off2 h2
        refine ⟨fun i hi => ?_⟩
        rw [List.length_drop] at hi
        rw [h2 (by omega)]
        have := HC.out.cell (8 + i) (by omega)
        rw [show off' + 8 + i = off' + (8 + i) by omega, this]
        rw [List.getD_eq_getElem?_getD, List.getD_eq_getElem?_getD, List.getElem?_drop, List.getElem?_drop, show 8 * k + (8 + i) = 8 * (k + 1) + i by omega]
      rw [← hun] at hx
      generalize num ((l.drop (8 * k)).take n) = x at hkk hx
      clear hx2 hun hu
      have hxl := u.toNat_lt
      have hv : wrap64 ((x : Int) * 2 ^ (8 - n)) % 256 = ((u.toNat : Nat) : Int) := by
        rw [show (x : Int) * 2 ^ (8 - n) = ((x * 2 ^ (8 - n) : Nat) : Int) by simp, ← hx]
        exact wrap_byte _ hxl
      clear hx
      have hpl : (packN l k).length = k := packN_length l k
      have o1 := fun O => (HS.out.own).alloc (w := wr) O
      rw [hpl] at o1
      have o2 := one_byte wr u
      have o3 : w.heap.size ≤ (wr.alloc (.cells #[.int .u8 (u.toNat : Int)] 5)).heap.size := by have := HS.out.below.size; simp; omega
      have rc : (r : Int) ≤ cap' := by omega
      have r0 : (0 : Int) < r := by omega
      have zk : k ≤ 100000 := by omega
      have HKL : Hid (8 * k + n ≤ l.length) := by show _ ≤ _; omega
      have HRL : Hid (r = l.length - 8 * k) := hr
      have arm : (n = r ∧ r ≤ 8 ∧ r < cap') ∨ (n = r ∧ r ≤ 8 ∧ r = cap') ∨ (n = 8 ∧ 8 < r) := by omega
      clear hr hk hdl hcl hn
      rcases arm with ⟨e1, e2, e3⟩ | ⟨e1, e2, e3⟩ | ⟨e1, e2⟩
      case' inr.inl =>
        subst e1
        have f2 : (n : Int) ≤ 8 := by omega
        have f3 : (n : Int) < cap' := by omega
      case' inr.inr.inl =>
        subst e1
        subst e3
        have f2 : (n : Int) ≤ 8 := by omega
      case' inr.inr.inr =>
        subst e1
        have f2 : 8 < (r : Int) := by omega
        have hv2 : wrap64 (x : Int) % 256 = ((u.toNat : Nat) : Int) := by simpa using hv
        clear hv
      all_goals
        go_wp2_with (first
          | (go_at_call 38; ((with_reducible refine (hkk _).mono ?_); rintro e w' ⟨rfl, rfl⟩))
          | (at_builtin; refine wpList_append_own _ rfl _ _ 66 rfl w.heap.size 5 i0 (.int .u8 0) 1 1 Try.underlying66 hi0 hz0 hz1 hz2 rfl (by decide) _ k (pb (packN l k)) rfl (o1 _) ⟨_, 0, Option.none⟩ 1 1 (pb [u]) rfl rfl o2 (pb_one _) (by unfold maxLen; omega) (by omega) o3 ?_)
          | go_in)
        intro v1 w3 own1 gr1 nn1
        obtain ⟨g2, c2, hv1, HN⟩ := HS.out.more (m := [u]) ((Below.refl _ _).alloc (Nat.le_refl _) (.cells #[.int .u8 (u.toNat : Int)] 5)) (by rw [hpl]; exact own1) (by rw [hpl]; exact gr1) nn1
        rw [hpl] at hv1
        subst hv1
        replace HN := Lib.hid HN
        rw [← HP.out] at HN
        clear own1 gr1 nn1 o1 o2 o3 HS hpl
        go_wp2
        go_roundw
        case rel =>
          have q1 := HKL.out
          have q2 := HRL.out
          refine ⟨k + 1, _, _, _, g2, c2, ?_, ?_, ?_, ?_, rfl, rfl, HE.out _ (fun h => ?_), HN⟩ <;> omega
        case measure => simp; omega
theorem pack_empty (p : Option Addr) (cap : Nat) (w : World) :
    Calls Try.prog 18 #[.slice p 0 cap] w fun e w' => e = .returned (.string ⟨(packL []).toArray⟩) ∧ Below w.heap.size w w' := by
  have hmk : ∀ w, (Instr.makeSlice 66 (.int .i64 0) (.int .i64 0)).run Try.prog w = .ok (.slice (some ⟨w.heap.size, 0, Option.none⟩) 0 0) (w.alloc (.cells (madeCells #[.int .u8 0] 0) 5)) := fun w => make_bytes 0 (by omega) w
  have HR : Hid (RowU w (w.alloc (.cells (madeCells #[.int .u8 0] 0) 5)) w.heap.size 0 []) := RowU.made w _ (by decide)
  have htx := HR.out.text
  simp only [List.length_nil] at htx
  go_enter Try.func18, Try.ntmps18
  go_wp2
  go_loopw [0, 3, 4] (fun b v _ wr => b = .slice p 0 cap ∧ v = .slice (some ⟨w.heap.size, 0, Option.none⟩) 0 0 ∧ wr = (w.alloc (.cells (madeCells #[.int .u8 0] 0) 5)))
    (fun _ _ _ _ => 0)
  case atStart => exact ⟨rfl, rfl, rfl⟩
  case round =>
    obtain ⟨rfl, rfl, rfl⟩ := hrel
    go_wp2
    go_ret
    exact ⟨rfl, HR.out.below⟩
end Go.Proofs.Ythehjhckcblbdaa
