/-
  Maths of bits: the number that a list of bits is, the bits of a number, bytes of bits, bits of bytes. No condition.
-/
import Derived.Test.YtbkehlppngejnaaRows
namespace Go.Proofs.Ytbkehlppngejnaa.Mb
def num (l : List Bool) : Nat := l.foldl (fun n b => 2 * n + b.toNat) 0
def dig (n w : Nat) : List Bool := (List.range w).map fun j => n.testBit (w - 1 - j)
theorem num_nil : num [] = 0 := rfl
theorem num_snoc (l : List Bool) (b : Bool) : num (l ++ [b]) = 2 * num l + b.toNat := by simp [num]
theorem num_append (a b : List Bool) : num (a ++ b) = num a * 2 ^ b.length + num b := by
  suffices h : ∀ (r : List Bool), num (a ++ r.reverse) = num a * 2 ^ r.length + num r.reverse by simpa using h b.reverse
  intro r
  induction r with
  | nil => simp [num_nil]
  | cons x r ih =>
    rw [List.reverse_cons, ← List.append_assoc, num_snoc, num_snoc, ih, List.length_cons, Nat.pow_succ, Nat.mul_add]
    rw [show num a * (2 ^ r.length * 2) = 2 * (num a * 2 ^ r.length) by rw [← Nat.mul_assoc, Nat.mul_comm]]
    omega
theorem num_lt (l : List Bool) : num l < 2 ^ l.length := by
  suffices h : ∀ (r : List Bool), num r.reverse < 2 ^ r.length by simpa using h l.reverse
  intro r
  induction r with
  | nil => simp [num_nil]
  | cons x r ih =>
    rw [List.reverse_cons, num_snoc, List.length_cons, Nat.pow_succ]
    have : x.toNat ≤ 1 := by cases x <;> simp
    omega
theorem num_zeros (n : Nat) : num (List.replicate n false) = 0 := by
  induction n with
  | zero => rfl
  | succ n ih => rw [List.replicate_succ', num_snoc, ih]; rfl
theorem dig_length (n w : Nat) : (dig n w).length = w := by simp [dig]
theorem dig_zero (n : Nat) : dig n 0 = [] := rfl
theorem dig_succ (n w : Nat) : dig n (w + 1) = dig (n / 2) w ++ [n.testBit 0] := by
  unfold dig
  rw [List.range_succ, List.map_append]
  congr 1
  · refine List.map_congr_left fun j hj => ?_
    have : j < w := by simpa using hj
    rw [show w + 1 - 1 - j = (w - 1 - j) + 1 by omega, Nat.testBit_succ]
  · simp
theorem dig_take (n w j : Nat) (h : j < w) : (dig n w).take (j + 1) = (dig n w).take j ++ [n.testBit (w - 1 - j)] := by
  rw [List.take_succ_eq_append_getElem (by rw [dig_length]; exact h)]
  congr 1
  simp [dig]
theorem num_dig (n w : Nat) : num (dig n w) = n % 2 ^ w := by
  induction w generalizing n with
  | zero => simp [dig_zero, num_nil, Nat.mod_one]
  | succ w ih =>
    rw [dig_succ, num_snoc, ih, Nat.testBit_zero, Nat.pow_succ]
    rw [Nat.mul_comm (2 ^ w) 2, Nat.mod_mul]
    have : (decide (n % 2 = 1)).toNat = n % 2 := by rcases Nat.mod_two_eq_zero_or_one n with h | h <;> simp [h]
    rw [this]; omega
theorem dig_num (l : List Bool) : dig (num l) l.length = l := by
  suffices h : ∀ (r : List Bool), dig (num r.reverse) r.reverse.length = r.reverse by simpa using h l.reverse
  intro r
  induction r with
  | nil => rfl
  | cons x r ih =>
    have e : (List.reverse (x :: r)).length = r.reverse.length + 1 := by simp
    rw [e, List.reverse_cons, dig_succ, num_snoc]
    have h1 : (2 * num r.reverse + x.toNat) / 2 = num r.reverse := by
      have : x.toNat ≤ 1 := by cases x <;> simp
      omega
    have h2 : (2 * num r.reverse + x.toNat).testBit 0 = x := by
      rw [Nat.testBit_zero]
      cases x <;> simp <;> omega
    rw [h1, h2, ih]
theorem dig_add (n a b : Nat) : dig n (a + b) = dig (n / 2 ^ b) a ++ dig n b := by
  induction b generalizing n with
  | zero => simp [dig_zero]
  | succ b ih =>
    rw [show a + (b + 1) = (a + b) + 1 by omega, dig_succ, ih, dig_succ, List.append_assoc, Nat.div_div_eq_div_mul, Nat.pow_succ, Nat.mul_comm 2]
theorem dig_mod (n b : Nat) : dig (n % 2 ^ b) b = dig n b := by
  have h := dig_num (dig n b)
  rwa [num_dig, dig_length] at h
theorem dig_of_lt (n w : Nat) (h : n < 2 ^ w) : num (dig n w) = n := by rw [num_dig, Nat.mod_eq_of_lt h]
/-- a bit of a list, by its number -/
theorem num_bit (l : List Bool) (i : Nat) (h : i < l.length) : (num l).testBit (l.length - 1 - i) = l.getD i false := by
  have e := congrArg (fun m => m.getD i false) (dig_num l)
  rw [← e]
  simp [dig, h]
theorem num_div (l : List Bool) (i : Nat) (h : i < l.length) : num l / 2 ^ (l.length - 1 - i) % 2 = (l.getD i false).toNat := by
  rw [← num_bit l i h, Nat.toNat_testBit]
/-- eight bits from place 8k on, with 0 where there is none -/
def eight (l : List Bool) (k : Nat) : List Bool := (List.range 8).map fun i => l.getD (8 * k + i) false
theorem eight_length (l : List Bool) (k : Nat) : (eight l k).length = 8 := by simp [eight]
def byteAt (l : List Bool) (k : Nat) : Nat := num (eight l k)
theorem byteAt_lt (l : List Bool) (k : Nat) : byteAt l k < 256 := by
  have := num_lt (eight l k)
  rw [eight_length] at this
  exact this
theorem eight_is (l : List Bool) (k : Nat) : eight l k = (l.drop (8 * k)).take 8 ++ List.replicate (8 - (l.length - 8 * k)) false := by
  apply List.ext_getElem
  · simp [eight]; omega
  · intro i h1 h2
    have hi : i < 8 := by simpa [eight] using h1
    by_cases h : 8 * k + i < l.length
    · rw [List.getElem_append_left (by simp; omega)]
      simp [eight, h]
    · rw [List.getElem_append_right (by simp; omega)]
      simp [eight, h]
theorem byteAt_is (l : List Bool) (k n : Nat) (hn : n = min (l.length - 8 * k) 8) : byteAt l k = num ((l.drop (8 * k)).take n) * 2 ^ (8 - n) := by
  have e : (l.drop (8 * k)).take n = (l.drop (8 * k)).take 8 := by
    rw [hn, List.take_eq_take_iff, List.length_drop]; omega
  rw [e]
  unfold byteAt
  rw [eight_is, num_append, num_zeros, List.length_replicate, Nat.add_zero]
  congr 2
  omega
def packN (l : List Bool) (n : Nat) : List UInt8 := (List.range n).map fun k => UInt8.ofNat (byteAt l k)
def packL (l : List Bool) : List UInt8 := packN l ((l.length + 7) / 8)
theorem packN_length (l : List Bool) (n : Nat) : (packN l n).length = n := by simp [packN]
theorem packN_snoc (l : List Bool) (n : Nat) : packN l (n + 1) = packN l n ++ [UInt8.ofNat (byteAt l n)] := by simp [packN, List.range_succ]
theorem packL_length (l : List Bool) : (packL l).length = (l.length + 7) / 8 := packN_length _ _
def unpackL (s : List UInt8) : List Bool := s.flatMap fun x => dig x.toNat 8
theorem unpackL_length (s : List UInt8) : (unpackL s).length = 8 * s.length := by
  induction s with
  | nil => rfl
  | cons x s ih => unfold unpackL at *; rw [List.flatMap_cons, List.length_append, ih, dig_length, List.length_cons]; omega
theorem unpackL_snoc (s : List UInt8) (x : UInt8) : unpackL (s ++ [x]) = unpackL s ++ dig x.toNat 8 := by simp [unpackL]
theorem eights (f : Nat → Bool) (n : Nat) : ((List.range n).flatMap fun k => (List.range 8).map fun i => f (8 * k + i)) = (List.range (8 * n)).map f := by
  induction n with
  | zero => rfl
  | succ n ih =>
    rw [show List.range (n + 1) = List.range n ++ [n] from List.range_succ, List.flatMap_append, ih, Nat.mul_add, Nat.mul_one, List.range_add, List.map_append]
    simp
theorem unpack_packN (l : List Bool) (n : Nat) : unpackL (packN l n) = (List.range (8 * n)).map fun j => l.getD j false := by
  rw [← eights]
  unfold unpackL packN
  rw [List.flatMap_map]
  congr 1
  funext k
  have h := dig_num (eight l k)
  rw [eight_length] at h
  have e : (UInt8.ofNat (byteAt l k)).toNat = num (eight l k) := by
    have := byteAt_lt l k
    simp
    unfold byteAt at *
    omega
  rw [e, h]
  rfl
theorem unpack_pack (l : List Bool) : unpackL (packL l) = l ++ List.replicate (8 * ((l.length + 7) / 8) - l.length) false := by
  unfold packL
  rw [unpack_packN]
  apply List.ext_getElem
  · simp; omega
  · intro i h1 h2
    by_cases h : i < l.length
    · rw [List.getElem_append_left h]; simp [h]
    · rw [List.getElem_append_right (by omega)]; simp [h]
theorem unpack_getD (s : List UInt8) (k i : Nat) (hi : i < 8) (hk : k < s.length) : (unpackL s).getD (8 * k + i) false = (dig (s[k]).toNat 8).getD i false := by
  induction s generalizing k with
  | nil => simp at hk
  | cons x s ih =>
    unfold unpackL at *
    rw [List.flatMap_cons]
    cases k with
    | zero => rw [List.getD_eq_getElem?_getD, List.getElem?_append_left (by rw [dig_length]; omega), Nat.mul_zero, Nat.zero_add, ← List.getD_eq_getElem?_getD]; rfl
    | succ k =>
      rw [List.getD_eq_getElem?_getD, List.getElem?_append_right (by rw [dig_length]; omega), dig_length, ← List.getD_eq_getElem?_getD, show 8 * (k + 1) + i - 8 = 8 * k + i by omega, ih k (by simpa using hk)]
      rfl
theorem pack_unpack (s : List UInt8) : packL (unpackL s) = s := by
  apply List.ext_getElem
  · rw [packL_length, unpackL_length]; omega
  · intro k h1 h2
    have hk : k < s.length := h2
    have e : eight (unpackL s) k = dig (s[k]).toNat 8 := by
      unfold eight
      apply List.ext_getElem
      · simp [dig_length]
      · intro i g1 g2
        have hi : i < 8 := by simpa using g1
        simp only [List.getElem_map, List.getElem_range]
        rw [unpack_getD s k i hi hk, List.getD_eq_getElem?_getD, List.getElem?_eq_getElem g2]; rfl
    have hb : byteAt (unpackL s) k = (s[k]).toNat := by
      unfold byteAt
      rw [e, num_dig, Nat.mod_eq_of_lt (s[k]).toNat_lt]
    simp [packL, packN, hb]
end Go.Proofs.Ytbkehlppngejnaa.Mb

