/-
  The maths of CrcMixed: the sum of three texts of one length, turned together byte by byte, is their sums, turned together.
-/
import Derived.Test.YtckdkoakgnojbaaFi
namespace Go.Proofs.Ytckdkoakgnojbaa
open Go.RowKit Ma Go.Lib
theorem all_xor (x : Nat) (hx : x < 2 ^ 32) : 4294967295 - x = 4294967295 ^^^ x := by
  have h := turn_all x hx
  rw [show (IntKind.u32.max : Int) = ((4294967295 : Nat) : Int) from by decide, u32_xor_nat _ _ (by decide) (by omega)] at h
  omega
/-- texts of one length, turned together -/
def xorL (l m : List UInt8) : List UInt8 := List.zipWith (· ^^^ ·) l m
theorem nums_xor (l m : List UInt8) : nums (xorL l m) = List.zipWith (· ^^^ ·) (nums l) (nums m) := by
  unfold nums xorL
  rw [List.map_zipWith, List.zipWith_map]
  congr 1
theorem xorL_length (l m : List UInt8) (h : l.length = m.length) : (xorL l m).length = l.length := by
  unfold xorL
  rw [List.length_zipWith]; omega
theorem st_mixed (l m n : List UInt8) (h1 : l.length = m.length) (h2 : l.length = n.length) : stN (xorL (xorL l m) n) = stN l ^^^ stN m ^^^ stN n := by
  unfold stN
  rw [nums_xor, nums_xor]
  have e : (4294967295 : Nat) = 4294967295 ^^^ 4294967295 ^^^ 4294967295 := by decide
  have len : ∀ x : List UInt8, (nums x).length = x.length := fun x => by simp [nums]
  conv => lhs; rw [e]
  rw [runN_xor _ _ (by rw [List.length_zipWith, len, len, len]; omega), runN_xor _ _ (by rw [len, len]; omega)]
theorem sum_mixed (l m n : List UInt8) (h1 : l.length = m.length) (h2 : l.length = n.length) : sumN (xorL (xorL l m) n) = sumN l ^^^ sumN m ^^^ sumN n := by
  unfold sumN
  rw [all_xor _ (stN_lt _), all_xor _ (stN_lt _), all_xor _ (stN_lt _), all_xor _ (stN_lt _), st_mixed l m n h1 h2]
  generalize stN l = a
  generalize stN m = b
  generalize stN n = c
  generalize (4294967295 : Nat) = f
  have e : f ^^^ a ^^^ (f ^^^ b) ^^^ (f ^^^ c) = (f ^^^ f) ^^^ (f ^^^ (a ^^^ b ^^^ c)) := by ac_rfl
  rw [e, Nat.xor_self, Nat.zero_xor]
theorem xorL_take (l m : List UInt8) (k : Nat) : (xorL l m).take k = xorL (l.take k) (m.take k) := by
  unfold xorL
  exact List.take_zipWith
end Go.Proofs.Ytckdkoakgnojbaa
