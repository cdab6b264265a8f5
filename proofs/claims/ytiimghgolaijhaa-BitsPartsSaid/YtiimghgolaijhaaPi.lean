/-
  The walk of BitsParts where the number, the width and the place go: it returns true.
-/
import Derived.Test.YtiimghgolaijhaaPa
namespace Go.Proofs.Ytiimghgolaijhaa
open Go.RowKit Mb Go.Lib
theorem put_new (x n : Nat) (hn : n ≤ 30) (hx : x < 2 ^ n) (w : World) :
    Calls Try.prog 7 #[.slice Option.none 0 0, .int .i64 x, .int .i64 n] w fun e w' => ∃ g c, e = .returned (.tuple #[.slice (some ⟨g, 0, Option.none⟩) n c, .bool true]) ∧ RowB w.heap.size w w' g c (dig x n) :=
  (put_nil x n hn hx w).mono fun _ _ ⟨g, c, h1, h2⟩ => ⟨g, c, by rw [h1, dig_length], h2⟩
theorem back_text (s : ByteArray) : (⟨(packL (unpackL s.data.toList)).toArray⟩ : ByteArray) = s := by
  rw [pack_unpack]
set_option maxRecDepth 10000 in
set_option maxHeartbeats 2000000 in
theorem parts_in (n width low : Nat) (s : ByteArray) (hw : width ≤ 30) (hlo : low ≤ width) (hn : n < 2 ^ width) (hs : s.size ≤ 5000) (w : World) :
    Calls Try.prog 4 #[num3 n width low, .string s] w fun e w' => e = .returned (.bool true) ∧ Below w.heap.size w w' := by
  obtain ⟨k, hk⟩ : ∃ k, width = k + low := ⟨width - low, by omega⟩
  have hn30 : n < 1073741824 := Nat.lt_of_lt_of_le hn (Nat.pow_le_pow_right (by decide) hw)
  have hP0 : 0 < 2 ^ low := Nat.two_pow_pos low
  have hPb : 2 ^ low ≤ 1073741824 := Nat.pow_le_pow_right (by decide) (by omega : low ≤ 30)
  have hu : n / 2 ^ low < 2 ^ k := by
    rw [Nat.div_lt_iff_lt_mul hP0, ← Nat.pow_add, ← hk]; exact hn
  have hv : n % 2 ^ low < 2 ^ low := Nat.mod_lt _ hP0
  have huv : (n / 2 ^ low) * 2 ^ low + n % 2 ^ low = n := by have := Nat.div_add_mod n (2 ^ low); rw [Nat.mul_comm] at this; exact this
  have hcat : dig n width = dig (n / 2 ^ low) k ++ dig (n % 2 ^ low) low := by rw [hk, dig_add, dig_mod]
  have hnu : num (dig (n / 2 ^ low) k) = n / 2 ^ low := dig_of_lt _ _ hu
  have hnv : num (dig (n % 2 ^ low) low) = n % 2 ^ low := dig_of_lt _ _ hv
  have hiu : (n : Int) / ((2 ^ low : Nat) : Int) = ((n / 2 ^ low : Nat) : Int) := rfl
  have hiv : (n : Int) % ((2 ^ low : Nat) : Int) = ((n % 2 ^ low : Nat) : Int) := rfl
  have hP := power_any low (by omega)
  have hPW := power_any width hw
  have hua : n / 2 ^ low ≤ n := Nat.div_le_self _ _
  have pa := fun w => put_new n width hw hn w
  have pb := fun w => put_new (n / 2 ^ low) k (by omega) hu w
  have pc := fun {base : Nat} {w0 w1 : World} {g c : Nat} (h : RowB base w0 w1 g c (dig (n / 2 ^ low) k)) => put_row h (Below.refl _ _) (n % 2 ^ low) low (by omega) hv (by rw [dig_length]; omega)
  have tA := fun {base : Nat} {w0 w1 w2 : World} {g c : Nat} (h : RowB base w0 w1 g c (dig n width)) (hb : Below w1.heap.size w1 w2) => take_row h hb 0 k (by omega) (by rw [dig_length]; omega)
  have tB := fun {base : Nat} {w0 w1 w2 : World} {g c : Nat} (h : RowB base w0 w1 g c (dig n width)) (hb : Below w1.heap.size w1 w2) => take_row h hb k low (by omega) (by rw [dig_length]; omega)
  have sA := fun {b1 b2 : Nat} {u1 u2 w1 w2 w : World} {g1 c1 g2 c2 : Nat} (h1 : RowB b1 u1 w1 g1 c1 (dig n width)) (h2 : RowB b2 u2 w2 g2 c2 (dig (n / 2 ^ low) k ++ dig (n % 2 ^ low) low)) (k1 : Below w1.heap.size w1 w) (k2 : Below w2.heap.size w2 w) => same_row h1 h2 k1 k2
  have e1 : ((dig n width).drop 0).take k = dig (n / 2 ^ low) k := by rw [hcat, List.drop_zero, List.take_append_of_le_length (by rw [dig_length]; omega), List.take_of_length_le (by rw [dig_length]; omega)]
  have e2 : ((dig n width).drop k).take low = dig (n % 2 ^ low) low := by rw [hcat, List.drop_append_of_le_length (by rw [dig_length]; omega), List.drop_of_length_le (by rw [dig_length]; omega), List.nil_append, List.take_of_length_le (by rw [dig_length]; omega)]
  rw [e1, hnu, dig_length, Nat.zero_add, Int.natCast_zero] at tA
  rw [e2, hnv, dig_length, ← hk] at tB
  rw [← hcat, dig_length, dig_length] at pc
  rw [← hcat, dig_length, decide_eq_true (rfl : dig n width = dig n width)] at sA
  have pk := fun {base : Nat} {w0 w1 : World} {g c : Nat} (h : RowB base w0 w1 g c (unpackL s.data.toList)) => pack_row h (Below.refl _ _) (by rw [unpackL_length]; have := Lib.size_eq s; omega)
  rw [back_text] at pk
  have un := fun w => unpack_any s (by omega) w
  have zs : (s.size : Int) ≤ 5000 := by omega
  have z1 : (width : Int) ≤ 30 := by omega
  have z2 : (low : Int) ≤ width := by omega
  have z3 : (width : Int) - low = k := by omega
  have z4 : (k : Int) ≤ 30 := by omega
  have z5 : (n : Int) < ((2 ^ width : Nat) : Int) := Int.ofNat_lt.2 hn
  have z6 : (n : Int) ≤ 1073741823 := by omega
  have z7 : (0 : Int) < ((2 ^ low : Nat) : Int) := Int.ofNat_lt.2 hP0
  have z8 : ((2 ^ low : Nat) : Int) ≤ 1073741824 := by have := Int.ofNat_le.2 hPb; simpa using this
  have z9 : ((n / 2 ^ low : Nat) : Int) * ((2 ^ low : Nat) : Int) ≤ 1073741824 := by
    have h1 : (n / 2 ^ low) * 2 ^ low ≤ 1073741824 := by omega
    have h2 := Int.ofNat_le.2 h1
    rw [Int.natCast_mul] at h2
    exact h2
  have z10 : ((n / 2 ^ low : Nat) : Int) * ((2 ^ low : Nat) : Int) + ((n % 2 ^ low : Nat) : Int) = n := by
    rw [← Int.natCast_mul, ← Int.natCast_add, huv]
  have z11 : (0 : Int) ≤ ((n / 2 ^ low : Nat) : Int) * ((2 ^ low : Nat) : Int) := by rw [← Int.natCast_mul]; exact Int.natCast_nonneg _
  have z12 : ((n % 2 ^ low : Nat) : Int) ≤ 1073741824 := by omega
  have z13 : ((n / 2 ^ low : Nat) : Int) ≤ 1073741824 := by omega
  clear e1 e2 hcat hnu hnv hP0 hPb hu hv huv hua hk hn hw hlo hn30 hs
  generalize 2 ^ width = PW at *
  generalize n / 2 ^ low = u at *
  generalize n % 2 ^ low = v at *
  generalize 2 ^ low = P at *
  generalize dig n width = A at *
  generalize dig u k = B at *
  generalize dig v low = C at *
  unfold num3
  go_enter Try.func4, Try.ntmps4
  go_wp2_with fail
  go_quiet (fail)
  simp only [Exit.then]
  have hB : Hid (Below w.heap.size w ((w.alloc (.cells #[.int .i64 n, .int .i64 width, .int .i64 low] 24)).drewN nq)) := below_drewN ((Below.refl _ _).alloc (Nat.le_refl _) _) _
  generalize (w.alloc (.cells #[.int .i64 n, .int .i64 width, .int .i64 low] 24)).drewN nq = w0 at *
  go_wp2_with (first
    | (go_at_call 8; ((with_reducible refine (fixed_any w0).mono ?_); rintro e w1 ⟨rfl, H1⟩; replace H1 := Lib.hid H1))
    | (go_at_call 13; ((with_reducible refine (hP _).mono ?_); rintro e w' ⟨rfl, h'⟩; cases h'))
    | (go_at_call 13; ((with_reducible refine (hPW _).mono ?_); rintro e w' ⟨rfl, h'⟩; cases h'))
    | (go_at_call 7; ((with_reducible refine (pa _).mono ?_); rintro e w2 ⟨ga, ca, rfl, HA⟩; replace HA := Lib.hid HA))
    | (go_at_call 7; ((with_reducible refine (pb _).mono ?_); rintro e w3 ⟨gb, cb, rfl, HB⟩; replace HB := Lib.hid HB))
    | (go_at_call 7; ((with_reducible refine (pc HB.out).mono ?_); rintro e w4 ⟨gc, cc, rfl, HC⟩; replace HC := Lib.hid HC))
    | (go_at_call 9; ((with_reducible refine (tA HA.out (HB.out.below.next HC.out.below)).mono ?_); rintro e w' ⟨rfl, h'⟩; cases h'))
    | (go_at_call 9; ((with_reducible refine (tB HA.out (HB.out.below.next HC.out.below)).mono ?_); rintro e w' ⟨rfl, h'⟩; cases h'))
    | (go_at_call 12; ((with_reducible refine (sA HA.out HC.out (HB.out.below.next HC.out.below) (Below.refl _ _)).mono ?_); rintro e w5 ⟨rfl, H5⟩; replace H5 := Lib.hid H5))
    | (go_at_call 10; ((with_reducible refine (un _).mono ?_); rintro e w6 ⟨gu, cu, rfl, HU⟩; replace HU := Lib.hid HU))
    | (go_at_call 11; ((with_reducible refine (pk HU.out).mono ?_); rintro e w7 ⟨rfl, H7⟩; replace H7 := Lib.hid H7)))
  go_ret
  exact ⟨rfl, ((((((hB.out.next H1.out).next HA.out.below).next HB.out.below).next HC.out.below).next H5.out).next HU.out.below).next H7.out⟩
end Go.Proofs.Ytiimghgolaijhaa
