/-
  Contracts of math.Floor, Abs and ratio.thousandths, sign.
-/
import Derived.Test.YtdjkilgcgkhcdaaDoorFlE
import Derived.Test.YtdjkilgcgkhcdaaDoorWk
import Derived.Laws.BitsAll
namespace Go.Proofs.YtdjkilgcgkhcdaaDoor
open Go.RowKit Go.Fl
/-- What is not told in thousandths is at least a million. -/
def meg : Int := pw (20 + 1074)
def y1 (x : Nat) : Nat := (Ieee.double.mul x 4652007308841189376).getD 0
def y2 (x : Nat) : Nat := (Ieee.double.add (y1 x) 4602678819172646912).getD 0
def yv (x : Nat) : Int := (val (y2 x)).getD 0
def thN (x : Nat) : Nat := (yv x / U).natAbs
structure Told (x : Nat) : Prop where
  mul : Ieee.double.mul x 4652007308841189376 = some (y1 x)
  add : Ieee.double.add (y1 x) 4602678819172646912 = some (y2 x)
  val : val (y2 x) = some (yv x)
  lo : -pw (31 + 1074) ≤ yv x
  hi : yv x ≤ pw (31 + 1074)
theorem told (x : Nat) (v : Int) (h : val x = some v) (h1 : -meg < v) (h2 : v < meg) : Told x := by
  obtain ⟨y, hy, u, hu, hu1, hu2⟩ := mul_1000 x v h h1 h2
  have e1 : y1 x = y := by unfold y1; rw [hy]; rfl
  obtain ⟨z, hz, t, ht, ht1, ht2⟩ := add_half y u hu hu1 hu2
  have e2 : y2 x = z := by unfold y2; rw [e1, hz]; rfl
  have e3 : yv x = t := by unfold yv; rw [e2, ht]; rfl
  exact ⟨by rw [e1, hy], by rw [e1, e2, hz], by rw [e2, e3, ht], by omega, by omega⟩
theorem floor_word (y : Nat) (d : Ieee.Datum) (he : FloatKind.f64.decode y = d) (hn : d.isNaN = false) :
    Extern.MathFloor.toIntegral "math.archFloor" .down #[.float .f64 y] = pure (.float .f64 (floorW y)) := by
  show (match FloatKind.f64.decode y with | .nan _ _ => (_ : Sem Value) | d => (pure (Value.float .f64 (FloatKind.f64.encode (d.integral .down))) : Sem Value)) = _
  unfold floorW
  rw [he, show Ieee.double.read y = d from he]
  cases d with
  | nan s f => cases hn
  | infinity s => rfl
  | number s m e => rfl
theorem run_floor (y : Nat) (w : World) (hn : (Ieee.double.read y).isNaN = false) : (callFunc 44 #[.float .f64 y]).run Tryd.prog w = .ok (.value (.float .f64 (floorW y))) w := by
  rw [run_callFunc_extern (e := Extern.MathFloor.toIntegral "math.archFloor" .down) Tryd.func44 (by kernel_rfl) (by kernel_rfl) (by kernel_rfl) (by kernel_rfl)]
  rw [floor_word y _ rfl hn]
  rfl
set_option maxHeartbeats 400000 in
theorem floor_any (y : Nat) (w : World) (hn : (Ieee.double.read y).isNaN = false) :
    Calls Tryd.prog 38 #[.float .f64 y] w fun e w' => e = .returned (.float .f64 (floorW y)) ∧ w = w' := by
  have hr := fun w => run_floor y w hn
  clear hn
  go_enter Tryd.func38, Tryd.ntmps38
  go_wp2
  go_ret
  exact ⟨rfl, rfl⟩
theorem and_not (y : Nat) (h : y < 2 ^ 64) : bits .andNot .u64 (y : Int) 9223372036854775808 = (absW y : Nat) := by
  rw [u64_andNot _ _ (by omega) (by omega) (by omega) (by omega)]
  congr 1
  show (y : Int).toNat &&& (18446744073709551615 - Int.toNat 9223372036854775808) = y % 2 ^ 63
  rw [show (18446744073709551615 - Int.toNat 9223372036854775808) = 2 ^ 63 - 1 by decide, Int.toNat_natCast, Nat.and_two_pow_sub_one_eq_mod]
set_option maxHeartbeats 400000 in
theorem abs_any (y : Nat) (w : World) (h : y < 2 ^ 64) :
    Calls Tryd.prog 39 #[.float .f64 y] w fun e w' => e = .returned (.float .f64 (absW y)) ∧ w = w' := by
  have hb := and_not y h
  clear h
  go_enter Tryd.func39, Tryd.ntmps39
  go_wp2
  go_ret
  exact ⟨rfl, rfl⟩
theorem kth {x : Nat} (T : Told x) : (Ieee.double.read (y2 x)).isNaN = false ∧ floorW (y2 x) < 2 ^ 64 ∧ floatToIntVal .f64 (absW (floorW (y2 x))) .i64 = some (thN x : Int) ∧ thN x ≤ 2 ^ 40 := by
  have q1 : pw (31 + 1074) ≤ pw (40 + 1074) := pw_le (by omega)
  have hU := U_pos
  obtain ⟨f1, f2, f3, f4, f5⟩ := floor_val (y2 x) (yv x) T.val (by have := T.lo; omega) (by have := T.hi; omega)
  refine ⟨f3, f2, ?_, by unfold thN; omega⟩
  have ha := abs_val _ _ f1
  have e : ((yv x / U * U).natAbs : Int) = (thN x : Int) * U := by
    unfold thN
    rw [Int.natAbs_mul, Int.natCast_mul]
    congr 1
  rw [e] at ha
  have hP : (2 ^ 40 : Int) * U = pw (40 + 1074) := by rw [pw_add 40 1074, show pw 40 = 2 ^ 40 from rfl]; unfold U; omega
  have hn : ((thN x : Nat) : Int) ≤ 2 ^ 40 := by unfold thN; omega
  have hm : (thN x : Int) * U ≤ (2 ^ 40 : Int) * U := Int.mul_le_mul_of_nonneg_right hn (Int.le_of_lt hU)
  have h0 : 0 ≤ (thN x : Int) * U := Int.mul_nonneg (by omega) (Int.le_of_lt hU)
  have hp := pw_pos (40 + 1074)
  have := (to_int _ _ ha (by omega) (by omega)).1
  rw [Int.mul_tdiv_cancel _ (by omega)] at this
  exact this
set_option maxHeartbeats 400000 in
/-- How many thousandths. -/
theorem thousandths_any (x : Nat) (T : Told x) (w : World) :
    Calls Tryd.prog 27 #[.float .f64 x] w fun e w' => e = .returned (.int .i64 (thN x)) ∧ w = w' := by
  obtain ⟨k1, k2, k3, _⟩ := kth T
  have hm := fun w => run_float_arith (P := Tryd.prog) w .mul 22 .f64 x 4652007308841189376 (y1 x) T.mul
  have ha := fun w => run_float_arith (P := Tryd.prog) w .add 22 .f64 (y1 x) 4602678819172646912 (y2 x) T.add
  have hc := fun w => run_convert_float_int (P := Tryd.prog) w 22 3 .f64 .i64 _ _ (by rw [Tryd.underlying22]; rfl) Tryd.underlying3 k3
  have H1 := Lib.hid k1
  have H2 := Lib.hid k2
  clear k1 k2 k3 T
  go_enter Tryd.func27, Tryd.ntmps27
  go_wp2_with (first
    | (go_at_call 38; ((with_reducible refine (floor_any _ _ H1.out).mono ?_); rintro e w' ⟨rfl, rfl⟩))
    | (go_at_call 39; ((with_reducible refine (abs_any _ _ H2.out).mono ?_); rintro e w' ⟨rfl, rfl⟩)))
  go_ret
  exact ⟨rfl, rfl⟩
set_option maxHeartbeats 400000 in
theorem sign_any (x : Nat) (w : World) (hx : x < 2 ^ 64) :
    Calls Tryd.prog 25 #[.float .f64 x] w fun e w' => e = .returned (.string ⟨(if lessB x 0 then [45] else []).toArray⟩) ∧ w = w' := by
  cases hl : lessB x 0
  all_goals
    go_enter Tryd.func25, Tryd.ntmps25
    go_wp2_with (go_at_call 16; ((with_reducible refine (less_any x 0 _ hx (by decide)).mono ?_); rintro e w' ⟨rfl, rfl⟩))
    go_ret
    exact ⟨rfl, rfl⟩
end Go.Proofs.YtdjkilgcgkhcdaaDoor
