/-
  Contract of ratio.Part, for all whole numbers.
-/
import Derived.Test.YtdjkilgcgkhcdaaDoorWk3
namespace Go.Proofs.YtdjkilgcgkhcdaaDoor
open Go.RowKit Go.Fl
def nanW (w : World) (x y : Nat) : Nat := (Question.nanBits .f64 x y).cut (w.tape w.drawn (.nanBits .f64 x y))
theorem read_nan (x : Nat) (h1 : 2047 * 2 ^ 52 < x % 2 ^ 63) : val x = none := by
  have hs : Ieee.double.signWeight = 2 ^ 63 := rfl
  have hb : Ieee.double.binade = 2 ^ 52 := rfl
  have hi : Ieee.double.infRung = 2047 * 2 ^ 52 := by decide
  unfold val Ieee.Format.read
  simp only [hs, hb, hi]
  rw [if_neg (by omega), if_neg (by omega), if_neg (by omega)]
  rfl
theorem nanW_facts (w : World) (x y : Nat) : nanW w x y < 2 ^ 64 ∧ val (nanW w x y) = none := by
  unfold nanW Question.cut
  generalize w.tape w.drawn (.nanBits .f64 x y) = t
  simp only
  have h1 : t / 2 % (2 ^ 52 - 1) < 2 ^ 52 - 1 := Nat.mod_lt _ (by decide)
  have h2 : t % 2 < 2 := Nat.mod_lt _ (by decide)
  generalize t / 2 % (2 ^ 52 - 1) = u at h1 ⊢
  generalize t % 2 = s at h2 ⊢
  exact ⟨by omega, read_nan _ (by omega)⟩
theorem run_float_none (w : World) (t : TypeId) (x y : Nat) (h : Ieee.double.div x y = none) : (binOp .quo t (.float .f64 x) (.float .f64 y)).run Tryd.prog w = .ok (.float .f64 (nanW w x y)) w.drew := by
  have h' : FloatKind.f64.format.div x y = none := h
  simp [binOp, Op.floatArith, h', nanW, Question.forced]
def partW (a b : Int) : Option Nat := Ieee.double.div (floatOfInt .f64 a) (floatOfInt .f64 b)
/-- What a part is: the quotient, or some NaN. -/
structure PartIs (a b : Int) (z : Nat) : Prop where
  lt : z < 2 ^ 64
  eq : ∀ r, partW a b = some r → z = r
  none : partW a b = none → val z = none
set_option maxHeartbeats 400000 in
theorem part_any (a b : Int) (w : World) :
    Calls Tryd.prog 11 #[.int .i64 a, .int .i64 b] w fun e w' => ∃ z, e = .returned (.float .f64 z) ∧ PartIs a b z ∧ Below w.heap.size w w' := by
  have c := fun (n : Int) (w : World) => run_convert_int_float (P := Tryd.prog) w 3 22 .i64 .f64 n (by rw [Tryd.underlying3]; rfl) Tryd.underlying22
  cases hp : partW a b with
  | some r =>
    have hq := fun w => run_float_arith (P := Tryd.prog) w .quo 22 .f64 _ _ r hp
    have HP : Hid (PartIs a b r) := ⟨Ieee.double.div_lt hp, fun r' h => by rw [hp] at h; cases h; rfl, fun h => by rw [hp] at h; cases h⟩
    clear hp
    go_enter Tryd.func11, Tryd.ntmps11
    go_wp2
    go_ret
    exact ⟨_, rfl, HP.out, Below.refl _ _⟩
  | none =>
    have hq := fun w => run_float_none w 22 _ _ hp
    have HP : Hid (∀ w x y, PartIs a b (nanW w x y)) := fun w x y => ⟨(nanW_facts w x y).1, fun r' h => by rw [hp] at h; (cases h), fun _ => (nanW_facts w x y).2⟩
    clear hp
    go_enter Tryd.func11, Tryd.ntmps11
    go_wp2
    go_ret
    exact ⟨_, rfl, HP.out _ _ _, (Below.refl _ _).drew⟩
end Go.Proofs.YtdjkilgcgkhcdaaDoor
