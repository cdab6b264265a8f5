/-
  Doubles as exact numbers: how two words compare, told by a key.
-/
import Derived.Laws.FloatArith
import Derived.RowKit
namespace Go.Fl
open Ieee RowKit

/-- A double's value in units of 2^-1074; an infinity stands beyond all numbers. -/
def pw (k : Nat) : Int := 2 ^ k
theorem pw_add (a b : Nat) : pw (a + b) = pw a * pw b := Int.pow_add ..
theorem pw_pos (k : Nat) : 0 < pw k := Int.pow_pos (by omega)
theorem pw_nat (k : Nat) : ((2 ^ k : Nat) : Int) = pw k := by unfold pw; push_cast; rfl
theorem pw_le {a b : Nat} (h : a ≤ b) : pw a ≤ pw b := by
  rw [← pw_nat, ← pw_nat]; exact Int.ofNat_le.2 (Nat.pow_le_pow_right (by omega) h)
def top : Int := pw 2098
def ext : Datum → Option Int
  | .nan .. => none
  | .infinity s => some (if s then -top else top)
  | .number s m e => some (signed s m (e + 1074).toNat)
/-- Datums as they are read. -/
def fine : Datum → Prop
  | .number _ m e => -1074 ≤ e ∧ m < 2 ^ 53 ∧ e ≤ 971
  | _ => True

theorem signed_eq (s : Bool) (m u : Nat) : signed s m u = (if s then -1 else 1) * ((m : Int) * pw u) := by
  unfold signed; rw [Nat.shiftLeft_eq, ← pw_nat]
  cases s <;> simp [Int.natCast_mul]
theorem signed_add (s : Bool) (m u k : Nat) : signed s m (u + k) = signed s m u * pw k := by
  rw [signed_eq, signed_eq, pw_add]; simp [Int.mul_assoc]
theorem compare_mul (a b k : Int) (hk : 0 < k) : compare (a * k) (b * k) = compare a b := by
  simp only [compare, compareOfLessAndEq]
  have h1 : a * k < b * k ↔ a < b := ⟨fun h => Int.lt_of_mul_lt_mul_right h (by omega), fun h => Int.mul_lt_mul_of_pos_right h hk⟩
  have h2 : a * k = b * k ↔ a = b := ⟨fun h => Int.eq_of_mul_eq_mul_right (by omega) h, fun h => by rw [h]⟩
  simp [h1, h2]
theorem top_pos : 0 < top := pw_pos _

theorem fine_read (x : Nat) : fine (double.read x) := by
  unfold Format.read
  have hb : double.binade = 2 ^ 52 := rfl
  have hi : double.infRung = 2047 * 2 ^ 52 := by decide
  have hl : double.leastPlace = -1074 := rfl
  simp only [hb, hi, hl]
  split
  · exact ⟨by omega, by omega, by omega⟩
  · split
    · refine ⟨by omega, ?_, ?_⟩
      · have : x % double.signWeight % 2 ^ 52 < 2 ^ 52 := Nat.mod_lt _ (by decide)
        omega
      · have : x % double.signWeight / 2 ^ 52 < 2047 := Nat.div_lt_of_lt_mul (by omega)
        omega
    · split <;> trivial

theorem ext_lt (s : Bool) (m : Nat) (e : Int) (h : fine (.number s m e)) : -top < signed s m (e + 1074).toNat ∧ signed s m (e + 1074).toNat < top := by
  obtain ⟨h1, h2, h3⟩ := h
  have hu : (e + 1074).toNat ≤ 2045 := by omega
  have hz : (m : Int) * pw (e + 1074).toNat < top := by
    have a : (m : Int) * pw (e + 1074).toNat < pw 53 * pw (e + 1074).toNat := Int.mul_lt_mul_of_pos_right (by rw [← pw_nat]; exact Int.ofNat_lt.2 h2) (pw_pos _)
    have b : pw 53 * pw (e + 1074).toNat ≤ pw 2098 := by rw [← pw_add]; exact pw_le (by omega)
    exact Int.lt_of_lt_of_le a b
  have h0 : 0 ≤ (m : Int) * pw (e + 1074).toNat := Int.mul_nonneg (by omega) (Int.le_of_lt (pw_pos _))
  rw [signed_eq]
  have := top_pos
  cases s <;> simp <;> omega

theorem compare_lt {a b : Int} (h : a < b) : compare a b = .lt := by simp [compare, compareOfLessAndEq, h]
theorem compare_gt {a b : Int} (h : b < a) : compare a b = .gt := by
  simp only [compare, compareOfLessAndEq]; rw [if_neg (by omega), if_neg (by omega)]
theorem compare_eq (a : Int) : compare a a = .eq := by simp [compare, compareOfLessAndEq]

def cmpExt : Option Int → Option Int → Option Ordering
  | some a, some b => some (compare a b)
  | _, _ => none

theorem order_ext (a b : Datum) (ha : fine a) (hb : fine b) : a.order b = cmpExt (ext a) (ext b) := by
  have ht := top_pos
  match a, b, ha, hb with
  | .nan .., b, _, _ => cases b <;> rfl
  | .number .., .nan .., _, _ => rfl
  | .infinity _, .nan .., _, _ => rfl
  | .infinity s, .infinity t, _, _ =>
    cases s <;> cases t <;> simp only [Datum.order, ext, cmpExt]
    · simp
    · simp [compare_gt (show -top < top by omega)]; rfl
    · simp [compare_lt (show -top < top by omega)]; rfl
    · simp
  | .infinity s, .number t n j, _, hb =>
    have := ext_lt t n j hb
    cases s <;> simp only [Datum.order, ext, cmpExt]
    · simp [compare_gt this.2]
    · simp [compare_lt this.1]
  | .number t n j, .infinity s, hb, _ =>
    have := ext_lt t n j hb
    cases s <;> simp only [Datum.order, ext, cmpExt]
    · simp [compare_lt this.2]
    · simp [compare_gt this.1]
  | .number s m i, .number t n j, ha, hb =>
    simp only [Datum.order, ext, cmpExt]
    obtain ⟨a1, _, _⟩ := ha
    obtain ⟨b1, _, _⟩ := hb
    have e1 : (i + 1074).toNat = (i - min i j).toNat + (min i j + 1074).toNat := by omega
    have e2 : (j + 1074).toNat = (j - min i j).toNat + (min i j + 1074).toNat := by omega
    rw [e1, e2, signed_add, signed_add, compare_mul _ _ _ (pw_pos _)]

/-- The value of a word. -/
def val (x : Nat) : Option Int := ext (double.read x)
def isNeg (x : Nat) : Bool := (double.read x).neg
theorem order_val (x y : Nat) : FloatKind.f64.format.order x y = cmpExt (val x) (val y) := order_ext _ _ (fine_read x) (fine_read y)
theorem val_range (x : Nat) (v : Int) (h : val x = some v) : -top ≤ v ∧ v ≤ top := by
  unfold val at h
  have hf := fine_read x
  have ht := top_pos
  match hd : double.read x with
  | .nan .. => rw [hd] at h; cases h
  | .infinity s => rw [hd] at h; cases h; cases s <;> simp <;> omega
  | .number s m e => rw [hd] at h hf; cases h; have := ext_lt s m e hf; omega
/-- How numbers stand: the 0 with a minus ahead of the 0 without, what is no number behind all. -/
def key (x : Nat) : Int :=
  match val x with
  | none => 2 * top + 5
  | some v => 2 * v + if v = 0 ∧ isNeg x = false then 1 else 0

theorem neg_read (x : Nat) : isNeg x = (x / 2 ^ 63 % 2 == 1) := by
  have hs : double.signWeight = 2 ^ 63 := rfl
  unfold isNeg Format.read
  simp only [hs]
  split
  · rfl
  · split
    · rfl
    · split <;> rfl

theorem val_isNeg (x : Nat) (v : Int) (h : val x = some v) : (isNeg x = true → v ≤ 0) ∧ (isNeg x = false → 0 ≤ v) := by
  unfold val at h
  unfold isNeg
  have ht := top_pos
  match hd : double.read x with
  | .nan .. => rw [hd] at h; cases h
  | .infinity s => rw [hd] at h; cases h; cases s <;> simp [Datum.neg] <;> omega
  | .number s m e =>
    rw [hd] at h; cases h
    rw [signed_eq]
    have h0 : 0 ≤ (m : Int) * pw (e + 1074).toNat := Int.mul_nonneg (by omega) (Int.le_of_lt (pw_pos _))
    cases s <;> simp [Datum.neg] <;> omega

/-- A word with its sign turned. -/
theorem neg_parts (x : Nat) (hx : x < 2 ^ 64) : Op.negFloat .f64 x % 2 ^ 63 = x % 2 ^ 63 ∧ (Op.negFloat .f64 x / 2 ^ 63 % 2 == 1) = !(x / 2 ^ 63 % 2 == 1) := by
  have e : Op.negFloat .f64 x = x ^^^ 2 ^ 63 := rfl
  rw [e, Nat.xor_mod_two_pow, Nat.xor_div_two_pow]
  refine ⟨by simp, ?_⟩
  rcases (by omega : x / 2 ^ 63 = 0 ∨ x / 2 ^ 63 = 1) with h | h <;> rw [h] <;> decide

theorem read_neg (x : Nat) (hx : x < 2 ^ 64) : double.read (Op.negFloat .f64 x) = (double.read x).opposite := by
  have hs : double.signWeight = 2 ^ 63 := rfl
  obtain ⟨h1, h2⟩ := neg_parts x hx
  unfold Format.read
  simp only [hs, h1, h2]
  split
  · rfl
  · split
    · rfl
    · split <;> rfl

theorem val_neg (x : Nat) (hx : x < 2 ^ 64) : val (Op.negFloat .f64 x) = (val x).map (- ·) := by
  unfold val
  rw [read_neg x hx]
  match double.read x with
  | .nan .. => rfl
  | .infinity s => cases s <;> simp [Datum.opposite, ext]
  | .number s m e => cases s <;> simp [Datum.opposite, ext, signed_eq]

/-- The greatest number, one step below the infinite one: nothing lies between. -/
def great : Int := (2 ^ 53 - 1) * pw 2045
theorem great_lt : 0 < great ∧ great < top := by
  have h := pw_pos 2045
  have ht : top = pw 53 * pw 2045 := by unfold top; rw [← pw_add]
  have h5 : pw 53 = 2 ^ 53 := rfl
  rw [ht, h5]
  unfold great
  generalize pw 2045 = z at h ⊢
  omega
theorem val_great : val 9218868437227405311 = some great := by
  have : double.read 9218868437227405311 = .number false (2 ^ 53 - 1) 971 := by decide
  have e : ((971 : Int) + 1074).toNat = 2045 := rfl
  unfold val
  rw [this]
  simp only [ext, signed_eq, e, great]
  simp
theorem le_great (x : Nat) (v : Int) (h : val x = some v) : v = -top ∨ v = top ∨ (-great ≤ v ∧ v ≤ great) := by
  unfold val at h
  have hf := fine_read x
  match hd : double.read x with
  | .nan .. => rw [hd] at h; cases h
  | .infinity s => rw [hd] at h; cases h; cases s <;> simp
  | .number s m e =>
    rw [hd] at h hf; cases h
    obtain ⟨h1, h2, h3⟩ := hf
    have hz : (m : Int) * pw (e + 1074).toNat ≤ great := by
      unfold great
      have a : (m : Int) * pw (e + 1074).toNat ≤ (2 ^ 53 - 1) * pw (e + 1074).toNat := Int.mul_le_mul_of_nonneg_right (by omega) (Int.le_of_lt (pw_pos _))
      have b : pw (e + 1074).toNat ≤ pw 2045 := pw_le (by omega)
      have c : ((2 : Int) ^ 53 - 1) * pw (e + 1074).toNat ≤ (2 ^ 53 - 1) * pw 2045 := Int.mul_le_mul_of_nonneg_left b (by omega)
      exact Int.le_trans a c
    have h0 : 0 ≤ (m : Int) * pw (e + 1074).toNat := Int.mul_nonneg (by omega) (Int.le_of_lt (pw_pos _))
    have hg := great_lt
    rw [signed_eq]
    cases s <;> simp <;> omega
theorem val_zero : val 0 = some 0 := by
  have : double.read 0 = .number false 0 (-1074) := by decide
  unfold val; rw [this]; rfl

theorem cmp_gt {a b : Int} : (compare a b = Ordering.gt) ↔ b < a := by
  simp only [compare, compareOfLessAndEq]
  split
  · simp; omega
  · split <;> simp <;> omega
theorem cmp_lt {a b : Int} : (compare a b = Ordering.lt) ↔ a < b := by
  simp only [compare, compareOfLessAndEq]
  split
  · simp; omega
  · split <;> simp <;> omega
theorem cmp_eq {a b : Int} : (compare a b = Ordering.eq) ↔ a = b := by
  simp only [compare, compareOfLessAndEq]
  split
  · simp; omega
  · split <;> simp <;> omega

/-- The order that the program makes of kinds and of '<'. -/
def kindOf (x : Nat) : Int :=
  if FloatKind.f64.format.order x x != some .eq then 6
  else if FloatKind.f64.format.order (Op.negFloat .f64 x) 9218868437227405311 == some .gt then 0
  else if FloatKind.f64.format.order x 9218868437227405311 == some .gt then 5
  else if FloatKind.f64.format.order x 0 == some .lt then 1
  else if FloatKind.f64.format.order x 0 == some .gt then 4
  else if wrap64 (x : Int) < 0 then 2 else 3

theorem wrap_neg (x : Nat) : wrap64 (x : Int) < 0 ↔ isNeg x = true := by
  rw [neg_read]
  simp only [wrap64, beq_iff_eq]
  omega

theorem kindOf_none (x : Nat) (h : val x = none) : kindOf x = 6 := by
  unfold kindOf; rw [order_val, h]; rfl
theorem kindOf_some (x : Nat) (hx : x < 2 ^ 64) (v : Int) (h : val x = some v) :
    kindOf x = if v = -top then 0 else if v = top then 5 else if v < 0 then 1 else if 0 < v then 4 else if isNeg x = true then 2 else 3 := by
  have hg := great_lt
  have hl := le_great x v h
  unfold kindOf
  simp only [order_val, val_neg x hx, h, val_great, val_zero, cmpExt, Option.map_some, compare_eq, wrap_neg x, bne_self_eq_false, beq_iff_eq, Option.some.injEq, cmp_gt, cmp_lt, Bool.false_eq_true, if_false]
  have e1 : great < -v ↔ v = -top := by omega
  have e2 : great < v ↔ v = top := by omega
  simp only [e1, e2]

theorem kind_key (x : Nat) (hx : x < 2 ^ 64) (v : Int) (h : val x = some v) :
    (kindOf x = 0 ∧ v = -top ∧ key x = 2 * v) ∨ (kindOf x = 5 ∧ v = top ∧ key x = 2 * v) ∨ (kindOf x = 1 ∧ -top < v ∧ v < 0 ∧ key x = 2 * v)
      ∨ (kindOf x = 4 ∧ v < top ∧ 0 < v ∧ key x = 2 * v) ∨ (kindOf x = 2 ∧ v = 0 ∧ key x = 0) ∨ (kindOf x = 3 ∧ v = 0 ∧ key x = 1) := by
  have ht := top_pos
  have hr := val_range x v h
  rw [kindOf_some x hx v h]
  unfold key
  simp only [h]
  by_cases h1 : v = -top
  · rw [if_pos h1, if_neg (by omega)]; omega
  · by_cases h2 : v = top
    · rw [if_neg h1, if_pos h2, if_neg (by omega)]; omega
    · rw [if_neg h1, if_neg h2]
      by_cases h3 : v < 0
      · rw [if_pos h3, if_neg (by omega)]; omega
      · by_cases h4 : 0 < v
        · rw [if_neg h3, if_pos h4, if_neg (by omega)]; omega
        · rw [if_neg h3, if_neg h4]
          have h0 : v = 0 := by omega
          cases isNeg x <;> simp [h0]

/-- The program's 'Less'. -/
def lessB (x y : Nat) : Bool := decide (key x < key y)
theorem less_key (x y : Nat) (hx : x < 2 ^ 64) (hy : y < 2 ^ 64) :
    lessB x y = if kindOf x ≠ kindOf y then decide (kindOf x < kindOf y) else (FloatKind.f64.format.order x y == some .lt) := by
  have ht := top_pos
  rw [order_val, Bool.eq_iff_iff]
  unfold lessB
  match hvx : val x, hvy : val y with
  | none, none =>
    have e1 : key x = 2 * top + 5 := by unfold key; rw [hvx]
    have e2 : key y = 2 * top + 5 := by unfold key; rw [hvy]
    simp [kindOf_none x hvx, kindOf_none y hvy, cmpExt, e1, e2]
  | none, some v =>
    have e1 : key x = 2 * top + 5 := by unfold key; rw [hvx]
    have hj := kind_key y hy v hvy
    rw [kindOf_none x hvx, e1, decide_eq_true_eq, if_pos (by omega), decide_eq_true_eq]
    omega
  | some v, none =>
    have e2 : key y = 2 * top + 5 := by unfold key; rw [hvy]
    have hk := kind_key x hx v hvx
    rw [kindOf_none y hvy, e2, decide_eq_true_eq, if_pos (by omega), decide_eq_true_eq]
    omega
  | some v, some u =>
    have hk := kind_key x hx v hvx
    have hj := kind_key y hy u hvy
    by_cases he : kindOf x = kindOf y
    · rw [if_neg (by omega)]
      simp only [cmpExt, beq_iff_eq, Option.some.injEq, cmp_lt, decide_eq_true_eq]
      omega
    · rw [if_pos he]
      simp only [decide_eq_true_eq]
      omega
end Go.Fl
