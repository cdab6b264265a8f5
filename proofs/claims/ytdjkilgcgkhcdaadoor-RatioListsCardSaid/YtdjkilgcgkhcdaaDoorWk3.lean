/-
  Contracts of ratio.dotted and ratio.Text, for all words.
-/
import Derived.Test.YtdjkilgcgkhcdaaDoorFlE
import Derived.Test.YtdjkilgcgkhcdaaDoorWk2
import Derived.Test.YtdjkilgcgkhcdaaDoorShelf
import Derived.Deep.QuietTactic
import Derived.BigQuiet
import Derived.Lib.ItoaLen
namespace Go.Proofs.YtdjkilgcgkhcdaaDoor
open Go.RowKit Go.Fl
def pad4 (l : List UInt8) : List UInt8 := List.replicate (4 - l.length) 48 ++ l
theorem pad4_cons (l : List UInt8) (h : l.length < 4) : pad4 (48 :: l) = pad4 l := by
  unfold pad4
  rw [List.length_cons, show 4 - l.length = (4 - (l.length + 1)) + 1 by omega, List.replicate_succ', List.append_assoc]
  rfl
theorem pad4_long (l : List UInt8) (h : 4 ≤ l.length) : pad4 l = l := by
  unfold pad4
  rw [show 4 - l.length = 0 by omega]; rfl
/-- n in at least four digits, a dot ahead of the last three. -/
def dotL (n : Nat) : List UInt8 := (pad4 (Lib.itoa n)).take ((pad4 (Lib.itoa n)).length - 3) ++ 46 :: (pad4 (Lib.itoa n)).drop ((pad4 (Lib.itoa n)).length - 3)
theorem str_app (a b : List UInt8) : (ByteArray.mk a.toArray) ++ (ByteArray.mk b.toArray) = ByteArray.mk (a ++ b).toArray := by
  rw [ByteArray.mk_append_mk]
theorem str_take (l : List UInt8) (k : Nat) : (ByteArray.mk l.toArray).extract 0 k = ByteArray.mk (l.take k).toArray := by
  ext1; simp
theorem str_drop (l : List UInt8) (k : Nat) : (ByteArray.mk l.toArray).extract k l.length = ByteArray.mk (l.drop k).toArray := by
  ext1; simp [List.take_of_length_le]
theorem below_drewN {B : Nat} {a w : World} (h : Below B a w) (n : Nat) : Below B a (w.drewN n) := ⟨h.os, h.tape, h.output, h.size, h.block⟩
theorem below_grow (w : World) (k : Nat) (os : Array Obj) : Below w.heap.size w (Sort.grow (w.drewN k) os) :=
  ⟨rfl, rfl, rfl, by simp [Sort.grow, World.drewN], fun i hi => by simp [Sort.grow, World.drewN, Array.getElem?_append, hi]⟩
set_option maxHeartbeats 400000 in
theorem dotted_any (n : Nat) (hn : n ≤ 2 ^ 40) (w : World) (htab : Lib.TabIs Tryd.prog w "internal/strconv.uint64pow10" .u64 Lib.pow10Tab) :
    Calls Tryd.prog 26 #[.int .i64 n] w fun e w' => e = .returned (.string ⟨(dotL n).toArray⟩) ∧ Below w.heap.size w w' := by
  have hi := Tryd.strconv_Itoa n (by omega) (by omega) w htab
  have hl : 0 < (Lib.itoa n).length ∧ (Lib.itoa n).length ≤ 40 := by
    have := Lib.itoa_length_le n (by omega) (by omega)
    rw [Lib.itoa_nonneg, Lib.decDigits_length] at this ⊢
    have := Lib.nDigits_pos n
    omega
  have HL := Lib.hid hl
  clear hn htab hl
  go_enter Tryd.func26, Tryd.ntmps26
  go_wp2_with (go_at_call 37; ((with_reducible refine hi.mono ?_); rintro e w' ⟨rfl, k, os, rfl⟩))
  clear hi
  have HB : Hid (Below w.heap.size w (Sort.grow (w.drewN k) os)) := below_grow w k os
  generalize Sort.grow (w.drewN k) os = w1 at HB ⊢
  go_loop [3] (fun v => ∃ l : List UInt8, v = .string ⟨l.toArray⟩ ∧ 0 < l.length ∧ l.length ≤ 40 ∧ Hid (pad4 l = pad4 (Lib.itoa n))) (fun v => match v with | .string s => 4 - s.size | _ => 0)
  case atStart => exact ⟨_, rfl, HL.out.1, HL.out.2, Lib.hid rfl⟩
  case round =>
    obtain ⟨l, rfl, h0, h1, hp⟩ := hrel
    have hsz : (ByteArray.mk l.toArray).size = l.length := by simp [ByteArray.size]
    have HZ := Lib.hid hsz
    clear hsz
    by_cases hlt : l.length < 4
    · go_wp2
      refine ⟨⟨48 :: l, ?_, by simp, by simp; omega, Lib.hid ?_⟩, ?_⟩
      · rw [show (#[48] : Array UInt8) = [48].toArray from rfl, str_app]; rfl
      · rw [pad4_cons l hlt]; exact hp.out
      · rw [show (#[48] : Array UInt8) = [48].toArray from rfl, str_app]
        show 4 - (ByteArray.mk (48 :: l).toArray).size < 4 - (ByteArray.mk l.toArray).size
        simp [ByteArray.size]; omega
    · have z1 : (0 : Int) ≤ (l.length : Int) - 3 := by omega
      have z2 : (l.length : Int) - 3 ≤ (l.length : Int) := by omega
      go_wp2_with fail
      go_quiet (fail)
      simp only [Exit.then]
      have HB2 : Hid (Below w.heap.size w (w1.drewN nq)) := below_drewN HB.out nq
      generalize w1.drewN nq = w2 at HB2 ⊢
      go_wp2
      go_ret
      refine ⟨?_, HB2.out⟩
      have hq : pad4 (Lib.itoa n) = l := by rw [← hp.out, pad4_long l (by omega)]
      unfold dotL
      rw [hq]
      show Ending.returned (Value.string ((ByteArray.mk l.toArray).extract 0 (l.length - 3) ++ ByteArray.mk [46].toArray ++ (ByteArray.mk l.toArray).extract (l.length - 3) l.length)) = _
      rw [str_take, str_drop, str_app, str_app]
      simp

theorem pad4_length (l : List UInt8) : (pad4 l).length = max 4 l.length := by unfold pad4; simp; omega
theorem dotL_length (n : Nat) (hn : n ≤ 2 ^ 40) : 5 ≤ (dotL n).length ∧ (dotL n).length ≤ 40 := by
  have h := Lib.itoa_length_le n (by omega) (by omega)
  have := pad4_length (Lib.itoa n)
  unfold dotL
  simp
  omega
theorem ret_str {a b : ByteArray} (h : a = b) : Ending.returned (.string a) = .returned (.string b) := by rw [h]
def textL (x : Nat) : List UInt8 :=
  if kindOf x = 6 then [110, 97, 110]
  else if kindOf x = 5 then [105, 110, 102]
  else if kindOf x = 0 then [45, 105, 110, 102]
  else if (FloatKind.f64.format.order x 4696837146684686336 == some .gt || FloatKind.f64.format.order x 4696837146684686336 == some .eq) = true then [98, 105, 103]
  else if (FloatKind.f64.format.order x 13920209183539462144 == some .lt || FloatKind.f64.format.order x 13920209183539462144 == some .eq) = true then [45, 98, 105, 103]
  else (if lessB x 0 then [45] else []) ++ dotL (thN x)
theorem val_mega : val 4696837146684686336 = some (1000000 * U) := by
  have hr : Ieee.double.read 4696837146684686336 = .number false 8589934592000000 (-33) := by decide
  unfold val
  rw [hr]
  simp only [ext, signed_eq]
  rw [show ((-33 : Int) + 1074).toNat = 1041 from rfl, show ((8589934592000000 : Nat) : Int) = 1000000 * pw 33 by decide, Int.mul_assoc, ← pw_add]
  simp [U]
theorem val_negmega : val 13920209183539462144 = some (-(1000000 * U)) := by
  have := val_neg 4696837146684686336 (by decide)
  rw [show Op.negFloat .f64 4696837146684686336 = 13920209183539462144 by decide, val_mega] at this
  exact this
theorem meg_gt : 1000000 * U < meg := by
  have := U_pos
  have e : meg = 1048576 * U := by
    unfold meg U
    rw [pw_add 20 1074, show pw 20 = 1048576 from rfl]
  omega
theorem told_of (x : Nat) (h1 : kindOf x ≠ 6)
    (h4 : (FloatKind.f64.format.order x 4696837146684686336 == some .gt || FloatKind.f64.format.order x 4696837146684686336 == some .eq) = false)
    (h5 : (FloatKind.f64.format.order x 13920209183539462144 == some .lt || FloatKind.f64.format.order x 13920209183539462144 == some .eq) = false) : Told x := by
  match hv : val x with
  | none => exact absurd (kindOf_none x hv) h1
  | some v =>
    rw [order_val, val_mega, hv] at h4
    rw [order_val, val_negmega, hv] at h5
    simp only [cmpExt, Bool.or_eq_false_iff, beq_eq_false_iff_ne, ne_eq, Option.some.injEq, cmp_gt, cmp_lt, cmp_eq] at h4 h5
    have := meg_gt
    exact told x v hv (by omega) (by omega)
set_option maxHeartbeats 1000000 in
theorem text_any (x : Nat) (hx : x < 2 ^ 64) (w : World) (htab : Lib.TabIs Tryd.prog w "internal/strconv.uint64pow10" .u64 Lib.pow10Tab) :
    Calls Tryd.prog 14 #[.float .f64 x] w fun e w' => e = .returned (.string ⟨(textL x).toArray⟩) ∧ Below w.heap.size w w' := by
  have HT := Lib.hid htab
  have HX := Lib.hid hx
  clear htab hx
  by_cases h1 : kindOf x = 6
  · have e : textL x = [110, 97, 110] := by unfold textL; rw [if_pos h1]
    rw [e]; clear e
    go_enter Tryd.func14, Tryd.ntmps14
    go_wp2_with (go_at_call 24; refine (kind_any _ _).mono ?_; rintro e w' ⟨rfl, rfl⟩)
    go_ret
    exact ⟨rfl, Below.refl _ _⟩
  by_cases h2 : kindOf x = 5
  · have e : textL x = [105, 110, 102] := by unfold textL; rw [if_neg h1, if_pos h2]
    rw [e]; clear e h1
    go_enter Tryd.func14, Tryd.ntmps14
    go_wp2_with (go_at_call 24; refine (kind_any _ _).mono ?_; rintro e w' ⟨rfl, rfl⟩)
    go_ret
    exact ⟨rfl, Below.refl _ _⟩
  by_cases h3 : kindOf x = 0
  · have e : textL x = [45, 105, 110, 102] := by unfold textL; rw [if_neg h1, if_neg h2, if_pos h3]
    rw [e]; clear e h1 h2
    go_enter Tryd.func14, Tryd.ntmps14
    go_wp2_with (go_at_call 24; refine (kind_any _ _).mono ?_; rintro e w' ⟨rfl, rfl⟩)
    go_ret
    exact ⟨rfl, Below.refl _ _⟩
  have b1 : (kindOf x == 6) = false := by simp [h1]
  have b2 : (kindOf x == 5) = false := by simp [h2]
  have b3 : (kindOf x == 0) = false := by simp [h3]
  cases h4 : (FloatKind.f64.format.order x 4696837146684686336 == some .gt || FloatKind.f64.format.order x 4696837146684686336 == some .eq) with
  | true =>
    have e : textL x = [98, 105, 103] := by unfold textL; rw [if_neg h1, if_neg h2, if_neg h3, if_pos h4]
    rw [e]; clear e h1 h2 h3
    go_enter Tryd.func14, Tryd.ntmps14
    go_wp2_with (go_at_call 24; refine (kind_any _ _).mono ?_; rintro e w' ⟨rfl, rfl⟩)
    go_ret
    exact ⟨rfl, Below.refl _ _⟩
  | false =>
    cases h5 : (FloatKind.f64.format.order x 13920209183539462144 == some .lt || FloatKind.f64.format.order x 13920209183539462144 == some .eq) with
    | true =>
      have e : textL x = [45, 98, 105, 103] := by unfold textL; rw [if_neg h1, if_neg h2, if_neg h3, if_neg (by rw [h4]; decide), if_pos h5]
      rw [e]; clear e h1 h2 h3
      go_enter Tryd.func14, Tryd.ntmps14
      go_wp2_with (go_at_call 24; refine (kind_any _ _).mono ?_; rintro e w' ⟨rfl, rfl⟩)
      go_ret
      exact ⟨rfl, Below.refl _ _⟩
    | false =>
      have e : textL x = (if lessB x 0 then [45] else []) ++ dotL (thN x) := by unfold textL; rw [if_neg h1, if_neg h2, if_neg h3, if_neg (by rw [h4]; decide), if_neg (by rw [h5]; decide)]
      have T : Hid (Told x) := told_of x h1 h4 h5
      rw [e]; clear e h1 h2 h3
      have hd : ((dotL (thN x)).length : Int) ≤ 8388608 := by
        have := dotL_length _ (kth T.out).2.2.2
        omega
      cases hl : lessB x 0
      all_goals
        go_enter Tryd.func14, Tryd.ntmps14
        go_wp2_with (first
          | (go_at_call 24; ((with_reducible refine (kind_any _ _).mono ?_); rintro e w' ⟨rfl, rfl⟩))
          | (go_at_call 25; ((with_reducible refine (sign_any _ _ HX.out).mono ?_); rintro e w' ⟨rfl, rfl⟩))
          | (go_at_call 27; ((with_reducible refine (thousandths_any _ T.out _).mono ?_); rintro e w' ⟨rfl, rfl⟩))
          | (go_at_call 26; ((with_reducible refine (dotted_any _ (kth T.out).2.2.2 _ HT.out).mono ?_); rintro e w' ⟨rfl, hb⟩)))
        go_ret
        refine ⟨?_, by assumption⟩
        first | exact ret_str (str_app [] (dotL (thN x))) | exact ret_str (str_app [45] (dotL (thN x)))
end Go.Proofs.YtdjkilgcgkhcdaaDoor
