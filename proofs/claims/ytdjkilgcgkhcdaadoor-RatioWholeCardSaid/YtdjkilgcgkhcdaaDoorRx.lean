/-
  The document's text of a number below a million, by its walk.
-/
import Derived.Test.YtdjkilgcgkhcdaaDoorRt
namespace Go.Proofs.YtdjkilgcgkhcdaaDoor
open Go.RowKit Go.Fl Go.Sort Go.Lib
set_option maxHeartbeats 1000000 in
/-- The way of the document's text from the whole number n0 on. -/
theorem rtext_num (x : Nat) (hx : x < 2 ^ 64) (T : Told x) (N : Nat) (hN : N = thN x) (hNb : N ≤ 2 ^ 40) (n0 : Int) (g neg : Bool)
    (hn : (FloatKind.f64.format.order x x != some .eq) = false)
    (h4 : (FloatKind.f64.format.order x 4696837146684686336 == some .gt || FloatKind.f64.format.order x 4696837146684686336 == some .eq) = false)
    (h5 : (FloatKind.f64.format.order x 13920209183539462144 == some .lt || FloatKind.f64.format.order x 13920209183539462144 == some .eq) = false)
    (hc : floatToIntVal .f64 (y2 x) .i64 = some n0) (hg : (FloatKind.f64.format.order (floatOfInt .f64 n0) (y2 x) == some .gt) = g)
    (h0 : n0 = (if neg then -(N : Int) else (N : Int)) + (if g then 1 else 0)) (hneg : neg = true → 0 < N) (w : World) :
    Calls Tryd.prog 15 #[.float .f64 x] w fun e w' => e = .returned (.string ⟨((if lessB x 0 then [45] else []) ++ dotL N).toArray⟩) ∧ Below w.heap.size w w' := by
  have hm := fun w => run_float_arith (P := Tryd.prog) w .mul 22 .f64 x 4652007308841189376 (y1 x) T.mul
  have ha := fun w => run_float_arith (P := Tryd.prog) w .add 22 .f64 (y1 x) 4602678819172646912 (y2 x) T.add
  have hcc := fun w => run_convert_float_int (P := Tryd.prog) w 22 3 .f64 .i64 _ _ (by rw [Tryd.underlying22]; rfl) Tryd.underlying3 hc
  have cc := fun (n : Int) (w : World) => run_convert_int_float (P := Tryd.prog) w 3 22 .i64 .f64 n (by rw [Tryd.underlying3]; rfl) Tryd.underlying22
  have HX := Lib.hid hx
  have HD : Hid (N < 2 ^ 64) := by show _ < _; omega
  have HL : Hid (0 < (Lib.itoa N).length ∧ (Lib.itoa N).length ≤ 40) := by
    have := Lib.itoa_length_le N (by omega) (by omega)
    rw [Lib.itoa_nonneg, Lib.decDigits_length] at this
    have := Lib.nDigits_pos N
    show _ ∧ _
    rw [Lib.itoa_nonneg, Lib.decDigits_length]
    omega
  have hNz : (N : Int) ≤ 1099511627776 := by omega
  clear hc T hN hNb hx
  generalize y2 x = yy at *
  generalize y1 x = yx at *
  have NEG : neg = true → Hid (0 < N) := hneg
  clear hneg
  cases neg <;> cases g <;> cases hl : lessB x 0
  all_goals
    simp only [if_true, Bool.false_eq_true, if_false, Int.add_zero] at h0
    subst h0
    first | (have hpos : (0 : Int) < N := by have := (NEG rfl).out; omega) | skip
    clear NEG
    go_enter Tryd.func15, Tryd.ntmps15
    go_wp2_with (first
      | (go_at_call 28; ((with_reducible refine (rnone_any _ _).mono ?_); rintro e w' ⟨rfl, rfl⟩))
      | (go_at_call 29; ((with_reducible refine (minus_any _ HX.out _).mono ?_); rintro e w' ⟨rfl, rfl⟩))
      | (go_at_call 30; ((with_reducible refine (digits_any _ HD.out _).mono ?_); rintro e w' ⟨rfl, rfl⟩)))
    go_loop [6] (fun v => ∃ l : List UInt8, v = .string ⟨l.toArray⟩ ∧ 0 < l.length ∧ l.length ≤ 40 ∧ Hid (pad4 l = pad4 (Lib.itoa N))) (fun v => match v with | .string s => 4 - s.size | _ => 0)
    case atStart => exact ⟨_, rfl, by rw [← Lib.itoa_nonneg]; exact HL.out.1, by rw [← Lib.itoa_nonneg]; exact HL.out.2, by show _ = _; rw [Lib.itoa_nonneg]⟩
    case round =>
      obtain ⟨l, rfl, h0, h1, hp⟩ := hrel
      have hsz : (ByteArray.mk l.toArray).size = l.length := by simp [ByteArray.size]
      have HZ := Lib.hid hsz
      clear hsz
      by_cases hlt : l.length < 4
      · go_wp2
        refine ⟨⟨48 :: l, ?_, by simp, by simp; omega, Lib.hid ?_⟩, ?_⟩
        · rw [show (#[48] : Array UInt8) = [48].toArray from rfl, str_app]; rfl
        · rw [pad4_cons l hlt]; exact hp.out
        · rw [show (#[48] : Array UInt8) = [48].toArray from rfl, str_app]
          show 4 - (ByteArray.mk (48 :: l).toArray).size < 4 - (ByteArray.mk l.toArray).size
          simp [ByteArray.size]; omega
      · have z1 : (0 : Int) ≤ (l.length : Int) - 3 := by omega
        have z2 : (l.length : Int) - 3 ≤ (l.length : Int) := by omega
        go_wp2_with fail
        go_quiet (fail)
        simp only [Exit.then]
        have HB2 : Hid (Below w.heap.size w (w.drewN nq)) := below_drewN (Below.refl _ _) nq
        generalize w.drewN nq = w2 at HB2 ⊢
        go_wp2
        go_ret
        refine ⟨?_, HB2.out⟩
        have hq : pad4 (Lib.itoa N) = l := by rw [← hp.out, pad4_long l (by omega)]
        unfold dotL
        rw [hq]
        first
          | (show Ending.returned (Value.string (ByteArray.mk [].toArray ++ (ByteArray.mk l.toArray).extract 0 (l.length - 3) ++ ByteArray.mk [46].toArray ++ (ByteArray.mk l.toArray).extract (l.length - 3) l.length)) = _
             rw [str_take, str_drop, str_app, str_app, str_app]
             simp; done)
          | (show Ending.returned (Value.string (ByteArray.mk [45].toArray ++ (ByteArray.mk l.toArray).extract 0 (l.length - 3) ++ ByteArray.mk [46].toArray ++ (ByteArray.mk l.toArray).extract (l.length - 3) l.length)) = _
             rw [str_take, str_drop, str_app, str_app, str_app]
             simp; done)
end Go.Proofs.YtdjkilgcgkhcdaaDoor
