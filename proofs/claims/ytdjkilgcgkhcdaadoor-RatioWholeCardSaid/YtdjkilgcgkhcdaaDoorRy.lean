/-
  The document's text is the program's, for every word.
-/
import Derived.Test.YtdjkilgcgkhcdaaDoorRx
namespace Go.Proofs.YtdjkilgcgkhcdaaDoor
open Go.RowKit Go.Fl Go.Sort Go.Lib
set_option maxHeartbeats 1000000 in
theorem rtext_big (x : Nat) (hx : x < 2 ^ 64) (v : Int) (hv : val x = some v) (c1 c2 inf : Bool)
    (h4 : (FloatKind.f64.format.order x 4696837146684686336 == some .gt || FloatKind.f64.format.order x 4696837146684686336 == some .eq) = c1)
    (h5 : (FloatKind.f64.format.order x 13920209183539462144 == some .lt || FloatKind.f64.format.order x 13920209183539462144 == some .eq) = c2)
    (hc : (c1 || c2) = true) (hi : inf = true ∧ Ieee.double.sub x x = none ∨ inf = false ∧ Ieee.double.sub x x = some 0) (w : World) :
    Calls Tryd.prog 15 #[.float .f64 x] w fun e w' => e = .returned (.string ⟨((if lessB x 0 then [45] else []) ++ (if inf then [105, 110, 102] else [98, 105, 103]) : List UInt8).toArray⟩) ∧ Below w.heap.size w w' := by
  have hn : (FloatKind.f64.format.order x x != some .eq) = false := by rw [order_val, hv]; simp [cmpExt]
  have HX := Lib.hid hx
  clear hx hv
  rcases hi with ⟨rfl, hi⟩ | ⟨rfl, hi⟩
  · have hs := fun w => run_sub_none w 22 x x hi
    have hz : ∀ w : World, (FloatKind.f64.format.order (nanW w x x) 0 != some .eq) = true := fun w => by
      rw [order_val, (nanW_facts w x x).2]; rfl
    clear hi
    cases c1 <;> cases c2 <;> first | (exact absurd hc (by decide)) | skip
    all_goals
      clear hc
      cases hl : lessB x 0
      all_goals
        go_enter Tryd.func15, Tryd.ntmps15
        go_wp2_with (first
          | (go_at_call 28; ((with_reducible refine (rnone_any _ _).mono ?_); rintro e w' ⟨rfl, rfl⟩))
          | (go_at_call 29; ((with_reducible refine (minus_any _ HX.out _).mono ?_); rintro e w' ⟨rfl, rfl⟩)))
        go_ret
        exact ⟨rfl, (Below.refl _ _).drew⟩
  · have hs := fun w => run_float_arith (P := Tryd.prog) w .sub 22 .f64 x x 0 hi
    have hz : (FloatKind.f64.format.order 0 0 != some .eq) = false := by kernel_rfl
    clear hi
    cases c1 <;> cases c2 <;> first | (exact absurd hc (by decide)) | skip
    all_goals
      clear hc
      cases hl : lessB x 0
      all_goals
        go_enter Tryd.func15, Tryd.ntmps15
        go_wp2_with (first
          | (go_at_call 28; ((with_reducible refine (rnone_any _ _).mono ?_); rintro e w' ⟨rfl, rfl⟩))
          | (go_at_call 29; ((with_reducible refine (minus_any _ HX.out _).mono ?_); rintro e w' ⟨rfl, rfl⟩)))
        go_ret
        exact ⟨rfl, Below.refl _ _⟩
set_option maxHeartbeats 400000 in
theorem rtext_nan (x : Nat) (hn : (FloatKind.f64.format.order x x != some .eq) = true) (w : World) :
    Calls Tryd.prog 15 #[.float .f64 x] w fun e w' => e = .returned (.string ⟨[110, 97, 110].toArray⟩) ∧ Below w.heap.size w w' := by
  go_enter Tryd.func15, Tryd.ntmps15
  go_wp2_with (go_at_call 28; ((with_reducible refine (rnone_any _ _).mono ?_); rintro e w' ⟨rfl, rfl⟩))
  go_ret
  exact ⟨rfl, Below.refl _ _⟩
/-- The document's text is the program's. -/
theorem rtext_any (x : Nat) (hx : x < 2 ^ 64) (w : World) :
    Calls Tryd.prog 15 #[.float .f64 x] w fun e w' => e = .returned (.string ⟨(textL x).toArray⟩) ∧ Below w.heap.size w w' := by
  have ht := top_pos
  have hU := U_pos
  match hv : val x with
  | none =>
    have e : textL x = [110, 97, 110] := by unfold textL; rw [if_pos (kindOf_none x hv)]
    rw [e]
    exact rtext_nan x (by rw [order_val, hv]; rfl) w
  | some v =>
    have hn : (FloatKind.f64.format.order x x != some .eq) = false := by rw [order_val, hv]; simp [cmpExt]
    have hk := kind_key x hx v hv
    have hz := less_zero x v hv
    have hr := val_range x v hv
    have hmt : 1000000 * U < top := Int.lt_of_lt_of_le meg_gt (pw_le (by omega))
    have o1 : (FloatKind.f64.format.order x 4696837146684686336 == some .gt || FloatKind.f64.format.order x 4696837146684686336 == some .eq) = decide (1000000 * U ≤ v) := by
      rw [order_val, hv, val_mega, Bool.eq_iff_iff]; simp only [cmpExt, Bool.or_eq_true, beq_iff_eq, Option.some.injEq, cmp_gt, cmp_eq, decide_eq_true_eq]; omega
    have o2 : (FloatKind.f64.format.order x 13920209183539462144 == some .lt || FloatKind.f64.format.order x 13920209183539462144 == some .eq) = decide (v ≤ -(1000000 * U)) := by
      rw [order_val, hv, val_negmega, Bool.eq_iff_iff]; simp only [cmpExt, Bool.or_eq_true, beq_iff_eq, Option.some.injEq, cmp_lt, cmp_eq, decide_eq_true_eq]; omega
    by_cases hb : 1000000 * U ≤ v ∨ v ≤ -(1000000 * U)
    · have hc : (decide (1000000 * U ≤ v) || decide (v ≤ -(1000000 * U))) = true := by simpa using hb
      by_cases hinf : v = top ∨ v = -top
      · have hs := sub_inf x (by rcases hinf with h | h <;> rw [hv, h] <;> simp)
        have := rtext_big x hx v hv _ _ true o1 o2 hc (.inl ⟨rfl, hs⟩) w
        have e : textL x = (if lessB x 0 then [45] else []) ++ (if true = true then [105, 110, 102] else [98, 105, 103]) := by
          unfold textL
          rw [if_neg (by omega)]
          rcases hinf with h | h
          · rw [if_pos (by omega), hz.1 (by omega)]; rfl
          · rw [if_neg (by omega), if_pos (by omega), hz.2 (by omega)]; rfl
        rw [e]; exact this
      · have hs := sub_self x v hv (by omega) (by omega)
        have := rtext_big x hx v hv _ _ false o1 o2 hc (.inr ⟨rfl, hs⟩) w
        have e : textL x = (if lessB x 0 then [45] else []) ++ (if false = true then [105, 110, 102] else [98, 105, 103]) := by
          unfold textL
          rw [if_neg (by omega), if_neg (by omega), if_neg (by omega), o1, o2]
          rcases hb with h | h
          · rw [if_pos (decide_eq_true h), hz.1 (by omega)]; rfl
          · rw [if_neg (by simp; omega), if_pos (decide_eq_true h), hz.2 (by omega)]; rfl
        rw [e]; exact this
    · have h4 := o1.trans (decide_eq_false (by omega))
      have h5 := o2.trans (decide_eq_false (by omega))
      have T : Told x := told_of x (by omega) h4 h5
      obtain ⟨n0, W⟩ := whole x T
      have hb := (kth T).2.2.2
      have e : textL x = (if lessB x 0 then [45] else []) ++ dotL (thN x) := by
        unfold textL
        rw [if_neg (by omega), if_neg (by omega), if_neg (by omega), if_neg (by rw [h4]; decide), if_neg (by rw [h5]; decide)]
      rw [e]
      refine rtext_num x hx T (thN x) rfl hb n0 _ (decide (yv x / U < 0)) hn h4 h5 W.conv rfl ?_ (fun h => ?_) w
      · rcases W.eq with ⟨hg, he⟩ | ⟨hg, he⟩ <;> rw [hg, he] <;> unfold thN <;> by_cases hq : yv x / U < 0 <;> simp only [hq, decide_true, decide_false, if_true, if_false, Bool.false_eq_true] <;> omega
      · have := of_decide_eq_true h; unfold thN; omega
end Go.Proofs.YtdjkilgcgkhcdaaDoor
