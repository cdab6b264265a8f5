/-
  RatioSigns returns true for every float: the walk, and what the text of a float begins with.
-/
import Derived.Test.YtdjkilgcgkhcdaaDoorWk10
namespace Go.Proofs.YtdjkilgcgkhcdaaDoor
open Go.RowKit Go.Fl Go.Sort Go.Lib
theorem digits_ge (u : Nat) : ∀ c ∈ Lib.decDigits u, 48 ≤ c.toNat := by
  intro c hc
  rw [Lib.decDigits_eq] at hc
  obtain ⟨t, _, rfl⟩ := List.mem_map.1 hc
  unfold Lib.dg
  have : u / 10 ^ (Lib.nDigits u - 1 - t) % 10 < 10 := Nat.mod_lt _ (by omega)
  generalize u / 10 ^ (Lib.nDigits u - 1 - t) % 10 = r at this
  rw [UInt8.toNat_ofNat']
  omega
/-- What a number below a million is told by: its parts. -/
theorem dot_parts (n : Nat) : ∃ a b : List UInt8, dotL n = a ++ 46 :: b ∧ b.length = 3 ∧ 1 ≤ a.length ∧ ∀ c ∈ a, 48 ≤ c.toNat := by
  have hp := pad4_length (Lib.itoa n)
  refine ⟨_, _, rfl, by simp; omega, by simp; omega, fun c hc => ?_⟩
  have h1 := List.mem_of_mem_take hc
  unfold pad4 at h1
  rcases List.mem_append.1 h1 with h | h
  · rw [List.eq_of_mem_replicate h]; decide
  · rw [Lib.itoa_nonneg] at h; exact digits_ge n c h
structure SignFacts (x : Nat) (s : List UInt8) : Prop where
  ne : 0 < s.length
  len : s.length ≤ 100
  nan : (FloatKind.f64.format.order x x != some .eq) = true → s = [110, 97, 110]
  sign : (FloatKind.f64.format.order x x != some .eq) = false → ((s.getD 0 0 == 45) = lessB x 0)
  dot : (FloatKind.f64.format.order x x != some .eq) = false → (FloatKind.f64.format.order x 13875379345695965184 == some .lt || FloatKind.f64.format.order x 13875379345695965184 == some .eq) = false →
    (FloatKind.f64.format.order x 4652007308841189376 == some .gt || FloatKind.f64.format.order x 4652007308841189376 == some .eq) = false → 5 ≤ s.length ∧ s.getD (s.length - 4) 0 = 46
theorem val_thou : val 4652007308841189376 = some (1000 * U) := by
  have hr : Ieee.double.read 4652007308841189376 = .number false 8796093022208000 (-43) := by decide
  unfold val
  rw [hr]
  simp only [ext, signed_eq]
  rw [show ((-43 : Int) + 1074).toNat = 1031 from rfl, show ((8796093022208000 : Nat) : Int) = 1000 * pw 43 by decide, Int.mul_assoc, ← pw_add]
  simp [U]
theorem val_negthou : val 13875379345695965184 = some (-(1000 * U)) := by
  have := val_neg 4652007308841189376 (by decide)
  rw [show Op.negFloat .f64 4652007308841189376 = 13875379345695965184 by decide, val_thou] at this
  exact this
theorem less_zero (x : Nat) (v : Int) (h : val x = some v) : (0 < v → lessB x 0 = false) ∧ (v < 0 → lessB x 0 = true) := by
  have k0 : key 0 = 1 := by kernel_rfl
  unfold lessB
  rw [k0]
  unfold key
  rw [h]
  simp only [decide_eq_false_iff_not, decide_eq_true_eq]
  constructor
  · intro hv; rw [if_neg (by omega)]; omega
  · intro hv; rw [if_neg (by omega)]; omega
theorem sign_facts (x : Nat) (hx : x < 2 ^ 64) : SignFacts x (textL x) := by
  have ht := top_pos
  have hU := U_pos
  match hv : val x with
  | none =>
    have hk := kindOf_none x hv
    have e : textL x = [110, 97, 110] := by unfold textL; rw [if_pos hk]
    have hn : (FloatKind.f64.format.order x x != some .eq) = true := by rw [order_val, hv]; rfl
    rw [e]
    exact ⟨by decide, by decide, fun _ => rfl, (fun h => absurd (hn.symm.trans h) (by decide)), (fun h => absurd (hn.symm.trans h) (by decide))⟩
  | some v =>
    have hn : (FloatKind.f64.format.order x x != some .eq) = false := by rw [order_val, hv]; simp [cmpExt]
    have hk := kind_key x hx v hv
    have hz := less_zero x v hv
    have hmeg := meg_gt
    have o1 : ∀ y u, val y = some u → ((FloatKind.f64.format.order x y == some .gt || FloatKind.f64.format.order x y == some .eq) = true ↔ u ≤ v) := fun y u hy => by
      rw [order_val, hv, hy]; simp only [cmpExt, Bool.or_eq_true, beq_iff_eq, Option.some.injEq, cmp_gt, cmp_eq]; omega
    have o2 : ∀ y u, val y = some u → ((FloatKind.f64.format.order x y == some .lt || FloatKind.f64.format.order x y == some .eq) = true ↔ v ≤ u) := fun y u hy => by
      rw [order_val, hv, hy]; simp only [cmpExt, Bool.or_eq_true, beq_iff_eq, Option.some.injEq, cmp_lt, cmp_eq]; omega
    have hmt : 1000000 * U < top := Int.lt_of_lt_of_le hmeg (pw_le (by omega))
    -- the small ones are told in thousandths
    have dot0 : ∀ s : List UInt8, (¬ (-(1000 * U) < v ∧ v < 1000 * U)) → ((FloatKind.f64.format.order x x != some .eq) = false → (FloatKind.f64.format.order x 13875379345695965184 == some .lt || FloatKind.f64.format.order x 13875379345695965184 == some .eq) = false →
        (FloatKind.f64.format.order x 4652007308841189376 == some .gt || FloatKind.f64.format.order x 4652007308841189376 == some .eq) = false → 5 ≤ s.length ∧ s.getD (s.length - 4) 0 = 46) := fun s hs _ h1 h2 => by
      exfalso
      rw [← Bool.not_eq_true, o2 _ _ val_negthou] at h1
      rw [← Bool.not_eq_true, o1 _ _ val_thou] at h2
      omega
    unfold textL
    rw [if_neg (by omega)]
    by_cases h5 : kindOf x = 5
    · rw [if_pos h5]
      have hl := hz.1 (by omega)
      exact ⟨by decide, by decide, (fun h => absurd (hn.symm.trans h) (by decide)), fun _ => by rw [hl]; decide, dot0 _ (by omega)⟩
    rw [if_neg h5]
    by_cases h0 : kindOf x = 0
    · rw [if_pos h0]
      have hl := hz.2 (by omega)
      exact ⟨by decide, by decide, (fun h => absurd (hn.symm.trans h) (by decide)), fun _ => by rw [hl]; decide, dot0 _ (by omega)⟩
    rw [if_neg h0]
    by_cases hb : (FloatKind.f64.format.order x 4696837146684686336 == some .gt || FloatKind.f64.format.order x 4696837146684686336 == some .eq) = true
    · rw [if_pos hb]
      rw [o1 _ _ val_mega] at hb
      have hl := hz.1 (by omega)
      exact ⟨by decide, by decide, (fun h => absurd (hn.symm.trans h) (by decide)), fun _ => by rw [hl]; decide, dot0 _ (by omega)⟩
    rw [if_neg hb]
    by_cases hm : (FloatKind.f64.format.order x 13920209183539462144 == some .lt || FloatKind.f64.format.order x 13920209183539462144 == some .eq) = true
    · rw [if_pos hm]
      rw [o2 _ _ val_negmega] at hm
      have hl := hz.2 (by omega)
      exact ⟨by decide, by decide, (fun h => absurd (hn.symm.trans h) (by decide)), fun _ => by rw [hl]; decide, dot0 _ (by omega)⟩
    rw [if_neg hm]
    have T : Told x := told_of x (by omega) (by simpa using hb) (by simpa using hm)
    have hd := dotL_length _ (kth T).2.2.2
    obtain ⟨a, b, hab, hbl, hal, had⟩ := dot_parts (thN x)
    rw [hab] at hd ⊢
    have h0a : ((a ++ 46 :: b).getD 0 0 == (45 : UInt8)) = false := by
      match a, hal, had with
      | c :: r, _, had =>
        have := had c (by simp)
        simp only [List.cons_append, List.getD_cons_zero, beq_eq_false_iff_ne, ne_eq]
        intro hc
        rw [hc] at this
        exact absurd this (by decide)
    cases hl : lessB x 0
    · simp only [Bool.false_eq_true, if_false, List.nil_append]
      refine ⟨by omega, by omega, (fun h => absurd (hn.symm.trans h) (by decide)), fun _ => h0a.trans hl.symm, fun _ _ _ => ⟨by omega, ?_⟩⟩
      have e : (a ++ 46 :: b).length - 4 = a.length := by simp; omega
      rw [e, List.getD_eq_getElem?_getD, List.getElem?_append_right (by omega)]
      simp
    · simp only [if_true]
      refine ⟨by simp, by simp at hd ⊢; omega, (fun h => absurd (hn.symm.trans h) (by decide)), fun _ => Eq.trans (by rfl) hl.symm, fun _ _ _ => ⟨by simp at hd ⊢; omega, ?_⟩⟩
      have e : ([45] ++ (a ++ 46 :: b)).length - 4 = ([45] ++ a).length := by simp; omega
      rw [e, ← List.append_assoc, List.getD_eq_getElem?_getD, List.getElem?_append_right (by omega)]
      simp
theorem idx_str (l : List UInt8) (i : Nat) (hi : i < l.length) (w : World) :
    (Instr.index 9 (.string ⟨l.toArray⟩) (.int .i64 (i : Int))).run Tryd.prog w = .ok (.int .u8 ((l.getD i 0).toNat : Int)) w := by
  have e : (ByteArray.mk l.toArray)[i]? = some (l.getD i 0) := by
    rw [List.getD_eq_getElem?_getD, List.getElem?_eq_getElem hi, getElem?_pos _ _ (by simpa [ByteArray.size] using hi)]
    rfl
  simp [Instr.index, run_underlying Tryd.underlying9, asIntOf, e, go_sem]
set_option maxHeartbeats 1000000 in
theorem signs_walk (x : Nat) (hx : x < 2 ^ 64) (w : World) (S : Std w w) :
    Calls Tryd.prog 7 #[.float .f64 x] w fun e w' => e = .returned (.bool true) ∧ Std w w' := by
  have F := sign_facts x hx
  have ht := fun w1 (h : Std w w1) => text_at x (textL x) hx rfl w w1 h
  generalize textL x = s at F ht
  have HX := Lib.hid hx
  clear hx
  have h0 : (0 : Int) < s.length := by have := F.ne; omega
  have h9 : (s.length : Int) ≤ 9223372036854775807 := by have := F.len; omega
  cases hn : (FloatKind.f64.format.order x x != some .eq) with
  | true =>
    have e := F.nan hn
    subst e
    clear F
    go_enter Tryd.func7, Tryd.ntmps7
    go_wp2_with (first
      | (go_at_call 14; ((with_reducible refine (ht _ (by assumption)).mono ?_); rintro e w' ⟨rfl, hS⟩))
      | (go_at_call 9; ((with_reducible refine (fixed_at w _ (by assumption)).mono ?_); rintro e w' ⟨rfl, hS⟩)))
    go_ret
    exact ⟨rfl, by assumption⟩
  | false =>
    have hs := F.sign hn
    have hsz : (ByteArray.mk s.toArray).size = s.length := by simp [ByteArray.size]
    have hne : s.isEmpty = false := by cases s with | nil => exact absurd h0 (by decide) | cons a r => rfl
    have hD := Lib.hid (F.dot hn)
    have i0 : ∀ w, (Instr.index 9 (.string ⟨s.toArray⟩) (.int .i64 0)).run Tryd.prog w = .ok (.int .u8 ((s.getD 0 0).toNat : Int)) w := fun w => idx_str s 0 F.ne w
    have hb : (((s.getD 0 0).toNat : Int) == 45) = lessB x 0 := by
      rw [← hs, Bool.eq_iff_iff]
      simp only [beq_iff_eq, ← UInt8.toNat_inj]
      rw [show ((45 : UInt8).toNat) = 45 from rfl]
      omega
    generalize ((s.getD 0 0).toNat : Int) = b at i0 hb
    clear F hs
    have HS := Lib.hid S
    cases hl : lessB x 0 <;>
    cases hc1 : (FloatKind.f64.format.order x 13875379345695965184 == some .lt || FloatKind.f64.format.order x 13875379345695965184 == some .eq) <;>
    cases hc2 : (FloatKind.f64.format.order x 4652007308841189376 == some .gt || FloatKind.f64.format.order x 4652007308841189376 == some .eq)
    all_goals
      rw [hl] at hb
      first
        | (have hd := hD.out hc1 hc2
           have h5 : (5 : Int) ≤ s.length := by omega
           have i4 : ∀ w, (Instr.index 9 (.string ⟨s.toArray⟩) (.int .i64 ((s.length : Int) - 4))).run Tryd.prog w = .ok (.int .u8 46) w := fun w => by
             have := idx_str s (s.length - 4) (by omega) w
             rw [hd.2, show ((s.length - 4 : Nat) : Int) = (s.length : Int) - 4 by omega] at this
             exact this
           clear hd)
        | skip
      clear hD
      go_enter Tryd.func7, Tryd.ntmps7
      go_wp2_with (first
        | (go_at_call 14; ((with_reducible refine (ht _ (by assumption)).mono ?_); rintro e w' ⟨rfl, hS⟩))
        | (go_at_call 9; ((with_reducible refine (fixed_at w _ (by assumption)).mono ?_); rintro e w' ⟨rfl, hS⟩)))
      go_quiet ((go_at_call 16; exact Calls.quiet_of_same ((less_any _ _ _ HX.out (by decide)).mono fun e w' h => ⟨h.1, h.2.symm⟩)))
      have hS3 : Hid (Std w (w'.drewN nq)) := ⟨HS.out.tab, below_drewN (Std.below (by assumption)) nq⟩
      simp only [Exit.then, hl]
      go_wp2
      go_ret
      exact ⟨rfl, hS3.out⟩
end Go.Proofs.YtdjkilgcgkhcdaaDoor
