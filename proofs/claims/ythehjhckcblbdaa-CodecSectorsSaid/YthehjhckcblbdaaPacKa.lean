/-
  The developers' match.May, pack.isNone, slices.IndexFunc and ContainsFunc over tokens, pack.Symbol.
-/
import Derived.Test.YthehjhckcblbdaaPacSm
import Derived.BigQuiet
namespace Go.Proofs.Ythehjhckcblbdaa.Pk
set_option maxRecDepth 100000
open Go.RowKit Mt Ma Go.Lib
set_option maxHeartbeats 1000000 in
theorem may_code (t : Tok) (w : World) : Calls Try.prog 55 #[tokV t] w fun e w' => e = .returned (.bool (may t)) ∧ Below w.heap.size w w' := by
  have hB := Lib.hid (fun o => (Below.refl w.heap.size w).alloc (Nat.le_refl _) o)
  obtain ⟨b, d, n⟩ := t
  unfold tokV
  generalize hv : may ⟨b, d, n⟩ = v
  have HV := Lib.hid hv
  clear hv
  go_enter Try.func55, Try.ntmps55
  go_wp2
  all_goals
    go_ret
    refine ⟨ret_bool ?_, hB.out _⟩
    rw [← HV.out]
    simp only [may]
    clear HV hB
    try simp only [beq_iff_eq, beq_eq_false_iff_ne, ne_eq] at *
    split <;> (rw [Bool.eq_iff_iff]; simp only [Bool.and_eq_true, decide_eq_true_eq, Bool.false_eq_true]; constructor <;> intro hx <;> first | exact hx.elim | omega)
theorem none_code (t : Tok) (w : World) : Calls Try.prog 29 #[tokV t] w fun e w' => e = .returned (.bool (!may t)) ∧ Below w.heap.size w w' := by
  have HB := Lib.hid ((Below.refl w.heap.size w).alloc (Nat.le_refl _) (.cells #[.int .i64 t.byte, .int .i64 t.dist, .int .i64 t.len] 48))
  have km : ∀ w, Calls Try.prog 55 #[.agg #[.int .i64 t.byte, .int .i64 t.dist, .int .i64 t.len]] w fun e w' => e = .returned (.bool (may t)) ∧ Below w.heap.size w w' := fun w => may_code t w
  unfold tokV
  generalize may t = m at km ⊢
  cases m
  all_goals
    go_enter Try.func29, Try.ntmps29
    go_wp2_with (go_at_call 55; ((with_reducible refine (km _).mono ?_); rintro e w1 ⟨rfl, H1⟩; replace H1 := Lib.hid H1))
    go_ret
    exact ⟨rfl, HB.out.next H1.out⟩
set_option maxHeartbeats 1000000 in
theorem index_toks (T : List Tok) (n : Nat) (hn : T.length = n) (hl : n ≤ 281474976710656) (p : Option Addr) (cap : Nat) (w : World) (h : ToksLie w p T cap) :
    Calls Try.prog 54 #[.slice p n cap, .func (.func 29) #[] #[]] w fun e w' => (∃ k : Int, e = .returned (.int .i64 k) ∧ Hid (decide (0 ≤ k) = T.any fun t => !may t)) ∧ Below w.heap.size w w' := by
  have HI := Lib.hid h
  have Hn := Lib.hid hn
  have zl : (n : Int) ≤ 281474976710656 := by omega
  have hcap : (n : Int) ≤ cap := by have := h.len; omega
  have eg : ∀ args w, (callFunc 29 args).run Try.prog w = .ok (.enter 29 args) w := fun args w => by kernel_rfl
  have HB := Lib.hid (Below.refl w.heap.size w)
  clear h hn
  go_enter Try.func54, Try.ntmps54
  go_wp2
  go_loopw [8] (fun v wr => ∃ i : Nat, i ≤ n ∧ v = .int .i64 i ∧ Hid (((T.take i).any fun t => !may t) = false) ∧ Hid (Below w.heap.size w wr)) (fun v _ => n - (RowKit.intOf v).toNat)
  case atStart => exact ⟨0, Nat.zero_le _, rfl, Lib.hid rfl, HB⟩
  case round =>
    clear HB
    obtain ⟨i, hi, rfl, HA, HB⟩ := hrel
    by_cases hlt : i < n
    · have hiT : i < T.length := by rw [Hn.out]; exact hlt
      obtain ⟨blk, off, rfl, hc⟩ := HI.out.at hiT
      obtain ⟨a1, a2, a3⟩ := may_at hc HB.out i hiT
      have HS : Hid ((T.take (i + 1)).any (fun t => !may t) = ((T.take i).any (fun t => !may t) || !may T[i])) := by
        show _ = _
        rw [List.take_succ_eq_append_getElem hiT, List.any_append]; simp
      have HM := Lib.hid (fun (hx : (!may T[i]) = true) => show (T.any fun t => !may t) = true from List.any_eq_true.2 ⟨T[i], List.getElem_mem hiT, hx⟩)
      generalize T[i] = t at *
      have ii : (i : Int) < n := by omega
      have hcall : ∀ w, Calls Try.prog 29 #[.agg #[.int .i64 t.byte, .int .i64 t.dist, .int .i64 t.len]] w fun e w' => e = .returned (.bool (!may t)) ∧ Below w.heap.size w w' := fun w => none_code t w
      clear hc
      cases hq : (!may t) with
      | true =>
        rw [hq] at hcall
        have HF := Lib.hid (HM.out hq)
        clear HM HS hq
        go_wp2_with fail
        refine (hcall _).mono ?_
        rintro e w' ⟨rfl, H1⟩
        have HB2 := Lib.hid (HB.out.next H1)
        clear H1 a1 a2 a3
        go_wp2
        go_ret
        exact ⟨⟨_, rfl, by show _ = _; rw [HF.out]; simp⟩, HB2.out⟩
      | false =>
        rw [hq] at hcall HS
        have HF : Hid ((T.take (i + 1)).any (fun t => !may t) = false) := by show _ = _; rw [HS.out, HA.out]; rfl
        clear HM HS hq
        go_wp2_with fail
        refine (hcall _).mono ?_
        rintro e w' ⟨rfl, H1⟩
        have HB2 := Lib.hid (HB.out.next H1)
        clear H1 a1 a2 a3
        go_wp2
        go_roundw
        case rel => exact ⟨i + 1, by omega, by go_num, HF, HB2⟩
        case measure => simp [RowKit.intOf]; omega
    · have e : i = n := by omega
      subst e
      have HT : Hid ((T.any fun t => !may t) = false) := by have := HA.out; rw [List.take_of_length_le (by rw [Hn.out]; exact Nat.le_refl _)] at this; exact this
      clear HA
      go_wp2
      go_ret
      exact ⟨⟨_, rfl, by show _ = _; rw [HT.out]; rfl⟩, HB.out⟩
theorem contains_toks (T : List Tok) (n : Nat) (hn : T.length = n) (hl : n ≤ 281474976710656) (p : Option Addr) (cap : Nat) (w : World) (h : ToksLie w p T cap) :
    Calls Try.prog 28 #[.slice p n cap, .func (.func 29) #[] #[]] w fun e w' => e = .returned (.bool (T.any fun t => !may t)) ∧ Below w.heap.size w w' := by
  have hc := index_toks T n hn hl p cap w h
  clear h hl hn
  go_enter Try.func28, Try.ntmps28
  go_wp2_with (go_at_call 54; refine hc.mono ?_; rintro e w' ⟨⟨k, rfl, hk⟩, hb⟩; replace hb := Lib.hid hb)
  go_ret
  exact ⟨ret_bool hk.out, hb.out⟩
set_option maxHeartbeats 1000000 in
theorem sym_code (t : Tok) (w : World) : Calls Try.prog 34 #[tokV t] w fun e w' => e = .returned (.int .i64 (symA t)) ∧ Below w.heap.size w w' := by
  have km : ∀ w, Calls Try.prog 55 #[.agg #[.int .i64 t.byte, .int .i64 t.dist, .int .i64 t.len]] w fun e w' => e = .returned (.bool (may t)) ∧ Below w.heap.size w w' := fun w => may_code t w
  have q := fun w1 hb => box_cells w t w1 hb
  have HB := Lib.hid ((Below.refl w.heap.size w).alloc (Nat.le_refl _) (.cells #[.int .i64 t.byte, .int .i64 t.dist, .int .i64 t.len] 48))
  have arm : may t = false ∨ (may t = true ∧ t.len = 0) ∨ (may t = true ∧ ¬ t.len = 0) := by
    cases may t
    · exact .inl rfl
    · by_cases h : t.len = 0
      · exact .inr (.inl ⟨rfl, h⟩)
      · exact .inr (.inr ⟨rfl, h⟩)
  unfold tokV
  rcases arm with a | ⟨a, a2⟩ | ⟨a, a2⟩
  · have HV : Hid (symA t = -1) := Lib.hid (by unfold symA; rw [a]; rfl)
    rw [a] at km
    clear a
    go_enter Try.func34, Try.ntmps34
    go_wp2_with (go_at_call 55; ((with_reducible refine (km _).mono ?_); rintro e w1 ⟨rfl, H1⟩; replace H1 := Lib.hid H1))
    go_ret
    rw [HV.out]
    exact ⟨rfl, HB.out.next H1.out⟩
  · obtain ⟨x, hx1, hx2, _, _⟩ := Ma.may_byte t a a2
    obtain ⟨tb, td, tn⟩ := t
    simp only at hx1 hx2 a2
    subst hx1 hx2 a2
    have HV : Hid (symA ⟨x.toNat, 0, 0⟩ = x.toNat) := Lib.hid (by unfold symA; rw [a]; simp [symT])
    have hx := x.toNat_lt
    rw [a] at km
    clear a
    go_enter Try.func34, Try.ntmps34
    go_wp2_with (go_at_call 55; ((with_reducible refine (km _).mono ?_); rintro e w1 ⟨rfl, H1⟩; obtain ⟨q0, q1, q2, q3⟩ := q _ H1; replace H1 := Lib.hid H1))
    go_ret
    rw [HV.out]
    exact ⟨rfl, HB.out.next H1.out⟩
  · obtain ⟨d, n, h1, h2, h3, h4, h5, h6⟩ := Ma.may_copy t a a2
    obtain ⟨tb, td, tn⟩ := t
    simp only at h1 h2 h3 a2
    subst h1 h2 h3
    have HV : Hid (symA ⟨0, d, n⟩ = 256 + n - 3) := Lib.hid (by unfold symA; rw [a]; unfold symT; simp only [if_neg a2]; simp; omega)
    rw [a] at km
    have zn : (n : Int) ≤ 18 := by omega
    clear a
    go_enter Try.func34, Try.ntmps34
    go_wp2_with (go_at_call 55; ((with_reducible refine (km _).mono ?_); rintro e w1 ⟨rfl, H1⟩; obtain ⟨q0, q1, q2, q3⟩ := q _ H1; replace H1 := Lib.hid H1))
    go_ret
    rw [HV.out]
    exact ⟨rfl, HB.out.next H1.out⟩
end Go.Proofs.Ythehjhckcblbdaa.Pk

