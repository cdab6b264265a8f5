/-
  Package huff's plain functions: tooLong, may's test, IndexFunc and ContainsFunc over numbers, may.
-/
import Derived.Test.YtengkkbiceennaaHufRa
import Derived.Test.YtengkkbiceennaaHufLw
import Derived.BigQuiet
namespace Go.Proofs.Ytengkkbiceennaa
open Go.RowKit Go.Lib
theorem long_at (n : Int) (w : World) : Calls Try.prog 21 #[.int .i64 n] w fun e w' => e = .returned (.bool (decide (15 < n))) ∧ w' = w := by
  go_enter Try.func21, Try.ntmps21
  go_wp2
  go_ret
  exact ⟨rfl, rfl⟩
theorem none_at (n : Int) (w : World) : Calls Try.prog 24 #[.int .i64 n] w fun e w' => e = .returned (.bool (!mayI n)) ∧ w' = w := by
  by_cases h : n < 0
  · have hm : mayI n = false := by simp [mayI]; omega
    go_enter Try.func24, Try.ntmps24
    go_wp2
    go_ret
    exact ⟨ret_bool (by rw [hm]; rfl), rfl⟩
  · have h2 : 0 ≤ n := by omega
    have hm : Hid (mayI n = decide (n ≤ 100000)) := by show _ = _; simp [mayI, h2]
    clear h
    go_enter Try.func24, Try.ntmps24
    go_wp2
    go_ret
    exact ⟨ret_bool (by rw [hm.out]; by_cases h3 : n ≤ 100000 <;> simp [h3] <;> omega), rfl⟩
/-- a test of numbers: what its function answers -/
structure Tests (g : Nat) (pr : Int → Bool) : Prop where
  enter : ∀ args w, (callFunc g args).run Try.prog w = .ok (.enter g args) w
  calls : ∀ (x : Int) (w : World), Calls Try.prog g #[.int .i64 x] w fun e w' => e = .returned (.bool (pr x)) ∧ w' = w
set_option maxHeartbeats 1000000 in
theorem index_at (g : Nat) (pr : Int → Bool) (T : Tests g pr) (L : List Int) (p : Option Addr) (cap : Nat) (w : World) (h : IntsLie w p L cap) (hl : L.length ≤ 281474976710656) :
    Calls Try.prog 28 #[.slice p L.length cap, .func (.func g) #[] #[]] w fun e w' => (∃ k : Int, e = .returned (.int .i64 k) ∧ Hid (decide (0 ≤ k) = L.any pr)) ∧ w' = w := by
  have HI := Lib.hid h
  have zl : (L.length : Int) ≤ 281474976710656 := by omega
  have eg := T.enter
  have hT := T.calls
  clear h hl T
  go_enter Try.func28, Try.ntmps28
  go_wp2
  go_loop [8] (fun v => ∃ i : Nat, i ≤ L.length ∧ v = .int .i64 i ∧ Hid ((L.take i).any pr = false)) (fun v => L.length - (RowKit.intOf v).toNat)
  case atStart => exact ⟨0, Nat.zero_le _, rfl, by show _ = _; rfl⟩
  case round =>
    obtain ⟨i, hi, rfl, HA⟩ := hrel
    by_cases hlt : i < L.length
    · obtain ⟨blk, off, rfl, hc⟩ := HI.out.at hlt
      have c := hc i hlt
      have HS : Hid ((L.take (i + 1)).any pr = ((L.take i).any pr || pr L[i])) := by
        show _ = _
        rw [List.take_succ_eq_append_getElem hlt, List.any_append]; simp
      have HM := Lib.hid (fun (hx : pr L[i] = true) => show L.any pr = true from List.any_eq_true.2 ⟨L[i], List.getElem_mem hlt, hx⟩)
      generalize L[i] = x at c HS HM
      have ii : (i : Int) < L.length := by omega
      have hcap : (L.length : Int) ≤ cap := by have := HI.out.len; omega
      have hcall := hT x w
      clear hc hT
      cases hq : pr x with
      | true =>
        rw [hq] at hcall
        have HF := Lib.hid (HM.out hq)
        clear HM HS hq
        go_wp2_with fail
        refine hcall.mono ?_
        rintro e w' ⟨rfl, rfl⟩
        go_wp2
        go_ret
        exact ⟨⟨_, rfl, by show _ = _; rw [HF.out]; simp⟩, rfl⟩
      | false =>
        rw [hq] at hcall HS
        have HF : Hid ((L.take (i + 1)).any pr = false) := by show _ = _; rw [HS.out, HA.out]; rfl
        clear HM HS hq
        go_wp2_with fail
        refine hcall.mono ?_
        rintro e w' ⟨rfl, rfl⟩
        go_wp2
        go_round
        case rel => exact ⟨i + 1, by omega, by go_num, HF⟩
        case measure => simp [RowKit.intOf]; omega
    · have e : i = L.length := by omega
      subst e
      have HT : Hid (L.any pr = false) := by have := HA.out; rw [List.take_length] at this; exact this
      clear HA
      go_wp2
      go_ret
      exact ⟨⟨_, rfl, by show _ = _; rw [HT.out]; rfl⟩, rfl⟩
theorem contains_at (g : Nat) (pr : Int → Bool) (T : Tests g pr) (L : List Int) (p : Option Addr) (cap : Nat) (w : World) (h : IntsLie w p L cap) (hl : L.length ≤ 281474976710656) :
    Calls Try.prog 20 #[.slice p L.length cap, .func (.func g) #[] #[]] w fun e w' => e = .returned (.bool (L.any pr)) ∧ w' = w := by
  have hc := index_at g pr T L p cap w h hl
  clear h hl
  go_enter Try.func20, Try.ntmps20
  go_wp2_with (go_at_call 28; refine hc.mono ?_; rintro e w' ⟨⟨k, rfl, hk⟩, rfl⟩)
  go_ret
  exact ⟨ret_bool hk.out, rfl⟩
theorem long_tests : Tests 21 fun x => decide (15 < x) := ⟨fun args w => by kernel_rfl, long_at⟩
theorem none_tests : Tests 24 fun x => !mayI x := ⟨fun args w => by kernel_rfl, none_at⟩
theorem any_not (L : List Int) : (L.any fun x => !mayI x) = !(L.all mayI) := by rw [List.not_all_eq_any_not]
theorem may_at (L : List Int) (p : Option Addr) (cap : Nat) (w : World) (h : IntsLie w p L cap) (hl : L.length ≤ 281474976710656) :
    Calls Try.prog 17 #[.slice p L.length cap] w fun e w' => e = .returned (.bool (decide (L.length ≤ 300) && L.all mayI)) ∧ w' = w := by
  have hc := contains_at 24 _ none_tests L p cap w h hl
  have zl : (L.length : Int) ≤ 281474976710656 := by omega
  rw [any_not] at hc
  have hcap : (L.length : Int) ≤ cap := by have := h.len; omega
  clear h hl
  generalize L.all mayI = b at *
  by_cases h3 : L.length ≤ 300
  · have z3 : (L.length : Int) ≤ 300 := by omega
    have e3 := Lib.hid (decide_eq_true h3)
    clear h3
    go_enter Try.func17, Try.ntmps17
    go_wp2_with (go_at_call 20; refine hc.mono ?_; rintro e w' ⟨rfl, rfl⟩)
    go_ret
    exact ⟨ret_bool (by rw [e3.out]; simp), rfl⟩
  · have z3 : (300 : Int) < L.length := by omega
    have e3 := Lib.hid (decide_eq_false h3)
    clear h3
    go_enter Try.func17, Try.ntmps17
    go_wp2_with (go_at_call 20; refine hc.mono ?_; rintro e w' ⟨rfl, rfl⟩)
    go_ret
    exact ⟨ret_bool (by rw [e3.out]; rfl), rfl⟩
end Go.Proofs.Ytengkkbiceennaa
