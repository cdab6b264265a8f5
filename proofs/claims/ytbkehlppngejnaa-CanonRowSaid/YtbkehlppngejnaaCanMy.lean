/-
  Package canon's tests of lengths: isNone, ContainsFunc over it, may.
-/
import Derived.Test.YtbkehlppngejnaaCanLd
import Derived.BigQuiet
namespace Go.Proofs.Ytbkehlppngejnaa
open Go.RowKit Go.Lib Cn
theorem isNone_at (n : Int) (w : World) : Calls Try.prog 26 #[.int .i64 n] w fun e w' => e = .returned (.bool (!lenI n)) ∧ w' = w := by
  by_cases h : n < 0
  · have hm : lenI n = false := by simp [lenI]; omega
    go_enter Try.func26, Try.ntmps26
    go_wp2
    go_ret
    exact ⟨ret_bool (by rw [hm]; rfl), rfl⟩
  · have h2 : 0 ≤ n := by omega
    have hm : Hid (lenI n = decide (n ≤ 15)) := by show _ = _; simp [lenI, h2]
    clear h
    go_enter Try.func26, Try.ntmps26
    go_wp2
    go_ret
    exact ⟨ret_bool (by rw [hm.out]; by_cases h3 : n ≤ 15 <;> simp [h3] <;> omega), rfl⟩
/-- a test of numbers: what its function answers -/
structure Tests (g : Nat) (pr : Int → Bool) : Prop where
  enter : ∀ args w, (callFunc g args).run Try.prog w = .ok (.enter g args) w
  calls : ∀ (x : Int) (w : World), Calls Try.prog g #[.int .i64 x] w fun e w' => e = .returned (.bool (pr x)) ∧ w' = w
set_option maxHeartbeats 1000000 in
theorem index_at (g : Nat) (pr : Int → Bool) (T : Tests g pr) (L : List Int) (p : Option Addr) (cap : Nat) (w : World) (h : IntsLie w p L cap) (hl : L.length ≤ 281474976710656) :
    Calls Try.prog 31 #[.slice p L.length cap, .func (.func g) #[] #[]] w fun e w' => (∃ k : Int, e = .returned (.int .i64 k) ∧ Hid (decide (0 ≤ k) = L.any pr)) ∧ w' = w := by
  have HI := Lib.hid h
  have zl : (L.length : Int) ≤ 281474976710656 := by omega
  have eg := T.enter
  have hT := T.calls
  clear h hl T
  go_enter Try.func31, Try.ntmps31
  go_wp2
  go_loop [8] (fun v => ∃ i : Nat, i ≤ L.length ∧ v = .int .i64 i ∧ Hid ((L.take i).any pr = false)) (fun v => L.length - (RowKit.intOf v).toNat)
  case atStart => exact ⟨0, Nat.zero_le _, rfl, by show _ = _; rfl⟩
  case round =>
    obtain ⟨i, hi, rfl, HA⟩ := hrel
    by_cases hlt : i < L.length
    · obtain ⟨blk, off, rfl, hc⟩ := HI.out.at hlt
      have c := hc i hlt
      have HS : Hid ((L.take (i + 1)).any pr = ((L.take i).any pr || pr L[i])) := by
        show _ = _
        rw [List.take_succ_eq_append_getElem hlt, List.any_append]; simp
      have HM := Lib.hid (fun (hx : pr L[i] = true) => show L.any pr = true from List.any_eq_true.2 ⟨L[i], List.getElem_mem hlt, hx⟩)
      generalize L[i] = x at c HS HM
      have ii : (i : Int) < L.length := by omega
      have hcap : (L.length : Int) ≤ cap := by have := HI.out.len; omega
      have hcall := hT x w
      clear hc hT
      cases hq : pr x with
      | true =>
        rw [hq] at hcall
        have HF := Lib.hid (HM.out hq)
        clear HM HS hq
        go_wp2_with fail
        refine hcall.mono ?_
        rintro e w' ⟨rfl, rfl⟩
        go_wp2
        go_ret
        exact ⟨⟨_, rfl, by show _ = _; rw [HF.out]; simp⟩, rfl⟩
      | false =>
        rw [hq] at hcall HS
        have HF : Hid ((L.take (i + 1)).any pr = false) := by show _ = _; rw [HS.out, HA.out]; rfl
        clear HM HS hq
        go_wp2_with fail
        refine hcall.mono ?_
        rintro e w' ⟨rfl, rfl⟩
        go_wp2
        go_round
        case rel => exact ⟨i + 1, by omega, by go_num, HF⟩
        case measure => simp [RowKit.intOf]; omega
    · have e : i = L.length := by omega
      subst e
      have HT : Hid (L.any pr = false) := by have := HA.out; rw [List.take_length] at this; exact this
      clear HA
      go_wp2
      go_ret
      exact ⟨⟨_, rfl, by show _ = _; rw [HT.out]; rfl⟩, rfl⟩
theorem contains_at (g : Nat) (pr : Int → Bool) (T : Tests g pr) (L : List Int) (p : Option Addr) (cap : Nat) (w : World) (h : IntsLie w p L cap) (hl : L.length ≤ 281474976710656) :
    Calls Try.prog 25 #[.slice p L.length cap, .func (.func g) #[] #[]] w fun e w' => e = .returned (.bool (L.any pr)) ∧ w' = w := by
  have hc := index_at g pr T L p cap w h hl
  clear h hl
  go_enter Try.func25, Try.ntmps25
  go_wp2_with (go_at_call 31; refine hc.mono ?_; rintro e w' ⟨⟨k, rfl, hk⟩, rfl⟩)
  go_ret
  exact ⟨ret_bool hk.out, rfl⟩
theorem len_tests : Tests 26 fun x => !lenI x := ⟨fun args w => by kernel_rfl, isNone_at⟩
theorem any_len {l : List Nat} (h : ∀ i, l.getD i 0 ≤ 15) : ((nums l).any fun x => !lenI x) = false := by
  rw [List.any_eq_false]
  intro x hx
  obtain ⟨i, hi, e⟩ := List.getElem_of_mem hx
  rw [nums_get] at e
  have := h i
  subst e
  generalize l.getD i 0 = y at *
  simp [lenI]; omega
theorem len_any {L : List Int} (h : (L.any fun x => !lenI x) = false) : ∃ l : List Nat, L = nums l ∧ ∀ i, l.getD i 0 ≤ 15 := by
  rw [List.any_eq_false] at h
  refine nums_len15 L fun i hi => ?_
  have := h L[i] (List.getElem_mem hi)
  simp [lenI] at this
  omega
theorem may_yes (l : List Nat) (n : Nat) (p : Option Addr) (cap : Nat) (w : World) (hm : MayC l) (hn : l.length = n) (h : IntsLie w p (nums l) cap) :
    Calls Try.prog 19 #[.slice p n cap] w fun e w' => e = .returned (.bool true) ∧ w' = w := by
  have zn : (n : Int) ≤ 300 := by have := hm.len; omega
  have hl : (nums l).length = n := by rw [nums_len]; exact hn
  have hc := contains_at 26 _ len_tests (nums l) p cap w h (by omega)
  rw [any_len hm.le, hl] at hc
  have hk := kraft_at l p cap w hm.len hm.le h
  rw [hn] at hk
  have hkl := hm.kraft
  have hcap : (n : Int) ≤ cap := by have := h.len; omega
  clear h hm hn hl
  generalize Hf.kraftN l = K at *
  have zk : (K : Int) ≤ 32768 := by omega
  clear hkl
  go_enter Try.func19, Try.ntmps19
  go_wp2_with (first | (go_at_call 25; refine hc.mono ?_; rintro e w' ⟨rfl, rfl⟩) | (go_at_call 27; refine hk.mono ?_; rintro e w' ⟨rfl, rfl⟩))
  go_ret
  exact ⟨rfl, rfl⟩
theorem may_none (L : List Int) (n : Nat) (p : Option Addr) (cap : Nat) (w : World) (hm : ∀ l, MayC l → L ≠ nums l) (hn : L.length = n) (hl : n ≤ 281474976710656) (h : IntsLie w p L cap) :
    Calls Try.prog 19 #[.slice p n cap] w fun e w' => e = .returned (.bool false) ∧ w' = w := by
  have zl : (n : Int) ≤ 281474976710656 := by omega
  have hcap : (n : Int) ≤ cap := by have := h.len; omega
  by_cases h3 : n ≤ 300
  · have z3 : (n : Int) ≤ 300 := by omega
    have hc := contains_at 26 _ len_tests L p cap w h (by omega)
    rw [hn] at hc
    cases ha : L.any fun x => !lenI x with
    | true =>
      rw [ha] at hc
      clear h hm hn ha h3
      go_enter Try.func19, Try.ntmps19
      go_wp2_with (first | (go_at_call 25; refine hc.mono ?_; rintro e w' ⟨rfl, rfl⟩))
      go_ret
      exact ⟨rfl, rfl⟩
    | false =>
      rw [ha] at hc
      obtain ⟨l, rfl, h15⟩ := len_any ha
      rw [nums_len] at hn
      have hk := kraft_at l p cap w (by omega) h15 h
      rw [hn] at hk
      have hkl : 32768 < Hf.kraftN l := by
        rcases Nat.lt_or_ge 32768 (Hf.kraftN l) with z | z
        · exact z
        · exact absurd rfl (hm l ⟨by omega, h15, z⟩)
      clear h hm hn ha h3 h15
      generalize Hf.kraftN l = K at *
      have zk : (32768 : Int) < K := by omega
      clear hkl
      go_enter Try.func19, Try.ntmps19
      go_wp2_with (first | (go_at_call 25; refine hc.mono ?_; rintro e w' ⟨rfl, rfl⟩) | (go_at_call 27; refine hk.mono ?_; rintro e w' ⟨rfl, rfl⟩))
      go_ret
      exact ⟨ret_bool (decide_eq_false (by omega)), rfl⟩
  · have z3 : (300 : Int) < n := by omega
    clear h hm hn h3
    go_enter Try.func19, Try.ntmps19
    go_wp2_with (first | (go_at_call 25; fail))
    go_ret
    exact ⟨rfl, rfl⟩
end Go.Proofs.Ytbkehlppngejnaa
