/-
  The document's Same of any two lists of bits.
-/
import Derived.Test.YtaamjamcnnalbaaLstLi
import Derived.BigQuiet
namespace Go.Proofs.Ytaamjamcnnalbaa
set_option maxRecDepth 100000
open Go.RowKit Go.Lib
set_option maxHeartbeats 1000000 in
theorem flags_doc (l m : List Bool) (hl : l.length ≤ 281474976710656) (_hm : m.length ≤ 281474976710656) (p q : Option Addr) (c d : Nat) (w : World) (h1 : FlagsLie w p l c) (h2 : FlagsLie w q m d) :
    Calls Try.prog 41 #[.slice p l.length c, .slice q m.length d] w fun e w' => e = .returned (.bool (decide (l = m))) ∧ Below w.heap.size w w' := by
  have HC := Lib.hid h1
  have HD := Lib.hid h2
  have hc1 : (l.length : Int) ≤ c := by have := h1.len; omega
  have hc2 : (m.length : Int) ≤ d := by have := h2.len; omega
  clear h1 h2
  generalize hv : decide (l = m) = ans
  have HV := Lib.hid hv
  clear hv
  by_cases hlen : l.length = m.length
  · have hli : (l.length : Int) ≤ 281474976710656 := by omega
    have HL := Lib.hid hlen
    go_enter Try.func41, Try.ntmps41
    rw [← hlen]
    rw [← hlen] at hc2
    clear hlen
    go_wp2
    go_loopw [5] (fun i wr => ∃ k : Nat, k ≤ l.length ∧ i = .int .i64 k ∧ Hid (∀ j, j < k → l.getD j false = m.getD j false) ∧ Hid (Below w.heap.size w wr)) (fun i _ => l.length - (RowKit.intOf i).toNat)
    case atStart => exact ⟨0, Nat.zero_le _, rfl, Lib.hid (fun j hj => by omega), Lib.hid (Below.refl _ _)⟩
    case round =>
      obtain ⟨k, hk, rfl, HE, HW⟩ := hrel
      by_cases hlt : k < l.length
      · obtain ⟨b1, o1, rfl, e1⟩ := (HC.out.below HW.out).at hlt
        obtain ⟨b2, o2, rfl, e2⟩ := (HD.out.below HW.out).at (i := k) (by rw [← HL.out]; exact hlt)
        have c := e1 k hlt
        have d := e2 k (by rw [← HL.out]; exact hlt)
        clear e1 e2
        have hki : (k : Int) < l.length := by omega
        by_cases hx : l.getD k false = m.getD k false
        · have HE2 : Hid (∀ j, j < k + 1 → l.getD j false = m.getD j false) := by
            refine Lib.hid fun j hj => ?_
            by_cases e : j = k
            · rw [e]; exact hx
            · exact HE.out j (by omega)
          rw [← hx] at d
          generalize l.getD k false = x at c d
          clear hx
          go_wp2
          go_quiet (fail)
          go_wp2
          go_roundw
          case rel => exact ⟨k + 1, by omega, by go_num, HE2, drawn_below HW.out _⟩
          case measure => simp [RowKit.intOf]; omega
        · have hV : Hid (ans = false) := by show _ = _; rw [← HV.out]; exact decide_eq_false fun e => hx (by rw [e])
          generalize l.getD k false = x at c hx
          generalize m.getD k false = y at d hx
          have hxy : (x == y) = false := by simp [hx]
          clear hx
          go_wp2
          go_quiet (fail)
          go_wp2
          go_ret
          exact ⟨ret_bool (by rw [hV.out]), drawn_below HW.out _⟩
      · have hV : Hid (ans = true) := by show _ = _; rw [← HV.out]; exact decide_eq_true (list_of_getD HL.out fun i hi => HE.out i (by omega))
        have e : k = l.length := by omega
        subst e
        go_wp2
        go_ret
        exact ⟨ret_bool (by rw [hV.out]), HW.out⟩
  · have hV : Hid (ans = false) := by show _ = _; rw [← HV.out]; exact decide_eq_false fun e => hlen (by rw [e])
    have z : ((l.length : Int) == (m.length : Int)) = false := by rw [beq_eq_false_iff_ne]; omega
    clear hlen
    go_enter Try.func41, Try.ntmps41
    go_wp2
    go_ret
    exact ⟨ret_bool (by rw [hV.out]), Below.refl _ _⟩
end Go.Proofs.Ytaamjamcnnalbaa
