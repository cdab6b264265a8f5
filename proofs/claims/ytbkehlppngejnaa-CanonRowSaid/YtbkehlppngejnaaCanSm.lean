/-
  The document's sameness of lists of codes.
-/
import Derived.Test.YtbkehlppngejnaaCanSp
import Derived.Laws.StructEq
namespace Go.Proofs.Ytbkehlppngejnaa
open Go.RowKit Go.Lib Cn
theorem codes_of_getD {E F : List (Nat × Nat)} (h : E.length = F.length) (hd : ∀ i, i < E.length → E.getD i (0, 0) = F.getD i (0, 0)) : E = F := by
  apply List.ext_getElem h
  intro i h1 h2
  have := hd i h1
  simpa [h1, h2] using this
set_option maxHeartbeats 2000000 in
theorem codes_same (E F : List (Nat × Nat)) (n m : Nat) (hn : E.length = n) (hm : F.length = m) (hnl : n ≤ 281474976710656) (hml : m ≤ 281474976710656) (p q : Option Addr) (c d : Nat) (w : World) (h1 : CodesLie w p E c) (h2 : CodesLie w q F d) :
    Calls Try.prog 15 #[.slice p n c, .slice q m d] w fun e w' => e = .returned (.bool (decide (E = F))) ∧ Below w.heap.size w w' := by
  have HC := Lib.hid h1
  have HD := Lib.hid h2
  have hc1 : (n : Int) ≤ c := by have := h1.len; omega
  have hc2 : (m : Int) ≤ d := by have := h2.len; omega
  have zn : (n : Int) ≤ 281474976710656 := by omega
  have zm : (m : Int) ≤ 281474976710656 := by omega
  have Hn := Lib.hid hn
  have Hm := Lib.hid hm
  clear h1 h2
  generalize hv : decide (E = F) = ans
  have HV := Lib.hid hv
  clear hv
  by_cases hlen : n = m
  · subst hlen
    clear hn hm
    go_enter Try.func15, Try.ntmps15
    go_wp2
    go_loopw [5] (fun i wr => ∃ k : Nat, k ≤ n ∧ i = .int .i64 k ∧ Hid (∀ j, j < k → E.getD j (0, 0) = F.getD j (0, 0)) ∧ Hid (Below w.heap.size w wr)) (fun i _ => n - (RowKit.intOf i).toNat)
    case atStart => exact ⟨0, Nat.zero_le _, rfl, Lib.hid (fun j hj => by omega), Lib.hid (Below.refl _ _)⟩
    case round =>
      obtain ⟨k, hk, rfl, HE, HW⟩ := hrel
      by_cases hlt : k < n
      · obtain ⟨b1, o1, rfl, e1⟩ := (HC.out.below HW.out).at (i := k) (by rw [Hn.out]; exact hlt)
        obtain ⟨b2, o2, rfl, e2⟩ := (HD.out.below HW.out).at (i := k) (by rw [Hm.out]; exact hlt)
        obtain ⟨x1, x2⟩ := e1 k (by rw [Hn.out]; exact hlt)
        obtain ⟨y1, y2⟩ := e2 k (by rw [Hm.out]; exact hlt)
        clear e1 e2
        have hki : (k : Int) < n := by omega
        have HE2 := Lib.hid (fun (hx : E.getD k (0, 0) = F.getD k (0, 0)) => show ∀ j, j < k + 1 → E.getD j (0, 0) = F.getD j (0, 0) from fun j hj => by
          by_cases e : j = k
          · rw [e]; exact hx
          · exact HE.out j (by omega))
        have HV2 := Lib.hid (fun (hx : E.getD k (0, 0) ≠ F.getD k (0, 0)) => show ans = false by rw [← HV.out]; exact decide_eq_false fun e => hx (by rw [e]))
        generalize E.getD k (0, 0) = x at *
        generalize F.getD k (0, 0) = y at *
        obtain ⟨xa, xb⟩ := x
        obtain ⟨ya, yb⟩ := y
        simp only at x1 x2 y1 y2
        by_cases hx : xa = ya ∧ xb = yb
        · obtain ⟨rfl, rfl⟩ := hx
          have HE3 := Lib.hid (HE2.out rfl)
          clear HE2 HV2 HE
          go_wp2
          go_quiet (fail)
          go_wp2
          go_roundw
          case rel => exact ⟨k + 1, by omega, by go_num, HE3, drawn_below HW.out _⟩
          case measure => simp [RowKit.intOf]; omega
        · have hV := Lib.hid (HV2.out (fun e => hx (by cases e; exact ⟨rfl, rfl⟩)))
          have hz : (((xa : Int) == (ya : Int)) && ((xb : Int) == (yb : Int))) = false := by
            cases h1 : ((xa : Int) == (ya : Int)) <;> cases h2 : ((xb : Int) == (yb : Int)) <;> first | rfl | skip
            rw [beq_iff_eq] at h1 h2
            exact absurd ⟨by omega, by omega⟩ hx
          clear HE2 HV2 HE hx
          by_cases ha : ((xa : Int) == (ya : Int)) = true
          · rw [ha, Bool.true_and] at hz
            go_wp2
            go_quiet (fail)
            go_wp2
            go_ret
            exact ⟨ret_bool (by rw [hV.out]), drawn_below HW.out _⟩
          · have ha' : ((xa : Int) == (ya : Int)) = false := by simpa using ha
            clear hz ha
            go_wp2
            go_quiet (fail)
            go_wp2
            go_ret
            exact ⟨ret_bool (by rw [hV.out]), drawn_below HW.out _⟩
      · have hV : Hid (ans = true) := by show _ = _; rw [← HV.out]; exact decide_eq_true (codes_of_getD (by rw [Hn.out, Hm.out]) fun i hi => HE.out i (by have := Hn.out; omega))
        have e : k = n := by omega
        subst e
        go_wp2
        go_ret
        exact ⟨ret_bool (by rw [hV.out]), HW.out⟩
  · have hV : Hid (ans = false) := by show _ = _; rw [← HV.out]; exact decide_eq_false fun e => hlen (by rw [← hn, ← hm, e])
    have z : ((n : Int) == (m : Int)) = false := by rw [beq_eq_false_iff_ne]; omega
    clear hlen hn hm
    go_enter Try.func15, Try.ntmps15
    go_wp2
    go_ret
    exact ⟨ret_bool (by rw [hV.out]), Below.refl _ _⟩
end Go.Proofs.Ytbkehlppngejnaa
