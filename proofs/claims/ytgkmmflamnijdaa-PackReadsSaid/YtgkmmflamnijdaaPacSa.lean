/-
  The document's Same of any two lists of tokens.
-/
import Derived.Test.YtgkmmflamnijdaaPacSm
import Derived.Laws.StructEq
namespace Go.Proofs.Ytgkmmflamnijdaa.Pk
set_option maxRecDepth 100000
open Go.RowKit Mt Ma Mb Cn Go.Lib
set_option maxHeartbeats 2000000 in
theorem toks_same (T U : List Tok) (n m : Nat) (hn : T.length = n) (hm : U.length = m) (hnl : n ≤ 9223372036854775807) (hml : m ≤ 9223372036854775807) (p q : Option Addr) (c d : Nat) (w : World) (h1 : ToksLie w p T c) (h2 : ToksLie w q U d) :
    Calls Try.prog 17 #[.slice p n c, .slice q m d] w fun e w' => e = .returned (.bool (decide (T = U))) ∧ Below w.heap.size w w' := by
  have HC := Lib.hid h1
  have HD := Lib.hid h2
  have hc1 : (n : Int) ≤ c := by have := h1.len; omega
  have hc2 : (m : Int) ≤ d := by have := h2.len; omega
  have zn : (n : Int) ≤ 9223372036854775807 := by omega
  have zm : (m : Int) ≤ 9223372036854775807 := by omega
  have Hn := Lib.hid hn
  have Hm := Lib.hid hm
  clear h1 h2
  generalize hv : decide (T = U) = ans
  have HV := Lib.hid hv
  clear hv
  by_cases hlen : n = m
  · subst hlen
    clear hn hm
    go_enter Try.func17, Try.ntmps17
    go_wp2
    go_loopw [5] (fun i wr => ∃ k : Nat, k ≤ n ∧ i = .int .i64 k ∧ Hid (∀ j, j < k → T[j]? = U[j]?) ∧ Hid (Below w.heap.size w wr)) (fun i _ => n - (RowKit.intOf i).toNat)
    case atStart => exact ⟨0, Nat.zero_le _, rfl, Lib.hid (fun j hj => by omega), Lib.hid (Below.refl _ _)⟩
    case round =>
      obtain ⟨k, hk, rfl, HE, HW⟩ := hrel
      by_cases hlt : k < n
      · obtain ⟨b1, o1, rfl, e1⟩ := (HC.out.below HW.out).at (i := k) (by rw [Hn.out]; exact hlt)
        obtain ⟨b2, o2, rfl, e2⟩ := (HD.out.below HW.out).at (i := k) (by rw [Hm.out]; exact hlt)
        have l1 : k < T.length := by rw [Hn.out]; exact hlt
        have l2 : k < U.length := by rw [Hm.out]; exact hlt
        obtain ⟨x1, x2, x3⟩ := may_at e1 (Below.refl _ _) k l1
        obtain ⟨y1, y2, y3⟩ := may_at e2 (Below.refl _ _) k l2
        clear e1 e2
        have hki : (k : Int) < n := by omega
        have HE2 := Lib.hid (fun (hx : T[k] = U[k]) => show ∀ j, j < k + 1 → T[j]? = U[j]? from fun j hj => by
          by_cases e : j = k
          · subst e; rw [List.getElem?_eq_getElem l1, List.getElem?_eq_getElem l2, hx]
          · exact HE.out j (by omega))
        have HV2 := Lib.hid (fun (hx : T[k] ≠ U[k]) => show ans = false by rw [← HV.out]; exact decide_eq_false fun e => hx (by subst e; rfl))
        generalize T[k] = x at *
        generalize U[k] = y at *
        obtain ⟨xa, xb, xc⟩ := x
        obtain ⟨ya, yb, yc⟩ := y
        simp only at x1 x2 x3 y1 y2 y3
        clear l1 l2
        by_cases ha : xa = ya
        · subst ha
          by_cases hb : xb = yb
          · subst hb
            by_cases hc : xc = yc
            · subst hc
              have HE3 := Lib.hid (HE2.out rfl)
              clear HE2 HV2 HE
              go_wp2
              go_quiet (fail)
              go_wp2
              go_roundw
              case rel => exact ⟨k + 1, by omega, by go_num, HE3, drawn_below HW.out _⟩
              case measure => simp [RowKit.intOf]; omega
            · have hV := Lib.hid (HV2.out (fun e => hc (by cases e; rfl)))
              have hz : (xc == yc) = false := by simpa using hc
              clear HE2 HV2 HE hc
              go_wp2
              go_quiet (fail)
              go_wp2
              go_ret
              exact ⟨ret_bool (by rw [hV.out]), drawn_below HW.out _⟩
          · have hV := Lib.hid (HV2.out (fun e => hb (by cases e; rfl)))
            have hz : (xb == yb) = false := by simpa using hb
            clear HE2 HV2 HE hb
            go_wp2
            go_quiet (fail)
            go_wp2
            go_ret
            exact ⟨ret_bool (by rw [hV.out]), drawn_below HW.out _⟩
        · have hV := Lib.hid (HV2.out (fun e => ha (by cases e; rfl)))
          have hz : (xa == ya) = false := by simpa using ha
          clear HE2 HV2 HE ha
          go_wp2
          go_quiet (fail)
          go_wp2
          go_ret
          exact ⟨ret_bool (by rw [hV.out]), drawn_below HW.out _⟩
      · have hV : Hid (ans = true) := by
          show _ = _
          rw [← HV.out]
          exact decide_eq_true (List.ext_getElem? fun i => by
            by_cases hi : i < k
            · exact HE.out i hi
            · rw [List.getElem?_eq_none (by have := Hn.out; omega), List.getElem?_eq_none (by have := Hm.out; omega)])
        have e : k = n := by omega
        subst e
        go_wp2
        go_ret
        exact ⟨ret_bool (by rw [hV.out]), HW.out⟩
  · have hV : Hid (ans = false) := by show _ = _; rw [← HV.out]; exact decide_eq_false fun e => hlen (by rw [← hn, ← hm, e])
    have z : ((n : Int) == (m : Int)) = false := by rw [beq_eq_false_iff_ne]; omega
    clear hlen hn hm
    go_enter Try.func17, Try.ntmps17
    go_wp2
    go_ret
    exact ⟨ret_bool (by rw [hV.out]), Below.refl _ _⟩
end Go.Proofs.Ytgkmmflamnijdaa.Pk
