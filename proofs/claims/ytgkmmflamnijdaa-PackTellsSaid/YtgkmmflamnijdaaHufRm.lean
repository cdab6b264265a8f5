/-
  The document's May and Deep.
-/
import Derived.Test.YtgkmmflamnijdaaLstX
import Derived.Test.YtgkmmflamnijdaaHufM
namespace Go.Proofs.Ytgkmmflamnijdaa
set_option maxRecDepth 100000
open Go.RowKit Go.Lib
set_option maxHeartbeats 1000000 in
theorem may_doc (L : List Int) (p : Option Addr) (cap : Nat) (w : World) (h : IntsLie w p L cap) (hl : L.length ≤ 281474976710656) :
    Calls Try.prog 48 #[.slice p L.length cap] w fun e w' => e = .returned (.bool (L.all mayI && decide (L.length ≤ 300))) ∧ w' = w := by
  have HI := Lib.hid h
  have zl : (L.length : Int) ≤ 281474976710656 := by omega
  clear h hl
  go_enter Try.func48, Try.ntmps48
  go_wp2
  go_loop [3] (fun v => ∃ i : Nat, i ≤ L.length ∧ v = .int .i64 i ∧ Hid ((L.take i).all mayI = true)) (fun v => L.length - (RowKit.intOf v).toNat)
  case atStart => exact ⟨0, Nat.zero_le _, rfl, by show _ = _; rfl⟩
  case round =>
    obtain ⟨i, hi, rfl, HA⟩ := hrel
    by_cases hlt : i < L.length
    · obtain ⟨blk, off, rfl, hc⟩ := HI.out.at hlt
      have c := hc i hlt
      have HS := Lib.hid (all_take L mayI i hlt)
      have HM := Lib.hid (fun (hx : mayI L[i] = false) => show L.all mayI = false from List.all_eq_false.2 ⟨L[i], List.getElem_mem hlt, by rw [hx]; simp⟩)
      generalize L[i] = x at c HS HM
      have ii : (i : Int) < L.length := by omega
      have hcap : (L.length : Int) ≤ cap := by have := HI.out.len; omega
      clear hc
      by_cases h0 : x < 0
      · have HF := Lib.hid (HM.out (by simp [mayI]; omega))
        clear HM HS
        go_wp2
        go_ret
        exact ⟨ret_bool (by rw [HF.out]; rfl), rfl⟩
      · by_cases h1 : 100000 < x
        · have HF := Lib.hid (HM.out (by simp [mayI]; omega))
          have h0' : 0 ≤ x := by omega
          clear HM HS h0
          go_wp2
          go_ret
          exact ⟨ret_bool (by rw [HF.out]; rfl), rfl⟩
        · have HT : Hid ((L.take (i + 1)).all mayI = true) := by
            show _ = _
            rw [HS.out, HA.out]; simp [mayI]; omega
          have h0' : 0 ≤ x := by omega
          have h1' : x ≤ 100000 := by omega
          clear HM HS h0 h1
          go_wp2
          go_round
          case rel => exact ⟨i + 1, by omega, by go_num, HT⟩
          case measure => simp [RowKit.intOf]; omega
    · have e : i = L.length := by omega
      subst e
      have HT : Hid (L.all mayI = true) := by have := HA.out; rw [List.take_length] at this; exact this
      clear HA
      go_wp2
      go_ret
      exact ⟨ret_bool (by rw [HT.out]; simp; omega), rfl⟩
set_option maxHeartbeats 1000000 in
theorem deep_doc (L : List Int) (p : Option Addr) (cap : Nat) (w : World) (h : IntsLie w p L cap) (hl : L.length ≤ 281474976710656) :
    Calls Try.prog 50 #[.slice p L.length cap] w fun e w' => e = .returned (.bool (L.any fun x => decide (15 < x))) ∧ w' = w := by
  have HI := Lib.hid h
  have zl : (L.length : Int) ≤ 281474976710656 := by omega
  clear h hl
  go_enter Try.func50, Try.ntmps50
  go_wp2
  go_loop [3] (fun v => ∃ i : Nat, i ≤ L.length ∧ v = .int .i64 i ∧ Hid ((L.take i).any (fun x => decide (15 < x)) = false)) (fun v => L.length - (RowKit.intOf v).toNat)
  case atStart => exact ⟨0, Nat.zero_le _, rfl, by show _ = _; rfl⟩
  case round =>
    obtain ⟨i, hi, rfl, HA⟩ := hrel
    by_cases hlt : i < L.length
    · obtain ⟨blk, off, rfl, hc⟩ := HI.out.at hlt
      have c := hc i hlt
      have HS : Hid ((L.take (i + 1)).any (fun x => decide (15 < x)) = ((L.take i).any (fun x => decide (15 < x)) || decide (15 < L[i]))) := by
        show _ = _
        rw [List.take_succ_eq_append_getElem hlt, List.any_append]; simp
      have HM := Lib.hid (fun (hx : 15 < L[i]) => show L.any (fun x => decide (15 < x)) = true from List.any_eq_true.2 ⟨L[i], List.getElem_mem hlt, by simpa using hx⟩)
      generalize L[i] = x at c HS HM
      have ii : (i : Int) < L.length := by omega
      have hcap : (L.length : Int) ≤ cap := by have := HI.out.len; omega
      clear hc
      by_cases h1 : 15 < x
      · have HF := Lib.hid (HM.out h1)
        clear HM HS
        go_wp2
        go_ret
        exact ⟨ret_bool (by rw [HF.out]), rfl⟩
      · have HT : Hid ((L.take (i + 1)).any (fun x => decide (15 < x)) = false) := by
          show _ = _
          rw [HS.out, HA.out]; simp; omega
        have h1' : x ≤ 15 := by omega
        clear HM HS h1
        go_wp2
        go_round
        case rel => exact ⟨i + 1, by omega, by go_num, HT⟩
        case measure => simp [RowKit.intOf]; omega
    · have e : i = L.length := by omega
      subst e
      have HT : Hid (L.any (fun x => decide (15 < x)) = false) := by have := HA.out; rw [List.take_length] at this; exact this
      clear HA
      go_wp2
      go_ret
      exact ⟨ret_bool (by rw [HT.out]), rfl⟩
end Go.Proofs.Ytgkmmflamnijdaa
