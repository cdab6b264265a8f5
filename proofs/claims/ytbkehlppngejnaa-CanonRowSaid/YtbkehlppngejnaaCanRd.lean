/-
  What only reads: the document's Power, its sameness of lists of bits, its Take, its Kraft.
-/
import Derived.Test.YtbkehlppngejnaaLstLi
import Derived.Test.YtbkehlppngejnaaCanMt
import Derived.BigQuiet
namespace Go.Proofs.Ytbkehlppngejnaa
open Go.RowKit Mb Go.Lib
theorem power_any (n : Nat) (hn : n ≤ 30) (w : World) : Calls Try.prog 18 #[.int .i64 n] w fun e w' => e = .returned (.int .i64 ((2 ^ n : Nat) : Int)) ∧ w' = w := by
  go_enter Try.func18, Try.ntmps18
  go_wp2
  go_loop [3, 4] (fun x i => ∃ k : Nat, k ≤ n ∧ i = .int .i64 k ∧ x = .int .i64 ((2 ^ k : Nat) : Int)) (fun _ i => n - (RowKit.intOf i).toNat)
  case atStart => exact ⟨0, Nat.zero_le _, rfl, rfl⟩
  case round =>
    obtain ⟨k, hk, rfl, rfl⟩ := hrel
    by_cases hlt : k < n
    · have HC : Hid (2 ^ k ≤ 2 ^ 30) := by show _ ≤ _; exact Nat.pow_le_pow_right (by decide) (by omega)
      have HS : Hid (2 ^ (k + 1) = 2 * 2 ^ k) := by show _ = _; rw [Nat.pow_succ]; omega
      generalize 2 ^ k = c at HC HS ⊢
      have hc : c ≤ 1073741824 := HC.out
      go_wp2
      go_round
      case rel => exact ⟨k + 1, by omega, by go_num, by rw [HS.out]; go_num⟩
      case measure => simp [RowKit.intOf]; omega
    · have e : k = n := by omega
      subst e
      go_wp2
      go_ret
      exact ⟨rfl, rfl⟩
theorem take_getD (l : List Bool) (k : Nat) (h : k < l.length) : l.take (k + 1) = l.take k ++ [l.getD k false] := by
  rw [List.take_succ_eq_append_getElem h]; simp [h]
theorem list_of_getD {l m : List Bool} (h : l.length = m.length) (hd : ∀ i, i < l.length → l.getD i false = m.getD i false) : l = m := by
  apply List.ext_getElem h
  intro i h1 h2
  have := hd i h1
  simpa [h1, h2] using this
theorem drawn_below {b : Nat} {w w' : World} (h : Below b w w') (q : Nat) : Below b w (w'.drewN q) := ⟨h.os, h.tape, h.output, h.size, h.block⟩
set_option maxHeartbeats 1000000 in
theorem flags_doc (l m : List Bool) (hl : l.length ≤ 281474976710656) (_hm : m.length ≤ 281474976710656) (p q : Option Addr) (c d : Nat) (w : World) (h1 : FlagsLie w p l c) (h2 : FlagsLie w q m d) :
    Calls Try.prog 16 #[.slice p l.length c, .slice q m.length d] w fun e w' => e = .returned (.bool (decide (l = m))) ∧ Below w.heap.size w w' := by
  have HC := Lib.hid h1
  have HD := Lib.hid h2
  have hc1 : (l.length : Int) ≤ c := by have := h1.len; omega
  have hc2 : (m.length : Int) ≤ d := by have := h2.len; omega
  clear h1 h2
  generalize hv : decide (l = m) = ans
  have HV := Lib.hid hv
  clear hv
  by_cases hlen : l.length = m.length
  · have hli : (l.length : Int) ≤ 281474976710656 := by omega
    have HL := Lib.hid hlen
    go_enter Try.func16, Try.ntmps16
    rw [← hlen]
    rw [← hlen] at hc2
    clear hlen
    go_wp2
    go_loopw [5] (fun i wr => ∃ k : Nat, k ≤ l.length ∧ i = .int .i64 k ∧ Hid (∀ j, j < k → l.getD j false = m.getD j false) ∧ Hid (Below w.heap.size w wr)) (fun i _ => l.length - (RowKit.intOf i).toNat)
    case atStart => exact ⟨0, Nat.zero_le _, rfl, Lib.hid (fun j hj => by omega), Lib.hid (Below.refl _ _)⟩
    case round =>
      obtain ⟨k, hk, rfl, HE, HW⟩ := hrel
      by_cases hlt : k < l.length
      · obtain ⟨b1, o1, rfl, e1⟩ := (HC.out.below HW.out).at hlt
        obtain ⟨b2, o2, rfl, e2⟩ := (HD.out.below HW.out).at (i := k) (by rw [← HL.out]; exact hlt)
        have c := e1 k hlt
        have d := e2 k (by rw [← HL.out]; exact hlt)
        clear e1 e2
        have hki : (k : Int) < l.length := by omega
        by_cases hx : l.getD k false = m.getD k false
        · have HE2 : Hid (∀ j, j < k + 1 → l.getD j false = m.getD j false) := by
            refine Lib.hid fun j hj => ?_
            by_cases e : j = k
            · rw [e]; exact hx
            · exact HE.out j (by omega)
          rw [← hx] at d
          generalize l.getD k false = x at c d
          clear hx
          go_wp2
          go_quiet (fail)
          go_wp2
          go_roundw
          case rel => exact ⟨k + 1, by omega, by go_num, HE2, drawn_below HW.out _⟩
          case measure => simp [RowKit.intOf]; omega
        · have hV : Hid (ans = false) := by show _ = _; rw [← HV.out]; exact decide_eq_false fun e => hx (by rw [e])
          generalize l.getD k false = x at c hx
          generalize m.getD k false = y at d hx
          have hxy : (x == y) = false := by simp [hx]
          clear hx
          go_wp2
          go_quiet (fail)
          go_wp2
          go_ret
          exact ⟨ret_bool (by rw [hV.out]), drawn_below HW.out _⟩
      · have hV : Hid (ans = true) := by show _ = _; rw [← HV.out]; exact decide_eq_true (list_of_getD HL.out fun i hi => HE.out i (by omega))
        have e : k = l.length := by omega
        subst e
        go_wp2
        go_ret
        exact ⟨ret_bool (by rw [hV.out]), HW.out⟩
  · have hV : Hid (ans = false) := by show _ = _; rw [← HV.out]; exact decide_eq_false fun e => hlen (by rw [e])
    have z : ((l.length : Int) == (m.length : Int)) = false := by rw [beq_eq_false_iff_ne]; omega
    clear hlen
    go_enter Try.func16, Try.ntmps16
    go_wp2
    go_ret
    exact ⟨ret_bool (by rw [hV.out]), Below.refl _ _⟩
set_option maxHeartbeats 1000000 in
/-- Take, where there are so many bits. -/
theorem take_doc (l : List Bool) (p : Option Addr) (c i n : Nat) (hn : n ≤ 30) (hi : i + n ≤ l.length) (hl : l.length ≤ 1000000) (w : World) (h : FlagsLie w p l c) :
    Calls Try.prog 24 #[.slice p l.length c, .int .i64 i, .int .i64 n] w fun e w' => e = .returned (.tuple #[.int .i64 (num ((l.drop i).take n) : Int), .int .i64 ((i : Int) + n), .bool true]) ∧ w' = w := by
  have HC := Lib.hid h
  have hc : (l.length : Int) ≤ c := by have := h.len; omega
  have z1 : (i : Int) + n ≤ l.length := by omega
  have z2 : (l.length : Int) ≤ 1000000 := by omega
  have z3 : (n : Int) ≤ 30 := by omega
  have HI := Lib.hid hi
  clear h hi
  go_enter Try.func24, Try.ntmps24
  go_wp2
  go_loop [9, 10] (fun x v => ∃ k : Nat, k ≤ n ∧ v = .int .i64 ((i : Int) + k) ∧ x = .int .i64 (num ((l.drop i).take k) : Int)) (fun _ v => n + i - (RowKit.intOf v).toNat)
  case atStart => exact ⟨0, Nat.zero_le _, by simp, rfl⟩
  case round =>
    obtain ⟨k, hk, rfl, rfl⟩ := hrel
    by_cases hlt : k < n
    · obtain ⟨blk, off, rfl, hcell⟩ := HC.out.at (i := i + k) (by have := HI.out; omega)
      have c := hcell (i + k) (by have := HI.out; omega)
      have HB : Hid (num ((l.drop i).take k) < 1073741824) := by
        show _ < _
        have h := num_lt ((l.drop i).take k)
        have h2 : 2 ^ ((l.drop i).take k).length ≤ 2 ^ 30 := Nat.pow_le_pow_right (by decide) (by rw [List.length_take]; omega)
        omega
      have HS : Hid (num ((l.drop i).take (k + 1)) = 2 * num ((l.drop i).take k) + (l.getD (i + k) false).toNat) := by
        show _ = _
        rw [take_getD _ k (by rw [List.length_drop]; have := HI.out; omega), num_snoc, List.getD_eq_getElem?_getD, List.getD_eq_getElem?_getD, List.getElem?_drop]
      generalize num ((l.drop i).take k) = x at HB HS ⊢
      have hb := HB.out
      have zk : (k : Int) < n := by omega
      clear hcell
      obtain ⟨j, hj⟩ : ∃ j, j = i + k := ⟨_, rfl⟩
      have ej : (i : Int) + k = (j : Int) := by omega
      have hjl : (j : Int) < l.length := by omega
      have hjn : (j : Int) < (i : Int) + n := by omega
      rw [← hj] at c HS
      have Hj := Lib.hid hj
      rw [ej]
      clear ej
      cases hx : l.getD j false
      all_goals
        rw [hx] at c HS
        clear hj
        go_wp2
        go_round
        case rel => exact ⟨k + 1, by omega, by have := Hj.out; go_num, by rw [HS.out]; go_num⟩
        case measure => have := Hj.out; simp [RowKit.intOf]; omega
    · have e : k = n := by omega
      subst e
      go_wp2
      go_ret3
      exact ⟨rfl, rfl⟩
/-- Take, where there are not. -/
theorem take_not (l : List Bool) (p : Option Addr) (c n : Nat) (x : Int) (hn : n ≤ 30) (hx : x < 0 ∨ (l.length : Int) < x + n) (hl : l.length ≤ 1000000) (w : World) :
    Calls Try.prog 24 #[.slice p l.length c, .int .i64 x, .int .i64 n] w fun e w' => e = .returned (.tuple #[.int .i64 0, .int .i64 0, .bool false]) ∧ w' = w := by
  have z2 : (l.length : Int) ≤ 1000000 := by omega
  have z3 : (n : Int) ≤ 30 := by omega
  by_cases h1 : x < 0
  · clear hx
    go_enter Try.func24, Try.ntmps24
    go_wp2
    go_ret3
    exact ⟨rfl, rfl⟩
  · have h3 : 0 ≤ x := by omega
    by_cases h2 : (l.length : Int) < x
    · clear hx h1
      go_enter Try.func24, Try.ntmps24
      go_wp2
      go_ret3
      exact ⟨rfl, rfl⟩
    · have h4 : x ≤ l.length := by omega
      have h5 : (l.length : Int) < x + n := by omega
      clear hx h1 h2
      go_enter Try.func24, Try.ntmps24
      go_wp2
      go_ret3
      exact ⟨rfl, rfl⟩
end Go.Proofs.Ytbkehlppngejnaa
