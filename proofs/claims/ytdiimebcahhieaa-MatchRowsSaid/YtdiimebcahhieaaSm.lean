/-
  match.same: how many bytes from two places on are the same, as far as a copy reaches.
-/
import Derived.Test.YtdiimebcahhieaaGe
import Derived.Test.YtdiimebcahhieaaMatMt
import Derived.Deep.Slices
namespace Go.Proofs.Ytdiimebcahhieaa
open Go.RowKit Go.Lib Mt
/-- n bytes from two places on are the same, and no more of them, as far as a copy reaches -/
structure Run (s : List UInt8) (a p n : Nat) : Prop where
  top : n ≤ 18
  inn : p + n ≤ s.length
  same : ∀ i, i < n → s.getD (a + i) 0 = s.getD (p + i) 0
  stop : n = 18 ∨ p + n = s.length ∨ s.getD (a + n) 0 ≠ s.getD (p + n) 0
set_option maxHeartbeats 1000000 in
theorem same_any (s : ByteArray) (a p : Nat) (w : World) (hs : s.size ≤ 2000) (ha : a < p) (hp : p ≤ s.size) :
    Calls Try.prog 19 #[.string s, .int .i64 a, .int .i64 p] w fun e w' => ∃ n : Nat, e = .returned (.int .i64 n) ∧ Run s.data.toList a p n ∧ Below w.heap.size w w' := by
  have HB := Lib.hid (Below.refl w.heap.size w)
  have zs : (s.size : Int) ≤ 2000 := by omega
  have zp : (p : Int) ≤ s.size := by omega
  have zp2 : (p : Int) ≤ 2000 := by omega
  have za : (a : Int) ≤ 2000 := by omega
  have HL : Hid (s.data.toList.length = s.size) := by show _ = _; simp
  have HA : Hid (a < p) := Lib.hid ha
  obtain ⟨m, hm⟩ : ∃ m : Nat, m = min 18 (s.size - p) := ⟨_, rfl⟩
  have HM : Hid (m ≤ 18 ∧ p + m ≤ s.size ∧ (m = 18 ∨ p + m = s.size)) := by show _ ∧ _; omega
  have HV : Hid ((18 : Int) ≤ s.size - p → m = 18) := by show _ → _; omega
  have HV2 : Hid ((s.size : Int) - p < 18 → (s.size : Int) - p = m) := by show _ → _; omega
  clear hm ha
  go_enter Try.func19, Try.ntmps19
  go_wp2
  all_goals
    first
      | rw [show (Value.int IntKind.i64 18) = Value.int IntKind.i64 ((m : Nat) : Int) from by simp [HV.out h]]
      | rw [HV2.out h]
    clear h HV HV2
    go_loopw [8] (fun v wr => ∃ n : Nat, v = .int .i64 n ∧ n ≤ m ∧ Hid (∀ i, i < n → s.data.toList.getD (a + i) 0 = s.data.toList.getD (p + i) 0) ∧ Hid (Below w.heap.size w wr)) (fun v _ => m - (RowKit.intOf v).toNat)
    case atStart => exact ⟨0, rfl, Nat.zero_le _, Lib.hid (fun i hi => by omega), HB⟩
    case round =>
      clear HB
      obtain ⟨n, rfl, hn, HE, HW⟩ := hrel
      have zm : (m : Int) ≤ 18 := by have := HM.out; omega
      have zn : (n : Int) ≤ 18 := by omega
      by_cases hlt : n < m
      · obtain ⟨x, hx⟩ : ∃ x, x = a + n := ⟨_, rfl⟩
        obtain ⟨y, hy⟩ : ∃ y, y = p + n := ⟨_, rfl⟩
        have hx2 : x < s.size := by have := HM.out; have := HA.out; omega
        have hy2 : y < s.size := by have := HM.out; omega
        have HX : Hid (s.data.toList.getD (a + n) 0 = s[x]) := by show _ = _; rw [← hx, List.getD_eq_getElem?_getD, List.getElem?_eq_getElem (by simpa using hx2)]; rfl
        have HY : Hid (s.data.toList.getD (p + n) 0 = s[y]) := by show _ = _; rw [← hy, List.getD_eq_getElem?_getD, List.getElem?_eq_getElem (by simpa using hy2)]; rfl
        have ex : (a : Int) + n = x := by omega
        have ey : (p : Int) + n = y := by omega
        have zx : (x : Int) < s.size := by omega
        have zy : (y : Int) < s.size := by omega
        have zi : (n : Int) < m := by omega
        obtain ⟨c, hc⟩ : ∃ c, s[x] = c := ⟨_, rfl⟩
        obtain ⟨d, hd⟩ : ∃ d, s[y] = d := ⟨_, rfl⟩
        rw [hc] at HX
        rw [hd] at HY
        clear hx hy
        by_cases hcd : c = d
        · subst hcd
          have HE2 : Hid (∀ i, i < n + 1 → s.data.toList.getD (a + i) 0 = s.data.toList.getD (p + i) 0) := by
            refine Lib.hid fun i hi => ?_
            by_cases h : i = n
            · subst h; rw [HX.out, HY.out]
            · exact HE.out i (by omega)
          go_wp2_with fail
          go_quiet (fail)
          simp only [Exit.then]
          go_wp2
          go_roundw
          case rel => exact ⟨n + 1, by go_num, by omega, HE2, Lib.hid (below_drewN HW.out _)⟩
          case measure => simp [RowKit.intOf]; omega
        · have hne : ¬ ((c.toNat : Int) = d.toNat) := fun h => hcd (UInt8.toNat_inj.1 (by omega))
          have HR : Hid (Run s.data.toList a p n) := by
            refine Lib.hid ⟨by have := HM.out; omega, by have := HM.out; rw [HL.out]; omega, HE.out, .inr (.inr ?_)⟩
            rw [HX.out, HY.out]; exact hcd
          replace hcd := Lib.hid hcd
          go_wp2_with fail
          go_quiet (fail)
          simp only [Exit.then]
          go_wp2
          go_ret
          exact ⟨n, rfl, HR.out, below_drewN HW.out _⟩
      · have hnm : n = m := by omega
        have HR : Hid (Run s.data.toList a p n) := by
          refine Lib.hid ⟨by have := HM.out; omega, by have := HM.out; rw [HL.out]; omega, HE.out, ?_⟩
          have := HM.out; rw [HL.out]; omega
        have hf : decide (n < m) = false := by simp; omega
        clear hlt
        replace hnm := Lib.hid hnm
        go_wp2_with fail
        go_quiet (fail)
        simp only [Exit.then]
        go_wp2
        go_ret
        exact ⟨n, rfl, HR.out, below_drewN HW.out _⟩
end Go.Proofs.Ytdiimebcahhieaa
