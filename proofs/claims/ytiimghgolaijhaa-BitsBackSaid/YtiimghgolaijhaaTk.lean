/-
  Contracts of the document's Same and of Take.
-/
import Derived.Test.YtiimghgolaijhaaRd
import Derived.BigQuiet
namespace Go.Proofs.Ytiimghgolaijhaa
open Go.RowKit Mb Go.Lib
theorem BoolsAt.below {w w' : World} {blk off : Nat} {l : List Bool} (h : BoolsAt w blk off l) (hb : Below w.heap.size w w') : BoolsAt w' blk off l :=
  ⟨fun i hi => by rw [hb.cell (p := ⟨blk, off + i, none⟩) (World.block_lt_of_cell? w _ (h.cell i hi))]; exact h.cell i hi⟩
theorem list_of_getD {l m : List Bool} (h : l.length = m.length) (hd : ∀ i, i < l.length → l.getD i false = m.getD i false) : l = m := by
  apply List.ext_getElem h
  intro i h1 h2
  have := hd i h1
  simpa [h1, h2] using this
theorem same_any (l m : List Bool) (hl : l.length ≤ maxLen) (hm : m.length ≤ maxLen) (b1 o1 c1 b2 o2 c2 : Nat) (w : World) (h1 : BoolsAt w b1 o1 l) (h2 : BoolsAt w b2 o2 m) :
    Calls Try.prog 12 #[.slice (some ⟨b1, o1, none⟩) l.length c1, .slice (some ⟨b2, o2, none⟩) m.length c2] w fun e w' => e = .returned (.bool (decide (l = m))) ∧ Below w.heap.size w w' := by
  have HC := Lib.hid h1
  have HD := Lib.hid h2
  clear h1 h2
  unfold maxLen at hl hm
  generalize hv : decide (l = m) = ans
  have HV := Lib.hid hv
  clear hv
  by_cases hlen : l.length = m.length
  · have hli : (l.length : Int) ≤ 9223372036854775807 := by omega
    have HL := Lib.hid hlen
    go_enter Try.func12, Try.ntmps12
    rw [← hlen]
    clear hlen
    go_wp2
    go_loopw [5] (fun i wr => ∃ k : Nat, k ≤ l.length ∧ i = .int .i64 k ∧ Hid (∀ j, j < k → l.getD j false = m.getD j false) ∧ Hid (Below w.heap.size w wr)) (fun i _ => l.length - (RowKit.intOf i).toNat)
    case atStart => exact ⟨0, Nat.zero_le _, rfl, Lib.hid (fun j hj => by omega), Lib.hid (Below.refl _ _)⟩
    case round =>
      obtain ⟨k, hk, rfl, HE, HW⟩ := hrel
      by_cases hlt : k < l.length
      · have c := (HC.out.below HW.out).cell k hlt
        have d := (HD.out.below HW.out).cell k (by rw [← HL.out]; exact hlt)
        have hki : (k : Int) < l.length := by omega
        by_cases hx : l.getD k false = m.getD k false
        · have HE2 : Hid (∀ j, j < k + 1 → l.getD j false = m.getD j false) := by
            show ∀ _, _
            intro j hj
            by_cases e : j = k
            · subst e; exact hx
            · exact HE.out j (by omega)
          rw [hx] at c
          clear hx
          cases hv : m.getD k false
          all_goals
            rw [hv] at c d
            clear hv
            go_wp2_with fail
            go_quiet (fail)
            simp only [Exit.then]
            go_wp2
            go_roundw
            case rel => exact ⟨k + 1, by omega, by go_num, HE2, Lib.hid (below_drewN HW.out _)⟩
            case measure => simp [RowKit.intOf]; omega
        · have HN : Hid (¬ l = m) := by show ¬ _; rintro rfl; exact hx rfl
          have HQ : Hid (false = ans) := by show _ = _; rw [← HV.out]; exact (decide_eq_false HN.out).symm
          cases hv : m.getD k false <;> cases hu : l.getD k false
          · rw [hu, hv] at hx; exact absurd rfl hx
          · rw [hu] at c; rw [hv] at d
            clear hv hu hx
            go_wp2_with fail
            go_quiet (fail)
            simp only [Exit.then]
            go_wp2
            go_ret
            exact ⟨congrArg (fun b => Ending.returned (.bool b)) HQ.out, below_drewN HW.out _⟩
          · rw [hu] at c; rw [hv] at d
            clear hv hu hx
            go_wp2_with fail
            go_quiet (fail)
            simp only [Exit.then]
            go_wp2
            go_ret
            exact ⟨congrArg (fun b => Ending.returned (.bool b)) HQ.out, below_drewN HW.out _⟩
          · rw [hu, hv] at hx; exact absurd rfl hx
      · have e : k = l.length := by omega
        have HQ : Hid (true = ans) := by show _ = _; rw [← HV.out]; exact (decide_eq_true (list_of_getD HL.out (by rw [← e]; exact HE.out))).symm
        subst e
        go_wp2
        go_ret
        exact ⟨congrArg (fun b => Ending.returned (.bool b)) HQ.out, HW.out⟩
  · have HQ : Hid (false = ans) := by show _ = _; rw [← HV.out]; exact (decide_eq_false (by rintro rfl; exact hlen rfl)).symm
    have hne : ¬ ((l.length : Int) = m.length) := by omega
    go_enter Try.func12, Try.ntmps12
    go_wp2
    go_ret
    exact ⟨congrArg (fun b => Ending.returned (.bool b)) HQ.out, Below.refl _ _⟩
end Go.Proofs.Ytiimghgolaijhaa
