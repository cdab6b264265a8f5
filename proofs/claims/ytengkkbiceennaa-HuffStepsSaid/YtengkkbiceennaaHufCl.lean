/-
  slices.Clone of numbers; halving all of them.
-/
import Derived.Test.YtengkkbiceennaaHufDe
import Derived.Test.YtengkkbiceennaaHufCk
namespace Go.Proofs.Ytengkkbiceennaa
open Go.RowKit Go.Lib
set_option maxRecDepth 100000
theorem ints_at (D : List Nat) (i : Nat) (h : i < D.length) : (intsN D)[i]? = some (.int .i64 (D.getD i 0 : Nat)) := by
  unfold intsN
  rw [List.getElem?_map, List.getD_eq_getElem?_getD, List.getElem?_eq_getElem h]; rfl
theorem intsN_len (D : List Nat) : (intsN D).length = D.length := by unfold intsN; rw [List.length_map]
/-- a row of numbers that the call has made: where it lies -/
theorem lie_own {w : World} {B n c : Nat} {q : Option Addr} {D : List Nat} (h : w.ownsRow B 3 1 (.slice q n c) n (intsN D)) (hn : D.length = n) : IntsLie w q (nums D) c := by
  rcases h.2 with ⟨h1, h2⟩ | ⟨g', cap', cur, h1, h2, h3, h4, h5, h6⟩
  · cases h1
    exact ⟨by rw [nums_len]; omega, Nat.zero_le _, Or.inl (List.length_eq_zero_iff.1 (by rw [nums_len]; omega))⟩
  · cases h1
    refine ⟨by rw [nums_len]; omega, h5, Or.inr ⟨g', 0, rfl, fun i hi => ?_⟩⟩
    have hi' : i < D.length := by rw [nums_len] at hi; exact hi
    rw [Nat.zero_add, h.cellAt i (by omega), ints_at D i hi', nums_get]

theorem eql_nil (a : Option Addr) (l c : Nat) (w : World) : (binOp .eql 22 (.slice a l c) (.slice none 0 0)).run Try.prog w = .ok (.bool a.isNone) w := by
  simp only [binOp]
  simp [run_equal_slice_nil w 22 3 a l c Try.underlying22]
set_option maxHeartbeats 1000000 in
theorem clone_at (f : List Nat) (hn : f.length ≤ 300) (p : Option Addr) (cap : Nat) (w : World) (h : IntsLie w p (nums f) cap) :
    Calls Try.prog 18 #[.slice p f.length cap] w fun e w' => ∃ v, e = .returned v ∧ w'.ownsRow w.heap.size 3 1 v f.length (intsN f) ∧ Below w.heap.size w w' := by
  match p with
  | none =>
    have h0 : f = [] := by
      rcases h.lies with h1 | ⟨_, _, h1, _⟩
      · unfold nums at h1; simpa using h1
      · cases h1
    subst h0
    clear h
    have hE := fun w => eql_nil none 0 cap w
    go_enter Try.func18, Try.ntmps18
    go_wp2
    go_ret
    exact ⟨_, rfl, World.ownsRow_nil _ _ _ _, Below.refl _ _⟩
  | some a =>
    have hcell : ∀ j u, (intsN f)[j]? = some u → (w.alloc (.cells #[] 3)).cell? (a.add j) = some u := fun j u hj => by
      have hjl : j < f.length := by
        rcases Nat.lt_or_ge j f.length with z | z
        · exact z
        · rw [List.getElem?_eq_none (by rw [intsN_len]; omega)] at hj; cases hj
      obtain ⟨blk, off, e, hc⟩ := (h.below ((Below.refl _ _).alloc (Nat.le_refl _) (.cells #[] 3))).at (i := j) (by rw [nums_len]; exact hjl)
      cases e
      have := hc j (by rw [nums_len]; exact hjl)
      rw [nums_get] at this
      rw [Addr.add_lit, this, ← hj, ints_at f j hjl]
    have hone : ∀ u ∈ intsN f, u.oneCell' = true := fun u hu => by
      unfold intsN at hu
      obtain ⟨x, _, rfl⟩ := List.mem_map.1 hu
      rfl
    obtain ⟨i0, hi0, hz0, hz1, hz2⟩ := info_parts info3b
    have o1 := World.ownsRow_made (base := w.heap.size) (e := 3) (size := 1) w #[] 0 (Nat.le_refl _) (by decide) rfl
    have zn : (f.length : Int) ≤ 300 := by omega
    have BB := Lib.hid (fun w3 (gr : World.grownBy (w.alloc (.cells #[] 3)) w3 (some w.heap.size)) => ((Below.refl w.heap.size w).alloc (Nat.le_refl _) (.cells #[] 3)).grown gr (by simp) (fun k hk => by cases hk; exact Nat.le_refl _))
    clear h
    have hE := fun w => eql_nil (some a) f.length cap w
    go_enter Try.func18, Try.ntmps18
    go_wp2_with (with_reducible refine stop_append ?_)
    unfold Stop
    refine wpList_append_own _ rfl _ _ 22 rfl w.heap.size 3 i0 (.int .i64 0) 1 8 Try.underlying22 hi0 hz0 hz1 hz2 rfl (by decide) _ 0 [] rfl o1 a f.length cap (intsN f) rfl (by rw [intsN_len]; omega) hcell hone (by unfold maxLen; omega) (by omega) (by simp) ?_
    intro v1 w3 own1 gr1 _
    have B1 := Lib.hid (BB.out w3 gr1)
    rw [Nat.zero_add, List.nil_append] at own1
    have O1 := Lib.hid own1
    clear own1 gr1 hcell hone o1 BB
    go_wp2
    go_ret
    exact ⟨v1, rfl, O1.out, B1.out⟩

set_option maxHeartbeats 1000000 in
theorem halve_at (B n c : Nat) (q : Option Addr) (D : List Nat) (w : World) (hD : D.length = n) (hn : n ≤ 300) (hm : ∀ i, D.getD i 0 ≤ 100000) (ho : w.ownsRow B 3 1 (.slice q n c) n (intsN D)) :
    Calls Try.prog 22 #[.slice q n c] w fun e w' => e = .returned (.tuple #[]) ∧ w'.ownsRow B 3 1 (.slice q n c) n (intsN (Hf.half D)) ∧ Below B w w' := by
  have HO := Lib.hid ho
  have HM := Lib.hid hm
  have HD := Lib.hid hD
  have zn : (n : Int) ≤ 300 := by omega
  have hcap : (n : Int) ≤ c := by have := (lie_own ho hD).len; rw [nums_len] at this; omega
  clear ho hm hD hn
  go_enter Try.func22, Try.ntmps22
  go_wp2
  go_loopw [6] (fun v wr => ∃ (i : Nat) (E : List Nat), v = .int .i64 i ∧ i ≤ n ∧ Hid (E.length = n) ∧ Hid (∀ j, E.getD j 0 = if j < i then (D.getD j 0 + 1) / 2 else D.getD j 0) ∧ Hid (wr.ownsRow B 3 1 (.slice q n c) n (intsN E)) ∧ Hid (Below B w wr)) (fun v _ => n - (RowKit.intOf v).toNat)
  case atStart => exact ⟨0, D, rfl, Nat.zero_le _, HD, fun j => by rw [if_neg (by omega)], HO, Below.refl _ _⟩
  case round =>
    obtain ⟨i, E, rfl, hi, HE, HV, HW, HB⟩ := hrel
    by_cases hlt : i < n
    · obtain ⟨R, rfl, hBR⟩ : ∃ R, q = some ⟨R, 0, none⟩ ∧ B ≤ R := by
        rcases HW.out.2 with ⟨h1, h2⟩ | ⟨g', cap', cur, h1, h2, _⟩
        · omega
        · cases h1; exact ⟨_, rfl, h2⟩
      have c1 := HW.out.cellAt i (by omega)
      rw [ints_at E i (by rw [HE.out]; exact hlt)] at c1
      have hv := HV.out i
      rw [if_neg (by omega)] at hv
      rw [hv] at c1
      have hx := HM.out i
      have c2 := HW.out.frozenAt i
      obtain ⟨y, hy⟩ : ∃ y, y = (D.getD i 0 + 1) / 2 := ⟨_, rfl⟩
      have HW2 := Lib.hid (HW.out.stored i (.int .i64 (y : Nat))).1
      have HB2 := Lib.hid (HB.out.setCell (p := ⟨R, i, none⟩) hBR (.int .i64 (y : Nat)))
      have HV2 : Hid (∀ j, (E.set i y).getD j 0 = if j < i + 1 then (D.getD j 0 + 1) / 2 else D.getD j 0) := fun j => by
        rw [List.getD_eq_getElem?_getD, List.getElem?_set]
        by_cases e : i = j
        · subst e
          rw [if_pos rfl, if_pos (by rw [HE.out]; exact hlt), if_pos (by omega), hy]; rfl
        · rw [if_neg e, ← List.getD_eq_getElem?_getD, HV.out j]
          by_cases h3 : j < i
          · rw [if_pos h3, if_pos (by omega)]
          · rw [if_neg h3, if_neg (by omega)]
      have ii : (i : Int) < n := by omega
      generalize D.getD i 0 = x at *
      have ey : ((x : Int) + 1) / 2 = (y : Int) := by omega
      clear hv hy HW HB HV
      go_wp2
      go_roundw
      case measure => simp [RowKit.intOf]; omega
      case rel => exact ⟨i + 1, E.set i y, by go_num, by omega, by rw [List.length_set]; exact HE.out, HV2, by rw [ints_set]; exact HW2.out, HB2⟩
    · have e : i = n := by omega
      subst e
      go_wp2
      go_end0
      refine ⟨rfl, ?_, HB.out⟩
      have : E = Hf.half D := by
        refine List.ext_getElem (by rw [HE.out, Hf.half_length, HD.out]) fun j h1 h2 => ?_
        have e1 := HV.out j
        rw [if_pos (by rw [← HE.out]; exact h1), ← Hf.half_get, List.getD_eq_getElem?_getD, List.getD_eq_getElem?_getD, List.getElem?_eq_getElem h1, List.getElem?_eq_getElem h2] at e1
        exact e1
      rw [← this]
      exact HW.out
end Go.Proofs.Ytengkkbiceennaa
