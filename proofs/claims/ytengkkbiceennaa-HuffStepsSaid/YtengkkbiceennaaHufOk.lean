/-
  Package huff answers as Spec tells: Lens, Cost, Kraft.
-/
import Derived.Test.YtengkkbiceennaaHufCl
namespace Go.Proofs.Ytengkkbiceennaa
open Go.RowKit Go.Lib
set_option maxRecDepth 100000
theorem lens_deep (g : List Nat) : (nums ((List.range g.length).map (Hf.once g))).any (fun x => decide (15 < x)) = Hf.deep g := by
  unfold nums Hf.deep
  rw [List.any_map, List.any_map]
  congr 1
  funext i
  simp only [Function.comp_apply]
  congr 1
  apply propext
  omega
theorem may_nums (f : List Nat) (hm : ∀ i, f.getD i 0 ≤ 100000) : (nums f).all mayI = true := by
  refine List.all_eq_true.2 fun x hx => ?_
  obtain ⟨i, hi, rfl⟩ := List.mem_iff_getElem.1 hx
  rw [nums_get]
  have h2 := hm i
  generalize f.getD i 0 = y at *
  simp [mayI]; omega
set_option maxHeartbeats 2000000 in
theorem lens_at (f : List Nat) (hn : f.length ≤ 300) (hm : ∀ i, f.getD i 0 ≤ 100000) (p : Option Addr) (cap : Nat) (w : World) (h : IntsLie w p (nums f) cap) :
    Calls Try.prog 10 #[.slice p f.length cap] w fun e w' => ∃ q c, e = .returned (.slice q f.length c) ∧ IntsLie w' q (nums (Hf.lens f)) c ∧ Below w.heap.size w w' := by
  have c1 := may_at (nums f) p cap w h (by rw [nums_len]; omega)
  rw [nums_len, may_nums f hm, decide_eq_true hn] at c1
  have c2 := clone_at f hn p cap w h
  have HM := Lib.hid hm
  have hn2 := Lib.hid hn
  clear h hm hn
  go_enter Try.func10, Try.ntmps10
  go_wp2_with fail
  go_at_call 17
  refine c1.mono ?_
  rintro e w1 ⟨rfl, rfl⟩
  go_wp2_with fail
  go_at_call 18
  refine c2.mono ?_
  rintro e w2 ⟨v, rfl, ho, hb⟩
  obtain ⟨q, c, rfl⟩ := own_shape ho
  have c3 := depths_at f hn2.out HM.out q c w2 (lie_own ho rfl)
  have HO := Lib.hid ho
  have HB := Lib.hid hb
  clear c1 c2 ho hb
  go_wp2_with fail
  go_at_call 19
  refine c3.mono ?_
  rintro e w3 ⟨R, rfl, hr, hb3⟩
  have HO3 := Lib.hid (own_below HO.out hb3)
  have HR3 := Lib.hid (own_base hr HB.out.size)
  have HB3 := Lib.hid (HB.out.next hb3)
  clear c3 hr hb3 HO HB
  go_wp2
  go_loopg [4] (Hf.tot f) (fun gg v wr => ∃ (g : List Nat) (R : Nat), v = .slice (some ⟨R, 0, none⟩) f.length f.length ∧ Hid (Hf.tot g ≤ gg) ∧ Hid (g.length = f.length) ∧ Hid (Hf.lastF g = Hf.lastF f) ∧ Hid (∀ i, g.getD i 0 ≤ 100000) ∧ Hid (wr.ownsRow w1.heap.size 3 1 (.slice q f.length c) f.length (intsN g)) ∧ Hid (wr.ownsRow w1.heap.size 3 1 (.slice (some ⟨R, 0, none⟩) f.length f.length) f.length (intsN ((List.range f.length).map (Hf.once g)))) ∧ Hid (Below w1.heap.size w1 wr))
  case atStart => exact ⟨f, R, rfl, Nat.le_refl _, rfl, rfl, HM, HO3, HR3, HB3⟩
  case round =>
    clear HO3 HR3 HB3
    obtain ⟨g, R, rfl, HG, HL, HF, HM1, HO, HR, HB⟩ := hrel
    have hll : ((List.range f.length).map (Hf.once g)).length = f.length := by simp
    have cc := contains_at 21 _ long_tests (nums ((List.range f.length).map (Hf.once g))) (some ⟨R, 0, none⟩) f.length wr (lie_own HR.out hll) (by rw [nums_len, hll]; have := hn2.out; omega)
    rw [nums_len, hll] at cc
    have hda := lens_deep g
    rw [HL.out] at hda
    rw [hda] at cc
    clear hda hll
    cases hd : Hf.deep g with
    | true =>
      rw [hd] at cc
      have hdt := Hf.deep_half (by rw [HL.out]; exact hn2.out) hd
      have HT : Hid (Hf.tot (Hf.half g) < Hf.tot g) := hdt
      have HF2 : Hid (Hf.lastF (Hf.half g) = Hf.lastF f) := (Hf.last_step (by rw [HL.out]; exact hn2.out) hd).symm.trans HF.out
      have ch := halve_at w1.heap.size f.length c q g wr HL.out hn2.out HM1.out HO.out
      have HM2 : Hid (∀ i, (Hf.half g).getD i 0 ≤ 100000) := fun i => by rw [Hf.half_get]; have := HM1.out i; omega
      have HL2 : Hid ((Hf.half g).length = f.length) := (Hf.half_length g).trans HL.out
      clear hd hdt HO HR HF HM1 HL
      go_wp2_with fail
      go_at_call 20
      refine cc.mono ?_
      rintro e w4 ⟨rfl, rfl⟩
      go_wp2_with fail
      go_at_call 22
      refine ch.mono ?_
      rintro e w5 ⟨rfl, ho5, hb5⟩
      have cd := depths_at (Hf.half g) (by rw [HL2.out]; exact hn2.out) HM2.out q c w5 (lie_own ho5 HL2.out)
      rw [HL2.out] at cd
      have HO5 := Lib.hid ho5
      have HB5 := Lib.hid (HB.out.trans hb5)
      clear cc ch ho5 hb5
      go_wp2_with fail
      go_at_call 19
      refine cd.mono ?_
      rintro e w6 ⟨R6, rfl, hr6, hb6⟩
      have HO6 := Lib.hid (own_below HO5.out hb6)
      have HR6 := Lib.hid (own_base hr6 HB5.out.size)
      have HB6 := Lib.hid (HB5.out.next hb6)
      clear cd hr6 hb6 HO5 HB5
      go_wp2
      go_roundg (Hf.tot (Hf.half g))
      case measure => have := HT.out; have := HG.out; omega
      case rel => exact ⟨Hf.half g, R6, rfl, Nat.le_refl _, HL2, HF2, HM2, HO6, HR6, HB6⟩
    | false =>
      rw [hd] at cc
      have he : Hid (Hf.lens f = (List.range f.length).map (Hf.once g)) := by
        show _ = _
        unfold Hf.lens
        rw [← HF.out, Hf.last_same hd]
      have HI := Lib.hid (lie_own HR.out (by simp))
      clear hd HO HR HF HM1 HL
      go_wp2_with fail
      go_at_call 20
      refine cc.mono ?_
      rintro e w4 ⟨rfl, rfl⟩
      go_wp2
      go_ret
      exact ⟨_, _, rfl, by rw [he.out]; exact HI.out, HB.out⟩
set_option maxHeartbeats 1000000 in
theorem lens_none (p : Option Addr) (cap : Nat) (w : World) (h : IntsLie w p [-1] cap) :
    Calls Try.prog 10 #[.slice p 1 cap] w fun e w' => ∃ q c, e = .returned (.slice q 0 c) ∧ Below w.heap.size w w' := by
  have c1 := may_at [-1] p cap w h (by decide)
  rw [show ([-1] : List Int).length = 1 from rfl, show (decide (1 ≤ 300) && ([-1] : List Int).all mayI) = false by decide] at c1
  clear h
  go_enter Try.func10, Try.ntmps10
  go_wp2_with fail
  go_at_call 17
  refine c1.mono ?_
  rintro e w1 ⟨rfl, rfl⟩
  go_wp2
  go_ret
  exact ⟨none, 0, rfl, Below.refl _ _⟩
theorem spec : Spec where
  lens := fun f p c w h1 h2 h3 => lens_at f h1 h2 p c w h3
  none := lens_none
  cost := fun f l p q c d w h1 h2 h3 h4 h5 h6 => cost_at f l p q c d w h1 h2 h3 h4 h5 h6
  kraft := fun l p c w h1 h2 h3 => (kraft_at l p c w h1 h2 h3).mono fun _ w' ⟨he, hw⟩ => ⟨he, by rw [hw]; exact Below.refl _ _⟩
end Go.Proofs.Ytengkkbiceennaa
