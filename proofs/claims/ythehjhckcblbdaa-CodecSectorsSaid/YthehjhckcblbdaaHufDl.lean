/-
  The document's Lens.
-/
import Derived.Test.YthehjhckcblbdaaHufRe
namespace Go.Proofs.Ythehjhckcblbdaa
open Go.RowKit Go.Lib
set_option maxRecDepth 100000
theorem ints_at_ (D : List Nat) (i : Nat) (h : i < D.length) : (ints D)[i]? = some (.int .i64 (D.getD i 0 : Nat)) := by
  unfold ints
  rw [List.getElem?_map, List.getD_eq_getElem?_getD, List.getElem?_eq_getElem h]; rfl
theorem lie_ints {w : World} {B n c : Nat} {q : Option Addr} {D : List Nat} (h : w.ownsRow B 3 1 (.slice q n c) n (ints D)) (hn : D.length = n) : IntsLie w q (nums D) c := by
  rcases h.2 with ⟨h1, h2⟩ | ⟨g', cap', cur, h1, h2, h3, h4, h5, h6⟩
  · cases h1
    exact ⟨by rw [nums_len]; omega, Nat.zero_le _, Or.inl (List.length_eq_zero_iff.1 (by rw [nums_len]; omega))⟩
  · cases h1
    refine ⟨by rw [nums_len]; omega, h5, Or.inr ⟨g', 0, rfl, fun i hi => ?_⟩⟩
    have hi' : i < D.length := by rw [nums_len] at hi; exact hi
    rw [Nat.zero_add, h.cellAt i (by omega), ints_at_ D i hi', nums_get]
theorem doc_deep (g : List Nat) : (nums ((List.range g.length).map (Hf.once g))).any (fun x => decide (15 < x)) = Hf.deep g := by
  unfold nums Hf.deep
  rw [List.any_map, List.any_map]
  congr 1
  funext i
  simp only [Function.comp_apply]
  congr 1
  apply propext
  omega
theorem doc_may (f : List Nat) (hm : ∀ i, f.getD i 0 ≤ 100000) : (nums f).all mayI = true := by
  refine List.all_eq_true.2 fun x hx => ?_
  obtain ⟨i, hi, rfl⟩ := List.mem_iff_getElem.1 hx
  rw [nums_get]
  have h2 := hm i
  generalize f.getD i 0 = y at *
  simp [mayI]; omega
theorem half_take (g : List Nat) {i : Nat} (h : i < g.length) : (Hf.half g).take (i + 1) = (Hf.half g).take i ++ [(g.getD i 0 + 1) / 2] := by
  rw [List.take_succ_eq_append_getElem (by rw [Hf.half_length]; exact h)]
  congr 2
  have := Hf.half_get g i
  rw [List.getD_eq_getElem?_getD, List.getElem?_eq_getElem (by rw [Hf.half_length]; exact h)] at this
  exact this
set_option maxHeartbeats 4000000 in
theorem lens_doc (f : List Nat) (n : Nat) (hfn : f.length = n) (hn : n ≤ 300) (hm : ∀ i, f.getD i 0 ≤ 100000) (p : Option Addr) (cap : Nat) (w : World) (h : IntsLie w p (nums f) cap) :
    Calls Try.prog 42 #[.slice p n cap] w fun e w' => ∃ q c, e = .returned (.slice q n c) ∧ IntsLie w' q (nums (Hf.lens f)) c ∧ Below w.heap.size w w' := by
  have c1 := may_doc (nums f) p cap w h (by rw [nums_len]; omega)
  rw [nums_len, doc_may f hm, hfn, decide_eq_true hn] at c1
  have c2 := once_doc f (by omega) hm p cap w h
  rw [hfn] at c2
  have zn : (n : Int) ≤ 300 := by omega
  have HI := Lib.hid h
  have HM := Lib.hid hm
  have Hn := Lib.hid hfn
  have H3 := Lib.hid hn
  obtain ⟨i0, hi0, hz0, hz1, hz2⟩ := info_parts info3
  clear h hm hn hfn
  go_enter Try.func42, Try.ntmps42
  go_wp2_with fail
  go_at_call 67
  refine c1.mono ?_
  rintro e w1 ⟨rfl, rfl⟩
  go_wp2_with fail
  go_at_call 68
  refine c2.mono ?_
  rintro e w2 ⟨v, rfl, ho, hb⟩
  obtain ⟨q2, d2, rfl⟩ := row_any ho
  have HB := Lib.hid hb
  have HI2 := Lib.hid (HI.out.below hb)
  have HO := Lib.hid (lie_ints ho (by rw [List.length_map, List.length_range]))
  clear c1 c2 ho hb
  go_wp2
  go_loopg [0, 3] (Hf.tot f) (fun gg u v wr => ∃ (g : List Nat) (p1 q1 : Option Addr) (cp cq : Nat), u = .slice p1 n cp ∧ v = .slice q1 n cq ∧ Hid (Hf.tot g ≤ gg) ∧ Hid (g.length = n) ∧ Hid (Hf.lastF g = Hf.lastF f) ∧ Hid (∀ i, g.getD i 0 ≤ 100000) ∧ Hid (IntsLie wr p1 (nums g) cp) ∧ Hid (IntsLie wr q1 (nums ((List.range n).map (Hf.once g))) cq) ∧ Hid (Below w1.heap.size w1 wr))
  case atStart => exact ⟨f, p, q2, cap, d2, rfl, rfl, Nat.le_refl _, Hn.out, rfl, HM.out, HI2.out, by rw [← Hn.out]; rw [Hn.out]; exact HO.out, HB.out⟩
  case round =>
    clear HB HI2 HO
    obtain ⟨g, p1, q1, cp, cq, rfl, rfl, HG, HL, HF, HM1, HP, HQ, HB⟩ := hrel
    have hll : ((List.range n).map (Hf.once g)).length = n := by simp
    have cd := deep_doc (nums ((List.range n).map (Hf.once g))) q1 cq wr HQ.out (by rw [nums_len, hll]; have := H3.out; omega)
    rw [nums_len, hll] at cd
    have hda := doc_deep g
    rw [HL.out] at hda
    rw [hda] at cd
    clear hda hll
    cases hd : Hf.deep g with
    | true =>
      rw [hd] at cd
      have HT : Hid (Hf.tot (Hf.half g) < Hf.tot g) := Hf.deep_half (by rw [HL.out]; exact H3.out) hd
      have HF2 : Hid (Hf.lastF (Hf.half g) = Hf.lastF f) := (Hf.last_step (by rw [HL.out]; exact H3.out) hd).symm.trans HF.out
      have HM2 : Hid (∀ i, (Hf.half g).getD i 0 ≤ 100000) := fun i => by rw [Hf.half_get]; have := HM1.out i; omega
      have HL2 : Hid ((Hf.half g).length = n) := (Hf.half_length g).trans HL.out
      have R0 : Hid ((wr.alloc (.cells #[] 3)).ownsRow wr.heap.size 3 1 (.slice (some ⟨wr.heap.size, 0, none⟩) 0 0) 0 (ints ((Hf.half g).take 0))) :=
        World.ownsRow_made (base := wr.heap.size) (e := 3) (size := 1) wr #[] 0 (Nat.le_refl _) (by decide) rfl
      have B0 := Lib.hid ((Below.refl wr.heap.size wr).alloc (Nat.le_refl _) (.cells #[] 3))
      obtain ⟨w4, hw4⟩ : ∃ w4, w4 = wr := ⟨_, rfl⟩
      have hcp : (n : Int) ≤ cp := by have := HP.out.len; rw [nums_len, HL.out] at this; omega
      rw [← hw4] at cd HP HB R0 B0 ⊢
      clear hd HF HQ hw4
      go_wp2_with fail
      go_at_call 69
      refine cd.mono ?_
      rintro e w5 ⟨rfl, rfl⟩
      clear cd
      go_wp2
      go_loopw [4, 5] (fun v i wr => ∃ k : Nat, i = .int .i64 k ∧ k ≤ n ∧ Hid (wr.ownsRow w5.heap.size 3 1 v k (ints ((Hf.half g).take k))) ∧ Hid (Below w5.heap.size w5 wr)) (fun _ i _ => n - (RowKit.intOf i).toNat)
      case atStart => exact ⟨0, rfl, Nat.zero_le _, R0, B0⟩
      case round =>
        clear R0 B0
        obtain ⟨k, rfl, hk, HR, HW⟩ := hrel
        by_cases hlt : k < n
        · have hkg : k < g.length := by rw [HL.out]; exact hlt
          obtain ⟨blk, off, rfl, hc⟩ := (HP.out.below HW.out).at (i := k) (by rw [nums_len]; exact hkg)
          have cx := hc k (by rw [nums_len]; exact hkg)
          rw [nums_get] at cx
          have HS := Lib.hid (half_take g hkg)
          have hx := HM1.out k
          obtain ⟨y, hy⟩ : ∃ y, y = (g.getD k 0 + 1) / 2 := ⟨_, rfl⟩
          rw [← hy] at HS
          generalize g.getD k 0 = x at *
          have ey : ((x : Int) + 1) / 2 = (y : Int) := by omega
          have kk : (k : Int) < n := by omega
          have o1 := fun O => (HR.out).alloc (w := wr) O
          have o2 := one_int wr y
          have o3 : w5.heap.size ≤ (wr.alloc (.cells #[.int .i64 (y : Int)] 3)).heap.size := by have := HW.out.size; simp; omega
          have HWn := Lib.hid (fun (w3 : World) (row : Option Nat) (gr : World.grownBy (wr.alloc (.cells #[.int .i64 (y : Int)] 3)) w3 row) (hr : ∀ b, row = some b → w5.heap.size ≤ b) => (HW.out.alloc HW.out.size (.cells #[.int .i64 (y : Int)] 3)).grown gr o3 hr)
          have HLt := Lib.hid (HR.out.lt)
          clear hc hy HR HW
          go_wp2_with (first
            | (at_builtin; refine wpList_append_own _ rfl _ _ 50 rfl w5.heap.size 3 i0 (.int .i64 0) 1 8 Try.underlying50 hi0 hz0 hz1 hz2 rfl (by decide) _ k (ints ((Hf.half g).take k)) rfl (o1 _) ⟨wr.heap.size, 0, Option.none⟩ 1 1 (ints [y]) rfl rfl o2 (ints_one _) (by unfold maxLen; omega) (by omega) o3 ?_)
            | go_in)
          intro v1 w3 own1 gr1 nn1
          have HW3 := Lib.hid (HWn.out w3 _ gr1 (fun b hb => (HLt.out b hb).1))
          have HR3 : Hid (w3.ownsRow w5.heap.size 3 1 v1 (k + 1) (ints ((Hf.half g).take (k + 1)))) := by
            show World.ownsRow _ _ _ _ _ _ _
            rw [HS.out]
            unfold ints at own1 ⊢
            rw [List.map_append]
            exact own1
          clear own1 gr1 nn1 o1 o2 o3 HWn HLt HS
          go_wp2
          go_roundw
          case measure => simp [RowKit.intOf]; omega
          case rel => exact ⟨k + 1, by go_num, by omega, HR3, HW3⟩
        · have e : k = n := by omega
          subst e
          obtain ⟨q3, d3, rfl⟩ := row_any HR.out
          have hR := HR.out
          rw [List.take_of_length_le (by rw [HL2.out]; exact Nat.le_refl _)] at hR
          have hI3 := lie_ints hR HL2.out
          have co := once_doc (Hf.half g) (by rw [HL2.out]; exact H3.out) HM2.out q3 d3 wr hI3
          rw [HL2.out] at co
          have HI3 := Lib.hid hI3
          have HB3 := Lib.hid (HB.out.next HW.out)
          clear hR hI3 HR HW hlt
          go_wp2_with fail
          go_at_call 68
          refine co.mono ?_
          rintro e w6 ⟨v6, rfl, ho6, hb6⟩
          obtain ⟨q6, d6, rfl⟩ := row_any ho6
          have HB6 := Lib.hid (HB3.out.next hb6)
          have HI6 := Lib.hid (HI3.out.below hb6)
          have HO6 := Lib.hid (lie_ints ho6 (by simp))
          clear co ho6 hb6 HB3 HI3
          go_wp2
          go_roundg (Hf.tot (Hf.half g))
          case measure => have := HT.out; have := HG.out; omega
          case rel => exact ⟨Hf.half g, q3, q6, d3, d6, rfl, rfl, Nat.le_refl _, HL2, HF2, HM2, HI6, HO6, HB6⟩
    | false =>
      rw [hd] at cd
      have he : Hid (Hf.lens f = (List.range n).map (Hf.once g)) := by
        show _ = _
        unfold Hf.lens
        rw [← HF.out, Hf.last_same hd, Hn.out]
      clear hd HF HM1 HL HP
      go_wp2_with fail
      go_at_call 69
      refine cd.mono ?_
      rintro e w4 ⟨rfl, rfl⟩
      go_wp2
      go_ret
      exact ⟨_, _, rfl, by rw [he.out]; exact HQ.out, HB.out⟩
end Go.Proofs.Ythehjhckcblbdaa
