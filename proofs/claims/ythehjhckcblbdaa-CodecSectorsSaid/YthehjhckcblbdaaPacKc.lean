/-
  The reader's codes: which symbol each code is.
-/
import Derived.Test.YthehjhckcblbdaaPacKl
import Derived.Test.YthehjhckcblbdaaCanX

namespace Go.Proofs.Ythehjhckcblbdaa.Pk
set_option maxRecDepth 100000
open Go.RowKit Go.Lib Mb Cd Cn
theorem wpList_update_run {P : Program} (w : World) {ops : Array Oper} {rest : List Oper} {o : Oper} {a : Act} {Q : Exit → Act → World → Prop}
    (hg : o.guard = none) (m x v : Operand) (t : TypeId) (hop : o.op = Op.mapUpdate t m x v) (mv key val : Value) (hm : a.eval m = mv) (hx : a.eval x = key) (hv : a.eval v = val) {w' : World}
    (hrun : (Instr.mapUpdate t mv key val).run P w = .ok () w') (hK : wpList P ops Q rest (a.put o.dst undef) w') : wpList P ops Q (o :: rest) a w := by
  refine wpList_plain hg fun K' hK' => ?_
  unfold Oper.wp
  simp [execOp, hop, hm, hx, hv, hrun, Result.andThen]
  exact hK' _ _ hK
theorem front_ok {b : List Bool} {l : List Nat} {p : Nat} (h : rdFront b = some (l, p)) : l.length = 272 ∧ (∀ i, l.getD i 0 ≤ 15) ∧ p ≤ b.length ∧ rdHead b = if Hf.kraftN l ≤ 32768 then some (l, p) else none := by
  unfold rdFront at h
  unfold rdHead
  cases hk : takeN b 0 9 with
  | none => rw [hk] at h; cases h
  | some k =>
    rw [hk] at h
    simp only at h ⊢
    obtain ⟨a1, a2, a3, a4⟩ := rdLens_end h
    have h9 := (takeN_in hk).1
    rw [h]
    refine ⟨by rw [a3, List.length_replicate], a4 fun i => ?_, ?_, rfl⟩
    · rw [List.getD_eq_getElem?_getD, List.getElem?_replicate]
      split <;> exact Nat.zero_le _
    · rcases a2 with rfl | a2
      · omega
      · exact a2
theorem front_none {b : List Bool} (h : rdFront b = none) : rdHead b = none := by
  unfold rdFront at h
  unfold rdHead
  cases hk : takeN b 0 9 with
  | none => rfl
  | some k =>
    rw [hk] at h
    simp only at h ⊢
    rw [h]
/-- what codes answers -/
def MapA (R : Option (List Nat × Nat)) (B g : Nat) (q : Option Addr) (m d : Nat) (e : Ending) (w' : World) : Prop := match R with
  | some (l, p) => ∃ bm, e = .returned (.map (some bm)) ∧ B ≤ bm ∧ MapL w' bm l 272 ∧ Rdr w' g q m d p
  | none => e = .panicked noneP
set_option maxHeartbeats 4000000 in
theorem codes_code (b : List Bool) (g : Nat) (q : Option Addr) (m d : Nat) (w : World) (hR : Rdr w g q m d 0) (hq : Bits w g q b d) (hb : b.length = m) :
    Calls Try.prog 77 #[.pointer (some ⟨g, 0, none⟩)] w fun e w' => w.grownBy w' (some g) ∧ MapA (rdHead b) w.heap.size g q m d e w' := by
  have hl := lens_code b g q m d w hR hq hb
  have HY := Lib.hid need_yes
  have HX := Lib.hid need_no
  have hmm := @run_makeMap Try.prog
  cases hf : rdFront b with
  | none =>
    have HE := Lib.hid (front_none hf)
    rw [hf] at hl
    clear hf hR hq hb
    go_enter Try.func77, Try.ntmps77
    go_wp2_with fail
    go_at_call 94
    refine hl.mono ?_
    rintro e w1 ⟨hg1, h1⟩
    replace h1 : e = .panicked noneP := h1
    subst h1
    go_wp2
    exact ⟨rfl, hg1, by rw [HE.out]; exact rfl⟩
  | some lp =>
    obtain ⟨l, p⟩ := lp
    obtain ⟨hlen, h15, hp, hE⟩ := front_ok hf
    rw [hf] at hl
    have HL := Lib.hid hlen
    have H15 := Lib.hid h15
    by_cases hkr : Hf.kraftN l ≤ 32768
    · have HM : Hid (MayC l) := Lib.hid ⟨by omega, h15, hkr⟩
      rw [if_pos hkr] at hE
      rw [hE]
      have hw := hR.lt
      clear hf hR hq hb hE hkr hlen h15 hp
      go_enter Try.func77, Try.ntmps77
      go_wp2_with fail
      go_at_call 94
      refine hl.mono ?_
      rintro e w1 ⟨hg1, h1⟩
      obtain ⟨rfl, hown, hr1⟩ : e = .returned (.slice (some ⟨w.heap.size, 0, Option.none⟩) 272 272) ∧ w1.ownsRow w.heap.size 3 1 (.slice (some ⟨w.heap.size, 0, Option.none⟩) 272 272) 272 (intsN l) ∧ Rdr w1 g q m d p := h1
      have hc := codes_is l 272 (some ⟨w.heap.size, 0, none⟩) 272 w1 HM.out HL.out (lie_own hown HL.out)
      have HG1 := Lib.hid hg1
      have HR1 := Lib.hid hr1
      clear hl hown hg1 hr1
      go_wp2_with fail
      go_at_call 32
      refine hc.mono ?_
      rintro e w2 ⟨hb2, qc, dc, rfl, hco⟩
      have HR2 := Lib.hid (HR1.out.below hb2)
      have HG2 := Lib.hid (grown_trans HG1.out (grown_of hb2 _))
      have HCo := Lib.hid hco
      have hcap : (272 : Int) ≤ dc := by have := hco.len; rw [codesOf_length, HL.out] at this; omega
      clear hc hb2 hco HR1 HG1
      go_wp2_with fail
      go_at_call 93
      refine (HY.out _).mono ?_
      rintro e w3 ⟨rfl, rfl⟩
      have M0 := Lib.hid (MapL.made w3 l)
      have B0 := Lib.hid ((Below.refl w3.heap.size w3).alloc (Nat.le_refl _) (.map #[] 0))
      go_wp2
      go_loopw [19] (fun i wr => ∃ k : Nat, i = .int .i64 k ∧ k ≤ 272 ∧ Hid (MapL wr w3.heap.size l k) ∧ Hid (Below w3.heap.size w3 wr)) (fun i _ => 272 - (RowKit.intOf i).toNat)
      case atStart => exact ⟨0, rfl, Nat.zero_le _, M0, B0⟩
      case round =>
        clear M0 B0
        obtain ⟨k, rfl, hk, HP, HW⟩ := hrel
        by_cases hlt : k < 272
        · have zk : (k : Int) < 272 := by omega
          have hkl : k < (codesOf l).length := by rw [codesOf_length, HL.out]; exact hlt
          obtain ⟨bc, oc, rfl, hA⟩ := (HCo.out.below HW.out).at hkl
          obtain ⟨a1, a2⟩ := hA k hkl
          have hbc : bc < wr.heap.size := World.block_lt_of_cell? wr _ a1
          by_cases h0 : 0 < l.getD k 0
          · rw [codesOf_get l (by rw [HL.out]; exact hlt), codeOf_one h0] at a1 a2
            have e := heap_alloc_new wr (Obj.cells #[.int .i64 (l.getD k 0 : Nat), .int .i64 (bitsOf l k : Nat)] 58)
            have HP1 := HP.out.kept (World.grownBy_alloc wr (.cells #[.int .i64 (l.getD k 0 : Nat), .int .i64 (bitsOf l k : Nat)] 58) Option.none) (by simp)
            obtain ⟨w4, hrun, HP2, hg4⟩ := HP1.store HM.out h0
            have HW4 := Lib.hid (Below.grown (HW.out.alloc HW.out.size (.cells #[.int .i64 (l.getD k 0 : Nat), .int .i64 (bitsOf l k : Nat)] 58)) hg4 (by have := HW.out.size; simp; omega) (fun b hb => by cases hb; exact Nat.le_refl _))
            replace HP2 := Lib.hid HP2
            have z0 : decide (0 < l.getD k 0) = true := decide_eq_true h0
            generalize l.getD k 0 = n at *
            generalize bitsOf l k = v at *
            have HRUN := Lib.hid hrun
            clear hrun HP1 hg4 HP HW hA e hkl h0
            go_wp2_with (first | (at_mapUpdate; refine wpList_update_run _ rfl _ _ _ 94 rfl _ _ _ rfl rfl rfl HRUN.out ?_))
            go_roundw
            case measure => simp [RowKit.intOf]; omega
            case rel => exact ⟨k + 1, by go_num, by omega, HP2, HW4⟩
          · have e0 : l.getD k 0 = 0 := by omega
            rw [codesOf_get l (by rw [HL.out]; exact hlt), codeOf_none (by omega)] at a1 a2
            have HP1 := Lib.hid ((HP.out.kept (World.grownBy_alloc wr (.cells #[.int .i64 0, .int .i64 0] 58) Option.none) (by simp)).skip e0)
            have HW4 := Lib.hid (HW.out.alloc HW.out.size (.cells #[.int .i64 0, .int .i64 0] 58))
            replace a1 : wr.cell? ⟨bc, oc + k * 2, none⟩ = some (.int .i64 0) := a1
            replace a2 : wr.cell? ⟨bc, oc + k * 2 + 1, none⟩ = some (.int .i64 0) := a2
            clear HP HW hA e0 h0 hkl
            go_wp2
            go_roundw
            case measure => simp [RowKit.intOf]; omega
            case rel => exact ⟨k + 1, by go_num, by omega, HP1, HW4⟩
        · have e : k = 272 := by omega
          subst e
          clear hlt hk
          go_wp2
          go_ret
          exact ⟨grown_trans HG2.out (grown_of HW.out _), _, rfl, HG2.out.size, HP.out, HR2.out.below HW.out⟩
    · rw [if_neg hkr] at hE
      rw [hE]
      have HN : Hid (∀ l', MayC l' → nums l ≠ nums l') := Lib.hid fun l' h' e => by rw [nums_inj e] at hkr; exact hkr h'.kraft
      clear hf hR hq hb hE hkr hlen h15 hp
      go_enter Try.func77, Try.ntmps77
      go_wp2_with fail
      go_at_call 94
      refine hl.mono ?_
      rintro e w1 ⟨hg1, h1⟩
      obtain ⟨rfl, hown, hr1⟩ : e = .returned (.slice (some ⟨w.heap.size, 0, Option.none⟩) 272 272) ∧ w1.ownsRow w.heap.size 3 1 (.slice (some ⟨w.heap.size, 0, Option.none⟩) 272 272) 272 (intsN l) ∧ Rdr w1 g q m d p := h1
      have hc := codes_none (nums l) 272 (some ⟨w.heap.size, 0, none⟩) 272 w1 HN.out (by rw [nums_len]; exact HL.out) (by decide) (lie_own hown HL.out)
      have HG1 := Lib.hid hg1
      clear hl hown hg1 hr1
      go_wp2_with fail
      go_at_call 32
      refine hc.mono ?_
      rintro e w2 ⟨hb2, qc, dc, _, rfl⟩
      have HG2 := Lib.hid (grown_trans HG1.out (grown_of hb2 _))
      clear hc hb2 HG1
      go_wp2_with fail
      go_at_call 93
      refine (HX.out _).mono ?_
      rintro e w3 ⟨rfl, rfl⟩
      go_wp2
      exact ⟨rfl, HG2.out, rfl⟩
end Go.Proofs.Ythehjhckcblbdaa.Pk

