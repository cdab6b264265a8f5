/-
  The reader's lens: how long each symbol's code is.
-/
import Derived.Test.YthehjhckcblbdaaPacKs
import Derived.Test.YthehjhckcblbdaaHufX
namespace Go.Proofs.Ythehjhckcblbdaa.Pk
set_option maxRecDepth 100000
open Go.RowKit Go.Lib Mb Cd Cn
theorem rdLens_out1 {b : List Bool} {k : Nat} {last : Int} {p : Nat} {l : List Nat} (h : b.length < p + 9) : rdLens b (k + 1) last p l = none := by
  rw [rdLens, show takeN b p 9 = none from if_neg (by omega)]
theorem rdLens_out2 {b : List Bool} {k : Nat} {last : Int} {p : Nat} {l : List Nat} (h : ¬ (last < ((num ((b.drop p).take 9) : Nat) : Int) ∧ num ((b.drop p).take 9) < 272)) : rdLens b (k + 1) last p l = none := by
  by_cases h9 : p + 9 ≤ b.length
  · rw [rdLens, takeN_some h9]
    cases takeN b (p + 9) 4 with
    | none => rfl
    | some n => simp only; rw [if_neg (fun hh => h ⟨hh.1, hh.2.1⟩)]
  · exact rdLens_out1 (by omega)
theorem rdLens_out3 {b : List Bool} {k : Nat} {last : Int} {p : Nat} {l : List Nat} (h : b.length < p + 9 + 4) : rdLens b (k + 1) last p l = none := by
  rw [rdLens, show takeN b (p + 9) 4 = none from if_neg (by omega)]
  cases takeN b p 9 <;> rfl
theorem rdLens_out4 {b : List Bool} {k : Nat} {last : Int} {p : Nat} {l : List Nat} (h : p + 9 + 4 ≤ b.length) (h0 : num ((b.drop (p + 9)).take 4) = 0) : rdLens b (k + 1) last p l = none := by
  rw [rdLens, takeN_some (show p + 9 ≤ b.length by omega), takeN_some h]
  simp only
  rw [if_neg (fun hh => by have := hh.2.2; omega)]
theorem rdLens_step {b : List Bool} {k : Nat} {last : Int} {p : Nat} {l : List Nat} (h : p + 9 + 4 ≤ b.length) (h1 : last < ((num ((b.drop p).take 9) : Nat) : Int)) (h2 : num ((b.drop p).take 9) < 272) (h3 : 1 ≤ num ((b.drop (p + 9)).take 4)) :
    rdLens b (k + 1) last p l = rdLens b k (num ((b.drop p).take 9) : Nat) (p + 9 + 4) (l.set (num ((b.drop p).take 9)) (num ((b.drop (p + 9)).take 4))) := by
  rw [rdLens, takeN_some (show p + 9 ≤ b.length by omega), takeN_some h]
  simp only
  rw [if_pos ⟨h1, h2, h3⟩]
/-- the lengths, but for whether they may be -/
def rdFront (b : List Bool) : Option (List Nat × Nat) := match takeN b 0 9 with
  | none => none
  | some k => rdLens b k (-1) 9 (List.replicate 272 0)
/-- what lens answers -/
def LensA (R : Option (List Nat × Nat)) (B g : Nat) (q : Option Addr) (m d : Nat) (e : Ending) (w' : World) : Prop := match R with
  | some (l, p) => e = .returned (.slice (some ⟨B, 0, Option.none⟩) 272 272) ∧ w'.ownsRow B 3 1 (.slice (some ⟨B, 0, Option.none⟩) 272 272) 272 (intsN l) ∧ Rdr w' g q m d p
  | none => e = .panicked noneP
/-- a round of lens -/
structure LenR (w wr : World) (g : Nat) (q : Option Addr) (b : List Bool) (m d x : Nat) (l : List Nat) : Prop where
  own : wr.ownsRow w.heap.size 3 1 (.slice (some ⟨w.heap.size, 0, Option.none⟩) 272 272) 272 (intsN l)
  rdr : Rdr wr g q m d x
  bits : Bits w g q b d
  grown : w.grownBy wr (some g)
  gl : g < w.heap.size
  len : l.length = 272
theorem LenR.lies {w wr : World} {g : Nat} {q : Option Addr} {b : List Bool} {m d x : Nat} {l : List Nat} (h : LenR w wr g q b m d x l) : FlagsLie wr q b d :=
  (h.bits.kept h.grown (fun j e => by cases e; exact .inl rfl)).lie
theorem LenR.number {w wr w1 : World} {g : Nat} {q : Option Addr} {b : List Bool} {m d x y : Nat} {l : List Nat} (h : LenR w wr g q b m d x l) (hg : wr.grownBy w1 (some g)) (hR : Rdr w1 g q m d y) : LenR w w1 g q b m d y l :=
  ⟨h.own.kept hg (.inr (fun e => by cases e; exact absurd h.gl (Nat.lt_irrefl _))), hR, h.bits, grown_trans h.grown hg, h.gl, h.len⟩
theorem LenR.put {w wr : World} {g : Nat} {q : Option Addr} {b : List Bool} {m d x s n : Nat} {l : List Nat} (h : LenR w wr g q b m d x l) : LenR w (wr.setCell ⟨w.heap.size, s, Option.none⟩ (.int .i64 (n : Nat))) g q b m d x (l.set s n) := by
  obtain ⟨h1, h2⟩ := h.own.stored s (.int .i64 (n : Nat))
  rw [← Go.Proofs.Ythehjhckcblbdaa.ints_set] at h1
  exact ⟨h1, h.rdr.kept h2 (fun e => by cases e; exact absurd h.gl (Nat.lt_irrefl _)), h.bits, grown_two h.grown h2 (Nat.le_refl _), h.gl, by rw [List.length_set]; exact h.len⟩
theorem LenR.start {w : World} {g : Nat} {q : Option Addr} {b : List Bool} {m d x : Nat} (hR : Rdr w g q m d x) (hq : Bits w g q b d) : LenR w (w.alloc (.cells (madeCells #[.int .i64 0] 272) 3)) g q b m d x (List.replicate 272 0) :=
  have hg : ∀ row, w.grownBy (w.alloc (.cells (madeCells #[.int .i64 0] 272) 3)) row := fun row => World.grownBy_alloc w _ _
  ⟨made_row w 272 (by decide), hR.kept (hg Option.none) (by simp), hq, hg _, hR.lt, List.length_replicate⟩
theorem LenR.cell {w wr : World} {g : Nat} {q : Option Addr} {b : List Bool} {m d x s : Nat} {l : List Nat} (h : LenR w wr g q b m d x l) (hs : s < 272) : wr.cell? ⟨w.heap.size, s, Option.none⟩ = some (.int .i64 (l.getD s 0 : Nat)) ∧ wr.frozen? ⟨w.heap.size, s, Option.none⟩ = false :=
  ⟨(h.own.cellAt s (by omega)).trans (ints_at l s (by rw [h.len]; exact hs)), h.own.frozenAt s⟩
set_option maxHeartbeats 4000000 in
theorem lens_code (b : List Bool) (g : Nat) (q : Option Addr) (m d : Nat) (w : World) (hR : Rdr w g q m d 0) (hq : Bits w g q b d) (hb : b.length = m) :
    Calls Try.prog 94 #[.pointer (some ⟨g, 0, none⟩)] w fun e w' => w.grownBy w' (some g) ∧ LensA (rdFront b) w.heap.size g q m d e w' := by
  have mk : ∀ w : World, (Instr.makeSlice 50 (.int .i64 272) (.int .i64 272)).run Try.prog w = .ok (.slice (some ⟨w.heap.size, 0, none⟩) 272 272) (w.alloc (.cells (madeCells #[.int .i64 0] 272) 3)) := fun w => make_row 272 (by decide) w
  have H0 := LenR.start hR hq
  have HB := Lib.hid hb
  obtain ⟨C, hC⟩ : ∃ C, C = madeCells #[.int .i64 0] 272 := ⟨_, rfl⟩
  rw [← hC] at H0 mk
  have HY := Lib.hid need_yes
  have HX := Lib.hid need_no
  clear hR hq hb hC
  by_cases h9 : 0 + 9 ≤ m
  · have hn := number_yes b g q m d 0 9 _ H0.rdr H0.lies HB.out (by decide) h9
    have hk : num ((b.drop 0).take 9) ≤ 511 := by
      have h1 := num_lt ((b.drop 0).take 9)
      have h2 : 2 ^ ((b.drop 0).take 9).length ≤ 2 ^ 9 := Nat.pow_le_pow_right (by decide) (by rw [List.length_take]; omega)
      omega
    have HF : Hid (rdFront b = rdLens b (num ((b.drop 0).take 9)) (-1) 9 (List.replicate 272 0)) := Lib.hid (by unfold rdFront; rw [takeN_some (by rw [HB.out]; exact h9)])
    have HN := Lib.hid (fun w1 h1 h2 => H0.number (w1 := w1) (y := 0 + 9) h1 h2)
    generalize num ((b.drop 0).take 9) = k at *
    rw [HF.out]
    obtain ⟨R, hRR⟩ : ∃ R, R = rdLens b k (-1) 9 (List.replicate 272 0) := ⟨_, rfl⟩
    rw [← hRR]
    have HRR : Hid (rdLens b (k - 0) (-1) 9 (List.replicate 272 0) = R) := Lib.hid hRR.symm
    have zk : (k : Int) ≤ 511 := by omega
    clear hRR HF H0
    go_enter Try.func94, Try.ntmps94
    go_wp2_with fail
    go_at_call 100
    refine hn.mono ?_
    rintro e w1 ⟨rfl, hg1, hr1⟩
    have H1 := Lib.hid (HN.out w1 hg1 hr1)
    clear hn hg1 hr1 HN mk
    go_wp2
    go_loopw [4, 9] (fun a i wr => ∃ (j : Nat) (last : Int) (p : Nat) (l : List Nat), i = .int .i64 j ∧ j ≤ k ∧ a = .int .i64 last ∧ -1 ≤ last ∧ last ≤ 271 ∧ Hid (rdLens b (k - j) last p l = R) ∧ Hid (LenR w wr g q b m d p l)) (fun _ i _ => k - (RowKit.intOf i).toNat)
    case atStart => exact ⟨0, -1, 9, List.replicate 272 0, rfl, Nat.zero_le _, rfl, by omega, by omega, HRR, H1⟩
    case round =>
      clear HRR H1
      obtain ⟨j, last, p, l, rfl, hj, rfl, hl1, hl2, HRR, HR⟩ := hrel
      by_cases hlt : j < k
      · have zj : (j : Int) < k := by omega
        have ek : k - j = (k - (j + 1)) + 1 := by omega
        rw [ek] at HRR
        by_cases hp9 : p + 9 ≤ m
        · have hn := number_yes b g q m d p 9 wr HR.out.rdr HR.out.lies HB.out (by decide) hp9
          have hs : num ((b.drop p).take 9) ≤ 511 := by
            have h1 := num_lt ((b.drop p).take 9)
            have h2 : 2 ^ ((b.drop p).take 9).length ≤ 2 ^ 9 := Nat.pow_le_pow_right (by decide) (by rw [List.length_take]; omega)
            omega
          have ho2 := Lib.hid (fun h => HRR.out.symm.trans (rdLens_out2 h))
          have ho3 := Lib.hid (fun h => HRR.out.symm.trans (rdLens_out3 h))
          have ho4 := Lib.hid (fun h h' => HRR.out.symm.trans (rdLens_out4 h h'))
          have hst := Lib.hid (fun h h' h2 h3 => (rdLens_step h h' h2 h3).symm.trans HRR.out)
          generalize num ((b.drop p).take 9) = s at *
          have zs : (s : Int) ≤ 511 := by omega
          have e9 : ((9 : Nat) : Int) = 9 := rfl
          rw [e9] at hn
          clear HRR e9 ek
          have arm : (s : Int) ≤ last ∨ (last < (s : Int) ∧ 272 ≤ s) ∨ (last < (s : Int) ∧ s < 272) := by omega
          rcases arm with a | ⟨a, a2⟩ | ⟨a, a2⟩
          · have HE : Hid (R = none) := Lib.hid (ho2.out (by omega))
            clear ho2 ho3 ho4 hst
            go_wp2_with fail
            go_at_call 100
            refine hn.mono ?_
            rintro e w2 ⟨rfl, hg2, hr2⟩
            have H2 := Lib.hid (HR.out.number hg2 hr2)
            clear hn hg2 hr2 HR
            go_wp2_with fail
            go_at_call 93
            refine (HX.out _).mono ?_
            rintro e w3 ⟨rfl, rfl⟩
            go_wp2
            exact ⟨rfl, H2.out.grown, by rw [HE.out]; exact rfl⟩
          · have HE : Hid (R = none) := Lib.hid (ho2.out (by omega))
            have z272 : decide ((s : Int) < 272) = false := decide_eq_false (by omega)
            clear ho2 ho3 ho4 hst
            go_wp2_with fail
            go_at_call 100
            refine hn.mono ?_
            rintro e w2 ⟨rfl, hg2, hr2⟩
            have H2 := Lib.hid (HR.out.number hg2 hr2)
            clear hn hg2 hr2 HR
            go_wp2_with fail
            go_at_call 93
            refine (HX.out _).mono ?_
            rintro e w3 ⟨rfl, rfl⟩
            go_wp2
            exact ⟨rfl, H2.out.grown, by rw [HE.out]; exact rfl⟩
          · have z272 : (s : Int) < 272 := by omega
            go_wp2_with fail
            go_at_call 100
            refine hn.mono ?_
            rintro e w2 ⟨rfl, hg2, hr2⟩
            have H2 := Lib.hid (HR.out.number hg2 hr2)
            clear hn hg2 hr2 HR ho2
            go_wp2_with fail
            go_at_call 93
            refine (HY.out _).mono ?_
            rintro e w3 ⟨rfl, rfl⟩
            obtain ⟨w2, rfl⟩ : ∃ w2, w2 = w3 := ⟨_, rfl⟩
            by_cases hp13 : p + 9 + 4 ≤ m
            · have hn := number_yes b g q m d (p + 9) 4 w2 H2.out.rdr H2.out.lies HB.out (by decide) hp13
              have e4 : ((4 : Nat) : Int) = 4 := rfl
              rw [e4] at hn
              have hn15 : num ((b.drop (p + 9)).take 4) ≤ 15 := by
                have h1 := num_lt ((b.drop (p + 9)).take 4)
                have h2 : 2 ^ ((b.drop (p + 9)).take 4).length ≤ 2 ^ 4 := Nat.pow_le_pow_right (by decide) (by rw [List.length_take]; omega)
                omega
              generalize num ((b.drop (p + 9)).take 4) = n at *
              have zn : (n : Int) ≤ 15 := by omega
              clear e4
              go_wp2_with fail
              go_at_call 100
              refine hn.mono ?_
              rintro e w4 ⟨rfl, hg4, hr4⟩
              have H4 := Lib.hid (H2.out.number hg4 hr4)
              obtain ⟨c1, f1⟩ := H4.out.cell a2
              have H5 := Lib.hid (H4.out.put (s := s) (n := n))
              obtain ⟨c2, f2⟩ := H5.out.cell a2
              have eg : (l.set s n).getD s 0 = n := by
                rw [List.getD_eq_getElem?_getD, List.getElem?_set_self (by rw [H4.out.len]; exact a2)]; rfl
              rw [eg] at c2
              clear hn hg4 hr4 H2 H4 eg
              by_cases h0 : n = 0
              · have HE : Hid (R = none) := Lib.hid (ho4.out (by rw [HB.out]; exact hp13) h0)
                subst h0
                clear ho3 ho4 hst
                go_wp2_with fail
                go_at_call 93
                refine (HX.out _).mono ?_
                rintro e w3 ⟨rfl, rfl⟩
                go_wp2
                exact ⟨rfl, H5.out.grown, by rw [HE.out]; exact rfl⟩
              · have z1 : decide (0 < n) = true := decide_eq_true (by omega)
                have HE := Lib.hid (hst.out (by rw [HB.out]; exact hp13) a a2 (by omega))
                clear ho3 ho4 hst
                go_wp2_with fail
                go_at_call 93
                refine (HY.out _).mono ?_
                rintro e w3 ⟨rfl, rfl⟩
                go_wp2
                go_roundw
                case measure => simp [RowKit.intOf]; omega
                case rel => exact ⟨j + 1, s, p + 9 + 4, l.set s n, by go_num, by omega, rfl, by omega, by omega, HE, H5⟩
            · have HE : Hid (R = none) := Lib.hid (ho3.out (by rw [HB.out]; omega))
              have ho := number_out b g q m d (p + 9) 4 w2 H2.out.rdr H2.out.lies HB.out (by decide) (by omega)
              have e4 : ((4 : Nat) : Int) = 4 := rfl
              rw [e4] at ho
              clear ho3 ho4 hst e4
              go_wp2_with fail
              go_at_call 100
              refine ho.mono ?_
              rintro e w4 ⟨rfl, hg4⟩
              have HG := Lib.hid (grown_trans H2.out.grown hg4)
              clear hg4 ho
              go_wp2
              exact ⟨rfl, HG.out, by rw [HE.out]; exact rfl⟩
        · have HE : Hid (R = none) := Lib.hid (HRR.out.symm.trans (rdLens_out1 (by rw [HB.out]; omega)))
          have ho := number_out b g q m d p 9 wr HR.out.rdr HR.out.lies HB.out (by decide) (by omega)
          have e9 : ((9 : Nat) : Int) = 9 := rfl
          rw [e9] at ho
          clear HRR e9 ek
          go_wp2_with fail
          go_at_call 100
          refine ho.mono ?_
          rintro e w4 ⟨rfl, hg4⟩
          have HG := Lib.hid (grown_trans HR.out.grown hg4)
          clear hg4 ho
          go_wp2
          exact ⟨rfl, HG.out, by rw [HE.out]; exact rfl⟩
      · have e : j = k := by omega
        subst e
        have HE : Hid (R = some (l, p)) := Lib.hid (by rw [← HRR.out, Nat.sub_self]; rfl)
        clear hlt HRR
        go_wp2
        go_ret
        exact ⟨HR.out.grown, by rw [HE.out]; exact ⟨rfl, HR.out.own, HR.out.rdr⟩⟩
  · have ho := number_out b g q m d 0 9 _ H0.rdr H0.lies HB.out (by decide) (by omega)
    have HG := Lib.hid (fun (w1 : World) h1 => grown_trans H0.grown (c := w1) h1)
    have HF : Hid (rdFront b = none) := Lib.hid (by unfold rdFront; rw [show takeN b 0 9 = none from if_neg (by rw [HB.out]; omega)])
    have e9 : ((9 : Nat) : Int) = 9 := rfl
    rw [e9] at ho
    clear e9 H0
    go_enter Try.func94, Try.ntmps94
    go_wp2_with fail
    go_at_call 100
    refine ho.mono ?_
    rintro e w1 ⟨rfl, hg1⟩
    go_wp2
    exact ⟨rfl, HG.out w1 hg1, by rw [HF.out]; exact rfl⟩
end Go.Proofs.Ythehjhckcblbdaa.Pk

