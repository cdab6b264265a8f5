/-
  Contract of the document's lens: the lengths that stand ahead.
-/
import Derived.Test.YthehjhckcblbdaaPacSy
import Derived.Test.YthehjhckcblbdaaHufDl
import Derived.Test.YthehjhckcblbdaaCanD
namespace Go.Proofs.Ythehjhckcblbdaa.Pk
open Go.RowKit Mt Mb Go.Lib
set_option maxRecDepth 100000
/-- what Take answers -/
def tk (b : List Bool) (x n : Nat) : Nat × Nat × Bool := match takeN b x n with
  | some v => (v, x + n, true)
  | none => (0, 0, false)
theorem tk_le (b : List Bool) (x n : Nat) : (tk b x n).1 < 2 ^ n ∧ (tk b x n).2.1 ≤ b.length := by
  unfold tk
  cases h : takeN b x n with
  | none => exact ⟨Nat.pow_pos (by decide), Nat.zero_le _⟩
  | some v => exact ⟨take_lt h, (takeN_in h).1⟩
theorem tk_any (b : List Bool) (k : Nat) (hk : b.length = k) (p : Option Addr) (c x n : Nat) (hn : n ≤ 30) (hl : k ≤ 1000000) (w : World) (h : FlagsLie w p b c) :
    Calls Try.prog 53 #[.slice p k c, .int .i64 x, .int .i64 n] w fun e w' => e = .returned (.tuple #[.int .i64 ((tk b x n).1 : Nat), .int .i64 ((tk b x n).2.1 : Nat), .bool (tk b x n).2.2]) ∧ w' = w := by
  subst hk
  by_cases hc : x + n ≤ b.length
  · refine (take_doc b p c x n hn hc hl w h).mono ?_
    rintro e w1 ⟨rfl, rfl⟩
    have e1 : tk b x n = (num ((b.drop x).take n), x + n, true) := by unfold tk; rw [takeN_some hc]
    rw [e1]
    exact ⟨rfl, rfl⟩
  · refine (take_not b p c n (x : Int) hn (Or.inr (by omega)) hl w).mono ?_
    rintro e w1 ⟨rfl, rfl⟩
    have e1 : tk b x n = (0, 0, false) := by unfold tk takeN; rw [if_neg hc]
    rw [e1]
    exact ⟨rfl, rfl⟩
theorem rd_step (b : List Bool) (m : Nat) (last : Int) (p : Nat) (l : List Nat) : rdLens b (m + 1) last p l =
    if (tk b p 9).2.2 = true ∧ (tk b (tk b p 9).2.1 4).2.2 = true ∧ last < ((tk b p 9).1 : Int) ∧ (tk b p 9).1 < 272 ∧ 1 ≤ (tk b (tk b p 9).2.1 4).1 then
      rdLens b m (tk b p 9).1 (tk b (tk b p 9).2.1 4).2.1 (l.set (tk b p 9).1 (tk b (tk b p 9).2.1 4).1) else none := by
  rw [rdLens]
  cases h1 : takeN b p 9 with
  | none =>
    have e1 : tk b p 9 = (0, 0, false) := by unfold tk; rw [h1]
    rw [e1]; simp
  | some s =>
    have e1 : tk b p 9 = (s, p + 9, true) := by unfold tk; rw [h1]
    rw [e1]
    cases h2 : takeN b (p + 9) 4 with
    | none =>
      have e2 : tk b (p + 9) 4 = (0, 0, false) := by unfold tk; rw [h2]
      simp only [e2]; simp
    | some n =>
      have e2 : tk b (p + 9) 4 = (n, p + 13, true) := by unfold tk; rw [h2]
      simp only [e2]; simp
theorem head_tk (b : List Bool) : rdHead b = if (tk b 0 9).2.2 = true then (match rdLens b (tk b 0 9).1 (-1) (tk b 0 9).2.1 (List.replicate 272 0) with
    | none => none
    | some (l, p) => if Hf.kraftN l ≤ 32768 then some (l, p) else none) else none := by
  unfold rdHead
  cases h1 : takeN b 0 9 with
  | none =>
    have e1 : tk b 0 9 = (0, 0, false) := by unfold tk; rw [h1]
    rw [e1]; simp
  | some s =>
    have e1 : tk b 0 9 = (s, 9, true) := by unfold tk; rw [h1]
    rw [e1]; rfl
theorem ints_set (l : List Nat) (i x : Nat) : ints (l.set i x) = (ints l).set i (.int .i64 (x : Nat)) := by unfold ints; rw [List.map_set]
theorem le_set {l : List Nat} (h : ∀ i, l.getD i 0 ≤ 15) (s : Nat) {n : Nat} (hn : n ≤ 15) : ∀ i, (l.set s n).getD i 0 ≤ 15 := fun i => by
  rw [List.getD_eq_getElem?_getD, List.getElem?_set]
  split
  · split
    · exact hn
    · exact Nat.zero_le _
  · rw [← List.getD_eq_getElem?_getD]; exact h i
/-- what lens answers -/
def HeadA (b : List Bool) (e : Ending) (w' : World) : Prop :=
  (∃ l p q c, rdHead b = some (l, p) ∧ e = .returned (.tuple #[.slice q 272 c, .int .i64 (p : Nat), .bool true]) ∧ IntsLie w' q (nums l) c) ∨ (rdHead b = none ∧ ∃ v x, e = .returned (.tuple #[v, x, .bool false]))
set_option maxHeartbeats 4000000 in
theorem head_doc (b : List Bool) (k : Nat) (hb : b.length = k) (hk : k ≤ 1000000) (p : Option Addr) (d : Nat) (w : World) (h : FlagsLie w p b d) :
    Calls Try.prog 51 #[.slice p k d] w fun e w' => Below w.heap.size w w' ∧ HeadA b e w' := by
  have R0 : Hid ((w.alloc (.cells #[] 3)).ownsRow w.heap.size 3 1 (.slice (some ⟨w.heap.size, 0, none⟩) 0 0) 0 (ints (List.replicate 0 0))) :=
    World.ownsRow_made (base := w.heap.size) (e := 3) (size := 1) w #[] 0 (Nat.le_refl _) (by decide) rfl
  have B0 := Lib.hid ((Below.refl w.heap.size w).alloc (Nat.le_refl _) (.cells #[] 3))
  have zk : (k : Int) ≤ 1000000 := by omega
  have HF := Lib.hid h
  have HT := Lib.hid (fun (x n : Nat) (hn : n ≤ 30) (w1 : World) (hw : Below w.heap.size w w1) => tk_any b k hb p d x n hn hk w1 (h.below hw))
  obtain ⟨i0, hi0, hz0, hz1, hz2⟩ := info_parts info3
  obtain ⟨Z, hZ⟩ : ∃ Z, List.replicate 272 0 = Z := ⟨_, rfl⟩
  have HH := Lib.hid (head_tk b)
  rw [hZ] at HH
  have L0 : Hid (Z.length = 272 ∧ ∀ i, Z.getD i 0 ≤ 15) := Lib.hid ⟨by rw [← hZ]; exact List.length_replicate, fun i => by
    rw [← hZ, List.getD_eq_getElem?_getD, List.getElem?_replicate]; split <;> simp⟩
  replace hZ := Lib.hid hZ
  have Hb := Lib.hid hb
  obtain ⟨B, hB⟩ : ∃ B, B = w.heap.size := ⟨_, rfl⟩
  have HB := Lib.hid hB
  rw [← hB] at R0 HT B0
  replace B0 : Hid (Below B w (w.alloc (.cells #[] 3))) := B0
  have hbs : B ≤ w.heap.size := Nat.le_of_eq hB
  replace R0 : Hid ((w.alloc (.cells #[] 3)).ownsRow B 3 1 (.slice (some ⟨w.heap.size, 0, none⟩) 0 0) 0 (ints (List.replicate 0 0))) := by
    rw [← hB]; exact R0
  rw [← hB]
  clear h hb hk hB
  go_enter Try.func51, Try.ntmps51
  go_wp2
  go_loopw [5, 6] (fun v i wr => ∃ j : Nat, i = .int .i64 j ∧ j ≤ 272 ∧ Hid (wr.ownsRow B 3 1 v j (ints (List.replicate j 0))) ∧ Hid (Below B w wr)) (fun _ i _ => 272 - (RowKit.intOf i).toNat)
  case atStart => exact ⟨0, rfl, Nat.zero_le _, R0, B0⟩
  case round =>
    clear R0 B0
    obtain ⟨j, rfl, hj, HR, HW⟩ := hrel
    by_cases hlt : j < 272
    · have o1 := fun O => (HR.out).alloc (w := wr) O
      have o2 := one_int wr 0
      have o3 : B ≤ (wr.alloc (.cells #[.int .i64 (0 : Int)] 3)).heap.size := by have := HW.out.size; simp; omega
      have HWn := Lib.hid (fun (w3 : World) (row : Option Nat) (gr : World.grownBy (wr.alloc (.cells #[.int .i64 (0 : Int)] 3)) w3 row) (hr : ∀ b, row = some b → B ≤ b) => (HW.out.alloc (Nat.le_trans hbs HW.out.size) (.cells #[.int .i64 (0 : Int)] 3)).grown gr o3 hr)
      have HLt := Lib.hid (HR.out.lt)
      clear HR HW
      go_wp2_with (first
        | (at_builtin; refine wpList_append_own _ rfl _ _ 50 rfl B 3 i0 (.int .i64 0) 1 8 Try.underlying50 hi0 hz0 hz1 hz2 rfl (by decide) _ j (ints (List.replicate j 0)) rfl (o1 _) ⟨wr.heap.size, 0, Option.none⟩ 1 1 (ints [0]) rfl rfl o2 (ints_one _) (by unfold maxLen; omega) (by omega) o3 ?_)
        | go_in)
      intro v1 w3 own1 gr1 nn1
      have HW3 := Lib.hid (HWn.out w3 _ gr1 (fun b hb => (HLt.out b hb).1))
      have HR3 : Hid (w3.ownsRow B 3 1 v1 (j + 1) (ints (List.replicate (j + 1) 0))) := by
        show World.ownsRow _ _ _ _ _ _ _
        rw [← zeros_succ]
        exact own1
      clear own1 gr1 nn1 o1 o2 o3 HWn HLt
      go_wp2
      go_roundw
      case measure => simp [RowKit.intOf]; omega
      case rel => exact ⟨j + 1, by go_num, by omega, HR3, HW3⟩
    · have e : j = 272 := by omega
      subst e
      clear hlt hj
      rw [hZ.out] at HR
      obtain ⟨g, c, rfl, hc1, hc2, _, hgB⟩ := row_form HR.out (by decide)
      have c1 := HT.out 0 9 (by decide) wr HW.out
      have le1 := tk_le b 0 9
      generalize tk b 0 9 = t1 at c1 le1 HH
      obtain ⟨s1, n1, f1⟩ := t1
      simp only at c1 le1 HH
      obtain ⟨le1, le2⟩ := le1
      rw [Hb.out] at le2
      have le1 : s1 < 512 := le1
      cases f1 with
      | false =>
        go_wp2_with fail
        go_at_call 53
        refine c1.mono ?_
        rintro e w1 ⟨rfl, rfl⟩
        clear c1
        go_wp2
        go_ret3
        exact ⟨HW.out, .inr ⟨by rw [HH.out]; rfl, _, _, rfl⟩⟩
      | true =>
        rw [if_pos rfl] at HH
        generalize hR : rdLens b s1 (-1) n1 Z = R at HH
        replace hR : Hid (rdLens b (s1 - 0) (-1) n1 Z = R) := hR
        go_wp2_with fail
        go_at_call 53
        refine c1.mono ?_
        rintro e w1 ⟨rfl, rfl⟩
        clear c1
        have zc : (272 : Int) ≤ c := by omega
        go_wp2
        go_loopw [8, 10, 11] (fun a t i wr => ∃ (x j : Nat) (last : Int) (l : List Nat), a = .int .i64 x ∧ t = .int .i64 last ∧ i = .int .i64 j ∧ j ≤ s1 ∧ x ≤ k ∧ -1 ≤ last ∧ last ≤ 271 ∧ Hid (l.length = 272 ∧ ∀ i, l.getD i 0 ≤ 15) ∧ Hid (rdLens b (s1 - j) last x l = R) ∧ Hid (wr.ownsRow B 3 1 (.slice (some ⟨g, 0, none⟩) 272 c) 272 (ints l)) ∧ Hid (Below B w wr)) (fun _ _ i _ => s1 - (RowKit.intOf i).toNat)
        case atStart => exact ⟨n1, 0, -1, _, rfl, rfl, rfl, Nat.zero_le _, le2, by omega, by omega, L0, hR, HR, HW⟩
        case round =>
          clear hR L0 HR HW
          obtain ⟨x, j, last, l, rfl, rfl, rfl, hj, hx, hla1, hla2, HL, HR, HO, HW⟩ := hrel
          by_cases hlt : j < s1
          · have c1 := HT.out x 9 (by decide) wr HW.out
            have e0 : s1 - j = (s1 - (j + 1)) + 1 := by omega
            rw [e0, rd_step] at HR
            have le3 := tk_le b x 9
            generalize tk b x 9 = t2 at c1 le3 HR
            obtain ⟨s2, n2, f2⟩ := t2
            simp only at c1 le3 HR
            obtain ⟨le3, le4⟩ := le3
            have le3 : s2 < 512 := le3
            have c2 := HT.out n2 4 (by decide) wr HW.out
            have le5 := tk_le b n2 4
            generalize tk b n2 4 = t3 at c2 le5 HR
            obtain ⟨s3, n3, f3⟩ := t3
            simp only at c2 le5 HR
            obtain ⟨le5, le6⟩ := le5
            rw [Hb.out] at le4 le6
            have le5 : s3 < 16 := le5
            have jj : (j : Int) < s1 := by omega
            clear e0
            by_cases hok : f2 = true ∧ f3 = true ∧ last < (s2 : Int) ∧ s2 < 272 ∧ 1 ≤ s3
            · rw [if_pos hok] at HR
              obtain ⟨rfl, rfl, h1, h2, h3⟩ := hok
              have cl := ints_get HO.out (i := s2) (by rw [HL.out.1]; exact h2)
              have fz := HO.out.frozenAt s2
              obtain ⟨st1, st2⟩ := HO.out.stored s2 (.int .i64 (s3 : Nat))
              rw [← ints_set] at st1
              have HW5 : Hid (Below B w (wr.setCell ⟨g, s2, none⟩ (.int .i64 (s3 : Nat)))) := Lib.hid (HW.out.grown st2 (Nat.le_trans hbs HW.out.size) fun b hb => by cases hb; exact hgB)
              have HL5 : Hid ((l.set s2 s3).length = 272 ∧ ∀ i, (l.set s2 s3).getD i 0 ≤ 15) := Lib.hid ⟨by rw [List.length_set]; exact HL.out.1, le_set HL.out.2 s2 (by omega)⟩
              replace st1 := Lib.hid st1
              generalize l[s2]'_ = y at cl
              clear st2 HO HW HL
              have zs2 : (s2 : Int) < 272 := by omega
              have zs3 : ((s3 : Int) == 0) = false := by simp; omega
              go_wp2_with fail
              go_at_call 53
              refine c1.mono ?_
              rintro e w1 ⟨rfl, rfl⟩
              clear c1
              go_wp2_with fail
              go_at_call 53
              refine c2.mono ?_
              rintro e w1 ⟨rfl, rfl⟩
              clear c2
              go_wp2
              go_roundw
              case measure => simp [RowKit.intOf]; omega
              case rel => exact ⟨n3, j + 1, s2, _, rfl, rfl, by go_num, by omega, le6, by omega, by omega, HL5, HR, st1, HW5⟩
            · rw [if_neg hok] at HR
              have arm : f2 = false ∨ (f2 = true ∧ f3 = false) ∨ (f2 = true ∧ f3 = true ∧ (s2 : Int) ≤ last) ∨ (f2 = true ∧ f3 = true ∧ last < (s2 : Int) ∧ (272 : Int) ≤ s2) ∨ (f2 = true ∧ f3 = true ∧ last < (s2 : Int) ∧ (s2 : Int) < 272 ∧ s3 = 0) := by
                cases f2
                · exact .inl rfl
                · cases f3
                  · exact .inr (.inl ⟨rfl, rfl⟩)
                  · by_cases h1 : last < (s2 : Int)
                    · by_cases h2 : s2 < 272
                      · refine .inr (.inr (.inr (.inr ⟨rfl, rfl, h1, by omega, ?_⟩)))
                        by_cases h3 : 1 ≤ s3
                        · exact (hok ⟨rfl, rfl, h1, h2, h3⟩).elim
                        · omega
                      · exact .inr (.inr (.inr (.inl ⟨rfl, rfl, h1, by omega⟩)))
                    · exact .inr (.inr (.inl ⟨rfl, rfl, by omega⟩))
              have HN : Hid (rdHead b = none) := by show _ = _; rw [HH.out, ← HR.out]
              clear hok HH HR HL HO
              rcases arm with rfl | ⟨rfl, rfl⟩ | ⟨rfl, rfl, a1⟩ | ⟨rfl, rfl, a1, a2⟩ | ⟨rfl, rfl, a1, a2, rfl⟩
              all_goals
                go_wp2_with fail
                go_at_call 53
                refine c1.mono ?_
                rintro e w1 ⟨rfl, rfl⟩
                clear c1
                go_wp2_with fail
                go_at_call 53
                refine c2.mono ?_
                rintro e w1 ⟨rfl, rfl⟩
                clear c2
                go_wp2
                go_ret3
                exact ⟨HW.out, .inr ⟨HN.out, _, _, rfl⟩⟩
          · have e : j = s1 := by omega
            subst e
            have e1 : R = some (l, x) := by rw [← HR.out, Nat.sub_self]; rfl
            subst e1
            simp only at HH
            have hi := lie_ints HO.out HL.out.1
            have cc := codes_doc (nums l) 272 (by rw [nums_len]; exact HL.out.1) (some ⟨g, 0, none⟩) c wr hi (by decide)
            go_wp2_with fail
            go_at_call 71
            refine cc.mono ?_
            rintro e w2 ⟨hb2, hq⟩
            have HW2 := Lib.hid (HW.out.trans (hb2.mono (Nat.le_trans hbs HW.out.size)))
            have HI2 := Lib.hid (hi.below hb2)
            clear cc hi hb2
            rcases hq with ⟨l', hm, he, q, d2, rfl, _⟩ | ⟨hm, q, d2, _, rfl⟩
            · have el := nums_inj he
              subst el
              have HN : Hid (rdHead b = some (l, x)) := by show _ = _; rw [HH.out, if_pos hm.kraft]
              clear HH HR HO HW hm he
              go_wp2
              go_ret3
              exact ⟨HW2.out, .inl ⟨l, x, _, _, HN.out, rfl, HI2.out⟩⟩
            · have HN : Hid (rdHead b = none) := by
                show _ = _
                rw [HH.out, if_neg]
                exact fun hk => hm l ⟨by rw [HL.out.1]; decide, HL.out.2, hk⟩ rfl
              clear HH HR HO HW hm
              go_wp2
              go_ret3
              exact ⟨HW2.out, .inr ⟨HN.out, _, _, rfl⟩⟩
end Go.Proofs.Ythehjhckcblbdaa.Pk
