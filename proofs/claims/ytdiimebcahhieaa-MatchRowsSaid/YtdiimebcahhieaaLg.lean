/-
  match's longest, over a map of places; match.Longest.
-/
import Derived.Test.YtdiimebcahhieaaLm
namespace Go.Proofs.Ytdiimebcahhieaa
open Go.RowKit Go.Lib Mt
theorem ret_two {a b c d : Nat} (h1 : a = c) (h2 : b = d) : Ending.returned (.tuple #[.int .i64 a, .int .i64 b]) = .returned (.tuple #[.int .i64 c, .int .i64 d]) := by rw [h1, h2]
set_option maxRecDepth 100000 in
set_option maxHeartbeats 2000000 in
theorem best_any (s : ByteArray) (hs : s.size ≤ 2000) (b base lo p : Nat) (hlo : lo ≤ p - 255) (hp : p ≤ s.size) (w : World) (h : Grp Try.prog 42 3 .i64 w base b (pos s.data.toList lo p)) :
    Calls Try.prog 16 #[.map (some b), .string s, .int .i64 p] w fun x w' => x = .returned (.tuple #[.int .i64 ((longest s.data.toList p).2 : Nat), .int .i64 ((longest s.data.toList p).1 : Nat)]) ∧ Below w.heap.size w w' := by
  have zs : (s.size : Int) ≤ 2000 := by omega
  have zp : (p : Int) ≤ 2000 := by omega
  have hsl : Hid (s.data.toList.length = s.size) := by show _ = _; simp
  have HL := Lib.hid hlo
  have HG := Lib.hid h
  clear h hlo
  obtain ⟨R1, hR1⟩ : ∃ R, R = (longest s.data.toList p).1 := ⟨_, rfl⟩
  obtain ⟨R2, hR2⟩ : ∃ R, R = (longest s.data.toList p).2 := ⟨_, rfl⟩
  rw [← hR1, ← hR2]
  have HR1 := Lib.hid hR1
  have HR2 := Lib.hid hR2
  clear hR1 hR2
  by_cases h3 : p + 3 ≤ s.size
  · have hc := start_yes s p w hs h3
    rw [at3_is h3] at hc
    obtain ⟨x, y, z, hx⟩ : ∃ x y z, at3 s.data.toList p = K3 x y z := ⟨_, _, _, rfl⟩
    rw [hx] at hc
    replace hx := Lib.hid hx
    simp only [K3] at hc
    obtain ⟨kl, hkl⟩ : ∃ l, keyOf Try.prog 42 (K3 x y z) = some l := key_is _ _ _
    replace hkl := Lib.hid hkl
    go_enter Try.func16, Try.ntmps16
    go_wp2_with (first | (go_at_call 18; (with_reducible refine hc.mono ?_); rintro x w1 ⟨rfl, H1⟩) | (with_reducible refine stop_look ?_))
    unfold Stop
    have B2 := H1.alloc H1.size (Obj.cells #[.int .u8 (x.toNat : Int), .int .u8 (y.toNat : Int), .int .u8 (z.toNat : Int)] 42)
    have G2 := HG.out.later B2
    refine wpList_grp_look _ rfl (.tmp 23) (.tmp 24) 40 rfl law42 Try.underlying40 zero45 rfl G2 (key := K3 x y z) rfl hkl.out ?_
    intro v o3
    rw [← hx.out] at o3
    replace B2 := Lib.hid B2
    have hLl : (posL s.data.toList lo p (at3 s.data.toList p)).length ≤ 2000 := Nat.le_trans (posL_len _ _ _ _) (by omega)
    have hpl : (pos s.data.toList lo p (at3 s.data.toList p)).length = (posL s.data.toList lo p (at3 s.data.toList p)).length := by unfold pos; rw [List.length_map]
    have F0 := Far.start s.data.toList lo p
    have DN : ∀ j d n, Far s.data.toList lo p j d n → (j = 0 ∨ (∃ i, j = i + 1 ∧ ∃ (hi : i < (posL s.data.toList lo p (at3 s.data.toList p)).length), 255 < p - (posL s.data.toList lo p (at3 s.data.toList p))[i]) ∨ 18 ≤ n) → R1 = n ∧ R2 = d := fun j d n f hj => by
      rw [HR1.out, HR2.out, f.done HL.out hj]; exact ⟨rfl, rfl⟩
    have ST := fun j d n k f hj hd hr => Far.step (s := s.data.toList) (lo := lo) (p := p) (j := j) (d := d) (n := n) (k := k) f (by rw [hsl.out]; exact h3) hj hd hr
    have MB : ∀ j (hj : j < (posL s.data.toList lo p (at3 s.data.toList p)).length), (posL s.data.toList lo p (at3 s.data.toList p))[j] < p := fun j hj => (posL_mem.1 (List.getElem_mem hj)).2.1
    have CL : ∀ g cap, v = .slice (some ⟨g, 0, none⟩) (posL s.data.toList lo p (at3 s.data.toList p)).length cap → ∀ j (hj : j < (posL s.data.toList lo p (at3 s.data.toList p)).length), (w1.alloc (Obj.cells #[.int .u8 (x.toNat : Int), .int .u8 (y.toNat : Int), .int .u8 (z.toNat : Int)] 42)).cell? ⟨g, j, none⟩ = some (.int .i64 ((posL s.data.toList lo p (at3 s.data.toList p))[j] : Nat)) := by
      intro g cap hv j hj
      have := o3.1.cells (g := g) (by rw [hv]; rfl) j (.int .i64 ((posL s.data.toList lo p (at3 s.data.toList p))[j] : Nat)) (by unfold pos; simp [hj])
      rwa [Addr.add_lit, Nat.zero_add] at this
    have hform := o3.1.2
    rw [hpl] at hform
    clear o3 G2 HG hkl hpl
    replace F0 := Lib.hid F0
    replace DN := Lib.hid DN
    replace ST := Lib.hid ST
    replace MB := Lib.hid MB
    replace CL := Lib.hid CL
    generalize hLd : posL s.data.toList lo p (at3 s.data.toList p) = L at *
    replace hLd := Lib.hid hLd
    have hLl2 : (L.length : Int) ≤ 2000 := by omega
    generalize hW : w1.alloc (Obj.cells #[.int .u8 (x.toNat : Int), .int .u8 (y.toNat : Int), .int .u8 (z.toNat : Int)] 42) = w2 at *
    clear hW
    rcases hform with ⟨rfl, h0⟩ | ⟨g, cap, cur, rfl, _, _, hcap, hcm, _, _⟩
    · have F1 : Hid (R1 = 0 ∧ R2 = 0) := Lib.hid (DN.out 0 0 0 (by have := F0.out; rw [h0] at this; exact this) (.inl rfl))
      clear F0 DN ST MB CL h0 hLl hLl2
      go_wp2
      go_loopw [10, 11, 13] (fun d n i wr => d = .int .i64 0 ∧ n = .int .i64 0 ∧ i = .int .i64 (-1) ∧ wr = w2) (fun _ _ _ _ => 0)
      case atStart => exact ⟨rfl, rfl, rfl, rfl⟩
      case round =>
        obtain ⟨rfl, rfl, rfl, rfl⟩ := hrel
        go_wp2
        go_ret2
        exact ⟨ret_two F1.out.2.symm F1.out.1.symm, B2.out⟩
    · go_wp2
      have CC := Lib.hid (CL.out g cap rfl)
      have hcap2 : (L.length : Int) ≤ cap := by omega
      rename_i k1 k2 k3 k4 _ _
      clear CL hc k1 k2 k3 k4
      go_loopw [10, 11, 13] (fun d n i wr => ∃ (j dd nn : Nat), j ≤ L.length ∧ i = .int .i64 ((j : Int) - 1) ∧ d = .int .i64 dd ∧ n = .int .i64 nn ∧ Hid (Far s.data.toList lo p j dd nn) ∧ Hid (Below w2.heap.size w2 wr)) (fun _ _ i _ => (RowKit.intOf i + 1).toNat)
      case atStart => exact ⟨L.length, 0, 0, Nat.le_refl _, rfl, rfl, rfl, F0, Lib.hid (Below.refl _ _)⟩
      case round =>
        clear F0
        obtain ⟨j, d, n, hj, rfl, rfl, rfl, HF, HW⟩ := hrel
        have zn : (n : Int) ≤ 18 := by have := HF.out.bound; omega
        have zd : (d : Int) ≤ 255 := by have := HF.out.bound; omega
        cases j with
        | zero =>
          have F1 := Lib.hid (DN.out 0 d n HF.out (.inl rfl))
          go_wp2
          go_ret2
          exact ⟨ret_two F1.out.2.symm F1.out.1.symm, B2.out.next HW.out⟩
        | succ j =>
          have hjl : j < L.length := by omega
          have hjz : (j : Int) < L.length := by omega
          have hji : (((j + 1 : Nat) : Int) - 1) = (j : Int) := by omega
          rw [hji]
          have hcl : wr.cell? ⟨g, j, none⟩ = some (.int .i64 (L[j] : Nat)) := by
            rw [HW.out.cell (p := ⟨g, j, none⟩) (World.block_lt_of_cell? w2 _ (CC.out j hjl))]; exact CC.out j hjl
          have hap := MB.out j hjl
          have hst := ST.out j d n
          have hdn := DN.out (j + 1) d n HF.out
          obtain ⟨a, ha⟩ : ∃ a, L[j] = a := ⟨_, rfl⟩
          obtain ⟨e, he⟩ : ∃ e, p - a = e := ⟨_, rfl⟩
          have hep : (p : Int) - a = e := by omega
          have za : (a : Int) ≤ 2000 := by omega
          have HD1 : Hid (255 < e → R1 = n ∧ R2 = d) := Lib.hid (fun h => hdn (.inr (.inl ⟨j, rfl, hjl, by rw [ha, he]; exact h⟩)))
          have HD2 : Hid (18 ≤ n → R1 = n ∧ R2 = d) := Lib.hid (fun h => hdn (.inr (.inr h)))
          have HST : Hid (e ≤ 255 → ∀ k, Run s.data.toList a p k → (n < k → Far s.data.toList lo p j e k) ∧ (¬ n < k → Far s.data.toList lo p j d n)) := Lib.hid (fun h k hr => by
            have := hst k HF.out hjl (by rw [ha, he]; exact h) (by rw [ha]; exact hr)
            rw [ha, he] at this; exact this)
          rw [ha] at hcl hap
          have hcl3 : ∀ w3, Below wr.heap.size wr w3 → w3.cell? ⟨g, j, none⟩ = some (.int .i64 (a : Nat)) := fun w3 h => by
            rw [h.cell (p := ⟨g, j, none⟩) (World.block_lt_of_cell? wr _ hcl)]; exact hcl
          have hsm := fun w => same_any s a p w hs hap hp
          replace hap := Lib.hid hap
          clear hst hdn ha he hji
          by_cases h255 : e ≤ 255
          · have z255 : (e : Int) ≤ 255 := by omega
            by_cases h18 : n < 18
            · have z18 : (n : Int) ≤ 17 := by omega
              clear zn h18
              go_wp2_with (go_at_call 19; ((with_reducible refine (hsm _).mono ?_); rintro x w3 ⟨k, rfl, HR, H3⟩; have hq := hcl3 _ H3; have zk := HR.top; replace HR := Lib.hid HR; replace H3 := Lib.hid H3))
              · have hlt : n < k := by omega
                have F2 := Lib.hid ((HST.out (by omega) k HR.out).1 hlt)
                go_roundw
                case rel => exact ⟨j, e, k, by omega, by go_num, by go_num, rfl, F2, Lib.hid (HW.out.next H3.out)⟩
                case measure => simp [RowKit.intOf]
              · have hlt : ¬ n < k := by omega
                have F2 := Lib.hid ((HST.out (by omega) k HR.out).2 hlt)
                go_roundw
                case rel => exact ⟨j, d, n, by omega, by go_num, rfl, rfl, F2, Lib.hid (HW.out.next H3.out)⟩
                case measure => simp [RowKit.intOf]
            · have F1 := Lib.hid (HD2.out (by omega))
              have z18 : (18 : Int) ≤ n := by omega
              clear h18
              go_wp2
              go_ret2
              exact ⟨ret_two F1.out.2.symm F1.out.1.symm, B2.out.next HW.out⟩
          · have F1 := Lib.hid (HD1.out (by omega))
            have z255 : (256 : Int) ≤ e := by omega
            clear h255
            go_wp2
            go_ret2
            exact ⟨ret_two F1.out.2.symm F1.out.1.symm, B2.out.next HW.out⟩
  · have hc := start_no s p w hs hp (by omega)
    go_enter Try.func16, Try.ntmps16
    go_wp2_with (go_at_call 18; ((with_reducible refine hc.mono ?_); rintro x w1 ⟨rfl, H1⟩))
    go_ret2
    have e0 := far_none (s := s.data.toList) (p := p) (by rw [hsl.out]; omega)
    exact ⟨ret_two (by rw [HR2.out, e0]) (by rw [HR1.out, e0]), H1.alloc H1.size _⟩
set_option maxHeartbeats 1000000 in
theorem longest_any (s : ByteArray) (hs : s.size ≤ 2000) (p : Nat) (w : World) :
    Calls Try.prog 12 #[.string s, .int .i64 p] w fun x w' => x = .returned (.tuple #[.int .i64 ((longest s.data.toList p).2 : Nat), .int .i64 ((longest s.data.toList p).1 : Nat)]) ∧ Below w.heap.size w w' := by
  have zs : (s.size : Int) ≤ 2000 := by omega
  have hmm := @run_makeMap Try.prog
  have hsl : Hid (s.data.toList.length = s.size) := by show _ = _; simp
  obtain ⟨R1, hR1⟩ : ∃ R, R = (longest s.data.toList p).1 := ⟨_, rfl⟩
  obtain ⟨R2, hR2⟩ : ∃ R, R = (longest s.data.toList p).2 := ⟨_, rfl⟩
  rw [← hR1, ← hR2]
  replace hR1 := Lib.hid hR1
  replace hR2 := Lib.hid hR2
  by_cases hp : p < s.size
  · have hk := fun (lo : Nat) (hl : lo ≤ p) (w : World) h h2 => note_any s hs w.heap.size (w.heap.size + 1) lo lo p (Nat.le_refl _) hl (by omega) (w.alloc (.map #[] 0)) h rfl h2
    have hb := fun lo hl b base w h => best_any s hs b base lo p hl (by omega) w h
    have zl : (p : Int) ≤ 2000 := by omega
    have zp : (p : Int) < s.size := by omega
    have HG : ∀ lo : Nat, Grp Try.prog 42 3 .i64 (w.alloc (.map #[] 0)) (w.heap.size + 1) w.heap.size (pos s.data.toList lo lo) := fun lo => by rw [pos_nil]; exact Grp.made w
    by_cases h255 : 256 ≤ p
    · obtain ⟨lo, hlo⟩ : ∃ lo : Nat, lo = p - 255 := ⟨_, rfl⟩
      have zlo : (p : Int) - 255 = lo := by omega
      have zl1 : (1 : Int) ≤ lo := by omega
      have hk1 := hk lo (by omega) w (HG lo) (by simp)
      have hb1 := hb lo (by omega)
      rw [← hR1.out, ← hR2.out] at hb1
      clear hk hb HG h255 hlo
      go_enter Try.func12, Try.ntmps12
      go_wp2_with (first
        | (go_at_call 17; ((with_reducible refine hk1.mono ?_); rintro x w1 ⟨rfl, G1, T1⟩; replace G1 := Lib.hid G1; replace T1 := Lib.hid T1))
        | (go_at_call 16; ((with_reducible refine (hb1 _ _ _ G1.out).mono ?_); rintro x w2 ⟨rfl, H2⟩)))
      go_ret2
      exact ⟨rfl, ((Below.refl w.heap.size w).alloc (Nat.le_refl _) (.map #[] 0)).trans (T1.out.below.trans (H2.mono (by have := T1.out.below.size; simp at this; omega)))⟩
    · have hk1 := hk 0 (by omega) w (HG 0) (by simp)
      rw [Int.natCast_zero] at hk1
      have hb1 := hb 0 (by omega)
      rw [← hR1.out, ← hR2.out] at hb1
      have zlo : (p : Int) - 255 ≤ 0 := by omega
      clear hk hb HG h255
      go_enter Try.func12, Try.ntmps12
      go_wp2_with (first
        | (go_at_call 17; ((with_reducible refine hk1.mono ?_); rintro x w1 ⟨rfl, G1, T1⟩; replace G1 := Lib.hid G1; replace T1 := Lib.hid T1))
        | (go_at_call 16; ((with_reducible refine (hb1 _ _ _ G1.out).mono ?_); rintro x w2 ⟨rfl, H2⟩)))
      all_goals
        go_ret2
        exact ⟨rfl, ((Below.refl w.heap.size w).alloc (Nat.le_refl _) (.map #[] 0)).trans (T1.out.below.trans (H2.mono (by have := T1.out.below.size; simp at this; omega)))⟩
  · have e0 := far_none (s := s.data.toList) (p := p) (by rw [hsl.out]; omega)
    have HB := Lib.hid (Below.refl w.heap.size w)
    have zp : (s.size : Int) ≤ p := by omega
    go_enter Try.func12, Try.ntmps12
    go_wp2
    go_ret2
    exact ⟨ret_two (by rw [hR2.out, e0]) (by rw [hR1.out, e0]), HB.out⟩
end Go.Proofs.Ytdiimebcahhieaa
