/-
  Contract of the document's Read: the tokens that bits are.
-/
import Derived.Test.YthehjhckcblbdaaPacTk
namespace Go.Proofs.Ythehjhckcblbdaa.Pk
open Go.RowKit Mt Ma Mb Cn Go.Lib
set_option maxRecDepth 100000
/-- what bits are -/
def decodeI (b : List Bool) (many : Int) : Option (List Tok × Nat) := if 0 ≤ many then decode b many.toNat else none
/-- what Read answers -/
def ReadA (R : Option (List Tok × Nat)) (e : Ending) (w' : World) : Prop := match R with
  | some (T, x) => ∃ q c, e = .returned (.tuple #[.slice q T.length c, .int .i64 (x : Nat), .bool true]) ∧ ToksLie w' q T c
  | none => e = .returned (.tuple #[.slice none 0 0, .int .i64 0, .bool false])
theorem row_later {B e s n : Nat} {w w' : World} {v : Value} {xs : List Value} (h : w.ownsRow B e s v n xs) (hb : Below w.heap.size w w') : w'.ownsRow B e s v n xs :=
  h.kept (row := Option.none) ⟨hb.os, hb.tape, hb.output, hb.size, fun k hk _ => hb.block k hk⟩ (Classical.em _)
theorem below_box {C : Nat} {w1 w2 w3 : World} {O : Obj} (hcs : C ≤ w1.heap.size) (h : Below C w1 w2) (H1 : Below (w2.alloc O).heap.size (w2.alloc O) w3) : Below C w1 w3 := by
  have h2 := h.alloc (Nat.le_trans hcs h.size) O
  exact h2.trans (H1.mono (Nat.le_trans hcs h2.size))
theorem may_tok {y s : Nat} (h1 : 1 ≤ y) (h2 : y ≤ 255) (h3 : 256 ≤ s) (h4 : s ≤ 271) : may ⟨0, y, (s : Int) - 253⟩ = true := by
  have := Pk.may_copy (d := y) (n := s - 253) h1 h2 (by omega) (by omega)
  rwa [show ((s - 253 : Nat) : Int) = (s : Int) - 253 by omega] at this
theorem may_zero {s : Nat} (h : 256 ≤ s) : may ⟨0, 0, (s : Int) - 253⟩ = false := by
  have : ¬ (s : Int) - 253 = 0 := by omega
  simp [may, this]
theorem map_more (R : Option (List Tok × Nat)) (T : List Tok) (t : Tok) : ((R.map fun r => (t :: r.1, r.2)).map fun r => (T ++ r.1, r.2)) = R.map fun r => ((T ++ [t]) ++ r.1, r.2) := by
  cases R with
  | none => rfl
  | some r => simp
set_option maxHeartbeats 4000000 in
theorem readp_doc (b : List Bool) (k : Nat) (hb : b.length = k) (hk : k ≤ 100000) (many : Int) (p : Option Addr) (d : Nat) (w : World) (h : FlagsLie w p b d) :
    Calls Try.prog 26 #[.slice p k d, .int .i64 many] w fun e w' => Below w.heap.size w w' ∧ ReadA (decodeI b many) e w' := by
  have arm : many < 0 ∨ 1000 < many ∨ ∃ n : Nat, n ≤ 1000 ∧ many = n := by
    by_cases h1 : many < 0
    · exact .inl h1
    · by_cases h2 : 1000 < many
      · exact .inr (.inl h2)
      · exact .inr (.inr ⟨many.toNat, by omega, by omega⟩)
  rcases arm with h1 | h1 | ⟨n, hn, rfl⟩
  · have HD : Hid (decodeI b many = none) := Lib.hid (if_neg (by omega))
    rw [HD.out]
    have HB := Lib.hid (Below.refl w.heap.size w)
    clear h hb HD
    go_enter Try.func26, Try.ntmps26
    go_wp2
    go_ret3
    exact ⟨HB.out, rfl⟩
  · have HD : Hid (decodeI b many = none) := Lib.hid (by unfold decodeI decode; rw [if_pos (by omega), if_neg (by omega)])
    rw [HD.out]
    have HB := Lib.hid (Below.refl w.heap.size w)
    clear h hb HD
    go_enter Try.func26, Try.ntmps26
    go_wp2
    go_ret3
    exact ⟨HB.out, rfl⟩
  · have HD : Hid (decodeI b n = match rdHead b with
        | none => none
        | some (l, p) => rdToks l b n n 0 p) := Lib.hid (by unfold decodeI decode; rw [if_pos (by omega), Int.toNat_natCast, if_pos hn]; cases rdHead b <;> rfl)
    generalize decodeI b n = Q at HD ⊢
    have HF := Lib.hid h
    have Hb := Lib.hid hb
    have hh := head_doc b k hb (by omega) p d w h
    have zn : (n : Int) ≤ 1000 := by omega
    have hwB : w.heap.size ≤ w.heap.size := Nat.le_refl _
    obtain ⟨B, hB⟩ : ∃ B, B = w.heap.size := ⟨_, rfl⟩
    obtain ⟨i0, hi0, hz0, hz1, hz2⟩ := info_parts infoTok
    rw [← hB] at hh hwB ⊢
    replace hB := Lib.hid hB
    clear h hb
    go_enter Try.func26, Try.ntmps26
    go_wp2_with fail
    go_at_call 51
    refine hh.mono ?_
    rintro e w1 ⟨hw, ha⟩
    replace hw := Lib.hid hw
    clear hh
    rcases ha with ⟨l, x0, q0, c0, hr, rfl, hl⟩ | ⟨hr, v, x, rfl⟩
    · rw [hr] at HD
      simp only at HD
      obtain ⟨hok, hx0, hx1, hlen⟩ := rdHead_end hr
      have HM : Hid (MayC l) := Lib.hid ⟨hok.1, hok.2.1, hok.2.2⟩
      have Hlen := Lib.hid hlen
      rw [Hb.out] at hx1
      replace hl := Lib.hid hl
      have HF1 := Lib.hid (HF.out.below (hB.out ▸ hw.out))
      have R0 : Hid ((w1.alloc (.cells #[] 48)).ownsRow w1.heap.size 48 3 (.slice (some ⟨w1.heap.size, 0, none⟩) 0 0) 0 (tc [])) :=
        World.ownsRow_made (base := w1.heap.size) (e := 48) (size := 3) w1 #[] 0 (Nat.le_refl _) (by decide) rfl
      have B0 : Hid (Below w1.heap.size w1 (w1.alloc (.cells #[] 48))) := Lib.hid ((Below.refl w1.heap.size w1).alloc (Nat.le_refl _) (.cells #[] 48))
      obtain ⟨C, hC⟩ : ∃ C, C = w1.heap.size := ⟨_, rfl⟩
      have hcs : C ≤ w1.heap.size := Nat.le_of_eq hC
      replace R0 : Hid ((w1.alloc (.cells #[] 48)).ownsRow C 48 3 (.slice (some ⟨w1.heap.size, 0, none⟩) 0 0) 0 (tc [])) := by rw [hC]; exact R0
      replace B0 : Hid (Below C w1 (w1.alloc (.cells #[] 48))) := by rw [hC]; exact B0
      have HR : Hid (∀ w2, Below C w1 w2 → ∀ x, Calls Try.prog 52 #[.slice q0 272 c0, .slice p k d, .int .i64 (x : Nat)] w2 fun e w' => Below w2.heap.size w2 w' ∧ e = .returned (.tuple #[.int .i64 ((rk l b x).1 : Nat), .int .i64 ((rk l b x).2.1 : Nat), .bool (rk l b x).2.2])) :=
        Lib.hid fun w2 h2 x => rk_doc l 272 b k x q0 p c0 d w2 HM.out Hlen.out Hb.out hk (hl.out.below (hC ▸ h2)) (HF1.out.below (hC ▸ h2))
      have HT : Hid (∀ w2, Below C w1 w2 → ∀ x, Calls Try.prog 53 #[.slice p k d, .int .i64 (x : Nat), .int .i64 8] w2 fun e w' => e = .returned (.tuple #[.int .i64 ((tk b x 8).1 : Nat), .int .i64 ((tk b x 8).2.1 : Nat), .bool (tk b x 8).2.2]) ∧ w' = w2) :=
        Lib.hid fun w2 h2 x => tk_any b k Hb.out p d x 8 (by decide) (by omega) w2 (HF1.out.below (hC ▸ h2))
      have HW1 : Hid (∀ w2, Below C w1 w2 → Below B w w2) := Lib.hid fun w2 h2 => hw.out.trans (h2.mono (hC ▸ Nat.le_trans (Nat.le_of_eq hB.out) hw.out.size))
      replace hC := Lib.hid hC
      have HQ : Hid ((rdToks l b n n 0 x0).map (fun r => ([] ++ r.1, r.2)) = Q) := Lib.hid (by rw [HD.out]; cases rdToks l b n n 0 x0 <;> simp)
      clear hr hok hlen hk HD
      go_wp2
      go_loopw [8, 10, 11] (fun a v t wr => ∃ (x told f L : Nat) (T : List Tok), a = .int .i64 x ∧ t = .int .i64 told ∧ x ≤ k ∧ told ≤ n ∧ n ≤ told + f ∧ L ≤ told ∧ Hid (T.length = L) ∧ Hid ((rdToks l b n f told x).map (fun r => (T ++ r.1, r.2)) = Q) ∧ Hid (wr.ownsRow C 48 3 v L (tc T)) ∧ Hid (Below C w1 wr)) (fun _ _ t _ => n - (RowKit.intOf t).toNat)
      case atStart => exact ⟨x0, 0, n, 0, [], rfl, rfl, hx1, Nat.zero_le _, by omega, Nat.le_refl _, rfl, HQ, R0, B0⟩
      case round =>
        clear R0 B0 HQ hx0 hx1
        obtain ⟨x, told, f, L, T, rfl, rfl, hx, htold, hf, hL, HL, HE, HO, HW⟩ := hrel
        by_cases hlt : told < n
        · obtain ⟨f, rfl⟩ : ∃ g, f = g + 1 := ⟨f - 1, by omega⟩
          have c1 := HR.out wr HW.out x
          rw [tok_step l b n f told x hlt] at HE
          have le1 := @rk_le l b x
          generalize rk l b x = t1 at c1 HE le1
          obtain ⟨s, nx, ok⟩ := t1
          simp only at c1 HE le1
          obtain ⟨le1, le2⟩ := le1
          rw [Hb.out] at le1
          rw [Hlen.out] at le2
          have ii : (told : Int) < n := by omega
          cases ok with
          | false =>
            have HN : Hid (Q = none) := by show _ = _; rw [← HE.out]; rfl
            go_wp2_with fail
            go_at_call 52
            refine c1.mono ?_
            rintro e w2 ⟨hb2, rfl⟩
            have HW2 := Lib.hid (HW1.out _ (HW.out.trans (hb2.mono (Nat.le_trans hcs HW.out.size))))
            clear c1 hb2
            go_wp2
            go_ret3
            rw [HN.out]
            exact ⟨HW2.out, rfl⟩
          | true =>
            have le2 := le2 rfl
            simp only [if_true] at HE
            go_wp2_with fail
            go_at_call 52
            refine c1.mono ?_
            rintro e w2 ⟨hb2, rfl⟩
            have HW2 := Lib.hid (HW.out.trans (hb2.mono (Nat.le_trans hcs HW.out.size)))
            have HO2 := Lib.hid (row_later HO.out hb2)
            clear c1 hb2 HW HO
            by_cases h256 : s < 256
            · rw [if_pos h256] at HE
              have z256 : (s : Int) < 256 := by omega
              have km : ∀ w, Calls Try.prog 40 #[.agg #[.int .i64 s, .int .i64 0, .int .i64 0]] w fun e w' => e = .returned (.bool true) ∧ Below w.heap.size w w' := fun w => by
                have := may_ref ⟨s, 0, 0⟩ w
                rw [Pk.may_byte (x := s) (by omega)] at this
                exact this
              have q := fun w3 hb => box_cells w2 ⟨s, 0, 0⟩ w3 hb
              have zL : L ≤ 1000 := by omega
              go_wp2_with fail
              go_at_call 40
              refine (km _).mono ?_
              rintro e w3 ⟨rfl, H1⟩
              obtain ⟨q0, q1, q2, q3⟩ := q _ H1
              have HW3 := Lib.hid (below_box hcs HW2.out H1)
              have HO3 := Lib.hid (row_later (HO2.out.alloc _) H1)
              clear q km HW2 HO2 H1
              go_wp2_with (with_reducible refine stop_append ?_)
              unfold Stop
              have o1 := fun O => (HO3.out).alloc (w := w3) O
              have o3 : C ≤ (w3.alloc (.cells #[.int .i64 (s : Int), .int .i64 0, .int .i64 0] 48)).heap.size := by have := HW3.out.size; simp; omega
              refine wpList_append_own _ rfl _ _ 36 rfl C 48 i0 (.agg #[.int .i64 0, .int .i64 0, .int .i64 0]) 3 24 Try.underlying36 hi0 hz0 hz1 hz2 rfl (by decide) _ L (tc T) rfl (o1 _) ⟨w3.heap.size, 0, Option.none⟩ 1 1 (tc [⟨s, 0, 0⟩]) rfl rfl (tok_new w3 ⟨s, 0, 0⟩) (tc_one _) (by unfold maxLen; omega) (by omega) o3 ?_
              intro v4 w4 own4 gr4 nn4
              rw [← tc_append] at own4
              have HW4 := Lib.hid ((HW3.out.alloc (Nat.le_trans hcs HW3.out.size) _).grown gr4 o3 (fun b hb => (HO3.out.lt b hb).1))
              replace own4 := Lib.hid own4
              rw [map_more] at HE
              have HL4 : Hid ((T ++ [(⟨s, 0, 0⟩ : Tok)]).length = L + 1) := Lib.hid (by rw [List.length_append, HL.out]; rfl)
              clear gr4 nn4 o1 o3 HO3 HW3
              go_wp2
              go_roundw
              case measure => simp [RowKit.intOf]; omega
              case rel => exact ⟨nx, told + 1, f, L + 1, _, rfl, by go_num, le1, by omega, by omega, by omega, HL4, HE, own4, HW4⟩
            · rw [if_neg h256] at HE
              have z256 : (256 : Int) ≤ s := by omega
              have zs : (s : Int) ≤ 271 := by omega
              have c2 := HT.out
              have le3 := tk_le b nx 8
              have c3 := fun w3 h3 => HT.out w3 h3 nx
              generalize tk b nx 8 = t2 at c3 le3 HE
              obtain ⟨y, n2, ok⟩ := t2
              simp only at c3 le3 HE
              obtain ⟨le3, le4⟩ := le3
              rw [Hb.out] at le4
              have le3 : y < 256 := le3
              have c4 := c3 (w2.alloc (.cells #[.int .i64 (s : Int), .int .i64 0, .int .i64 0] 48)) (HW2.out.alloc (Nat.le_trans hcs HW2.out.size) _)
              clear c2 c3
              have zL : L ≤ 1000 := by omega
              have es : ((s - 253 : Nat) : Int) = (s : Int) - 253 := by omega
              rw [es] at HE
              have arm : ok = false ∨ (ok = true ∧ y = 0) ∨ (ok = true ∧ 1 ≤ y ∧ told < y) ∨ (ok = true ∧ 1 ≤ y ∧ y ≤ told ∧ n < told + (s - 253)) ∨ (ok = true ∧ 1 ≤ y ∧ y ≤ told ∧ told + (s - 253) ≤ n) := by
                cases ok
                · exact .inl rfl
                · by_cases h1 : y = 0
                  · exact .inr (.inl ⟨rfl, h1⟩)
                  · by_cases h2 : told < y
                    · exact .inr (.inr (.inl ⟨rfl, by omega, h2⟩))
                    · by_cases h3 : n < told + (s - 253)
                      · exact .inr (.inr (.inr (.inl ⟨rfl, by omega, by omega, h3⟩)))
                      · exact .inr (.inr (.inr (.inr ⟨rfl, by omega, by omega, by omega⟩)))
              rcases arm with rfl | ⟨rfl, a1⟩ | ⟨rfl, a1, a2⟩ | ⟨rfl, a1, a2, a3⟩ | ⟨rfl, a1, a2, a3⟩
              · have HN : Hid (Q = none) := by show _ = _; rw [← HE.out, if_neg (fun h => by cases h.1)]; rfl
                clear HE
                have HW3 := Lib.hid (HW2.out.alloc (Nat.le_trans hcs HW2.out.size) (.cells #[.int .i64 (s : Int), .int .i64 0, .int .i64 0] 48))
                clear HW2 HO2
                go_wp2_with fail
                go_at_call 53
                refine c4.mono ?_
                rintro e w3 ⟨rfl, rfl⟩
                clear c4
                go_wp2
                go_ret3
                rw [HN.out]
                exact ⟨HW1.out _ HW3.out, rfl⟩
              · have HN : Hid (Q = none) := by show _ = _; rw [← HE.out, if_neg (fun h => by have := h.2.1; omega)]; rfl
                clear HE
                have km : ∀ w, Calls Try.prog 40 #[.agg #[.int .i64 0, .int .i64 0, .int .i64 ((s : Int) - 253)]] w fun e w' => e = .returned (.bool false) ∧ Below w.heap.size w w' := fun w => by
                  have := may_ref ⟨0, 0, (s : Int) - 253⟩ w
                  rw [may_zero (by omega)] at this
                  exact this
                have q := fun w3 hb => box_cells w2 ⟨0, 0, (s : Int) - 253⟩ w3 hb
                go_wp2_with fail
                go_at_call 53
                refine c4.mono ?_
                rintro e w3 ⟨rfl, rfl⟩
                clear c4
                go_wp2_with fail
                go_at_call 40
                refine (km _).mono ?_
                rintro e w3 ⟨rfl, H1⟩
                obtain ⟨q0, q1, q2, q3⟩ := q _ H1
                have HW3 := Lib.hid (below_box hcs HW2.out H1)
                have HO3 := Lib.hid (row_later (HO2.out.alloc _) H1)
                clear q km HW2 HO2 H1
                go_wp2
                go_ret3
                rw [HN.out]
                exact ⟨HW1.out _ HW3.out, rfl⟩
              · have HN : Hid (Q = none) := by show _ = _; rw [← HE.out, if_neg (fun h => by have := h.2.2.1; omega)]; rfl
                clear HE
                have km : ∀ w, Calls Try.prog 40 #[.agg #[.int .i64 0, .int .i64 (y : Int), .int .i64 ((s : Int) - 253)]] w fun e w' => e = .returned (.bool true) ∧ Below w.heap.size w w' := fun w => by
                  have := may_ref ⟨0, y, (s : Int) - 253⟩ w
                  rw [may_tok a1 (by omega) (by omega) (by omega)] at this
                  exact this
                have q := fun w3 hb => box_cells w2 ⟨0, y, (s : Int) - 253⟩ w3 hb
                have z2 : (told : Int) < y := by omega
                go_wp2_with fail
                go_at_call 53
                refine c4.mono ?_
                rintro e w3 ⟨rfl, rfl⟩
                clear c4
                go_wp2_with fail
                go_at_call 40
                refine (km _).mono ?_
                rintro e w3 ⟨rfl, H1⟩
                obtain ⟨q0, q1, q2, q3⟩ := q _ H1
                have HW3 := Lib.hid (below_box hcs HW2.out H1)
                have HO3 := Lib.hid (row_later (HO2.out.alloc _) H1)
                clear q km HW2 HO2 H1
                go_wp2
                go_ret3
                rw [HN.out]
                exact ⟨HW1.out _ HW3.out, rfl⟩
              · have HN : Hid (Q = none) := by show _ = _; rw [← HE.out, if_neg (fun h => by have := h.2.2.2; omega)]; rfl
                clear HE
                have km : ∀ w, Calls Try.prog 40 #[.agg #[.int .i64 0, .int .i64 (y : Int), .int .i64 ((s : Int) - 253)]] w fun e w' => e = .returned (.bool true) ∧ Below w.heap.size w w' := fun w => by
                  have := may_ref ⟨0, y, (s : Int) - 253⟩ w
                  rw [may_tok a1 (by omega) (by omega) (by omega)] at this
                  exact this
                have q := fun w3 hb => box_cells w2 ⟨0, y, (s : Int) - 253⟩ w3 hb
                have z2 : (y : Int) ≤ told := by omega
                have z3 : (n : Int) < told + ((s : Int) - 253) := by omega
                go_wp2_with fail
                go_at_call 53
                refine c4.mono ?_
                rintro e w3 ⟨rfl, rfl⟩
                clear c4
                go_wp2_with fail
                go_at_call 40
                refine (km _).mono ?_
                rintro e w3 ⟨rfl, H1⟩
                obtain ⟨q0, q1, q2, q3⟩ := q _ H1
                have HW3 := Lib.hid (below_box hcs HW2.out H1)
                have HO3 := Lib.hid (row_later (HO2.out.alloc _) H1)
                clear q km HW2 HO2 H1
                go_wp2
                go_ret3
                rw [HN.out]
                exact ⟨HW1.out _ HW3.out, rfl⟩
              · rw [if_pos ⟨rfl, a1, a2, a3⟩] at HE
                have km : ∀ w, Calls Try.prog 40 #[.agg #[.int .i64 0, .int .i64 (y : Int), .int .i64 ((s : Int) - 253)]] w fun e w' => e = .returned (.bool true) ∧ Below w.heap.size w w' := fun w => by
                  have := may_ref ⟨0, y, (s : Int) - 253⟩ w
                  rw [may_tok a1 (by omega) (by omega) (by omega)] at this
                  exact this
                have q := fun w3 hb => box_cells w2 ⟨0, y, (s : Int) - 253⟩ w3 hb
                have z2 : (y : Int) ≤ told := by omega
                have z3 : told + ((s : Int) - 253) ≤ (n : Int) := by omega
                go_wp2_with fail
                go_at_call 53
                refine c4.mono ?_
                rintro e w3 ⟨rfl, rfl⟩
                clear c4
                go_wp2_with fail
                go_at_call 40
                refine (km _).mono ?_
                rintro e w3 ⟨rfl, H1⟩
                obtain ⟨q0, q1, q2, q3⟩ := q _ H1
                have HW3 := Lib.hid (below_box hcs HW2.out H1)
                have HO3 := Lib.hid (row_later (HO2.out.alloc _) H1)
                clear q km HW2 HO2 H1
                go_wp2_with (with_reducible refine stop_append ?_)
                unfold Stop
                have o1 := fun O => (HO3.out).alloc (w := w3) O
                have o3 : C ≤ (w3.alloc (.cells #[.int .i64 0, .int .i64 (y : Int), .int .i64 ((s : Int) - 253)] 48)).heap.size := by have := HW3.out.size; simp; omega
                refine wpList_append_own _ rfl _ _ 36 rfl C 48 i0 (.agg #[.int .i64 0, .int .i64 0, .int .i64 0]) 3 24 Try.underlying36 hi0 hz0 hz1 hz2 rfl (by decide) _ L (tc T) rfl (o1 _) ⟨w3.heap.size, 0, Option.none⟩ 1 1 (tc [⟨0, y, (s : Int) - 253⟩]) rfl rfl (tok_new w3 ⟨0, y, (s : Int) - 253⟩) (tc_one _) (by unfold maxLen; omega) (by omega) o3 ?_
                intro v4 w4 own4 gr4 nn4
                rw [← tc_append] at own4
                have HW4 := Lib.hid ((HW3.out.alloc (Nat.le_trans hcs HW3.out.size) _).grown gr4 o3 (fun b hb => (HO3.out.lt b hb).1))
                replace own4 := Lib.hid own4
                rw [map_more] at HE
                have HL4 : Hid ((T ++ [(⟨0, y, (s : Int) - 253⟩ : Tok)]).length = L + 1) := Lib.hid (by rw [List.length_append, HL.out]; rfl)
                clear gr4 nn4 o1 o3 HO3 HW3
                go_wp2
                go_roundw
                case measure => simp [RowKit.intOf]; omega
                case rel => exact ⟨n2, told + (s - 253), f, L + 1, _, rfl, by go_num, le4, by omega, by omega, by omega, HL4, HE, own4, HW4⟩
        · have e : told = n := by omega
          subst e
          have HN : Hid (Q = some (T, x)) := by
            show _ = _
            rw [← HE.out, tok_end l b told f told x (Nat.le_refl _)]
            simp
          obtain ⟨q4, c4, rfl, hT⟩ := toks_lie HL.out.symm HO.out
          replace hT := Lib.hid hT
          have HW5 := Lib.hid (HW1.out _ HW.out)
          clear HE HO
          go_wp2
          go_ret3
          rw [HN.out]
          exact ⟨HW5.out, q4, c4, by rw [HL.out]; rfl, hT.out⟩
    · rw [hr] at HD
      replace HD : Hid (Q = none) := HD
      clear hr
      go_wp2
      go_ret3
      rw [HD.out]
      exact ⟨hw.out, rfl⟩
end Go.Proofs.Ythehjhckcblbdaa.Pk
