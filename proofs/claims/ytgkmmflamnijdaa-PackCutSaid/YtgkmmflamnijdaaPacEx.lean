/-
  The document's Expand of a list of any length, where few bytes are asked for.
-/
import Derived.Test.YtgkmmflamnijdaaPacSm
namespace Go.Proofs.Ytgkmmflamnijdaa.Pk
set_option maxRecDepth 100000
open Go.RowKit Mt Ma Go.Lib
set_option maxHeartbeats 2000000 in
theorem expand_long (T : List Tok) (blk off cap : Nat) (most : Int) (hn : T.length ≤ 281474976710656) (hmost : most ≤ 2000) (w : World) (hT : ToksAt w blk off T) :
    Calls Try.prog 18 #[.slice (some ⟨blk, off, Option.none⟩) T.length cap, .int .i64 most] w fun e w' => e = .returned (told (expand most [] T)) ∧ Below w.heap.size w w' := by
  have zn : (T.length : Int) ≤ 281474976710656 := by omega
  have H0 : Hid (RowU w (w.alloc (.cells #[] 5)) w.heap.size 0 []) := ⟨World.ownsRow_made w #[] 0 (Nat.le_refl _) (by decide) rfl, (Below.refl _ _).alloc (Nat.le_refl _) _⟩
  obtain ⟨i0, hi0, hz0, hz1, hz2⟩ := info_parts info5
  have HT := Lib.hid hT
  clear hT
  generalize hR : expand most [] T = R
  have HR0 : Hid (expand most [] (T.drop 0) = R) := Lib.hid (by rw [List.drop_zero]; exact hR)
  clear hR
  go_enter Try.func18, Try.ntmps18
  go_wp2
  go_loopw [6, 7, 8, 9] (fun v n _ _ wr => ∃ (i g c L : Nat) (o : List UInt8), i ≤ T.length ∧ n = .int .i64 i ∧ v = .slice (some ⟨g, 0, Option.none⟩) L c ∧ Hid (L = o.length) ∧ L ≤ 2000 ∧ Hid (RowU w wr g c o) ∧ Hid (expand most o (T.drop i) = R)) (fun _ n _ _ _ => T.length - (RowKit.intOf n).toNat)
  case atStart => exact ⟨0, _, 0, 0, [], by omega, rfl, rfl, Lib.hid rfl, by omega, H0, HR0⟩
  case round =>
    clear H0 HR0
    obtain ⟨i, g, c, L, o, hi, rfl, rfl, HL, hL, HS, HE⟩ := hrel
    by_cases hlt : i < T.length
    · obtain ⟨c1, c2, c3⟩ := may_at HT.out HS.out.below i hlt
      have HD : Hid (T.drop i = T[i] :: T.drop (i + 1)) := by show _ = _; exact List.drop_eq_getElem_cons hlt
      have ii : (i : Int) < T.length := by omega
      generalize T[i] = t at c1 c2 c3 HD
      have km : ∀ w, Calls Try.prog 26 #[.agg #[.int .i64 t.byte, .int .i64 t.dist, .int .i64 t.len]] w fun e w' => e = .returned (.bool (may t)) ∧ Below w.heap.size w w' := fun w => may_ref t w
      rw [HD.out, expand] at HE
      have arm : may t = false ∨ (may t = true ∧ (L : Int) < t.dist) ∨ (may t = true ∧ t.dist ≤ (L : Int) ∧ t.len = 0) ∨ (may t = true ∧ t.dist ≤ (L : Int) ∧ ¬ t.len = 0) := by
        cases may t
        · exact .inl rfl
        · by_cases h1 : t.dist ≤ (L : Int)
          · by_cases h2 : t.len = 0
            · exact .inr (.inr (.inl ⟨rfl, h1, h2⟩))
            · exact .inr (.inr (.inr ⟨rfl, h1, h2⟩))
          · exact .inr (.inl ⟨rfl, by omega⟩)
      rcases arm with a | ⟨a, a2⟩ | ⟨a, a2, a3⟩ | ⟨a, a2, a3⟩
      · have HR : Hid (R = none) := by show _ = _; rw [← HE.out, a]; rfl
        rw [a] at km
        clear a
        go_wp2_with (go_at_call 26; ((with_reducible refine (km _).mono ?_); rintro e w1 ⟨rfl, H1⟩; replace H1 := Lib.hid H1))
        go_ret2
        rw [HR.out]
        exact ⟨rfl, (belowNew HS.out.below _).next H1.out⟩
      · have HR : Hid (R = none) := by show _ = _; rw [← HE.out, if_neg (by rw [← HL.out]; omega)]
        rw [a] at km
        clear a
        have q := fun w1 (hb : Below (wr.alloc (Obj.cells #[Value.int IntKind.i64 t.byte, Value.int IntKind.i64 t.dist, Value.int IntKind.i64 t.len] 30)).heap.size (wr.alloc (Obj.cells #[Value.int IntKind.i64 t.byte, Value.int IntKind.i64 t.dist, Value.int IntKind.i64 t.len] 30)) w1) => box_cells wr t w1 hb
        go_wp2_with (go_at_call 26; ((with_reducible refine (km _).mono ?_); rintro e w1 ⟨rfl, H1⟩; obtain ⟨q0, q1, q2, q3⟩ := q _ H1; replace H1 := Lib.hid H1))
        go_ret2
        rw [HR.out]
        exact ⟨rfl, (belowNew HS.out.below _).next H1.out⟩
      · obtain ⟨x, hx1, hx2, hx3, hx4⟩ := Ma.may_byte t a a3
        have hx5 : t.dist ≤ (o.length : Int) := by rw [hx2]; omega
        obtain ⟨tb, td, tn⟩ := t
        simp only at hx1 hx2 a3
        subst hx1 hx2 a3
        have hxl : (x.toNat : Int) ≤ 255 := by have := x.toNat_lt; omega
        have hal : (add o ⟨x.toNat, 0, 0⟩).length = o.length + 1 := by rw [hx4]; simp
        rw [a] at km
        rw [hal, hx4] at HE
        have q := fun w1 hb => box_cells wr ⟨x.toNat, 0, 0⟩ w1 hb
        clear hx4 hal hx3
        have zL : L ≤ 36000 := by omega
        go_wp2_with (first
          | (go_at_call 26; ((with_reducible refine (km _).mono ?_); rintro e w1 ⟨rfl, H1⟩; obtain ⟨qb, q0, q1, q2⟩ := q _ H1; have HS1 := Lib.hid (HS.out.later ((Below.refl _ _).alloc (Nat.le_refl _) _ |>.next H1)); have o1 := (fun O => (HS1.out.own).alloc (w := w1) O); rw [← HL.out] at o1; have o2 := one_byte w1 x; have o3 : w.heap.size ≤ (w1.alloc (.cells #[.int .u8 (x.toNat : Int)] 5)).heap.size := (by have := HS1.out.below.size; simp; omega); replace H1 := Lib.hid H1))
          | (at_builtin; refine wpList_append_own _ rfl _ _ 65 rfl w.heap.size 5 i0 (.int .u8 0) 1 1 Try.underlying65 hi0 hz0 hz1 hz2 rfl (by decide) _ L (pb o) rfl (o1 _) ⟨_, 0, Option.none⟩ 1 1 (pb [x]) rfl rfl o2 (pb_one _) (by unfold maxLen; omega) (by omega) o3 ?_)
          | go_in)
        intro v1 w3 own1 gr1 nn1
        obtain ⟨g2, cc, hv1, HN⟩ := HS1.out.more (m := [x]) ((Below.refl _ _).alloc (Nat.le_refl _) (.cells #[.int .u8 (x.toNat : Int)] 5)) (by rw [← HL.out]; exact own1) (by rw [← HL.out]; exact gr1) nn1
        rw [← HL.out] at hv1
        replace hv1 : v1 = .slice (some ⟨g2, 0, Option.none⟩) (L + 1) cc := hv1
        subst hv1
        have hbx := box_grown qb gr1 (by have := (HS.out.own.lt g rfl).2; simp [Value.ownBlock]; omega)
        have qz := box_cell2 hbx
        replace HN := Lib.hid HN
        have HL2 : Hid (L + 1 = (o ++ [x]).length) := by show _ = _; rw [List.length_append, ← HL.out]; rfl
        clear own1 gr1 nn1 o1 o2 o3 HS HS1 H1 q0 q1 q2 km q c1 c2 c3 qb hbx
        go_wp2
        go_loopw [6, 9] (fun v k wz => v = .slice (some ⟨g2, 0, Option.none⟩) (L + 1) cc ∧ k = .int .i64 0 ∧ wz = w3) (fun _ _ _ => 0)
        case atStart => exact ⟨rfl, rfl, rfl⟩
        case round =>
        obtain ⟨rfl, rfl, rfl⟩ := hrel
        by_cases hm : (L : Int) + 1 ≤ most
        · rw [if_pos ⟨a, by omega, by rw [← HL.out]; omega⟩] at HE
          go_wp2
          go_roundw
          case rel => exact ⟨i + 1, g2, cc, _, o ++ [x], by omega, by go_num, rfl, HL2, by omega, HN, HE⟩
          case measure => simp [RowKit.intOf]; omega
        · have HR : Hid (R = none) := by show _ = _; rw [← HE.out, if_neg (by rw [← HL.out]; omega)]
          go_wp2
          go_ret2
          rw [HR.out]
          exact ⟨rfl, HN.out.below⟩
      · obtain ⟨d, n, hx1, hx2, hx3, hx4, hx5, hx6⟩ := Ma.may_copy t a a3
        obtain ⟨tb, td, tn⟩ := t
        simp only at hx1 hx2 hx3
        subst hx1 hx2 hx3
        have hdo : d ≤ o.length := by rw [← HL.out]; simp only at a2; omega
        have hal : add o ⟨0, d, n⟩ = copy o d n := by unfold add; rw [if_neg a3]; simp
        rw [a] at km
        rw [hal] at HE
        have hcl : (copy o d n).length = L + n := by rw [copy_length, HL.out]
        have q := fun w1 hb => box_cells wr ⟨0, d, n⟩ w1 hb
        have zL : L ≤ 36000 := by omega
        have zd : (1 : Int) ≤ d := by omega
        have zd2 : (d : Int) ≤ L := by rw [HL.out]; omega
        have zn2 : (n : Int) ≤ 18 := by omega
        have zn3 : ¬ ((n : Int) = 0) := by omega
        have zL2 : (L : Int) ≤ 36000 := by omega
        have f1 : decide (L < d) = false := decide_eq_false (by omega)
        have f2 : ((n : Int) == 0) = false := by simp; omega
        clear hal a2 a3
        go_wp2_with (first
          | (go_at_call 26; ((with_reducible refine (km _).mono ?_); rintro e w1 ⟨rfl, H1⟩; obtain ⟨qb, q0, q1, q2⟩ := q _ H1; have HS1 := Lib.hid (HS.out.later ((Below.refl _ _).alloc (Nat.le_refl _) _ |>.next H1)); replace H1 := Lib.hid H1))
          | go_in)
        clear km q HS c1 c2 c3
        generalize wr.heap.size = bx at *
        go_loopw [6, 9] (fun v k wz => ∃ (j g2 cc : Nat), j ≤ n ∧ v = .slice (some ⟨g2, 0, Option.none⟩) (L + j) cc ∧ k = .int .i64 j ∧ Hid (RowU w wz g2 cc (copy o d j)) ∧ Hid (wz.heap[bx]? = some (.cells #[.int .i64 0, .int .i64 d, .int .i64 n] 30 (0, 0)))) (fun _ k _ => n - (RowKit.intOf k).toNat)
        case atStart => exact ⟨0, g, c, by omega, rfl, rfl, HS1, Lib.hid qb⟩
        case round =>
          clear HS1 H1 q0 q1 q2 qb
          obtain ⟨j, g2, cc, hj, rfl, rfl, HS2, HQ⟩ := hrel
          have p1 := box_cell1 HQ.out
          have p2 := box_cell2 HQ.out
          by_cases hjn : j < n
          · have hlj : (copy o d j).length = L + j := by rw [copy_length, HL.out]
            obtain ⟨x, hx⟩ : ∃ x, x = (copy o d j).getD (L + j - d) 0 := ⟨_, rfl⟩
            have HP : Hid (copy o d (j + 1) = copy o d j ++ [x]) := by show _ = _; rw [copy_succ, hx, ← HL.out]
            have cx := HS2.out.cell (L + j - d) (by rw [hlj]; omega)
            rw [← hx] at cx
            obtain ⟨y, hy⟩ : ∃ y, y = L + j - d := ⟨_, rfl⟩
            rw [← hy] at cx
            have hyi : (L : Int) + j - d = y := by omega
            have hyl : (y : Int) < L + j := by omega
            have hcap : ((L + j : Nat) : Int) ≤ cc := by have := HS2.out.cap.1; omega
            have zj : (j : Int) < n := by omega
            have zj2 : (j : Int) ≤ 18 := by omega
            have o1 := (fun O => (HS2.out.own).alloc (w := wr) O)
            rw [hlj] at o1
            have o2 := one_byte wr x
            have o3 : w.heap.size ≤ (wr.alloc (.cells #[.int .u8 (x.toNat : Int)] 5)).heap.size := by have := HS2.out.below.size; simp; omega
            have hap := HS2.out.apart HQ.out
            have hylk : Hid (y < L + j) := by show _ < _; omega
            clear hx hy
            go_wp2_with (first
              | (at_builtin; refine wpList_append_own _ rfl _ _ 65 rfl w.heap.size 5 i0 (.int .u8 0) 1 1 Try.underlying65 hi0 hz0 hz1 hz2 rfl (by decide) _ (L + j) (pb (copy o d j)) rfl (o1 _) ⟨_, 0, Option.none⟩ 1 1 (pb [x]) rfl rfl o2 (pb_one _) (by unfold maxLen; omega) (by omega) o3 ?_)
              | go_in)
            intro v1 w3 own1 gr1 nn1
            have hbx := box_grown HQ.out gr1 (by simp [Value.ownBlock]; exact hap)
            obtain ⟨g3, cd, hv1, HN⟩ := HS2.out.more (m := [x]) ((Below.refl _ _).alloc (Nat.le_refl _) (.cells #[.int .u8 (x.toNat : Int)] 5)) (by rw [hlj]; exact own1) (by rw [hlj]; exact gr1) nn1
            rw [hlj] at hv1
            replace hv1 : v1 = .slice (some ⟨g3, 0, Option.none⟩) (L + (j + 1)) cd := hv1
            subst hv1
            rw [← HP.out] at HN
            replace HN := Lib.hid HN
            replace hbx := Lib.hid hbx
            clear own1 gr1 nn1 o1 o2 o3 HS2 HQ p1 p2 cx hlj hcap
            go_wp2
            go_roundw
            case rel => exact ⟨j + 1, g3, cd, by omega, rfl, by go_num, HN, hbx⟩
            case measure => simp [RowKit.intOf]; omega
          · have e : j = n := by omega
            subst e
            have HL2 : Hid (L + j = (copy o d j).length) := Lib.hid hcl.symm
            have hm' : ((copy o d j).length : Int) = L + j := by rw [hcl]; omega
            by_cases hm : (L : Int) + j ≤ most
            · rw [if_pos ⟨a, by omega, by rw [hm']; exact hm⟩] at HE
              clear hcl hm'
              go_wp2
              go_roundw
              case rel => exact ⟨i + 1, g2, cc, _, copy o d j, by omega, by go_num, rfl, HL2, by omega, HS2, HE⟩
              case measure => simp [RowKit.intOf]; omega
            · have HR : Hid (R = none) := by show _ = _; rw [← HE.out, if_neg (by rw [hm']; omega)]
              clear hcl hm'
              go_wp2
              go_ret2
              rw [HR.out]
              exact ⟨rfl, HS2.out.below⟩
    · have e : i = T.length := by omega
      have HR : Hid (R = some o) := by show _ = _; rw [← HE.out, e, List.drop_of_length_le (Nat.le_refl _)]; rfl
      have htx := HS.out.text
      rw [← HL.out] at htx
      subst e
      go_wp2
      go_ret2
      rw [HR.out]
      exact ⟨rfl, HS.out.below⟩
theorem expand_all (T : List Tok) (n : Nat) (hT : T.length = n) (p : Option Addr) (cap : Nat) (most : Int) (hmost : most ≤ 2000) (w : World) (hn : n ≤ 281474976710656) (h : ToksLie w p T cap) :
    Calls Try.prog 18 #[.slice p n cap, .int .i64 most] w fun e w' => e = .returned (told (Mt.expand most [] T)) ∧ Below w.heap.size w w' := by
  subst hT
  rcases h.lies with rfl | ⟨blk, off, rfl, k⟩
  · exact expand_none p cap most w
  · exact expand_long T blk off cap most hn hmost w k
end Go.Proofs.Ytgkmmflamnijdaa.Pk
