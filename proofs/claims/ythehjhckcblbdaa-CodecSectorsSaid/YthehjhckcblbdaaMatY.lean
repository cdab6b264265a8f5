/-
  match.May, match.length, match.appendToken.
-/
import Derived.Test.YthehjhckcblbdaaMatD
import Derived.BigQuiet
import Derived.Test.YthehjhckcblbdaaMatX
import Derived.WalkMore
namespace Go.Proofs.Ythehjhckcblbdaa.Ma
set_option maxRecDepth 100000
open Go.RowKit Mt Go.Lib
set_option maxHeartbeats 1000000 in
theorem may_any (t : Tok) (w : World) : Calls Try.prog 55 #[tokV t] w fun e w' => e = .returned (.bool (may t)) ∧ Below w.heap.size w w' := by
  have hB := Lib.hid (fun o => (Below.refl w.heap.size w).alloc (Nat.le_refl _) o)
  obtain ⟨b, d, n⟩ := t
  unfold tokV
  generalize hv : may ⟨b, d, n⟩ = v
  have HV := Lib.hid hv
  clear hv
  go_enter Try.func55, Try.ntmps55
  go_wp2
  all_goals
    go_ret
    refine ⟨ret_bool ?_, hB.out _⟩
    rw [← HV.out]
    simp only [may]
    clear HV hB
    try simp only [beq_iff_eq, beq_eq_false_iff_ne, ne_eq] at *
    split <;> (rw [Bool.eq_iff_iff]; simp only [Bool.and_eq_true, decide_eq_true_eq, Bool.false_eq_true]; constructor <;> intro hx <;> first | exact hx.elim | omega)
set_option maxHeartbeats 1000000 in
theorem length_any (t : Tok) (w : World) (h : t.len ≤ 18) : Calls Try.prog 79 #[tokV t] w fun e w' => e = .returned (.int .i64 (max t.len 1)) ∧ Below w.heap.size w w' := by
  have hB := Lib.hid (fun o => (Below.refl w.heap.size w).alloc (Nat.le_refl _) o)
  obtain ⟨b, d, n⟩ := t
  unfold tokV
  simp only at h ⊢
  go_enter Try.func79, Try.ntmps79
  go_wp2
  all_goals
    go_ret
    exact ⟨ret_int (by omega), hB.out _⟩
theorem row_apart {B b g cap n : Nat} {w : World} {xs : List Value} {c : Array Value} (h : w.ownsRow B 5 1 (.slice (some ⟨g, 0, none⟩) n cap) n xs) (hb : w.heap[b]? = some (.cells c 48 (0, 0))) : ¬ g = b := by
  rintro rfl
  rcases h.2 with ⟨h1, _⟩ | ⟨g', cap', cur, h1, _, h2, _⟩
  · cases h1
  · cases h1
    rw [h2] at hb
    cases hb
set_option maxHeartbeats 2000000 in
theorem append_any (B : Nat) (v : Value) (o : List UInt8) (t : Tok) (w : World) (hB : B ≤ w.heap.size) (hown : w.ownsRow B 5 1 v o.length (pb o)) (hm : may t = true) (hd : t.dist ≤ (o.length : Int)) (hl : o.length ≤ 36000) :
    Calls Try.prog 80 #[v, tokV t] w fun e w' => ∃ v', e = .returned v' ∧ w'.ownsRow B 5 1 v' (add o t).length (pb (add o t)) ∧ Below B w w' := by
  obtain ⟨i0, hi0, hz0, hz1, hz2⟩ := info_parts info5
  by_cases a : t.len = 0
  · obtain ⟨x, hx1, hx2, hx3, hx4⟩ := may_byte t hm a
    rw [hx4]
    obtain ⟨tb, td, tn⟩ := t
    simp only at hx1 hx2 a
    subst hx1 hx2 a
    have hxl : (x.toNat : Int) ≤ 255 := by have := x.toNat_lt; omega
    have o1 := fun O O' => (hown.alloc O).alloc O'
    have HO := Lib.hid hown
    have o2 := one_byte (w.alloc (Obj.cells #[Value.int IntKind.i64 x.toNat, Value.int IntKind.i64 0, Value.int IntKind.i64 0] 48)) x
    rw [show (w.alloc (Obj.cells #[Value.int IntKind.i64 x.toNat, Value.int IntKind.i64 0, Value.int IntKind.i64 0] 48)).heap.size = w.heap.size + 1 by simp] at o2
    clear hx4 hx3 hm hd hown
    unfold tokV
    simp only
    go_enter Try.func80, Try.ntmps80
    go_wp2_with (with_reducible refine stop_append ?_)
    unfold Stop
    refine wpList_append_own _ rfl _ _ 66 rfl B 5 i0 (.int .u8 0) 1 1 Try.underlying66 hi0 hz0 hz1 hz2 rfl (by decide) v o.length (pb o) rfl (o1 _ _) ⟨_, 0, Option.none⟩ 1 1 (pb [x]) rfl rfl o2 (pb_one _) (by unfold maxLen; omega) (by omega) (by simp; omega) ?_
    intro v1 w3 own1 gr1 nn1
    have hb : Below B w w3 := (((Below.refl B w).alloc hB _).alloc (by simp; omega) _).grown gr1 (by simp; omega) (fun b hb => (HO.out.lt b hb).1)
    replace hb := Lib.hid hb
    replace own1 := Lib.hid own1
    clear gr1 nn1 o1 o2
    go_wp2
    go_ret
    exact ⟨v1, rfl, by have := own1.out; simpa [pb] using this, hb.out⟩
  · obtain ⟨d, n, hx1, hx2, hx3, hx4, hx5, hx6⟩ := may_copy t hm a
    obtain ⟨tb, td, tn⟩ := t
    simp only at hx1 hx2 hx3 a hd
    subst hx1 hx2 hx3
    have hal : add o ⟨0, d, n⟩ = copy o d n := by unfold add; rw [if_neg a]; simp
    rw [hal]
    obtain ⟨L, hL⟩ : ∃ L, L = o.length := ⟨_, rfl⟩
    rw [← hL] at hown hd hl
    have hn0 : 0 < L := by omega
    obtain ⟨g, c, rfl⟩ : ∃ g c, v = .slice (some ⟨g, 0, Option.none⟩) L c := by
      rcases hown.2 with ⟨_, h0⟩ | ⟨g, c, cur, h1, _⟩
      · omega
      · exact ⟨g, c, h1⟩
    have H0 : Hid ((w.alloc (.cells #[.int .i64 0, .int .i64 d, .int .i64 n] 48)).ownsRow B 5 1 (.slice (some ⟨g, 0, Option.none⟩) L c) (copy o d 0).length (pb (copy o d 0))) := by
      show World.ownsRow _ _ _ _ _ _ _
      rw [copy, ← hL]; exact hown.alloc _
    have HX0 := box_cells w ⟨0, d, n⟩ _ (Below.refl _ _)
    have HB0 := Lib.hid ((Below.refl B w).alloc hB (.cells #[.int .i64 0, .int .i64 d, .int .i64 n] 48))
    have zd2 : (d : Int) ≤ L := by omega
    have hdL : Hid (d ≤ L) := by show _ ≤ _; omega
    have zd1 : (1 : Int) ≤ d := by omega
    have zn1 : (1 : Int) ≤ n := by omega
    have zn2 : (n : Int) ≤ 18 := by omega
    have zL2 : (L : Int) ≤ 36000 := by omega
    have zn3 : ¬ ((n : Int) = 0) := by omega
    have HL := Lib.hid hL
    have HBs : Hid (B ≤ w.heap.size) := Lib.hid hB
    obtain ⟨bx, hbx⟩ : ∃ bx, bx = w.heap.size := ⟨_, rfl⟩
    obtain ⟨X0, X1, X2, X3⟩ := HX0
    rw [← hbx] at X0 X1 X2 X3
    replace X0 := Lib.hid X0
    replace hbx := Lib.hid hbx
    clear hal hm hd hown hL hB a
    unfold tokV
    simp only
    go_enter Try.func80, Try.ntmps80
    go_wp2
    rw [← hbx.out]
    generalize w.alloc (.cells #[.int .i64 0, .int .i64 d, .int .i64 n] 48) = w2 at *
    go_loopw [0, 16] (fun v k wz => ∃ (j g2 cc : Nat), j ≤ n ∧ v = .slice (some ⟨g2, 0, Option.none⟩) (L + j) cc ∧ k = .int .i64 j ∧ Hid (wz.ownsRow B 5 1 (.slice (some ⟨g2, 0, Option.none⟩) (L + j) cc) (copy o d j).length (pb (copy o d j))) ∧ Hid (Below B w wz) ∧ Hid (wz.heap[bx]? = some (.cells #[.int .i64 0, .int .i64 d, .int .i64 n] 48 (0, 0)))) (fun _ k _ => n - (RowKit.intOf k).toNat)
    case atStart => exact ⟨0, g, c, by omega, rfl, rfl, H0, HB0, X0⟩
    case round =>
      clear H0 HB0 X0 X1 X2 X3
      obtain ⟨j, g2, cc, hj, rfl, rfl, HS2, HB2, HQ⟩ := hrel
      have p1 := box_cell1 HQ.out
      have p2 := box_cell2 HQ.out
      have hlj : (copy o d j).length = L + j := by rw [copy_length, HL.out]
      by_cases hjn : j < n
      · obtain ⟨x, hx⟩ : ∃ x, x = (copy o d j).getD (L + j - d) 0 := ⟨_, rfl⟩
        have HP : Hid (copy o d (j + 1) = copy o d j ++ [x]) := by show _ = _; rw [copy_succ, hx, ← HL.out]
        have hs2 := HS2.out
        rw [hlj] at hs2
        have cx : wr.cell? ⟨g2, L + j - d, Option.none⟩ = some (.int .u8 (x.toNat : Int)) := by
          have := hs2.cells (g := g2) rfl (L + j - d) (.int .u8 (x.toNat : Int)) (by
            unfold pb
            have h1 : L + j - d < (copy o d j).length := by rw [hlj]; have := hdL.out; omega
            rw [List.getElem?_map, List.getElem?_eq_getElem h1, hx, List.getD_eq_getElem?_getD, List.getElem?_eq_getElem h1]; rfl)
          rwa [Addr.add_lit, Nat.zero_add] at this
        obtain ⟨y, hy⟩ : ∃ y, y = L + j - d := ⟨_, rfl⟩
        rw [← hy] at cx
        have hyi : (L : Int) + j - d = y := by have := hdL.out; omega
        have hyl : (y : Int) < L + j := by omega
        have hcap : ((L + j : Nat) : Int) ≤ cc := by
          rcases hs2.2 with ⟨h1, _⟩ | ⟨g', cap', cur, h1, _, _, h2, h3, _⟩
          · cases h1
          · cases h1; omega
        have zj : (j : Int) < n := by omega
        have zj2 : (j : Int) ≤ 18 := by omega
        have o1 := (fun O => hs2.alloc (w := wr) O)
        have o2 := one_byte wr x
        have o3 : B ≤ (wr.alloc (.cells #[.int .u8 (x.toNat : Int)] 5)).heap.size := by have := HB2.out.size; have := HBs.out; simp; omega
        have hap := row_apart hs2 HQ.out
        replace hs2 := Lib.hid hs2
        clear hx hy
        go_wp2_with (with_reducible refine stop_append ?_)
        unfold Stop
        refine wpList_append_own _ rfl _ _ 66 rfl B 5 i0 (.int .u8 0) 1 1 Try.underlying66 hi0 hz0 hz1 hz2 rfl (by decide) _ (L + j) (pb (copy o d j)) rfl (o1 _) ⟨_, 0, Option.none⟩ 1 1 (pb [x]) rfl rfl o2 (pb_one _) (by unfold maxLen; omega) (by omega) o3 ?_
        intro v1 w3 own1 gr1 nn1
        have gr2 : (wr.alloc (Obj.cells #[.int .u8 (x.toNat : Int)] 5)).grownBy w3 (some g2) := gr1
        have hbx3 := Lib.hid (box_grown HQ.out gr2 (by simp; exact hap))
        obtain ⟨g3, cd, rfl⟩ := own_some own1 (fun e => by have := (nn1.1 e).2; omega)
        have HN : Hid (w3.ownsRow B 5 1 (.slice (some ⟨g3, 0, Option.none⟩) (L + (j + 1)) cd) (copy o d (j + 1)).length (pb (copy o d (j + 1)))) := by
          show World.ownsRow _ _ _ _ _ _ _
          rw [HP.out, List.length_append, hlj]
          simpa [pb, Nat.add_assoc] using own1
        have HB3 : Hid (Below B w w3) := Lib.hid ((HB2.out.alloc (by have := HB2.out.size; have := HBs.out; omega) _).grown gr2 (by have := HB2.out.size; have := HBs.out; simp; omega) (fun b hb => by cases hb; exact (hs2.out.lt g2 rfl).1))
        clear own1 gr1 gr2 nn1 o1 o2 o3 HS2 HB2 HQ p1 p2 cx hlj hcap hs2
        go_wp2
        go_roundw
        case rel => exact ⟨j + 1, g3, cd, by omega, rfl, by go_num, HN, HB3, hbx3⟩
        case measure => simp [RowKit.intOf]; omega
      · have e : j = n := by omega
        subst e
        clear hlj
        go_wp2
        go_ret
        exact ⟨_, rfl, HS2.out, HB2.out⟩
end Go.Proofs.Ythehjhckcblbdaa.Ma
/-
  match.Expand: what tokens tell.
-/
namespace Go.Proofs.Ythehjhckcblbdaa.Ma
set_option maxRecDepth 100000
open Go.RowKit Mt Go.Lib
theorem may_len {t : Tok} (h : may t = true) : t.len ≤ 18 ∧ 0 ≤ t.len := by
  by_cases a : t.len = 0
  · omega
  · obtain ⟨d, n, h1, h2, h3, h4, h5, h6⟩ := may_copy t h a
    omega
theorem add_max (o : List UInt8) {t : Tok} (h : may t = true) : ((add o t).length : Int) = o.length + max t.len 1 := by
  have := may_len h
  rw [add_len]
  split
  · rename_i e; rw [e]; omega
  · omega
theorem row_text {B : Nat} {w : World} {v : Value} {o : List UInt8} (h : w.ownsRow B 5 1 v o.length (pb o)) : (convert 66 9 v).run Try.prog w = .ok (.string ⟨o.toArray⟩) w := by
  rcases h.2 with ⟨rfl, h0⟩ | ⟨g, cap, cur, rfl, _⟩
  · obtain rfl : o = [] := List.length_eq_zero_iff.1 h0
    exact run_convert_bytes_nil w 66 5 Try.underlying66 Try.underlying5 0 0 9 Try.underlying9
  · refine run_convert_bytes_back w 66 9 5 ⟨g, 0, Option.none⟩ cap o Try.underlying66 Try.underlying5 Try.underlying9 (fun j hj => ?_)
    exact h.cells (g := g) rfl j (.int .u8 (o[j].toNat : Int)) (by unfold pb; rw [List.getElem?_map, List.getElem?_eq_getElem hj]; rfl)
theorem row_later {B e size n : Nat} {w w1 : World} {v : Value} {xs : List Value} (h : w.ownsRow B e size v n xs) (hb : Below w.heap.size w w1) : w1.ownsRow B e size v n xs :=
  h.kept (row := Option.none) ⟨hb.os, hb.tape, hb.output, hb.size, fun k hk _ => hb.block k hk⟩ (by cases h : v.ownBlock <;> simp)
theorem row_form {B : Nat} {w : World} {v : Value} {n : Nat} {xs : List Value} (h : w.ownsRow B 5 1 v n xs) : ∃ ao c, v = .slice ao n c := by
  rcases h.2 with ⟨rfl, rfl⟩ | ⟨g, cap, cur, rfl, _⟩
  · exact ⟨_, _, rfl⟩
  · exact ⟨_, _, rfl⟩
set_option maxHeartbeats 2000000 in
theorem expand_any (T : List Tok) (blk off cap : Nat) (most : Int) (hn : T.length ≤ 2000) (w : World) (hT : ToksAt w blk off T) :
    Calls Try.prog 49 #[.slice (some ⟨blk, off, Option.none⟩) T.length cap, .int .i64 most] w fun e w' => e = .returned (told (expand most [] T)) ∧ Below w.heap.size w w' := by
  have zn : (T.length : Int) ≤ 2000 := by omega
  have HT := Lib.hid hT
  clear hT
  generalize hR : expand most [] T = R
  have HR0 : Hid (expand most [] (T.drop 0) = R) := Lib.hid (by rw [List.drop_zero]; exact hR)
  clear hR
  have H0 : Hid (w.ownsRow w.heap.size 5 1 (.slice Option.none 0 0) ([] : List UInt8).length (pb [])) := Lib.hid (World.ownsRow_nil _ _ _ _)
  go_enter Try.func49, Try.ntmps49
  go_wp2
  go_loopw [6, 11] (fun v n wr => ∃ (i L c : Nat) (ao : Option Addr) (o : List UInt8), i ≤ T.length ∧ n = .int .i64 i ∧ v = .slice ao L c ∧ Hid (L = o.length) ∧ L ≤ 18 * i ∧ Hid (wr.ownsRow w.heap.size 5 1 (.slice ao L c) o.length (pb o)) ∧ Hid (Below w.heap.size w wr) ∧ Hid (expand most o (T.drop i) = R)) (fun _ n _ => T.length - (RowKit.intOf n).toNat)
  case atStart => exact ⟨0, 0, 0, Option.none, [], by omega, rfl, rfl, Lib.hid rfl, by omega, H0, Lib.hid (Below.refl _ _), HR0⟩
  case round =>
    clear H0 HR0
    obtain ⟨i, L, c, ao, o, hi, rfl, rfl, HL, hL, HS, HW, HE⟩ := hrel
    by_cases hlt : i < T.length
    · obtain ⟨c1, c2, c3⟩ := may_at HT.out HW.out i hlt
      have HD : Hid (T.drop i = T[i] :: T.drop (i + 1)) := by show _ = _; exact List.drop_eq_getElem_cons hlt
      have ii : (i : Int) < T.length := by omega
      generalize T[i] = t at c1 c2 c3 HD
      have km : ∀ w, Calls Try.prog 55 #[.agg #[.int .i64 t.byte, .int .i64 t.dist, .int .i64 t.len]] w fun e w' => e = .returned (.bool (may t)) ∧ Below w.heap.size w w' := fun w => may_any t w
      rw [HD.out, expand] at HE
      have zL : (L : Int) ≤ 36000 := by omega
      have q := fun w1 (hb : Below (wr.alloc (Obj.cells #[Value.int IntKind.i64 t.byte, Value.int IntKind.i64 t.dist, Value.int IntKind.i64 t.len] 48)).heap.size (wr.alloc (Obj.cells #[Value.int IntKind.i64 t.byte, Value.int IntKind.i64 t.dist, Value.int IntKind.i64 t.len] 48)) w1) => box_cells wr t w1 hb
      cases ha : may t with
      | false =>
        have HR : Hid (R = none) := by show _ = _; rw [← HE.out, ha]; rfl
        rw [ha] at km
        clear ha
        go_wp2_with (go_at_call 55; ((with_reducible refine (km _).mono ?_); rintro e w1 ⟨rfl, H1⟩; replace H1 := Lib.hid H1))
        go_ret2
        rw [HR.out]
        exact ⟨rfl, (belowNew HW.out _).next H1.out⟩
      | true =>
        rw [ha] at km
        have ha2 := Lib.hid ha
        clear ha
        by_cases hd : t.dist ≤ (L : Int)
        · obtain ⟨m, hm⟩ : ∃ m : Nat, (m : Int) = max t.len 1 := ⟨(max t.len 1).toNat, by omega⟩
          have hml : m ≤ 18 ∧ 1 ≤ m := by have := may_len ha2.out; omega
          have zm : (m : Int) ≤ 18 := by omega
          have hal : ((add o t).length : Int) = L + m := by rw [add_max o ha2.out, HL.out, hm]
          have kl : ∀ w, Calls Try.prog 79 #[.agg #[.int .i64 t.byte, .int .i64 t.dist, .int .i64 t.len]] w fun e w' => e = .returned (.int .i64 m) ∧ Below w.heap.size w w' := fun w => by
            have := length_any t w (may_len ha2.out).1
            rw [← hm] at this; exact this
          clear hm
          by_cases hmo : (L : Int) + m ≤ most
          · rw [if_pos ⟨ha2.out, by rw [← HL.out]; exact hd, by rw [hal]; exact hmo⟩] at HE
            have hal2 : Hid ((add o t).length ≤ 18 * (i + 1)) := by show _ ≤ _; omega
            have ka := fun (wz : World) hB hown => append_any w.heap.size (.slice ao L c) o t wz hB hown ha2.out (by rw [← HL.out]; exact hd) (by have := HL.out; omega)
            clear hal
            go_wp2_with (first
              | (go_at_call 55; ((with_reducible refine (km _).mono ?_); rintro e w1 ⟨rfl, H1⟩; obtain ⟨q0, q1, q2, q3⟩ := q _ H1; replace H1 := Lib.hid H1))
              | (go_at_call 79; ((with_reducible refine (kl _).mono ?_); rintro e w2 ⟨rfl, H2⟩; obtain ⟨r0, r1, r2, r3⟩ := q _ (H1.out.next H2); replace H2 := Lib.hid H2)))
            have hb2 := ((Below.refl wr.heap.size wr).alloc (Nat.le_refl _) (Obj.cells #[Value.int IntKind.i64 t.byte, Value.int IntKind.i64 t.dist, Value.int IntKind.i64 t.len] 48)).next H1.out |>.next H2.out
            refine (ka w2 (by have := hb2.size; have := HW.out.size; omega) (row_later HS.out hb2)).mono ?_
            rintro e w4 ⟨v4, rfl, own4, hb4⟩
            obtain ⟨ao4, c4, rfl⟩ := row_form own4
            replace own4 := Lib.hid own4
            have hb5 := Lib.hid ((HW.out.next hb2).trans hb4)
            generalize hLn : (add o t).length = L4 at hal2 own4
            clear ka km kl q q0 q1 q2 q3 r0 r1 r2 r3 hb2 hb4 HS HW
            simp only []
            go_wp2
            go_roundw
            case rel => exact ⟨i + 1, L4, c4, ao4, add o t, by omega, by go_num, rfl, Lib.hid hLn.symm, hal2.out, by rw [hLn]; exact own4, hb5, HE⟩
            case measure => simp [RowKit.intOf]; omega
          · have HR : Hid (R = none) := by show _ = _; rw [← HE.out, if_neg (by rw [hal]; omega)]
            have zmo : most < (L : Int) + m := by omega
            clear hmo hal
            go_wp2_with (first
              | (go_at_call 55; ((with_reducible refine (km _).mono ?_); rintro e w1 ⟨rfl, H1⟩; obtain ⟨q0, q1, q2, q3⟩ := q _ H1; replace H1 := Lib.hid H1))
              | (go_at_call 79; ((with_reducible refine (kl _).mono ?_); rintro e w2 ⟨rfl, H2⟩; obtain ⟨r0, r1, r2, r3⟩ := q _ (H1.out.next H2); replace H2 := Lib.hid H2)))
            go_ret2
            rw [HR.out]
            exact ⟨rfl, ((belowNew HW.out _).next H1.out).next H2.out⟩
        · have HR : Hid (R = none) := by show _ = _; rw [← HE.out, if_neg (by rw [← HL.out]; omega)]
          have zd : (L : Int) < t.dist := by omega
          clear hd
          go_wp2_with (go_at_call 55; ((with_reducible refine (km _).mono ?_); rintro e w1 ⟨rfl, H1⟩; obtain ⟨q0, q1, q2, q3⟩ := q _ H1; replace H1 := Lib.hid H1))
          go_ret2
          rw [HR.out]
          exact ⟨rfl, (belowNew HW.out _).next H1.out⟩
    · have e : i = T.length := by omega
      have HR : Hid (R = some o) := by show _ = _; rw [← HE.out, e, List.drop_of_length_le (Nat.le_refl _)]; rfl
      have htx := row_text HS.out
      subst e
      go_wp2
      go_ret2
      rw [HR.out]
      exact ⟨rfl, HW.out⟩
end Go.Proofs.Ythehjhckcblbdaa.Ma
/-
  match.Split: the tokens of a text.
-/
namespace Go.Proofs.Ythehjhckcblbdaa.Ma
open Go.RowKit Mt Go.Lib
def tc (T : List Tok) : List Value := T.flatMap fun t => [.int .i64 t.byte, .int .i64 t.dist, .int .i64 t.len]
theorem tc_length (T : List Tok) : (tc T).length = T.length * 3 := by
  induction T with
  | nil => rfl
  | cons t T ih => unfold tc at ih ⊢; rw [List.flatMap_cons, List.length_append, ih, List.length_cons]; simp; omega
theorem tc_append (T U : List Tok) : tc (T ++ U) = tc T ++ tc U := by unfold tc; rw [List.flatMap_append]
theorem tc_one (T : List Tok) : ∀ u ∈ tc T, u.oneCell' = true := by
  intro u hu
  unfold tc at hu
  obtain ⟨t, _, ht⟩ := List.mem_flatMap.1 hu
  simp at ht
  rcases ht with rfl | rfl | rfl <;> rfl
theorem tc_get (T : List Tok) : ∀ i (h : i < T.length), (tc T)[i * 3]? = some (.int .i64 T[i].byte) ∧ (tc T)[i * 3 + 1]? = some (.int .i64 T[i].dist) ∧ (tc T)[i * 3 + 2]? = some (.int .i64 T[i].len) := by
  induction T with
  | nil => intro i h; simp at h
  | cons t T ih =>
    intro i h
    have e : tc (t :: T) = .int .i64 t.byte :: .int .i64 t.dist :: .int .i64 t.len :: tc T := by unfold tc; rw [List.flatMap_cons]; rfl
    rw [e]
    cases i with
    | zero => exact ⟨rfl, rfl, rfl⟩
    | succ i =>
      have := ih i (by simpa using h)
      rw [show (i + 1) * 3 = i * 3 + 3 by omega]
      exact this
theorem tok_new (w : World) (t : Tok) : ∀ j u, (tc [t])[j]? = some u → (w.alloc (.cells #[.int .i64 t.byte, .int .i64 t.dist, .int .i64 t.len] 48)).cell? ((⟨w.heap.size, 0, Option.none⟩ : Addr).add j) = some u := by
  intro j u hj
  have e := heap_alloc_new w (Obj.cells #[.int .i64 t.byte, .int .i64 t.dist, .int .i64 t.len] 48)
  rw [Addr.add_lit, Nat.zero_add, cell_of_row _ _ j _ 48 (0, 0) e]
  have e2 : #[Value.int .i64 t.byte, .int .i64 t.dist, .int .i64 t.len] = (tc [t]).toArray := rfl
  rw [e2, List.getElem?_toArray]
  exact hj
theorem info28 : (Try.prog.info? 48).map (fun i => (i.zero, i.size, i.bytes)) = some (some (.agg #[.int .i64 0, .int .i64 0, .int .i64 0]), 3, 24) := by kernel_rfl
theorem row_turn {B b n : Nat} {w w' : World} {v : Value} {xs : List Value} (h : w.ownsRow B 48 3 v n xs) (ht : Turn b w w') : w'.ownsRow B 48 3 v n xs := by
  refine ⟨h.1, ?_⟩
  rcases h.2 with hn | ⟨g, cap, cur, rfl, hb, hg, rest⟩
  · exact .inl hn
  · exact .inr ⟨g, cap, cur, rfl, hb, ht.other g cur _ hg, rest⟩
theorem row_lies {B n : Nat} {w : World} {v : Value} {T : List Tok} (hn : n = T.length) (h : w.ownsRow B 48 3 v n (tc T)) : ∃ p cap, v = .slice p T.length cap ∧ Lies w p T cap := by
  subst hn
  rcases h.2 with ⟨rfl, h0⟩ | ⟨g, cap, cur, rfl, hb, hg, h1, h2, _⟩
  · obtain rfl : T = [] := List.length_eq_zero_iff.1 h0
    exact ⟨Option.none, 0, rfl, Nat.le_refl _, Nat.zero_le _, .inl rfl⟩
  · have hc : ∀ j u, (tc T)[j]? = some u → w.cell? ⟨g, 0 + j, Option.none⟩ = some u := fun j u hj => by
      have := h.cells (g := g) rfl j u hj
      rwa [Addr.add_lit] at this
    exact ⟨some ⟨g, 0, Option.none⟩, cap, rfl, h1, h2, .inr ⟨g, 0, rfl, fun i hi => hc _ _ (tc_get T i hi).1, fun i hi => by rw [Nat.add_assoc]; exact hc _ _ (tc_get T i hi).2.1, fun i hi => by rw [Nat.add_assoc]; exact hc _ _ (tc_get T i hi).2.2⟩⟩
theorem split_full (s : List UInt8) {p : Nat} (hp : p < s.length) : split s s.length p = step1 s p :: split s s.length (next s p) := by
  obtain ⟨k, hk⟩ : ∃ k, s.length = k + 1 := ⟨s.length - 1, by omega⟩
  have := next_gt s p
  rw [split_fuel s s.length (k + 1) p (by omega) (by omega), split_more s k p hp, split_fuel s k s.length (next s p) (by omega) (by omega)]
theorem grp_row {B b n : Nat} {w w' : World} {v : Value} {xs : List Value} {G : Value → List Int} (h : Grp Try.prog 84 3 .i64 w (b + 1) b G) (hr : w.ownsRow B 48 3 v n xs) (hB : b < B) (hg : w.grownBy w' v.ownBlock) : Grp Try.prog 84 3 .i64 w' (b + 1) b G := by
  refine h.kept hg (fun e => by have := (hr.lt b e.symm).1; omega) fun j hj => .inr ?_
  rcases hr.2 with ⟨rfl, _⟩ | ⟨g, cap, cur, rfl, _, hgg, _⟩
  · cases hj
  · cases hj; exact ⟨cur, 48, (0, 0), hgg, by decide⟩
set_option maxRecDepth 100000 in
set_option maxHeartbeats 2000000 in
theorem split_any (s : ByteArray) (w : World) (hs : s.size ≤ 2000) :
    Calls Try.prog 17 #[.string s] w fun e w' => ∃ p cap, e = .returned (.slice p (split s.data.toList s.size 0).length cap) ∧ Lies w' p (split s.data.toList s.size 0) cap ∧ Below w.heap.size w w' := by
  have zs : (s.size : Int) ≤ 2000 := by omega
  have hmm := @run_makeMap Try.prog
  have hsl : Hid (s.data.toList.length = s.size) := by show _ = _; simp
  obtain ⟨i0, hi0, hz0, hz1, hz2⟩ := info_parts info28
  generalize hF : split s.data.toList s.size 0 = F
  have HF : Hid (([] : List Tok) ++ split s.data.toList s.size 0 = F) := Lib.hid (by simpa using hF)
  clear hF
  have HG : Hid (Grp Try.prog 84 3 .i64 (w.alloc (.map #[] 0)) (w.heap.size + 1) w.heap.size (pos s.data.toList 0 0)) := by show Grp _ _ _ _ _ _ _ _; rw [pos_nil]; exact Grp.made w
  have HR : Hid ((w.alloc (.map #[] 0)).ownsRow (w.heap.size + 1) 48 3 (.slice Option.none 0 0) 0 (tc [])) := Lib.hid (World.ownsRow_nil _ _ _ _)
  have HB : Hid (Below w.heap.size w (w.alloc (.map #[] 0))) := Lib.hid ((Below.refl _ _).alloc (Nat.le_refl _) _)
  go_enter Try.func17, Try.ntmps17
  go_wp2
  go_step3
  go_wp2
  go_step3
  go_wp2
  go_loopw [3, 5] (fun v n wr => ∃ (p L : Nat) (T : List Tok), p ≤ s.size ∧ n = .int .i64 p ∧ Hid (L = T.length) ∧ L ≤ p ∧ Hid (wr.ownsRow (w.heap.size + 1) 48 3 v L (tc T)) ∧ Hid (Grp Try.prog 84 3 .i64 wr (w.heap.size + 1) w.heap.size (pos s.data.toList 0 p)) ∧ Hid (Below w.heap.size w wr) ∧ Hid (w.heap.size + 1 ≤ wr.heap.size) ∧ Hid (T ++ split s.data.toList s.size p = F)) (fun _ n _ => s.size - (RowKit.intOf n).toNat)
  case atStart => exact ⟨0, 0, [], Nat.zero_le _, rfl, Lib.hid rfl, Nat.le_refl _, HR, HG, HB, Lib.hid (by simp), HF⟩
  case round =>
    clear HR HG HB HF
    obtain ⟨p, L, T, hp, rfl, HL, hLp, HR, HG, HB, HS, HF⟩ := hrel
    by_cases hlt : p < s.size
    · have zp : (p : Int) < s.size := by omega
      have zL : (L : Int) ≤ 2000 := by omega
      have h16 := best_any s hs w.heap.size (w.heap.size + 1) 0 p (by omega) hp wr HG.out
      have hbest := longest_best s.data.toList p
      have hfull := split_full s.data.toList (p := p) (by rw [hsl.out]; exact hlt)
      have hnext := next_le s.data.toList p (by rw [hsl.out]; exact hlt)
      obtain ⟨n, hn⟩ : ∃ n, (longest s.data.toList p).1 = n := ⟨_, rfl⟩
      obtain ⟨d, hd⟩ : ∃ d, (longest s.data.toList p).2 = d := ⟨_, rfl⟩
      unfold step1 next at hfull
      unfold next at hnext
      rw [hn, hd] at h16 hbest
      rw [hn, hd, hsl.out] at hfull
      rw [hn, hsl.out] at hnext
      have hn18 : n ≤ 18 := by rcases hbest.hit with ⟨h1, _⟩ | ⟨_, h1, _⟩ <;> omega
      have hd255 : d ≤ 255 := by rcases hbest.hit with ⟨_, h1⟩ | ⟨_, _, h1, _⟩ <;> omega
      clear hbest hn hd
      have zn : (n : Int) ≤ 18 := by omega
      have zd : (d : Int) ≤ 255 := by omega
      have hws := HS.out
      have hk17 := fun (e : Nat) he1 he2 (wz : World) G hb => note_any s hs w.heap.size (w.heap.size + 1) 0 p e (Nat.zero_le _) he1 he2 wz G rfl hb
      by_cases hn0 : n = 0
      · subst hn0
        simp only [if_true] at hfull hnext
        obtain ⟨c, hc⟩ : ∃ c, s[p] = c := ⟨_, rfl⟩
        have hcg : s.data.toList.getD p 0 = c := by rw [← hc, List.getD_eq_getElem?_getD, List.getElem?_eq_getElem (by simpa using hlt)]; rfl
        rw [hcg] at hfull
        rw [hfull] at HF
        have zc : (c.toNat : Int) ≤ 255 := by have := c.toNat_lt; omega
        replace hlt := Lib.hid hlt
        replace hnext := Lib.hid hnext
        clear hfull hcg hn18 hd255 zn
        go_wp2_with (first
          | (go_at_call 36; ((with_reducible refine h16.mono ?_); rintro e w1 ⟨rfl, H1⟩; replace H1 := Lib.hid H1))
          | (with_reducible refine stop_append ?_))
        unfold Stop
        have hw1 := H1.out.size
        have B1 := H1.out.alloc H1.out.size (Obj.cells #[Value.int .i64 (c.toNat : Int), Value.int .i64 0, Value.int .i64 0] 48)
        have R1 := row_later HR.out B1
        have G1 := HG.out.later B1
        have X1 := HB.out.next B1
        refine wpList_append_own _ rfl _ _ 36 rfl (w.heap.size + 1) 48 i0 (.agg #[.int .i64 0, .int .i64 0, .int .i64 0]) 3 24 Try.underlying36 hi0 hz0 hz1 hz2 rfl (by decide) u3 L (tc T) rfl R1 ⟨w1.heap.size, 0, Option.none⟩ 1 1 (tc [⟨(c.toNat : Int), 0, 0⟩]) rfl rfl (tok_new w1 ⟨(c.toNat : Int), 0, 0⟩) (tc_one _) (by unfold maxLen; omega) (by omega) (by simp; omega) ?_
        intro v3 w3 own3 gr3 nn3
        replace gr3 : World.grownBy _ w3 u3.ownBlock := gr3
        have G3 := grp_row G1 R1 (by omega) gr3
        have X3 : Below w.heap.size w w3 := X1.grown gr3 X1.size (fun b hb => by have := (R1.lt b hb).1; omega)
        have hs3 : w.heap.size + 1 ≤ w3.heap.size := by have := gr3.size; simp at this; omega
        have R3 : w3.ownsRow (w.heap.size + 1) 48 3 v3 (L + 1) (tc (T ++ [⟨(c.toNat : Int), 0, 0⟩])) := by rw [tc_append]; exact own3
        have h17 := hk17 (p + 1) (by omega) (by first | omega | exact hnext.out) w3 G3 hs3
        have hx : ((p + 1 : Nat) : Int) = ((p : Int) + 1) := by omega
        rw [hx] at h17
        replace R3 := Lib.hid R3
        replace X3 := Lib.hid X3
        replace hs3 := Lib.hid hs3
        clear own3 gr3 nn3 R1 G1 X1 B1 G3 HR HG HB HS hk17 h16 hx hw1 hws
        go_wp2_with (go_at_call 37; ((with_reducible refine h17.mono ?_); rintro e w4 ⟨rfl, G4, T4⟩))
        have R4 := Lib.hid (row_turn R3.out T4)
        have X4 : Hid (Below w.heap.size w w4) := Lib.hid (X3.out.trans T4.below)
        have hs4 : Hid (w.heap.size + 1 ≤ w4.heap.size) := Lib.hid (by have := T4.below.size; have := hs3.out; omega)
        replace G4 := Lib.hid G4
        have HL4 : Hid (L + 1 = (T ++ [(⟨(c.toNat : Int), 0, 0⟩ : Tok)]).length) := by show _ = _; rw [List.length_append, ← HL.out]; rfl
        have HF4 : Hid ((T ++ [(⟨(c.toNat : Int), 0, 0⟩ : Tok)]) ++ split s.data.toList s.size (p + 1) = F) := by show _ = _; rw [List.append_assoc]; exact HF.out
        clear h17 T4 R3 X3 hs3
        go_wp2
        go_roundw
        case rel => exact ⟨p + 1, L + 1, T ++ [⟨(c.toNat : Int), 0, 0⟩], by first | exact hnext.out | omega, by go_num, HL4, by omega, R4, G4, X4, hs4, HF4⟩
        case measure => have := hlt.out; simp [RowKit.intOf]; omega
      · rw [if_neg hn0, if_neg hn0] at hfull
        rw [if_neg hn0] at hnext
        rw [hfull] at HF
        have zn0 : ¬ ((n : Int) = 0) := by omega
        have zn1 : (1 : Int) ≤ n := by omega
        have zpn : (p : Int) + n ≤ s.size := by omega
        replace hlt := Lib.hid hlt
        replace hnext := Lib.hid hnext
        clear hfull hn18 hd255
        go_wp2_with (first
          | (go_at_call 36; ((with_reducible refine h16.mono ?_); rintro e w1 ⟨rfl, H1⟩; replace H1 := Lib.hid H1))
          | (with_reducible refine stop_append ?_))
        unfold Stop
        have hw1 := H1.out.size
        have B1 := H1.out.alloc H1.out.size (Obj.cells #[Value.int .i64 0, Value.int .i64 (d : Int), Value.int .i64 (n : Int)] 48)
        have R1 := row_later HR.out B1
        have G1 := HG.out.later B1
        have X1 := HB.out.next B1
        refine wpList_append_own _ rfl _ _ 36 rfl (w.heap.size + 1) 48 i0 (.agg #[.int .i64 0, .int .i64 0, .int .i64 0]) 3 24 Try.underlying36 hi0 hz0 hz1 hz2 rfl (by decide) u3 L (tc T) rfl R1 ⟨w1.heap.size, 0, Option.none⟩ 1 1 (tc [⟨0, (d : Int), (n : Int)⟩]) rfl rfl (tok_new w1 ⟨0, (d : Int), (n : Int)⟩) (tc_one _) (by unfold maxLen; omega) (by omega) (by simp; omega) ?_
        intro v3 w3 own3 gr3 nn3
        replace gr3 : World.grownBy _ w3 u3.ownBlock := gr3
        have G3 := grp_row G1 R1 (by omega) gr3
        have X3 : Below w.heap.size w w3 := X1.grown gr3 X1.size (fun b hb => by have := (R1.lt b hb).1; omega)
        have hs3 : w.heap.size + 1 ≤ w3.heap.size := by have := gr3.size; simp at this; omega
        have R3 : w3.ownsRow (w.heap.size + 1) 48 3 v3 (L + 1) (tc (T ++ [⟨0, (d : Int), (n : Int)⟩])) := by rw [tc_append]; exact own3
        have h17 := hk17 (p + n) (by omega) (by first | omega | exact hnext.out) w3 G3 hs3
        have hx : ((p + n : Nat) : Int) = ((p : Int) + n) := by omega
        rw [hx] at h17
        replace R3 := Lib.hid R3
        replace X3 := Lib.hid X3
        replace hs3 := Lib.hid hs3
        clear own3 gr3 nn3 R1 G1 X1 B1 G3 HR HG HB HS hk17 h16 hx hw1 hws
        go_wp2_with (go_at_call 37; ((with_reducible refine h17.mono ?_); rintro e w4 ⟨rfl, G4, T4⟩))
        have R4 := Lib.hid (row_turn R3.out T4)
        have X4 : Hid (Below w.heap.size w w4) := Lib.hid (X3.out.trans T4.below)
        have hs4 : Hid (w.heap.size + 1 ≤ w4.heap.size) := Lib.hid (by have := T4.below.size; have := hs3.out; omega)
        replace G4 := Lib.hid G4
        have HL4 : Hid (L + 1 = (T ++ [(⟨0, (d : Int), (n : Int)⟩ : Tok)]).length) := by show _ = _; rw [List.length_append, ← HL.out]; rfl
        have HF4 : Hid ((T ++ [(⟨0, (d : Int), (n : Int)⟩ : Tok)]) ++ split s.data.toList s.size (p + n) = F) := by show _ = _; rw [List.append_assoc]; exact HF.out
        clear h17 T4 R3 X3 hs3
        go_wp2
        go_roundw
        case rel => exact ⟨p + n, L + 1, T ++ [⟨0, (d : Int), (n : Int)⟩], by first | exact hnext.out | omega, by go_num, HL4, by omega, R4, G4, X4, hs4, HF4⟩
        case measure => have := hlt.out; simp [RowKit.intOf]; omega
    · have e : p = s.size := by omega
      have HE : Hid (T = F) := by show _ = _; rw [← HF.out, e, ← hsl.out, split_done _ _ _ (Nat.le_refl _), List.append_nil]
      obtain ⟨q, c, rfl, HLies⟩ := row_lies HL.out HR.out
      subst e
      go_wp2
      rw [Exit.noGoto_ret]
      go_ret
      rw [← HE.out]
      exact ⟨q, c, rfl, HLies, HB.out⟩
end Go.Proofs.Ythehjhckcblbdaa.Ma
