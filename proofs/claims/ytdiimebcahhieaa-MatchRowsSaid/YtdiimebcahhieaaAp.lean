/-
  match.May, match.length, match.appendToken.
-/
import Derived.Test.YtdiimebcahhieaaMatSp
import Derived.Test.YtdiimebcahhieaaGp
namespace Go.Proofs.Ytdiimebcahhieaa
open Go.RowKit Mt Go.Lib
set_option maxHeartbeats 1000000 in
theorem may_any (t : Tok) (w : World) : Calls Try.prog 9 #[tokV t] w fun e w' => e = .returned (.bool (may t)) ∧ Below w.heap.size w w' := by
  have hB := Lib.hid (fun o => (Below.refl w.heap.size w).alloc (Nat.le_refl _) o)
  obtain ⟨b, d, n⟩ := t
  unfold tokV
  generalize hv : may ⟨b, d, n⟩ = v
  have HV := Lib.hid hv
  clear hv
  go_enter Try.func9, Try.ntmps9
  go_wp2
  all_goals
    go_ret
    refine ⟨ret_bool ?_, hB.out _⟩
    rw [← HV.out]
    simp only [may]
    clear HV hB
    try simp only [beq_iff_eq, beq_eq_false_iff_ne, ne_eq] at *
    split <;> (rw [Bool.eq_iff_iff]; simp only [Bool.and_eq_true, decide_eq_true_eq, Bool.false_eq_true]; constructor <;> intro hx <;> first | exact hx.elim | omega)
set_option maxHeartbeats 1000000 in
theorem length_any (t : Tok) (w : World) (h : t.len ≤ 18) : Calls Try.prog 14 #[tokV t] w fun e w' => e = .returned (.int .i64 (max t.len 1)) ∧ Below w.heap.size w w' := by
  have hB := Lib.hid (fun o => (Below.refl w.heap.size w).alloc (Nat.le_refl _) o)
  obtain ⟨b, d, n⟩ := t
  unfold tokV
  simp only at h ⊢
  go_enter Try.func14, Try.ntmps14
  go_wp2
  all_goals
    go_ret
    exact ⟨ret_int (by omega), hB.out _⟩
theorem row_apart {B b g cap n : Nat} {w : World} {xs : List Value} {c : Array Value} (h : w.ownsRow B 5 1 (.slice (some ⟨g, 0, none⟩) n cap) n xs) (hb : w.heap[b]? = some (.cells c 28 (0, 0))) : ¬ g = b := by
  rintro rfl
  rcases h.2 with ⟨h1, _⟩ | ⟨g', cap', cur, h1, _, h2, _⟩
  · cases h1
  · cases h1
    rw [h2] at hb
    cases hb
set_option maxHeartbeats 2000000 in
theorem append_any (B : Nat) (v : Value) (o : List UInt8) (t : Tok) (w : World) (hB : B ≤ w.heap.size) (hown : w.ownsRow B 5 1 v o.length (pb o)) (hm : may t = true) (hd : t.dist ≤ (o.length : Int)) (hl : o.length ≤ 36000) :
    Calls Try.prog 15 #[v, tokV t] w fun e w' => ∃ v', e = .returned v' ∧ w'.ownsRow B 5 1 v' (add o t).length (pb (add o t)) ∧ Below B w w' := by
  obtain ⟨i0, hi0, hz0, hz1, hz2⟩ := info_parts info5
  by_cases a : t.len = 0
  · obtain ⟨x, hx1, hx2, hx3, hx4⟩ := may_byte t hm a
    rw [hx4]
    obtain ⟨tb, td, tn⟩ := t
    simp only at hx1 hx2 a
    subst hx1 hx2 a
    have hxl : (x.toNat : Int) ≤ 255 := by have := x.toNat_lt; omega
    have o1 := fun O O' => (hown.alloc O).alloc O'
    have HO := Lib.hid hown
    have o2 := one_byte (w.alloc (Obj.cells #[Value.int IntKind.i64 x.toNat, Value.int IntKind.i64 0, Value.int IntKind.i64 0] 28)) x
    rw [show (w.alloc (Obj.cells #[Value.int IntKind.i64 x.toNat, Value.int IntKind.i64 0, Value.int IntKind.i64 0] 28)).heap.size = w.heap.size + 1 by simp] at o2
    clear hx4 hx3 hm hd hown
    unfold tokV
    simp only
    go_enter Try.func15, Try.ntmps15
    go_wp2_with (with_reducible refine stop_append ?_)
    unfold Stop
    refine wpList_append_own _ rfl _ _ 32 rfl B 5 i0 (.int .u8 0) 1 1 Try.underlying32 hi0 hz0 hz1 hz2 rfl (by decide) v o.length (pb o) rfl (o1 _ _) ⟨_, 0, Option.none⟩ 1 1 (pb [x]) rfl rfl o2 (pb_one _) (by unfold maxLen; omega) (by omega) (by simp; omega) ?_
    intro v1 w3 own1 gr1 nn1
    have hb : Below B w w3 := (((Below.refl B w).alloc hB _).alloc (by simp; omega) _).grown gr1 (by simp; omega) (fun b hb => (HO.out.lt b hb).1)
    replace hb := Lib.hid hb
    replace own1 := Lib.hid own1
    clear gr1 nn1 o1 o2
    go_wp2
    go_ret
    exact ⟨v1, rfl, by have := own1.out; simpa [pb] using this, hb.out⟩
  · obtain ⟨d, n, hx1, hx2, hx3, hx4, hx5, hx6⟩ := may_copy t hm a
    obtain ⟨tb, td, tn⟩ := t
    simp only at hx1 hx2 hx3 a hd
    subst hx1 hx2 hx3
    have hal : add o ⟨0, d, n⟩ = copy o d n := by unfold add; rw [if_neg a]; simp
    rw [hal]
    obtain ⟨L, hL⟩ : ∃ L, L = o.length := ⟨_, rfl⟩
    rw [← hL] at hown hd hl
    have hn0 : 0 < L := by omega
    obtain ⟨g, c, rfl⟩ : ∃ g c, v = .slice (some ⟨g, 0, Option.none⟩) L c := by
      rcases hown.2 with ⟨_, h0⟩ | ⟨g, c, cur, h1, _⟩
      · omega
      · exact ⟨g, c, h1⟩
    have H0 : Hid ((w.alloc (.cells #[.int .i64 0, .int .i64 d, .int .i64 n] 28)).ownsRow B 5 1 (.slice (some ⟨g, 0, Option.none⟩) L c) (copy o d 0).length (pb (copy o d 0))) := by
      show World.ownsRow _ _ _ _ _ _ _
      rw [copy, ← hL]; exact hown.alloc _
    have HX0 := box_cells w ⟨0, d, n⟩ _ (Below.refl _ _)
    have HB0 := Lib.hid ((Below.refl B w).alloc hB (.cells #[.int .i64 0, .int .i64 d, .int .i64 n] 28))
    have zd2 : (d : Int) ≤ L := by omega
    have hdL : Hid (d ≤ L) := by show _ ≤ _; omega
    have zd1 : (1 : Int) ≤ d := by omega
    have zn1 : (1 : Int) ≤ n := by omega
    have zn2 : (n : Int) ≤ 18 := by omega
    have zL2 : (L : Int) ≤ 36000 := by omega
    have zn3 : ¬ ((n : Int) = 0) := by omega
    have HL := Lib.hid hL
    have HBs : Hid (B ≤ w.heap.size) := Lib.hid hB
    obtain ⟨bx, hbx⟩ : ∃ bx, bx = w.heap.size := ⟨_, rfl⟩
    obtain ⟨X0, X1, X2, X3⟩ := HX0
    rw [← hbx] at X0 X1 X2 X3
    replace X0 := Lib.hid X0
    replace hbx := Lib.hid hbx
    clear hal hm hd hown hL hB a
    unfold tokV
    simp only
    go_enter Try.func15, Try.ntmps15
    go_wp2
    rw [← hbx.out]
    generalize w.alloc (.cells #[.int .i64 0, .int .i64 d, .int .i64 n] 28) = w2 at *
    go_loopw [0, 16] (fun v k wz => ∃ (j g2 cc : Nat), j ≤ n ∧ v = .slice (some ⟨g2, 0, Option.none⟩) (L + j) cc ∧ k = .int .i64 j ∧ Hid (wz.ownsRow B 5 1 (.slice (some ⟨g2, 0, Option.none⟩) (L + j) cc) (copy o d j).length (pb (copy o d j))) ∧ Hid (Below B w wz) ∧ Hid (wz.heap[bx]? = some (.cells #[.int .i64 0, .int .i64 d, .int .i64 n] 28 (0, 0)))) (fun _ k _ => n - (RowKit.intOf k).toNat)
    case atStart => exact ⟨0, g, c, by omega, rfl, rfl, H0, HB0, X0⟩
    case round =>
      clear H0 HB0 X0 X1 X2 X3
      obtain ⟨j, g2, cc, hj, rfl, rfl, HS2, HB2, HQ⟩ := hrel
      have p1 := box_cell1 HQ.out
      have p2 := box_cell2 HQ.out
      have hlj : (copy o d j).length = L + j := by rw [copy_length, HL.out]
      by_cases hjn : j < n
      · obtain ⟨x, hx⟩ : ∃ x, x = (copy o d j).getD (L + j - d) 0 := ⟨_, rfl⟩
        have HP : Hid (copy o d (j + 1) = copy o d j ++ [x]) := by show _ = _; rw [copy_succ, hx, ← HL.out]
        have hs2 := HS2.out
        rw [hlj] at hs2
        have cx : wr.cell? ⟨g2, L + j - d, Option.none⟩ = some (.int .u8 (x.toNat : Int)) := by
          have := hs2.cells (g := g2) rfl (L + j - d) (.int .u8 (x.toNat : Int)) (by
            unfold pb
            have h1 : L + j - d < (copy o d j).length := by rw [hlj]; have := hdL.out; omega
            rw [List.getElem?_map, List.getElem?_eq_getElem h1, hx, List.getD_eq_getElem?_getD, List.getElem?_eq_getElem h1]; rfl)
          rwa [Addr.add_lit, Nat.zero_add] at this
        obtain ⟨y, hy⟩ : ∃ y, y = L + j - d := ⟨_, rfl⟩
        rw [← hy] at cx
        have hyi : (L : Int) + j - d = y := by have := hdL.out; omega
        have hyl : (y : Int) < L + j := by omega
        have hcap : ((L + j : Nat) : Int) ≤ cc := by
          rcases hs2.2 with ⟨h1, _⟩ | ⟨g', cap', cur, h1, _, _, h2, h3, _⟩
          · cases h1
          · cases h1; omega
        have zj : (j : Int) < n := by omega
        have zj2 : (j : Int) ≤ 18 := by omega
        have o1 := (fun O => hs2.alloc (w := wr) O)
        have o2 := one_byte wr x
        have o3 : B ≤ (wr.alloc (.cells #[.int .u8 (x.toNat : Int)] 5)).heap.size := by have := HB2.out.size; have := HBs.out; simp; omega
        have hap := row_apart hs2 HQ.out
        replace hs2 := Lib.hid hs2
        clear hx hy
        go_wp2_with (with_reducible refine stop_append ?_)
        unfold Stop
        refine wpList_append_own _ rfl _ _ 32 rfl B 5 i0 (.int .u8 0) 1 1 Try.underlying32 hi0 hz0 hz1 hz2 rfl (by decide) _ (L + j) (pb (copy o d j)) rfl (o1 _) ⟨_, 0, Option.none⟩ 1 1 (pb [x]) rfl rfl o2 (pb_one _) (by unfold maxLen; omega) (by omega) o3 ?_
        intro v1 w3 own1 gr1 nn1
        have gr2 : (wr.alloc (Obj.cells #[.int .u8 (x.toNat : Int)] 5)).grownBy w3 (some g2) := gr1
        have hbx3 := Lib.hid (box_grown HQ.out gr2 (by simp; exact hap))
        obtain ⟨g3, cd, rfl⟩ := own_some own1 (fun e => by have := (nn1.1 e).2; omega)
        have HN : Hid (w3.ownsRow B 5 1 (.slice (some ⟨g3, 0, Option.none⟩) (L + (j + 1)) cd) (copy o d (j + 1)).length (pb (copy o d (j + 1)))) := by
          show World.ownsRow _ _ _ _ _ _ _
          rw [HP.out, List.length_append, hlj]
          simpa [pb, Nat.add_assoc] using own1
        have HB3 : Hid (Below B w w3) := Lib.hid ((HB2.out.alloc (by have := HB2.out.size; have := HBs.out; omega) _).grown gr2 (by have := HB2.out.size; have := HBs.out; simp; omega) (fun b hb => by cases hb; exact (hs2.out.lt g2 rfl).1))
        clear own1 gr1 gr2 nn1 o1 o2 o3 HS2 HB2 HQ p1 p2 cx hlj hcap hs2
        go_wp2
        go_roundw
        case rel => exact ⟨j + 1, g3, cd, by omega, rfl, by go_num, HN, HB3, hbx3⟩
        case measure => simp [RowKit.intOf]; omega
      · have e : j = n := by omega
        subst e
        clear hlj
        go_wp2
        go_ret
        exact ⟨_, rfl, HS2.out, HB2.out⟩
end Go.Proofs.Ytdiimebcahhieaa
