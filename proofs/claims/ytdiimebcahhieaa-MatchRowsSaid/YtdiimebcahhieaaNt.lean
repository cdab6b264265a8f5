/-
  match's note: the places from one on, up to another, are held at their keys.
-/
import Derived.Test.YtdiimebcahhieaaKy
namespace Go.Proofs.Ytdiimebcahhieaa
open Go.RowKit Go.Lib Mt
set_option maxHeartbeats 2000000 in
theorem note_any (s : ByteArray) (hs : s.size ≤ 2000) (b base lo p e : Nat) (hlo : lo ≤ p) (hpe : p ≤ e) (he : e ≤ s.size) (w : World) (h : Grp Try.prog 42 3 .i64 w base b (pos s.data.toList lo p)) (hbb : base = b + 1) (hbw : base ≤ w.heap.size) :
    Calls Try.prog 17 #[.map (some b), .string s, .int .i64 p, .int .i64 e] w fun x w' => x = .returned (.tuple #[]) ∧ Grp Try.prog 42 3 .i64 w' base b (pos s.data.toList lo e) ∧ Turn b w w' := by
  have zs : (s.size : Int) ≤ 2000 := by omega
  have ze : (e : Int) ≤ 2000 := by omega
  have HE := Lib.hid he
  have HL := Lib.hid hlo
  have HBB := Lib.hid hbb
  have hsl : Hid (s.data.toList.length = s.size) := by show _ = _; simp
  obtain ⟨i0, hi0, hz0, hz1, hz2⟩ := info_parts info3
  have H0 : Hid (Grp Try.prog 42 3 .i64 w base b (pos s.data.toList lo p)) := Lib.hid h
  clear h hlo he hbb
  go_enter Try.func17, Try.ntmps17
  go_wp2
  go_loopw [2] (fun v wr => ∃ k : Nat, p ≤ k ∧ k ≤ e ∧ v = .int .i64 k ∧ Hid (Grp Try.prog 42 3 .i64 wr base b (pos s.data.toList lo k)) ∧ Hid (Turn b w wr)) (fun v _ => e - (RowKit.intOf v).toNat)
  case atStart => exact ⟨p, Nat.le_refl _, hpe, rfl, H0, Lib.hid (Turn.refl _ _)⟩
  case round =>
    clear H0
    obtain ⟨k, hpk, hk, rfl, HG, HT⟩ := hrel
    by_cases hlt : k < e
    · have zk : (k : Int) < e := by omega
      by_cases h3 : k + 3 ≤ s.size
      · have hc := start_yes s k wr hs h3
        rw [at3_is h3] at hc
        obtain ⟨x, y, z, hx⟩ : ∃ x y z, at3 s.data.toList k = K3 x y z := ⟨_, _, _, rfl⟩
        rw [hx] at hc
        replace hx := Lib.hid hx
        simp only [K3] at hc
        obtain ⟨kl, hkl⟩ : ∃ l, keyOf Try.prog 42 (K3 x y z) = some l := key_is _ _ _
        have hbr : b < wr.heap.size := by have := HT.out.below.size; have := HBB.out; omega
        replace hkl := Lib.hid hkl
        go_wp2_with (first | (go_at_call 18; (with_reducible refine hc.mono ?_); rintro x w1 ⟨rfl, H1⟩) | (with_reducible refine stop_entry ?_))
        unfold Stop
        have hw1 := H1.size
        have hwr := HT.out.below.size
        have hbb := HBB.out
        have B2 := ((H1.alloc H1.size (Obj.cells #[.int .u8 (x.toNat : Int), .int .u8 (y.toNat : Int), .int .u8 (z.toNat : Int)] 42)).alloc (by have := H1.size; simp; omega) (Obj.cells #[.int .i64 (k : Int)] 3))
        have G2 := HG.out.later B2
        have T1 := Turn.later (b := b) (by omega) B2
        refine wpList_grp_entry _ rfl (.tmp 22) (.tmp 23) 40 rfl law42 Try.underlying40 zero45 rfl G2 (key := K3 x y z) rfl hkl.out ?_
        intro v st w3 g3 o3 back hm3
        have T2 : Turn b _ w3 := T1.trans (Turn.grown (by simp; omega) g3 (fun j hj => ⟨by cases hj; exact Nat.le_refl _, fun cs f e1 => by
          cases hj
          obtain ⟨es, ck, G3⟩ := G2
          rw [G3.heap] at e1; cases e1⟩))
        have hlen : (pos s.data.toList lo k (K3 x y z)).length ≤ 2000 := by
          have := posL_len s.data.toList lo k (K3 x y z)
          unfold pos; rw [List.length_map]; omega
        have hcell : ∀ j u, [Value.int .i64 (k : Int)][j]? = some u → w3.cell? ((⟨w1.heap.size + 1, 0, Option.none⟩ : Addr).add j) = some u := by
          intro j u hj
          match j, hj with
          | 0, hj =>
            simp at hj
            subst hj
            have e1 := g3.block (w1.heap.size + 1) (by simp) (by simp; omega)
            rw [Addr.add_lit, World.cell?_of_block (w := (w1.alloc (Obj.cells #[.int .u8 (x.toNat : Int), .int .u8 (y.toNat : Int), .int .u8 (z.toNat : Int)] 42)).alloc (Obj.cells #[.int .i64 (k : Int)] 3)) (w' := w3) e1]
            have e2 := heap_alloc_new (w1.alloc (Obj.cells #[.int .u8 (x.toNat : Int), .int .u8 (y.toNat : Int), .int .u8 (z.toNat : Int)] 42)) (Obj.cells #[.int .i64 (k : Int)] 3)
            have e3 : (w1.alloc (Obj.cells #[.int .u8 (x.toNat : Int), .int .u8 (y.toNat : Int), .int .u8 (z.toNat : Int)] 42)).heap.size = w1.heap.size + 1 := by simp
            rw [e3] at e2
            rw [cell_of_row _ _ 0 _ 3 (0, 0) e2]
            rfl
          | j + 1, hj => simp at hj
        have hb3 : base ≤ w3.heap.size := by have := g3.size; simp at this; omega
        have hv : ∀ j, v.ownBlock = some j → base ≤ j ∧ ∀ (cs : Array Value) (f : Nat × Nat), w3.heap[j]? ≠ some (Obj.cells cs 28 f) := fun j hj => by
          obtain ⟨h1, c, h2⟩ := ints_block o3 j hj
          exact ⟨h1, fun cs f e1 => by rw [h2] at e1; cases e1⟩
        clear T1 B2
        go_wp2_with (with_reducible refine stop_append ?_)
        unfold Stop
        refine wpList_append_own_at _ rfl _ _ 45 rfl base 3 i0 (.int .i64 0) 1 8 Try.underlying45 hi0 hz0 hz1 hz2 rfl (by decide) _ _ _ rfl o3.1 ⟨w1.heap.size + 1, 0, none⟩ 1 1 [.int .i64 k] rfl rfl hcell (ints_oneCell .i64 [(k : Int)]) (by unfold maxLen; omega) (by omega) hb3 ?_
        intro v' w4 own4 g4 nn4 loc4
        go_wp2_with (with_reducible refine stop_store ?_)
        unfold Stop
        refine wpList_grp_store _ rfl (.tmp 22) (.tmp 29) (.tmp 28) 40 rfl back rfl rfl rfl g4 (o3.appended own4 (WalkArith.wf_i64 (by omega))) (loc4.imp id (fun h => ⟨_, h, Nat.le_refl _⟩)) (pos s.data.toList lo (k + 1)) (by rw [← hx.out]; exact pos_here _ (by have := HL.out; omega) (by rw [hsl.out]; omega)) (fun u hu => pos_else _ (by have := HL.out; omega) (by rw [hx.out]; exact hu)) ?_
        intro w5 G5 g5
        have T3 : Turn b wr w5 := by
          obtain ⟨es, ck, hm⟩ := hm3
          have T4 : Turn b w3 w4 := Turn.grown (by omega) g4 (fun j hj => ⟨by have := (hv j hj).1; omega, (hv j hj).2⟩)
          have hm4 : w4.heap[b]? = some (.map es ck) := by
            rw [g4.block b (by omega) (fun e1 => by have := (hv b e1.symm).1; omega)]; exact hm
          exact (T2.trans T4).trans (Turn.grown (by have := g4.size; omega) g5 (fun j hj => ⟨by cases hj; exact Nat.le_refl _, fun cs f e1 => by cases hj; rw [hm4] at e1; cases e1⟩))
        clear back own4 g4 nn4 loc4 g5 g3 o3 hm3
        replace G5 := Lib.hid G5
        replace T3 := Lib.hid T3
        go_wp2
        go_roundw
        case rel => exact ⟨k + 1, by omega, by omega, by go_num, G5, Lib.hid (HT.out.trans T3.out)⟩
        case measure => simp [RowKit.intOf]; omega
      · have hc := start_no s k wr hs (by have := HE.out; omega) (by omega)
        have hbr : b < wr.heap.size := by have := HT.out.below.size; have := HBB.out; omega
        have HP : Hid (pos s.data.toList lo (k + 1) = pos s.data.toList lo k) := Lib.hid (pos_short _ (by have := HL.out; omega) (by rw [hsl.out]; omega))
        go_wp2_with (go_at_call 18; ((with_reducible refine hc.mono ?_); rintro x w1 ⟨rfl, H1⟩))
        have B2 := (H1.alloc H1.size (Obj.cells #[.int .u8 0, .int .u8 0, .int .u8 0] 42))
        have G2 := HG.out.later B2
        rw [← HP.out] at G2
        have T1 := Turn.later (b := b) (by omega) B2
        go_roundw
        case rel => exact ⟨k + 1, by omega, by omega, by go_num, Lib.hid G2, Lib.hid (HT.out.trans T1)⟩
        case measure => simp [RowKit.intOf]; omega
    · have e1 : k = e := by omega
      subst e1
      go_wp2
      go_end0
      exact ⟨rfl, HG.out, HT.out⟩
end Go.Proofs.Ytdiimebcahhieaa
