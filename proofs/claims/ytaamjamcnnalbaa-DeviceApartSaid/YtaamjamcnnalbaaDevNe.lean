/-
  The document's New of a disk.
-/
import Derived.Test.YtaamjamcnnalbaaDevWr
namespace Go.Proofs.Ytaamjamcnnalbaa.Dv
set_option maxRecDepth 100000
open Go.RowKit Go.Lib
theorem Box.setKept {w : World} {b : Nat} {p0 : Option Addr} {n c0 : Nat} {p1 : Option Addr} {m c1 : Nat} {fuse : Int} {p3 : Option Addr} {k c3 : Nat} {dead : Bool}
    (h : Box w b p0 n c0 p1 m c1 fuse p3 k c3 dead) (hr : Res w b) (q : Option Addr) (n1 d : Nat) : Box (w.setCell ⟨b, 0, none⟩ (.slice q n1 d)) b q n1 d p1 m c1 fuse p3 k c3 dead ∧ Res (w.setCell ⟨b, 0, none⟩ (.slice q n1 d)) b := by
  obtain ⟨v0, v1, v2, v3, v4, hc⟩ := hr.cell
  have e1 := (box_cell hc 1).symm.trans h.cache
  have e2 := (box_cell hc 2).symm.trans h.fuse
  have e3 := (box_cell hc 3).symm.trans h.keep
  have e4 := (box_cell hc 4).symm.trans h.dead
  simp at e1 e2 e3 e4
  subst e1 e2 e3 e4
  have hs := heap_setCell_same w b 0 _ 26 (.slice q n1 d) hc
  exact ⟨⟨box_cell hs 0, box_cell hs 1, box_cell hs 2, box_cell hs 3, box_cell hs 4⟩, ⟨_, _, _, _, _, hs⟩⟩
/-- a disk that grows: a result's block, the disk's block behind it, its sectors so far -/
structure Grows (w wr : World) (q : Option Addr) (j c : Nat) : Prop where
  below : Below w.heap.size w wr
  box : Box wr (w.heap.size + 1) q j c none 0 0 (-1) none 0 0 false
  row : wr.ownsRow (w.heap.size + 2) 9 1 (.slice q j c) j (flat strS (List.replicate j zero32))
  res : Res wr w.heap.size
  own : Res wr (w.heap.size + 1)
theorem grows_zero (w : World) : Grows w ((w.alloc (.cells #[.slice none 0 0, .slice none 0 0, .int .i64 0, .slice none 0 0, .bool false] 26)).alloc (.cells #[.slice none 0 0, .slice none 0 0, .int .i64 (-1), .slice none 0 0, .bool false] 26)) none 0 0 := by
  have B1 := (Below.refl w.heap.size w).alloc (Nat.le_refl _) (.cells #[.slice none 0 0, .slice none 0 0, .int .i64 0, .slice none 0 0, .bool false] 26)
  have hs1 : (w.alloc (.cells #[.slice none 0 0, .slice none 0 0, .int .i64 0, .slice none 0 0, .bool false] 26)).heap.size = w.heap.size + 1 := by simp
  have B2 := (Below.refl _ _).alloc (Nat.le_refl _) (w := w.alloc (.cells #[.slice none 0 0, .slice none 0 0, .int .i64 0, .slice none 0 0, .bool false] 26)) (.cells #[.slice none 0 0, .slice none 0 0, .int .i64 (-1), .slice none 0 0, .bool false] 26)
  have hr : Res (w.alloc (.cells #[.slice none 0 0, .slice none 0 0, .int .i64 0, .slice none 0 0, .bool false] 26)) w.heap.size := ⟨_, _, _, _, _, heap_alloc_new w _⟩
  have hbx := box_new (w.alloc (.cells #[.slice none 0 0, .slice none 0 0, .int .i64 0, .slice none 0 0, .bool false] 26)) none 0 0 none 0 0 (-1) none 0 0 false
  rw [hs1] at hbx
  exact ⟨B1.next B2, hbx, ⟨by simp [flat], .inl ⟨rfl, rfl⟩⟩, hr.below B2, ⟨_, _, _, _, _, by rw [← hs1]; exact heap_alloc_new _ _⟩⟩
theorem Box.same {w w' : World} {b : Nat} {p0 : Option Addr} {n c0 : Nat} {p1 : Option Addr} {m c1 : Nat} {fuse : Int} {p3 : Option Addr} {k c3 : Nat} {dead : Bool}
    (h : Box w b p0 n c0 p1 m c1 fuse p3 k c3 dead) (e : w'.heap[b]? = w.heap[b]?) : Box w' b p0 n c0 p1 m c1 fuse p3 k c3 dead :=
  ⟨by rw [cell_same e]; exact h.kept, by rw [cell_same e]; exact h.cache, by rw [cell_same e]; exact h.fuse, by rw [cell_same e]; exact h.keep, by rw [cell_same e]; exact h.dead⟩
theorem Res.same {w w' : World} {b : Nat} (h : Res w b) (e : w'.heap[b]? = w.heap[b]?) : Res w' b := by
  obtain ⟨v0, v1, v2, v3, v4, h⟩ := h.cell
  exact ⟨_, _, _, _, _, e.trans h⟩
theorem Grows.more {w wr w4 w5 : World} {q : Option Addr} {j c : Nat} (h : Grows w wr q j c) (hb : Below wr.heap.size wr w4) (hg : w4.grownBy w5 (Value.slice q j c).ownBlock) : Below (w.heap.size + 2) wr w5 := by
  have hs := h.own.lt
  refine (hb.mono (show w.heap.size + 2 ≤ wr.heap.size by omega)).grown hg (by have := hb.size; omega) (fun b e => ?_)
  cases q with
  | none => cases e
  | some ad =>
    rcases h.row.2 with ⟨h1, _⟩ | ⟨g', cap', cur, h1, h2, h3⟩
    · cases h1
    · cases h1; cases e; exact h2
theorem Grows.cells {w wr w5 : World} {q : Option Addr} {j c : Nat} (h : Grows w wr q j c) (hb : Below (w.heap.size + 2) wr w5) : (∃ v, w5.cell? ⟨w.heap.size + 1, 0, none⟩ = some v) ∧ w5.frozen? ⟨w.heap.size + 1, 0, none⟩ = false := by
  have hg := (h.own.same (hb.block (w.heap.size + 1) (by omega))).get
  exact ⟨hg.1, hg.2.2.2.2.2.1⟩
theorem Grows.next {w wr w5 : World} {q q' : Option Addr} {j c c' : Nat} (h : Grows w wr q j c) (hb : Below (w.heap.size + 2) wr w5) (ho : w5.ownsRow (w.heap.size + 2) 9 1 (.slice q' (j + 1) c') (j + 1) (flat strS (List.replicate (j + 1) zero32))) :
    Grows w (w5.setCell ⟨w.heap.size + 1, 0, none⟩ (.slice q' (j + 1) c')) q' (j + 1) c' := by
  obtain ⟨k1, k2⟩ := (h.box.same (hb.block (w.heap.size + 1) (by omega))).setKept (h.own.same (hb.block (w.heap.size + 1) (by omega))) q' (j + 1) c'
  exact ⟨(h.below.trans (hb.mono (by omega))).setCell (p := ⟨w.heap.size + 1, 0, none⟩) (show w.heap.size ≤ w.heap.size + 1 by omega) _, k1, ownsRow_setCell_below ho (a := ⟨w.heap.size + 1, 0, none⟩) (show w.heap.size + 1 < w.heap.size + 2 by omega) _,
    (h.res.same (hb.block w.heap.size (by omega))).set (by omega) _, k2⟩
set_option maxHeartbeats 8000000 in
theorem new_doc (n : Int) (w : World) :
    Calls Try.prog 20 #[.int .i64 n] w fun x w' => ∃ u, x = .returned (.tuple #[u, .int .i64 (newD n).2]) ∧ DLie w' u (newD n).1 ∧ Below w.heap.size w w' := by
  have hr : newD n = if 1 ≤ n ∧ n ≤ 5000 then (⟨List.replicate n.toNat zero32, [], -1, [], false⟩, 0) else (noneD, 1) := rfl
  generalize newD n = ans at *
  have hg := grows_zero w
  have HG := Lib.hid hg
  obtain ⟨i0, hi0, hz0, hz1, hz2⟩ := info_parts infoStr
  by_cases h : 1 ≤ n ∧ n ≤ 5000
  · rw [if_pos h] at hr
    subst hr
    obtain ⟨m, rfl⟩ := Int.eq_ofNat_of_zero_le (show 0 ≤ n by omega)
    have hm1 : (1 : Int) ≤ m := h.1
    have hm2 : (m : Int) ≤ 5000 := h.2
    have hm3 : Hid (m ≤ 5000) := Lib.hid (by omega)
    clear h hg
    go_enter Try.func20, Try.ntmps20
    go_wp2
    go_loopw [5] (fun i wr => ∃ (j : Nat) (q : Option Addr) (c : Nat), i = .int .i64 j ∧ j ≤ m ∧ Hid (Grows w wr q j c)) (fun i _ => m - (RowKit.intOf i).toNat)
    case atStart => exact ⟨0, none, 0, rfl, Nat.zero_le _, HG⟩
    case round =>
      clear HG
      obtain ⟨j, q, c, rfl, hj, HR⟩ := hrel
      have d0 := HR.out.box.kept
      by_cases hlt : j < m
      · have zj : (j : Int) < m := by omega
        have hz := zeros_doc wr.drew
        have Hj : Hid (j < 5000) := Lib.hid (by have := hm3.out; omega)
        have Hrep : Hid (flat strS (List.replicate j zero32) ++ flat strS [zero32] = flat strS (List.replicate (j + 1) zero32)) := by
          show _ = _
          rw [← flat_append, List.replicate_succ']
        have HO1 : Hid (∀ w4, Below wr.drew.heap.size wr.drew w4 → (w4.alloc (.cells #[.string zero32] 9)).ownsRow (w.heap.size + 2) 9 1 (.slice q j c) j (flat strS (List.replicate j zero32)) ∧ w.heap.size + 2 ≤ (w4.alloc (.cells #[.string zero32] 9)).heap.size ∧
            Below wr.heap.size wr (w4.alloc (.cells #[.string zero32] 9)) ∧ (∀ i u, (flat strS [zero32])[i]? = some u → (w4.alloc (.cells #[.string zero32] 9)).cell? ((⟨w4.heap.size, 0, none⟩ : Addr).add i) = some u)) := Lib.hid (fun w4 hb4 => by
          have B5 : Below wr.heap.size wr (w4.alloc (.cells #[.string zero32] 9)) := (((Below.refl wr.heap.size wr).drew).next hb4).next ((Below.refl w4.heap.size w4).alloc (Nat.le_refl _) (.cells #[.string zero32] 9))
          refine ⟨own_later HR.out.row B5, by have := HR.out.own.lt; have := B5.size; omega, B5, fun i u hi => ?_⟩
          rw [Addr.add_lit, Nat.zero_add, cell_of_row _ _ i _ 9 (0, 0) (heap_alloc_new w4 _)]
          simpa [flat, strS] using hi)
        have HO2 : Hid (∀ w4, Below wr.drew.heap.size wr.drew w4 → w4.cell? ⟨w.heap.size + 1, 0, none⟩ = some (.slice q j c) ∧ (w4.alloc (.cells #[.string zero32] 9)).cell? ⟨w.heap.size + 1, 0, none⟩ = some (.slice q j c)) :=
          Lib.hid (fun w4 hb4 => ⟨(HR.out.box.below (((Below.refl wr.heap.size wr).drew).next hb4)).kept, (HR.out.box.below (HO1.out w4 hb4).2.2.1).kept⟩)
        have HO3 : Hid (∀ w4 w5, Below wr.heap.size wr w4 → w4.grownBy w5 (Value.slice q j c).ownBlock → Below (w.heap.size + 2) wr w5) := Lib.hid (fun w4 w5 hb hg => HR.out.more hb hg)
        have d0d : wr.drew.cell? ⟨w.heap.size + 1, 0, none⟩ = some (.slice q j c) := d0
        obtain ⟨z, hz32⟩ : ∃ z, z = zero32 := ⟨_, rfl⟩
        rw [← hz32] at hz Hrep HO1 HO2
        have Hz := Lib.hid hz32
        clear hz32
        go_wp2_with fail
        go_region_law (first
          | (refine step_append_mine rfl (.tmp 20) (.tmp 22) 22 rfl (w.heap.size + 2) 9 i0 (.string ⟨#[]⟩) 1 16 Try.underlying22 hi0 hz0 hz1 hz2 rfl (by decide) (.slice q j c) j (flat strS (List.replicate j z)) rfl (HO1.out w4 hb4).1 ⟨w4.heap.size, 0, none⟩ 1 1 (flat strS [z]) rfl rfl (HO1.out w4 hb4).2.2.2 (flat_cell (S := strS) _) (by have := Hj.out; unfold maxLen; omega) (by have := Hj.out; omega) (HO1.out w4 hb4).2.1 ?_
             intro v5 w5 own5 gr5 nn5
             obtain ⟨g5, c5, rfl⟩ := own_some own5 (fun e => by have := (nn5.1 e).2; omega)
             obtain ⟨⟨vz, y0⟩, y1⟩ := HR.out.cells (HO3.out _ w5 (HO1.out w4 hb4).2.2.1 gr5))
          | (go_simp; go_at_call 29; refine hz.mono ?_; rintro x w4 ⟨rfl, hb4⟩; obtain ⟨k0, k0b⟩ := HO2.out w4 hb4))
        all_goals
          rw [Hrep.out] at own5
          have HN := Lib.hid (HR.out.next (HO3.out _ w5 (HO1.out w4 hb4).2.2.1 gr5) (by rw [Hz.out] at own5; exact own5))
          clear HO1 HO2 HO3 own5 gr5 nn5 hz hb4 d0 d0d y0 y1 k0 k0b HR
          go_wp2
          go_roundw
          case measure => simp [RowKit.intOf]; omega
          case rel => exact ⟨j + 1, _, c5, by go_num, by omega, HN⟩
      · have e : j = m := by omega
        subst e
        have zj : ¬ (j : Int) < j := by omega
        have bx := HR.out.box
        have d1 := bx.cache
        have d2 := bx.fuse
        have d3 := bx.keep
        have d4 := bx.dead
        obtain ⟨⟨r0, e0⟩, ⟨r1, e1⟩, ⟨r2, e2⟩, ⟨r3, e3⟩, ⟨r4, e4⟩, f0, f1, f2, f3, f4⟩ := HR.out.res.get
        clear bx
        go_wp2
        have HBf := put5_below HR.out.below (b := w.heap.size) (by omega) (.slice q j c) (.slice none 0 0) (.int .i64 (-1)) (.slice none 0 0) (.bool false)
        refine bodyPost_ret (res_two rfl _ _ w.heap.size (.slice q j c) (.slice none 0 0) (.int .i64 (-1)) (.slice none 0 0) (.bool false) rfl (put5_heap HR.out.res _ _ _ _ _)) rfl ?_
        have hl : (List.replicate ((j : Int)).toNat zero32).length = j := by rw [List.length_replicate, Int.toNat_natCast]
        exact ⟨_, rfl, ⟨q, c, none, 0, none, 0, by show _ = Value.agg #[.slice q (List.replicate ((j : Int)).toNat zero32).length c, _, _, _, _]; rw [hl]; rfl,
          slie_same (slie_own HR.out.row (by rw [List.length_replicate])) (fun b off e _ => put5_other _ _ _ _ _ _ _ _ (by have := own_block HR.out.row b off e; omega)), SLie.nil _, flagsNone _⟩, HBf⟩
  · rw [if_neg h] at hr
    subst hr
    have arm : (n < 1 ∧ decide (n < 1) = true) ∨ (decide (n < 1) = false ∧ decide (5000 < n) = true) := by
      by_cases g : n < 1
      · exact .inl ⟨g, decide_eq_true g⟩
      · exact .inr ⟨decide_eq_false g, decide_eq_true (by omega)⟩
    have B1 := Lib.hid ((Below.refl w.heap.size w).alloc (Nat.le_refl _) (.cells #[.slice none 0 0, .slice none 0 0, .int .i64 0, .slice none 0 0, .bool false] 26))
    have hres : Res (w.alloc (.cells #[.slice none 0 0, .slice none 0 0, .int .i64 0, .slice none 0 0, .bool false] 26)) w.heap.size := ⟨_, _, _, _, _, heap_alloc_new w _⟩
    have HR := Lib.hid hres
    clear hres hg HG h
    rcases arm with ⟨a1, a2⟩ | ⟨a1, a2⟩
    all_goals
      go_enter Try.func20, Try.ntmps20
      go_wp2
      have HBf := put5_below B1.out (b := w.heap.size) (by omega) (.slice none 0 0) (.slice none 0 0) (.int .i64 0) (.slice none 0 0) (.bool false)
      refine bodyPost_ret (res_two rfl _ _ w.heap.size (.slice none 0 0) (.slice none 0 0) (.int .i64 0) (.slice none 0 0) (.bool false) rfl (heap_alloc_new w _)) rfl ?_
      exact ⟨_, rfl, noneD_lie _, B1.out⟩
end Go.Proofs.Ytaamjamcnnalbaa.Dv

