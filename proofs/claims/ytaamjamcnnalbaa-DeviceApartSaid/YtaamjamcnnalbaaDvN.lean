/-
  Package device's Arm of a disk.
-/
import Derived.Test.YtaamjamcnnalbaaDvL
namespace Go.Proofs.Ytaamjamcnnalbaa.Dv
set_option maxRecDepth 100000
open Go.RowKit Go.Lib
theorem Box.setFuse {w : World} {b : Nat} {p0 : Option Addr} {n c0 : Nat} {p1 : Option Addr} {m c1 : Nat} {fuse : Int} {p3 : Option Addr} {k c3 : Nat} {dead : Bool}
    (h : Box w b p0 n c0 p1 m c1 fuse p3 k c3 dead) (hr : Res w b) (f : Int) : Box (w.setCell ⟨b, 2, none⟩ (.int .i64 f)) b p0 n c0 p1 m c1 f p3 k c3 dead ∧ Res (w.setCell ⟨b, 2, none⟩ (.int .i64 f)) b := by
  obtain ⟨v0, v1, v2, v3, v4, hc⟩ := hr.cell
  have e0 := (box_cell hc 0).symm.trans h.kept
  have e1 := (box_cell hc 1).symm.trans h.cache
  have e3 := (box_cell hc 3).symm.trans h.keep
  have e4 := (box_cell hc 4).symm.trans h.dead
  simp at e0 e1 e3 e4
  subst e0 e1 e3 e4
  have hs := heap_setCell_same w b 2 _ 26 (.int .i64 f) hc
  exact ⟨⟨box_cell hs 0, box_cell hs 1, box_cell hs 2, box_cell hs 3, box_cell hs 4⟩, ⟨_, _, _, _, _, hs⟩⟩
set_option maxHeartbeats 8000000 in
theorem arm_code (P : Nat → Prop) (d : Dsk) (v : Value) (f : Int) (K : List Bool) (kk : Nat) (pk : Option Addr) (ck : Nat) (w : World) (hd : Sized d) (hf1 : -9223372036854775808 ≤ f) (hf2 : f ≤ 9223372036854775807) (hkk : K.length = kk) (hk47 : kk ≤ 140737488351232) (h : DLie w v d) (hK : FlagsLie w pk K ck) :
    Calls Try.prog 21 #[v, .int .i64 f, .slice pk kk ck] w fun x w' => ∃ u, x = .returned u ∧ KV (fun b => P b ∨ w.heap.size ≤ b) w' u (armD d f K) ∧ Below w.heap.size w w' := by
  obtain ⟨p0, c0, p1, c1, p3, c3, rfl, h0, h1, h3⟩ := h
  obtain ⟨kept, cache, fuse, keep, dead⟩ := d
  dsimp only at *
  have hbg := begun w p0 kept.length c0 p1 cache.length c1 fuse p3 keep.length c3 dead
  generalize hw2 : (w.alloc (.cells #[.slice p0 kept.length c0, .slice p1 cache.length c1, .int .i64 fuse, .slice p3 keep.length c3, .bool dead] 26)).alloc (.cells #[.slice none 0 0, .slice none 0 0, .int .i64 0, .slice none 0 0, .bool false] 26) = w2 at *
  have HG := Lib.hid hbg
  have b0 := hbg.box.kept
  have b1 := hbg.box.cache
  have b2 := hbg.box.fuse
  have b3 := hbg.box.keep
  have b4 := hbg.box.dead
  have km := may_code _ _ w2 hd ⟨p0, c0, p1, c1, p3, c3, rfl, h0.below hbg.below, h1.below hbg.below, h3.below hbg.below⟩
  dsimp only at km
  have H0 := Lib.hid h0
  have H1 := Lib.hid h1
  have H3 := Lib.hid h3
  have Hd := Lib.hid hd
  have HK := Lib.hid hK
  have Hk := Lib.hid hkk
  have Hk47 := Lib.hid hk47
  have hr : armD ⟨kept, cache, fuse, keep, dead⟩ f K = if mayD ⟨kept, cache, fuse, keep, dead⟩ then ⟨kept, cache, if f < -1 then -1 else f, K, dead⟩ else noneD := rfl
  generalize armD ⟨kept, cache, fuse, keep, dead⟩ f K = ans at *
  clear h0 h1 h3 hbg hd hK hkk hk47
  cases hm : mayD ⟨kept, cache, fuse, keep, dead⟩ with
  | true =>
    rw [hm] at km hr
    obtain ⟨ff, hff⟩ : ∃ ff : Int, ff = if f < -1 then -1 else f := ⟨_, rfl⟩
    have hr2 : ans = ⟨kept, cache, ff, K, dead⟩ := by rw [hff]; exact hr
    subst hr2
    have hmax : Hid (max f (-1) = ff) := Lib.hid (by rw [hff]; split <;> omega)
    clear hff
    have KO := Lib.hid (fun w' (hb : Below w.heap.size w w') => own_code _ Hd.out hm _ w' ⟨p0, c0, p1, c1, p3, c3, rfl, H0.out.below hb, H1.out.below hb, H3.out.below hb⟩)
    dsimp only at KO
    clear hr
    go_enter Try.func21, Try.ntmps21
    go_wp2_with fail
    go_at_call 16
    refine km.mono ?_
    rintro x w3 ⟨rfl, hb3⟩
    have HB3 := Lib.hid (HG.out.below.next hb3)
    have HX3 := Lib.hid (HG.out.box.below hb3)
    have HO3 := Lib.hid (HG.out.own.below hb3)
    have HR3 := Lib.hid (HG.out.res.below hb3)
    have ko := KO.out w3 HB3.out
    clear km hb3 b0 b1 b2 b3 b4 KO
    have b0 := HX3.out.kept
    have b1 := HX3.out.cache
    have b2 := HX3.out.fuse
    have b3 := HX3.out.keep
    have b4 := HX3.out.dead
    go_wp2_with fail
    go_at_call 33
    refine ko.mono ?_
    rintro x w4 ⟨q0, e0, q1, e1, q3, e3, rfl, hmine, hb4⟩
    have HW := Lib.hid (owd w w4 _ q0 e0 q1 e1 q3 e3 (HB3.out.next hb4) (HO3.out.below hb4) (HR3.out.below hb4) (by have := HR3.out.lt; omega) hmine)
    have hfr := (HO3.out.below hb4).get
    obtain ⟨⟨x0, y0⟩, ⟨x1, y1⟩, ⟨x2, y2⟩, ⟨x3, y3⟩, ⟨x4, y4⟩, z0, z1, z2, z3, z4⟩ := hfr
    have a0 := HW.out.box.kept
    have a1 := HW.out.box.cache
    have a2 := HW.out.box.fuse
    have a3 := HW.out.box.keep
    have a4 := HW.out.box.dead
    unfold put5 at a0 a1 a2 a3 a4
    dsimp only at HW a0 a1 a2 a3 a4
    clear ko hmine hb4 b0 b1 b2 b3 b4 HX3 HO3
    clear hm
    obtain ⟨bx5, rs5⟩ := HW.out.box.setFuse HW.out.own ff
    have kc := clone_bool K kk Hk.out (by have := Hk47.out; omega) pk ck _ (fun e => by rcases HK.out.lies with h | ⟨_, _, h, _⟩; (exact h); (rw [e] at h; cases h)) (fun a e => by
      subst e
      exact flags_lie (HK.out.below (HW.out.below.setCell (p := ⟨w.heap.size, 2, none⟩) (Nat.le_refl _) (.int .i64 ff))))
    have HX5 := Lib.hid bx5
    have HS5 := Lib.hid rs5
    unfold put5 at kc
    clear bx5 rs5
    go_wp2_with fail
    go_at_call 43
    rw [hmax.out]
    refine kc.mono ?_
    rintro x w6 ⟨q, dq, rfl, hrow, hb6⟩
    have HB6 := Lib.hid ((HW.out.below.setCell (p := ⟨w.heap.size, 2, none⟩) (Nat.le_refl _) (.int .i64 ff)).next hb6)
    obtain ⟨bx7, rs7⟩ := (HX5.out.below hb6).setKeep (HS5.out.below hb6) q kk dq
    have HX6 := Lib.hid (HX5.out.below hb6)
    have HS6 := Lib.hid (HS5.out.below hb6)
    have HX7 := Lib.hid bx7
    have HS7 := Lib.hid rs7
    have hs5 : w.heap.size + 2 ≤ ((put5 w4 w.heap.size (.slice q0 kept.length e0) (.slice q1 cache.length e1) (.int .i64 fuse) (.slice q3 keep.length e3) (.bool dead)).setCell ⟨w.heap.size, 2, none⟩ (.int .i64 ff)).heap.size := by
      have e : ∀ (W : World) p x, (W.setCell p x).heap.size = W.heap.size := fun W p x => by simp [World.setCell]
      have := HW.out.res.lt
      rw [e]; omega
    have HR6 := Lib.hid ((HW.out.res.set (show w.heap.size + 1 ≠ w.heap.size by omega) (o := 2) (.int .i64 ff)).below hb6)
    have m0 := Lib.hid (own_later (own_set HW.out.mine.row0 2 (.int .i64 ff) (row_ne HW.out.mine.row0 (by omega))) hb6)
    have m1 := Lib.hid (own_later (own_set HW.out.mine.row1 2 (.int .i64 ff) (row_ne HW.out.mine.row1 (by omega))) hb6)
    have m3 := Lib.hid (own_low hrow hs5)
    clear kc hrow hb6 a0 a1 a2 a3 a4 x0 x1 x2 x3 x4 y0 y1 y2 y3 y4 z0 z1 z2 z3 z4 bx7 rs7 hs5 HX5 HS5
    obtain ⟨-, -, -, ⟨x3, y3⟩, -, -, -, -, z3, -⟩ := HS6.out.get
    have a0 := HX7.out.kept
    have a1 := HX7.out.cache
    have a2 := HX7.out.fuse
    have a3 := HX7.out.keep
    have a4 := HX7.out.dead
    have HR7 := Lib.hid (HR6.out.set (show w.heap.size + 1 ≠ w.heap.size by omega) (o := 3) (.slice q kk dq))
    obtain ⟨⟨r0, t0⟩, ⟨r1, t1⟩, ⟨r2, t2⟩, ⟨r3, t3⟩, ⟨r4, t4⟩, f0, f1, f2, f3, f4⟩ := HR7.out.get
    go_wp2
    have HB7 := HB6.out.setCell (p := ⟨w.heap.size, 3, none⟩) (Nat.le_refl _) (.slice q kk dq)
    refine bodyPost_ret (res_one rfl _ _ (w.heap.size + 1) (.slice q0 kept.length e0) (.slice q1 cache.length e1) (.int .i64 ff) (.slice q kk dq) (.bool dead) rfl (put5_heap HR7.out _ _ _ _ _)) rfl ?_
    have l3 : SLie boolC _ q K dq := own_res (S := boolC) (own_set (g := w.heap.size) m3.out 3 (.slice q kk dq) (row_ne (b := w.heap.size) m3.out (by omega))) Hk.out (show w.heap.size + 1 < w.heap.size + 2 by omega) (.slice q0 kept.length e0) (.slice q1 cache.length e1) (.int .i64 ff) (.slice q kk dq) (.bool dead)
    refine ⟨_, rfl, ⟨q0, e0, q1, e1, q, dq, by show _ = Value.agg #[_, _, _, .slice q K.length dq, _]; rw [Hk.out], own_res (S := strS) (b := w.heap.size + 1) (own_set (g := w.heap.size) m0.out 3 (.slice q kk dq) (row_ne (b := w.heap.size) m0.out (by omega))) rfl (by omega) _ _ _ _ _, own_res (S := putS) (b := w.heap.size + 1) (own_set (g := w.heap.size) m1.out 3 (.slice q kk dq) (row_ne (b := w.heap.size) m1.out (by omega))) rfl (by omega) _ _ _ _ _, lie_flags l3, ?_⟩, put5_below HB7 (b := w.heap.size + 1) (by omega) _ _ _ _ _⟩
    rcases l3.lies with hl | ⟨blk, off, e, -⟩
    · exact .inl hl
    · refine .inr ⟨blk, off, e, .inr ?_⟩
      have := own_block m3.out blk off e
      omega
  | false =>
    rw [hm] at km hr
    have hr2 : ans = noneD := hr
    subst hr2
    clear hm hr
    go_enter Try.func21, Try.ntmps21
    go_wp2_with fail
    go_at_call 16
    refine km.mono ?_
    rintro x w3 ⟨rfl, hb3⟩
    have HB3 := Lib.hid (HG.out.below.next hb3)
    obtain ⟨⟨r0, e0⟩, ⟨r1, e1⟩, ⟨r2, e2⟩, ⟨r3, e3⟩, ⟨r4, e4⟩, f0, f1, f2, f3, f4⟩ := (HG.out.res.below hb3).get
    have HR3 := Lib.hid (HG.out.res.below hb3)
    clear km hb3 b0 b1 b2 b3 b4
    go_wp2
    refine bodyPost_ret (res_one rfl _ _ (w.heap.size + 1) (.slice none 0 0) (.slice none 0 0) (.int .i64 0) (.slice none 0 0) (.bool false) rfl (put5_heap HR3.out _ _ _ _ _)) rfl ?_
    exact ⟨_, rfl, (noneD_lie _).kvNone rfl, put5_below HB3.out (b := w.heap.size + 1) (by omega) _ _ _ _ _⟩
end Go.Proofs.Ytaamjamcnnalbaa.Dv
