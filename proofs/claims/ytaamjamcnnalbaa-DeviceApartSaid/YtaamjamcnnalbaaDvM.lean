/-
  Package device's Die of a disk.
-/
import Derived.Test.YtaamjamcnnalbaaDvL
namespace Go.Proofs.Ytaamjamcnnalbaa.Dv
set_option maxRecDepth 100000
open Go.RowKit Go.Lib
set_option maxHeartbeats 8000000 in
theorem die_code (d : Dsk) (v : Value) (K : List Bool) (kk : Nat) (pk : Option Addr) (ck : Nat) (w : World) (hd : Sized d) (hkk : K.length = kk) (h : DLie w v d) (hK : FlagsLie w pk K ck) :
    Calls Try.prog 23 #[v, .slice pk kk ck] w fun x w' => ∃ u, x = .returned u ∧ DLie w' u (dieD d K) ∧ Below w.heap.size w w' := by
  obtain ⟨p0, c0, p1, c1, p3, c3, rfl, h0, h1, h3⟩ := h
  obtain ⟨kept, cache, fuse, keep, dead⟩ := d
  dsimp only at *
  have hbg := begun w p0 kept.length c0 p1 cache.length c1 fuse p3 keep.length c3 dead
  generalize hw2 : (w.alloc (.cells #[.slice p0 kept.length c0, .slice p1 cache.length c1, .int .i64 fuse, .slice p3 keep.length c3, .bool dead] 26)).alloc (.cells #[.slice none 0 0, .slice none 0 0, .int .i64 0, .slice none 0 0, .bool false] 26) = w2 at *
  have HG := Lib.hid hbg
  have b0 := hbg.box.kept
  have b1 := hbg.box.cache
  have b2 := hbg.box.fuse
  have b3 := hbg.box.keep
  have b4 := hbg.box.dead
  have km := may_code _ _ w2 hd ⟨p0, c0, p1, c1, p3, c3, rfl, h0.below hbg.below, h1.below hbg.below, h3.below hbg.below⟩
  dsimp only at km
  have H0 := Lib.hid h0
  have H1 := Lib.hid h1
  have H3 := Lib.hid h3
  have Hd := Lib.hid hd
  have HK := Lib.hid hK
  have Hk := Lib.hid hkk
  have hr : dieD ⟨kept, cache, fuse, keep, dead⟩ K = if mayD ⟨kept, cache, fuse, keep, dead⟩ then ⟨dieC kept cache K, [], -1, [], true⟩ else noneD := rfl
  generalize dieD ⟨kept, cache, fuse, keep, dead⟩ K = ans at *
  clear h0 h1 h3 hbg hd hK hkk
  cases hm : mayD ⟨kept, cache, fuse, keep, dead⟩ with
  | true =>
    rw [hm] at km hr
    have hr2 : ans = ⟨dieC kept cache K, [], -1, [], true⟩ := hr
    subst hr2
    have hat := fun i (hi : i < cache.length) => mayD_put hm i hi
    obtain ⟨m1, m2, m3⟩ := mayD_kept hm
    dsimp only at hat m1 m2 m3
    have HA := Lib.hid hat
    have M1 := Lib.hid m1
    have M2 := Lib.hid m2
    have M3 := Lib.hid m3
    have KO := Lib.hid (fun w' (hb : Below w.heap.size w w') => own_code _ Hd.out hm _ w' ⟨p0, c0, p1, c1, p3, c3, rfl, H0.out.below hb, H1.out.below hb, H3.out.below hb⟩)
    dsimp only at KO
    clear hr
    go_enter Try.func23, Try.ntmps23
    go_wp2_with fail
    go_at_call 16
    refine km.mono ?_
    rintro x w3 ⟨rfl, hb3⟩
    have HB3 := Lib.hid (HG.out.below.next hb3)
    have HX3 := Lib.hid (HG.out.box.below hb3)
    have HO3 := Lib.hid (HG.out.own.below hb3)
    have HR3 := Lib.hid (HG.out.res.below hb3)
    have ko := KO.out w3 HB3.out
    clear km hb3 b0 b1 b2 b3 b4 KO
    have b0 := HX3.out.kept
    have b1 := HX3.out.cache
    have b2 := HX3.out.fuse
    have b3 := HX3.out.keep
    have b4 := HX3.out.dead
    go_wp2_with fail
    go_at_call 33
    refine ko.mono ?_
    rintro x w4 ⟨q0, e0, q1, e1, q3, e3, rfl, hmine, hb4⟩
    have HW := Lib.hid (owd w w4 _ q0 e0 q1 e1 q3 e3 (HB3.out.next hb4) (HO3.out.below hb4) (HR3.out.below hb4) (by have := HR3.out.lt; omega) hmine)
    have hfr := (HO3.out.below hb4).get
    obtain ⟨⟨x0, y0⟩, ⟨x1, y1⟩, ⟨x2, y2⟩, ⟨x3, y3⟩, ⟨x4, y4⟩, z0, z1, z2, z3, z4⟩ := hfr
    have a0 := HW.out.box.kept
    have a1 := HW.out.box.cache
    have a2 := HW.out.box.fuse
    have a3 := HW.out.box.keep
    have a4 := HW.out.box.dead
    unfold put5 at a0 a1 a2 a3 a4
    dsimp only at HW a0 a1 a2 a3 a4
    clear ko hmine hb4 b0 b1 b2 b3 b4 HX3 HO3
    obtain ⟨⟨g0, rfl⟩, -⟩ := HW.out.mine.some0 M1.out
    have hg0 : w.heap.size + 2 ≤ g0 := own_block HW.out.mine.row0 _ _ rfl
    have kk1 := keep_code (w.heap.size + 2) g0 kept kept.length rfl M2.out e0 cache cache.length rfl (by have := M3.out; omega) q1 e1 fuse q3 keep.length e3 dead K kk Hk.out (by have := HK.out.len; have := HK.out.cap; have := Hk.out; omega) pk ck _ HW.out.mine.row0
      (by have := (HW.out.mine.row0.lt g0 rfl).2; exact this) HW.out.res.lt (slie_own (S := putS) HW.out.mine.row1 rfl)
      (fun a e hne => by
        subst e
        rcases HW.out.mine.row0.2 with ⟨k, _⟩ | ⟨g, cap, cur, k1, k2, k3, _⟩
        · cases k
        · cases k1
          have := own_ne HW.out.mine.row1 k3 (by decide)
          intro e; exact this (by rw [← e]; rfl))
      HA.out (HK.out.below HW.out.below) (fun a e hne => by
        subst e
        obtain ⟨b, o, e1, hc⟩ := HK.out.at (i := 0) (List.length_pos_iff.2 hne)
        cases e1
        have := World.block_lt_of_cell? w _ (hc 0 (List.length_pos_iff.2 hne))
        show b ≠ g0
        have : b < w.heap.size := this
        omega)
    have HG0 := Lib.hid hg0
    unfold put5 at kk1
    clear hm
    go_wp2_with fail
    go_at_call 35
    refine kk1.mono ?_
    rintro x w6 ⟨rfl, hrow, hb6, hoth⟩
    have HB6 := Lib.hid (HW.out.below.trans (hb6.mono (by omega)))
    have HX6 := Lib.hid (HW.out.box.same (hb6.block w.heap.size (by omega)))
    have HR6 := Lib.hid (HW.out.res.same (hb6.block (w.heap.size + 1) (by omega)))
    have HW6 := Lib.hid hrow
    clear kk1 hrow hb6 hoth a0 a1 a2 a3 a4 x0 x1 x2 x3 x4 y0 y1 y2 y3 y4 z0 z1 z2 z3 z4
    dsimp only at HX6
    have a0 := HX6.out.kept
    have a1 := HX6.out.cache
    have a2 := HX6.out.fuse
    have a3 := HX6.out.keep
    have a4 := HX6.out.dead
    have kr := restart_code (some ⟨g0, 0, none⟩) kept.length e0 q1 cache.length e1 fuse q3 keep.length e3 dead true w6
    go_wp2_with fail
    go_at_call 36
    refine kr.mono ?_
    rintro x w7 ⟨rfl, hb7⟩
    have HB7 := Lib.hid (HB6.out.next hb7)
    have HR7 := Lib.hid (HR6.out.below hb7)
    have H7 := Lib.hid (own_later HW6.out hb7)
    obtain ⟨⟨r0, t0⟩, ⟨r1, t1⟩, ⟨r2, t2⟩, ⟨r3, t3⟩, ⟨r4, t4⟩, f0, f1, f2, f3, f4⟩ := HR7.out.get
    clear kr hb7 a0 a1 a2 a3 a4
    go_wp2
    refine bodyPost_ret (res_one rfl _ _ (w.heap.size + 1) _ (.slice none 0 0) (.int .i64 (-1)) (.slice none 0 0) (.bool true) rfl (put5_heap HR7.out _ _ _ _ _)) rfl ?_
    exact ⟨_, rfl, ⟨_, _, none, 0, none, 0, by rw [dieC_length]; rfl, own_res (S := strS) H7.out (dieC_length _ _ _) (by omega) _ _ _ _ _, SLie.nil _, flagsNone _⟩, put5_below HB7.out (b := w.heap.size + 1) (by omega) _ _ _ _ _⟩
  | false =>
    rw [hm] at km hr
    have hr2 : ans = noneD := hr
    subst hr2
    clear hm hr
    go_enter Try.func23, Try.ntmps23
    go_wp2_with fail
    go_at_call 16
    refine km.mono ?_
    rintro x w3 ⟨rfl, hb3⟩
    have HB3 := Lib.hid (HG.out.below.next hb3)
    obtain ⟨⟨r0, e0⟩, ⟨r1, e1⟩, ⟨r2, e2⟩, ⟨r3, e3⟩, ⟨r4, e4⟩, f0, f1, f2, f3, f4⟩ := (HG.out.res.below hb3).get
    have HR3 := Lib.hid (HG.out.res.below hb3)
    clear km hb3 b0 b1 b2 b3 b4
    go_wp2
    refine bodyPost_ret (res_one rfl _ _ (w.heap.size + 1) (.slice none 0 0) (.slice none 0 0) (.int .i64 0) (.slice none 0 0) (.bool false) rfl (put5_heap HR3.out _ _ _ _ _)) rfl ?_
    exact ⟨_, rfl, noneD_lie _, put5_below HB3.out (b := w.heap.size + 1) (by omega) _ _ _ _ _⟩
end Go.Proofs.Ytaamjamcnnalbaa.Dv
