/-
  Package device's Flush of a disk.
-/
import Derived.Test.YtaamjamcnnalbaaDvN
namespace Go.Proofs.Ytaamjamcnnalbaa.Dv
set_option maxRecDepth 100000
open Go.RowKit Go.Lib
/-- the same, while its sectors are written -/
structure Owl (w wr : World) (L : List ByteArray) (n : Nat) (cache : List (Int × ByteArray)) (m : Nat) (fuse : Int) (keep : List Bool) (k : Nat) (dead : Bool) (g c0 : Nat) (p1 : Option Addr) (c1 : Nat) (p3 : Option Addr) (c3 : Nat) : Prop where
  below : Below w.heap.size w wr
  box : Box wr w.heap.size (some ⟨g, 0, none⟩) n c0 p1 m c1 fuse p3 k c3 dead
  own : Res wr w.heap.size
  res : Res wr (w.heap.size + 1)
  row0 : wr.ownsRow (w.heap.size + 2) 9 1 (.slice (some ⟨g, 0, none⟩) n c0) n (flat strS L)
  row1 : wr.ownsRow (w.heap.size + 2) 45 2 (.slice p1 m c1) m (flat putS cache)
  row3 : wr.ownsRow (w.heap.size + 2) 4 1 (.slice p3 k c3) k (flat boolC keep)
section
variable {w wr : World} {L : List ByteArray} {n : Nat} {cache : List (Int × ByteArray)} {m : Nat} {fuse : Int} {keep : List Bool} {k : Nat} {dead : Bool} {g c0 : Nat} {p1 : Option Addr} {c1 : Nat} {p3 : Option Addr} {c3 : Nat}
theorem Owl.later {w' : World} (h : Owl w wr L n cache m fuse keep k dead g c0 p1 c1 p3 c3) (hb : Below wr.heap.size wr w') : Owl w w' L n cache m fuse keep k dead g c0 p1 c1 p3 c3 :=
  ⟨h.below.next hb, h.box.below hb, h.own.below hb, h.res.below hb, own_later h.row0 hb, own_later h.row1 hb, own_later h.row3 hb⟩
theorem Owl.cells (h : Owl w wr L n cache m fuse keep k dead g c0 p1 c1 p3 c3) (hl : L.length = n) (a : Nat) (ha : a < n) : (∃ v, wr.cell? ⟨g, a, none⟩ = some v) ∧ wr.frozen? ⟨g, a, none⟩ = false := by
  refine ⟨⟨.string (L[a]'(by omega)), ?_⟩, h.row0.frozenAt a⟩
  rw [h.row0.cellAt a (by omega)]
  have := flat_get (S := strS) L a (by omega) 0 _ rfl
  rw [show a * strS.size + 0 = a by show a * 1 + 0 = a; omega] at this
  exact this
theorem Owl.store (h : Owl w wr L n cache m fuse keep k dead g c0 p1 c1 p3 c3) (a : Nat) (t : ByteArray) : Owl w (wr.setCell ⟨g, a, none⟩ (.string t)) (L.set a t) n cache m fuse keep k dead g c0 p1 c1 p3 c3 := by
  have hB := own_block h.row0 _ _ rfl
  obtain ⟨cur, hg⟩ : ∃ cur : Array Value, wr.heap[g]? = some (.cells cur 9 (0, 0)) := by
    rcases h.row0.2 with ⟨k, _⟩ | ⟨g', cap, cur, k1, k2, k3, _⟩
    · cases k
    · cases k1; exact ⟨cur, k3⟩
  have h5 := (h.row0.stored a (.string t)).1
  rw [flat_str_set] at h5
  exact ⟨h.below.setCell (p := ⟨g, a, none⟩) (show w.heap.size ≤ g by omega) _, h.box.same (heap_setCell_other wr ⟨g, a, none⟩ _ _ (show w.heap.size ≠ g by omega)), h.own.set (by omega) _, h.res.set (by omega) _, h5,
    own_set h.row1 a _ (own_ne h.row1 hg (by decide)), own_set h.row3 a _ (own_ne h.row3 hg (by decide))⟩
end
theorem Owd.owl {w wr : World} {kept : List ByteArray} {cache : List (Int × ByteArray)} {fuse : Int} {keep : List Bool} {dead : Bool} {g c0 : Nat} {p1 : Option Addr} {c1 : Nat} {p3 : Option Addr} {c3 : Nat} (h : Owd w wr ⟨kept, cache, fuse, keep, dead⟩ (some ⟨g, 0, none⟩) c0 p1 c1 p3 c3) :
    Owl w wr kept kept.length cache cache.length fuse keep keep.length dead g c0 p1 c1 p3 c3 := ⟨h.below, h.box, h.own, h.res, h.mine.row0, h.mine.row1, h.mine.row3⟩
set_option maxHeartbeats 8000000 in
theorem flush_code (d : Dsk) (v : Value) (w : World) (hd : Sized d) (h : DLie w v d) :
    Calls Try.prog 14 #[v] w fun x w' => ∃ u, x = .returned (.tuple #[u, .int .i64 (flushD d).2]) ∧ DLie w' u (flushD d).1 ∧ Below w.heap.size w w' := by
  obtain ⟨p0, c0, p1, c1, p3, c3, rfl, h0, h1, h3⟩ := h
  obtain ⟨kept, cache, fuse, keep, dead⟩ := d
  dsimp only at *
  have hbg := begun w p0 kept.length c0 p1 cache.length c1 fuse p3 keep.length c3 dead
  generalize hw2 : (w.alloc (.cells #[.slice p0 kept.length c0, .slice p1 cache.length c1, .int .i64 fuse, .slice p3 keep.length c3, .bool dead] 26)).alloc (.cells #[.slice none 0 0, .slice none 0 0, .int .i64 0, .slice none 0 0, .bool false] 26) = w2 at *
  have HG := Lib.hid hbg
  have b0 := hbg.box.kept
  have b1 := hbg.box.cache
  have b2 := hbg.box.fuse
  have b3 := hbg.box.keep
  have b4 := hbg.box.dead
  have km := may_code _ _ w2 hd ⟨p0, c0, p1, c1, p3, c3, rfl, h0.below hbg.below, h1.below hbg.below, h3.below hbg.below⟩
  dsimp only at km
  have H0 := Lib.hid h0
  have H1 := Lib.hid h1
  have H3 := Lib.hid h3
  have Hd := Lib.hid hd
  have hr : flushD ⟨kept, cache, fuse, keep, dead⟩ = if mayD ⟨kept, cache, fuse, keep, dead⟩ then if dead then (⟨kept, cache, fuse, keep, dead⟩, 90) else (⟨applyC kept cache, [], fuse, keep, dead⟩, 0) else (noneD, 1) := rfl
  generalize flushD ⟨kept, cache, fuse, keep, dead⟩ = ans at *
  clear h0 h1 h3 hbg hd
  cases hm : mayD ⟨kept, cache, fuse, keep, dead⟩ with
  | true =>
    rw [hm] at km hr
    have hat := fun i (hi : i < cache.length) => mayD_put hm i hi
    obtain ⟨m1, m2, m3⟩ := mayD_kept hm
    dsimp only at hat m1 m2 m3
    have HA := Lib.hid hat
    have M1 := Lib.hid m1
    have zn : (kept.length : Int) ≤ 5000 := by omega
    have zm : (cache.length : Int) ≤ 20000 := by omega
    cases dead with
    | true =>
      have hr2 : ans = (⟨kept, cache, fuse, keep, true⟩, 90) := hr
      subst hr2
      have KO := Lib.hid (fun w' (hb : Below w.heap.size w w') => own_code _ Hd.out hm _ w' ⟨p0, c0, p1, c1, p3, c3, rfl, H0.out.below hb, H1.out.below hb, H3.out.below hb⟩)
      dsimp only at KO
      clear hr
      go_enter Try.func14, Try.ntmps14
      go_wp2_with fail
      go_at_call 16
      refine km.mono ?_
      rintro x w3 ⟨rfl, hb3⟩
      have HB3 := Lib.hid (HG.out.below.next hb3)
      have HX3 := Lib.hid (HG.out.box.below hb3)
      have HO3 := Lib.hid (HG.out.own.below hb3)
      have HR3 := Lib.hid (HG.out.res.below hb3)
      have ko := KO.out w3 HB3.out
      clear km hb3 b0 b1 b2 b3 b4 KO
      have b0 := HX3.out.kept
      have b1 := HX3.out.cache
      have b2 := HX3.out.fuse
      have b3 := HX3.out.keep
      have b4 := HX3.out.dead
      go_wp2_with fail
      go_at_call 33
      refine ko.mono ?_
      rintro x w4 ⟨q0, e0, q1, e1, q3, e3, rfl, hmine, hb4⟩
      have HB34 := Lib.hid hb4
      have HW := Lib.hid (owd w w4 _ q0 e0 q1 e1 q3 e3 (HB3.out.next hb4) (HO3.out.below hb4) (HR3.out.below hb4) (by have := HR3.out.lt; omega) hmine)
      have hfr := (HO3.out.below hb4).get
      obtain ⟨⟨x0, y0⟩, ⟨x1, y1⟩, ⟨x2, y2⟩, ⟨x3, y3⟩, ⟨x4, y4⟩, z0, z1, z2, z3, z4⟩ := hfr
      have a0 := HW.out.box.kept
      have a1 := HW.out.box.cache
      have a2 := HW.out.box.fuse
      have a3 := HW.out.box.keep
      have a4 := HW.out.box.dead
      unfold put5 at a0 a1 a2 a3 a4
      dsimp only at HW a0 a1 a2 a3 a4
      clear ko hmine hb4 b0 b1 b2 b3 b4 HX3 HO3
      obtain ⟨⟨r0, t0⟩, ⟨r1, t1⟩, ⟨r2, t2⟩, ⟨r3, t3⟩, ⟨r4, t4⟩, f0, f1, f2, f3, f4⟩ := (HR3.out.below HB34.out).get
      clear hm
      go_wp2
      have hw := HW.out
      refine bodyPost_ret (res_two rfl _ _ (w.heap.size + 1) (.slice q0 kept.length e0) (.slice q1 cache.length e1) (.int .i64 fuse) (.slice q3 keep.length e3) (.bool true) rfl (put5_heap hw.res _ _ _ _ _)) rfl ?_
      exact ⟨_, rfl, ⟨q0, e0, q1, e1, q3, e3, rfl, own_res (S := strS) (b := w.heap.size + 1) hw.mine.row0 rfl (by omega) _ _ _ _ _, own_res (S := putS) (b := w.heap.size + 1) hw.mine.row1 rfl (by omega) _ _ _ _ _, lie_flags (own_res (S := boolC) (b := w.heap.size + 1) hw.mine.row3 rfl (by omega) _ _ _ _ _)⟩, put5_below hw.below (b := w.heap.size + 1) (by omega) _ _ _ _ _⟩
    | false =>
      have hr2 : ans = (⟨applyC kept cache, [], fuse, keep, false⟩, 0) := hr
      subst hr2
      have KO := Lib.hid (fun w' (hb : Below w.heap.size w w') => own_code _ Hd.out hm _ w' ⟨p0, c0, p1, c1, p3, c3, rfl, H0.out.below hb, H1.out.below hb, H3.out.below hb⟩)
      dsimp only at KO
      clear hr
      go_enter Try.func14, Try.ntmps14
      go_wp2_with fail
      go_at_call 16
      refine km.mono ?_
      rintro x w3 ⟨rfl, hb3⟩
      have HB3 := Lib.hid (HG.out.below.next hb3)
      have HX3 := Lib.hid (HG.out.box.below hb3)
      have HO3 := Lib.hid (HG.out.own.below hb3)
      have HR3 := Lib.hid (HG.out.res.below hb3)
      have ko := KO.out w3 HB3.out
      clear km hb3 b0 b1 b2 b3 b4 KO
      have b0 := HX3.out.kept
      have b1 := HX3.out.cache
      have b2 := HX3.out.fuse
      have b3 := HX3.out.keep
      have b4 := HX3.out.dead
      go_wp2_with fail
      go_at_call 33
      refine ko.mono ?_
      rintro x w4 ⟨q0, e0, q1, e1, q3, e3, rfl, hmine, hb4⟩
      have HB34 := Lib.hid hb4
      have HW := Lib.hid (owd w w4 _ q0 e0 q1 e1 q3 e3 (HB3.out.next hb4) (HO3.out.below hb4) (HR3.out.below hb4) (by have := HR3.out.lt; omega) hmine)
      have hfr := (HO3.out.below hb4).get
      obtain ⟨⟨x0, y0⟩, ⟨x1, y1⟩, ⟨x2, y2⟩, ⟨x3, y3⟩, ⟨x4, y4⟩, z0, z1, z2, z3, z4⟩ := hfr
      have a0 := HW.out.box.kept
      have a1 := HW.out.box.cache
      have a2 := HW.out.box.fuse
      have a3 := HW.out.box.keep
      have a4 := HW.out.box.dead
      unfold put5 at a0 a1 a2 a3 a4
      dsimp only at HW a0 a1 a2 a3 a4
      clear ko hmine hb4 b0 b1 b2 b3 b4 HX3 HO3
      obtain ⟨⟨g0, rfl⟩, ze0⟩ := HW.out.mine.some0 M1.out
      have ze1 : (cache.length : Int) ≤ e1 := by have := (slie_own (S := putS) HW.out.mine.row1 rfl).len; have : cache.length ≤ e1 := this; omega
      have HL0 : Hid (Owl w _ (applyC kept (cache.take 0)) kept.length cache cache.length fuse keep keep.length false g0 e0 q1 e1 q3 e3) := Lib.hid HW.out.owl
      unfold put5 at HL0
      dsimp only at ze0
      clear hm HW HB34
      go_wp2
      go_loopw [18] (fun i wr => ∃ j : Nat, i = .int .i64 j ∧ j ≤ cache.length ∧ Hid (Owl w wr (applyC kept (cache.take j)) kept.length cache cache.length fuse keep keep.length false g0 e0 q1 e1 q3 e3)) (fun i _ => cache.length - (RowKit.intOf i).toNat)
      case atStart => exact ⟨0, rfl, Nat.zero_le _, HL0⟩
      case round =>
        clear HL0 a0 a1 a2 a3 a4 x0 x1 x2 x3 x4 y0 y1 y2 y3 y4 z0 z1 z2 z3 z4
        obtain ⟨j, rfl, hj, HR⟩ := hrel
        by_cases hlt : j < cache.length
        · have zj : (j : Int) < cache.length := by omega
          obtain ⟨g1, rfl⟩ : ∃ g, q1 = some ⟨g, 0, none⟩ := by
            rcases HR.out.row1.2 with ⟨_, k⟩ | ⟨g, cap, cur, k, _⟩
            · omega
            · cases k; exact ⟨g, rfl⟩
          obtain ⟨cx0, cx1⟩ : wr.cell? ⟨g1, j * 2, none⟩ = some (.int .i64 cache[j].1) ∧ wr.cell? ⟨g1, j * 2 + 1, none⟩ = some (.string cache[j].2) := by
            have hs := slie_own (S := putS) HR.out.row1 rfl
            obtain ⟨blk, off, e, hc⟩ := hs.at hlt
            cases e
            have := put_at hc hlt
            rw [Nat.zero_add] at this
            exact this
          obtain ⟨a, ha⟩ := Int.eq_ofNat_of_zero_le (HA.out j hlt).1
          have hal : a < kept.length := by have := (HA.out j hlt).2; omega
          have hN := ((HR.out.later ((Below.refl wr.heap.size wr).alloc (Nat.le_refl _) (.cells #[.int .i64 cache[j].1, .string cache[j].2] 45))).store a cache[j].2)
          have hC := (HR.out.later ((Below.refl wr.heap.size wr).alloc (Nat.le_refl _) (.cells #[.int .i64 cache[j].1, .string cache[j].2] 45))).cells (applyC_length _ _) a hal
          have hX := (HR.out.later ((Below.refl wr.heap.size wr).alloc (Nat.le_refl _) (.cells #[.int .i64 cache[j].1, .string cache[j].2] 45))).box.kept
          have hE : applyC kept (cache.take (j + 1)) = (applyC kept (cache.take j)).set a cache[j].2 := by
            rw [List.take_succ_eq_append_getElem hlt, applyC_snoc]
            unfold setAt
            rw [ha, Int.toNat_natCast]
          rw [← hE] at hN
          have HN := Lib.hid hN
          obtain ⟨⟨vk, k0⟩, k1⟩ := hC
          rw [ha] at cx0 HN k0 k1 hX
          obtain ⟨t, ht⟩ : ∃ t, t = cache[j].2 := ⟨_, rfl⟩
          rw [← ht] at cx1 HN k0 k1 hX
          have za : (a : Int) < kept.length := by omega
          have d0 := HR.out.box.kept
          clear ha ht hal hE hN HR
          go_wp2
          go_roundw
          case measure => simp [RowKit.intOf]; omega
          case rel => exact ⟨j + 1, by go_num, by omega, HN⟩
        · have zj : ¬ (j : Int) < cache.length := by omega
          have hE : applyC kept (cache.take j) = applyC kept cache := by rw [List.take_of_length_le (by omega)]
          have hw := HR.out
          rw [hE] at hw
          obtain ⟨bx, rs⟩ := hw.box.setCache hw.own none 0 0
          have HV := Lib.hid hw
          obtain ⟨-, ⟨x1, y1⟩, -, -, -, -, z1, -⟩ := hw.own.get
          have HX := Lib.hid bx
          have a0 := bx.kept
          have a1 := bx.cache
          have a2 := bx.fuse
          have a3 := bx.keep
          have a4 := bx.dead
          have HRS := Lib.hid (hw.res.set (show w.heap.size + 1 ≠ w.heap.size by omega) (o := 1) (.slice none 0 0))
          obtain ⟨⟨r0, t0⟩, ⟨r1, t1⟩, ⟨r2, t2⟩, ⟨r3, t3⟩, ⟨r4, t4⟩, f0, f1, f2, f3, f4⟩ := HRS.out.get
          clear hE hw bx rs HR
          go_wp2
          refine bodyPost_ret (res_two rfl _ _ (w.heap.size + 1) (.slice (some ⟨g0, 0, none⟩) kept.length e0) (.slice none 0 0) (.int .i64 fuse) (.slice q3 keep.length e3) (.bool false) rfl (put5_heap HRS.out _ _ _ _ _)) rfl ?_
          exact ⟨_, rfl, ⟨some ⟨g0, 0, none⟩, e0, none, 0, q3, e3, by show _ = Value.agg #[.slice _ (applyC kept cache).length _, _, _, _, _]; rw [applyC_length]; rfl, own_res (S := strS) (b := w.heap.size + 1) (own_set (g := w.heap.size) HV.out.row0 1 (.slice none 0 0) (row_ne (b := w.heap.size) HV.out.row0 (by omega))) (applyC_length _ _) (by omega) _ _ _ _ _, SLie.nil _,
            lie_flags (own_res (S := boolC) (b := w.heap.size + 1) (own_set (g := w.heap.size) HV.out.row3 1 (.slice none 0 0) (row_ne (b := w.heap.size) HV.out.row3 (by omega))) rfl (by omega) _ _ _ _ _)⟩, put5_below (HV.out.below.setCell (p := ⟨w.heap.size, 1, none⟩) (Nat.le_refl _) (.slice none 0 0)) (b := w.heap.size + 1) (by omega) _ _ _ _ _⟩
  | false =>
    rw [hm] at km hr
    have hr2 : ans = (noneD, 1) := hr
    subst hr2
    clear hm hr
    go_enter Try.func14, Try.ntmps14
    go_wp2_with fail
    go_at_call 16
    refine km.mono ?_
    rintro x w3 ⟨rfl, hb3⟩
    have HB3 := Lib.hid (HG.out.below.next hb3)
    obtain ⟨⟨r0, e0⟩, ⟨r1, e1⟩, ⟨r2, e2⟩, ⟨r3, e3⟩, ⟨r4, e4⟩, f0, f1, f2, f3, f4⟩ := (HG.out.res.below hb3).get
    have HR3 := Lib.hid (HG.out.res.below hb3)
    clear km hb3 b0 b1 b2 b3 b4
    go_wp2
    refine bodyPost_ret (res_two rfl _ _ (w.heap.size + 1) (.slice none 0 0) (.slice none 0 0) (.int .i64 0) (.slice none 0 0) (.bool false) rfl (put5_heap HR3.out _ _ _ _ _)) rfl ?_
    exact ⟨_, rfl, noneD_lie _, put5_below HB3.out (b := w.heap.size + 1) (by omega) _ _ _ _ _⟩
end Go.Proofs.Ytaamjamcnnalbaa.Dv
