/-
  The document's Flush of a disk.
-/
import Derived.Test.YtaamjamcnnalbaaDevDi
namespace Go.Proofs.Ytaamjamcnnalbaa.Dv
set_option maxRecDepth 100000
open Go.RowKit Go.Lib
theorem applyC_snoc (L : List ByteArray) (c : List (Int × ByteArray)) (p : Int × ByteArray) : applyC L (c ++ [p]) = setAt (applyC L c) p.1 p.2 := by
  unfold applyC
  rw [List.foldl_append]; rfl
theorem applyC_length (L : List ByteArray) (c : List (Int × ByteArray)) : (applyC L c).length = L.length := by
  unfold applyC
  induction c generalizing L with
  | nil => rfl
  | cons p c ih => rw [List.foldl_cons, ih, setAt_length]
set_option maxHeartbeats 8000000 in
theorem flush_doc (d : Dsk) (hd : Sized d) (v : Value) (w : World) (h : DLie w v d) :
    Calls Try.prog 15 #[v] w fun x w' => ∃ u, x = .returned (.tuple #[u, .int .i64 (flushD d).2]) ∧ DLie w' u (flushD d).1 ∧ Below w.heap.size w w' := by
  obtain ⟨p0, c0, p1, c1, p3, c3, rfl, h0, h1, h3⟩ := h
  obtain ⟨kept, cache, fuse, keep, dead⟩ := d
  dsimp only at *
  have hbg := begun w p0 kept.length c0 p1 cache.length c1 fuse p3 keep.length c3 dead
  generalize hw2 : (w.alloc (.cells #[.slice p0 kept.length c0, .slice p1 cache.length c1, .int .i64 fuse, .slice p3 keep.length c3, .bool dead] 26)).alloc (.cells #[.slice none 0 0, .slice none 0 0, .int .i64 0, .slice none 0 0, .bool false] 26) = w2 at *
  have HG := Lib.hid hbg
  have b0 := hbg.box.kept
  have b1 := hbg.box.cache
  have b2 := hbg.box.fuse
  have b3 := hbg.box.keep
  have b4 := hbg.box.dead
  have km := may_doc _ hd _ w2 ⟨p0, c0, p1, c1, p3, c3, rfl, h0.below hbg.below, h1.below hbg.below, h3.below hbg.below⟩
  dsimp only at km
  have H0 := Lib.hid h0
  have H1 := Lib.hid h1
  have H3 := Lib.hid h3
  have hr : flushD ⟨kept, cache, fuse, keep, dead⟩ = if mayD ⟨kept, cache, fuse, keep, dead⟩ then if dead then (⟨kept, cache, fuse, keep, dead⟩, 90) else (⟨applyC kept cache, [], fuse, keep, dead⟩, 0) else (noneD, 1) := rfl
  generalize flushD ⟨kept, cache, fuse, keep, dead⟩ = ans at *
  clear h0 h1 h3 hbg
  cases hm : mayD ⟨kept, cache, fuse, keep, dead⟩ with
  | true =>
    rw [hm] at km hr
    cases dead with
    | true =>
      have hr2 : ans = (⟨kept, cache, fuse, keep, true⟩, 90) := hr
      subst hr2
      clear hm hr
      go_enter Try.func15, Try.ntmps15
      go_wp2_with fail
      go_at_call 17
      refine km.mono ?_
      rintro x w3 ⟨rfl, hb3⟩
      have HB3 := Lib.hid (HG.out.below.next hb3)
      have bx := HG.out.box.below hb3
      have d0 := bx.kept
      have d1 := bx.cache
      have d2 := bx.fuse
      have d3 := bx.keep
      have d4 := bx.dead
      obtain ⟨⟨r0, e0⟩, ⟨r1, e1⟩, ⟨r2, e2⟩, ⟨r3, e3⟩, ⟨r4, e4⟩, f0, f1, f2, f3, f4⟩ := (HG.out.res.below hb3).get
      have HR3 := Lib.hid (HG.out.res.below hb3)
      clear km hb3 b0 b1 b2 b3 b4 bx
      go_wp2
      have HBf := put5_below HB3.out (b := w.heap.size + 1) (by omega) (.slice p0 kept.length c0) (.slice p1 cache.length c1) (.int .i64 fuse) (.slice p3 keep.length c3) (.bool true)
      refine bodyPost_ret (res_two rfl _ _ (w.heap.size + 1) (.slice p0 kept.length c0) (.slice p1 cache.length c1) (.int .i64 fuse) (.slice p3 keep.length c3) (.bool true) rfl (put5_heap HR3.out _ _ _ _ _)) rfl ?_
      exact ⟨_, rfl, ⟨p0, c0, p1, c1, p3, c3, rfl, H0.out.below HBf, H1.out.below HBf, H3.out.below HBf⟩, HBf⟩
    | false =>
      have hr2 : ans = (⟨applyC kept cache, [], fuse, keep, false⟩, 0) := hr
      subst hr2
      have HMp : Hid (∀ i (hi : i < cache.length), 0 ≤ cache[i].1 ∧ cache[i].1 < kept.length) := Lib.hid (fun i hi => mayD_put hm i hi)
      obtain ⟨m1, m2, m3⟩ := mayD_kept hm
      dsimp only at m1 m2 m3
      have zm : (cache.length : Int) ≤ 20000 := by omega
      have zc1 : (cache.length : Int) ≤ c1 := by have := H1.out.len; omega
      have Hn : Hid (kept.length ≤ 5000) := Lib.hid m2
      clear hm hr m1 m2 m3
      go_enter Try.func15, Try.ntmps15
      go_wp2_with fail
      go_at_call 17
      refine km.mono ?_
      rintro x w3 ⟨rfl, hb3⟩
      have HR0 : Hid (Run w w3 kept p0 kept.length c0 p1 cache.length c1 fuse p3 keep.length c3 false) := Lib.hid ⟨HG.out.below.next hb3, HG.out.box.below hb3, H0.out.below (HG.out.below.next hb3), fun b off e hl => by have := row_block H0.out b off e hl; omega, fun b off e hl => by have := row_block H0.out b off e hl; omega, HG.out.own.below hb3, HG.out.res.below hb3⟩
      have d4 := (HG.out.box.below hb3).dead
      clear km hb3 b0 b1 b2 b3 b4 HG
      go_wp2
      go_loopw [4] (fun i wr => ∃ (j : Nat) (q : Option Addr) (c : Nat), i = .int .i64 j ∧ j ≤ cache.length ∧ Hid (Run w wr (applyC kept (cache.take j)) q kept.length c p1 cache.length c1 fuse p3 keep.length c3 false)) (fun i _ => cache.length - (RowKit.intOf i).toNat)
      case atStart => exact ⟨0, p0, c0, rfl, Nat.zero_le _, by simpa [applyC] using HR0⟩
      case round =>
        clear HR0 d4
        obtain ⟨j, q, c, rfl, hj, HR⟩ := hrel
        have bx := HR.out.box
        have d0 := bx.kept
        have d1 := bx.cache
        obtain ⟨-, -, -, -, -, g0, g1, -⟩ := HR.out.own.get
        by_cases hlt : j < cache.length
        · have zj : (j : Int) < cache.length := by omega
          have HD : Hid (applyC kept (cache.take (j + 1)) = setAt (applyC kept (cache.take j)) cache[j].1 cache[j].2) := by
            show _ = _
            rw [List.take_succ_eq_append_getElem hlt, applyC_snoc]
          obtain ⟨bk1, of1, rfl, s1⟩ := (H1.out.below HR.out.below).at hlt
          obtain ⟨cx0, cx1⟩ := put_at s1 hlt
          obtain ⟨a, ha⟩ := Int.eq_ofNat_of_zero_le (HMp.out j hlt).1
          have hal : a < kept.length := by have := (HMp.out j hlt).2; omega
          rw [ha] at cx0
          have HD2 : Hid (applyC kept (cache.take (j + 1)) = (applyC kept (cache.take j)).set a cache[j].2) := by
            show _ = _
            rw [HD.out, ha]
            unfold setAt
            rw [Int.toNat_natCast]
          obtain ⟨t, ht⟩ : ∃ t, t = cache[j].2 := ⟨_, rfl⟩
          rw [← ht] at cx1 HD2
          have hw := with_doc (applyC kept (cache.take j)) kept.length (applyC_length _ _) Hn.out q c a hal t wr.drew (HR.out.row.below ((Below.refl _ _).drew))
          have KW : Hid (∀ w4, Below wr.drew.heap.size wr.drew w4 → (∃ v, w4.cell? ⟨w.heap.size, 0, none⟩ = some v) ∧ w4.frozen? ⟨w.heap.size, 0, none⟩ = false) := Lib.hid (fun w4 hb => by
            have hg := ((HR.out.own.below ((Below.refl _ _).drew)).below hb).get
            exact ⟨hg.1, hg.2.2.2.2.2.1⟩)
          have HLn : Hid (((applyC kept (cache.take j)).set a t).length = kept.length) := by show _ = _; rw [List.length_set, applyC_length]
          clear s1 ha ht hal HD bx
          generalize hD : (applyC kept (cache.take j)).set a t = D2 at *
          clear hD
          generalize applyC kept (cache.take j) = D1 at *
          have d0d : wr.drew.cell? ⟨w.heap.size, 0, none⟩ = some (.slice q kept.length c) := d0
          go_wp2_with fail
          go_still_tail 14, (by kernel_rfl)
          go_wp2_with fail
          go_at_call 37
          refine hw.mono ?_
          rintro e w4 ⟨q4, c4, rfl, ho4, hb4⟩
          obtain ⟨⟨vk, k0⟩, k1⟩ := KW.out w4 hb4
          have HN := Lib.hid (HR.out.next HLn.out ho4 (((Below.refl wr.heap.size wr).drew).next hb4))
          clear hw ho4 hb4 HR KW d0 d1 d0d g0 g1 cx0 cx1
          go_wp2
          go_roundw
          case measure => simp [RowKit.intOf]; omega
          case rel => exact ⟨j + 1, q4, c4, by go_num, by omega, by rw [HD2.out]; exact HN⟩
        · have zj : ¬ (j : Int) < cache.length := by omega
          have HE : applyC kept (cache.take j) = applyC kept cache := by rw [List.take_of_length_le (by omega)]
          have HRe := Lib.hid (by rw [HE] at HR; exact HR.out)
          have d2 := bx.fuse
          have d3 := bx.keep
          have d4 := bx.dead
          obtain ⟨⟨r0, e0⟩, ⟨r1, e1⟩, ⟨r2, e2⟩, ⟨r3, e3⟩, ⟨r4, e4⟩, f0, f1, f2, f3, f4⟩ := HR.out.res.get
          clear HE HR bx
          go_wp2
          have HBs : Below w.heap.size w (wr.setCell ⟨w.heap.size, 1, none⟩ (.slice none 0 0)) := HRe.out.below.setCell (p := ⟨w.heap.size, 1, none⟩) (Nat.le_refl _) _
          have HBf := put5_below HBs (b := w.heap.size + 1) (by omega) (.slice q kept.length c) (.slice none 0 0) (.int .i64 fuse) (.slice p3 keep.length c3) (.bool false)
          refine bodyPost_ret (res_two rfl _ _ (w.heap.size + 1) (.slice q kept.length c) (.slice none 0 0) (.int .i64 fuse) (.slice p3 keep.length c3) (.bool false) rfl (put5_heap (HRe.out.res.set (by omega) _) _ _ _ _ _)) rfl ?_
          exact ⟨_, rfl, ⟨q, c, none, 0, p3, c3, by rw [applyC_length]; rfl, slie_same HRe.out.row (fun b off e hl => (put5_other _ _ _ _ _ _ _ _ (HRe.out.apart b off e hl)).trans (heap_setCell_other _ ⟨w.heap.size, 1, none⟩ _ _ (HRe.out.apart0 b off e hl))), SLie.nil _, H3.out.below HBf⟩, HBf⟩
  | false =>
    rw [hm] at km hr
    have hr2 : ans = (noneD, 1) := hr
    subst hr2
    clear hm hr
    go_enter Try.func15, Try.ntmps15
    go_wp2_with fail
    go_at_call 17
    refine km.mono ?_
    rintro x w3 ⟨rfl, hb3⟩
    have HB3 := Lib.hid (HG.out.below.next hb3)
    obtain ⟨⟨r0, e0⟩, ⟨r1, e1⟩, ⟨r2, e2⟩, ⟨r3, e3⟩, ⟨r4, e4⟩, f0, f1, f2, f3, f4⟩ := (HG.out.res.below hb3).get
    have HR3 := Lib.hid (HG.out.res.below hb3)
    clear km hb3 b0 b1 b2 b3 b4
    go_wp2
    have HBf := put5_below HB3.out (b := w.heap.size + 1) (by omega) (.slice none 0 0) (.slice none 0 0) (.int .i64 0) (.slice none 0 0) (.bool false)
    refine bodyPost_ret (res_two rfl _ _ (w.heap.size + 1) (.slice none 0 0) (.slice none 0 0) (.int .i64 0) (.slice none 0 0) (.bool false) rfl (put5_heap HR3.out _ _ _ _ _)) rfl ?_
    exact ⟨_, rfl, noneD_lie _, HBf⟩
end Go.Proofs.Ytaamjamcnnalbaa.Dv

