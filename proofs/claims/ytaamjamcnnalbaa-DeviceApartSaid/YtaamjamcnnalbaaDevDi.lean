/-
  The document's Die of a disk.
-/
import Derived.Test.YtaamjamcnnalbaaDevAr
import Derived.StillTailTactics
namespace Go.Proofs.Ytaamjamcnnalbaa.Dv
set_option maxRecDepth 100000
open Go.RowKit Go.Lib
theorem dieC_step : ∀ (L : List ByteArray) (c : List (Int × ByteArray)) (k : List Bool) (i : Nat) (h1 : i < c.length) (h2 : i < k.length), dieC L (c.take (i + 1)) k = if k[i] then setAt (dieC L (c.take i) k) c[i].1 c[i].2 else dieC L (c.take i) k
  | L, p :: c, b :: k, 0, _, _ => by cases b <;> simp [dieC]
  | L, p :: c, b :: k, i + 1, h1, h2 => by
    have := dieC_step (if b then setAt L p.1 p.2 else L) c k i (by simpa using h1) (by simpa using h2)
    simpa [dieC] using this
theorem dieC_end : ∀ (L : List ByteArray) (c : List (Int × ByteArray)) (k : List Bool) (i : Nat), k.length ≤ i → dieC L (c.take i) k = dieC L c k
  | L, [], k, i, _ => by simp
  | L, p :: c, [], i, _ => by cases i <;> simp [dieC]
  | L, p :: c, b :: k, 0, h => by simp at h
  | L, p :: c, b :: k, i + 1, h => by
    have := dieC_end (if b then setAt L p.1 p.2 else L) c k i (by simpa using h)
    simpa [dieC] using this
theorem setAt_length (L : List ByteArray) (a : Int) (s : ByteArray) : (setAt L a s).length = L.length := by unfold setAt; simp
theorem dieC_length : ∀ (L : List ByteArray) (c : List (Int × ByteArray)) (k : List Bool), (dieC L c k).length = L.length
  | L, [], k => by simp [dieC]
  | L, p :: c, [] => by simp [dieC]
  | L, p :: c, b :: k => by
    rw [dieC, dieC_length]
    split
    · rw [setAt_length]
    · rfl
theorem mayD_put {d : Dsk} (h : mayD d = true) (i : Nat) (hi : i < d.cache.length) : 0 ≤ d.cache[i].1 ∧ d.cache[i].1 < d.kept.length := by
  unfold mayD at h
  simp only [Bool.and_eq_true, decide_eq_true_eq, List.all_eq_true] at h
  have h2 := h.2.2 _ (List.getElem_mem hi)
  unfold putMay at h2
  simp only [Bool.and_eq_true, decide_eq_true_eq] at h2
  exact ⟨h2.1, h2.2.1⟩
theorem cell_same {w w' : World} {b o : Nat} (h : w'.heap[b]? = w.heap[b]?) : w'.cell? ⟨b, o, none⟩ = w.cell? ⟨b, o, none⟩ := by
  simp only [World.cell?, h]
theorem slie_same {α : Type} {S : Shape α} {w w' : World} {p : Option Addr} {L : List α} {cap : Nat} (h : SLie S w p L cap) (hh : ∀ b off, p = some ⟨b, off, none⟩ → L ≠ [] → w'.heap[b]? = w.heap[b]?) : SLie S w' p L cap := by
  refine ⟨h.len, h.cap, ?_, h.none0⟩
  rcases h.lies with hl | ⟨blk, off, e, k⟩
  · exact .inl hl
  · by_cases hl : L = []
    · exact .inl hl
    · exact .inr ⟨blk, off, e, fun i hi j v hv => by rw [cell_same (hh blk off e hl)]; exact k i hi j v hv⟩
theorem put5_other (w : World) (b g : Nat) (v0 v1 v2 v3 v4 : Value) (h : g ≠ b) : (put5 w b v0 v1 v2 v3 v4).heap[g]? = w.heap[g]? := by
  unfold put5
  rw [heap_setCell_other _ _ g _ h, heap_setCell_other _ _ g _ h, heap_setCell_other _ _ g _ h, heap_setCell_other _ _ g _ h, heap_setCell_other _ _ g _ h]
theorem row_block {w : World} {q : Option Addr} {L : List ByteArray} {c : Nat} (h : SLie strS w q L c) : ∀ b off, q = some ⟨b, off, none⟩ → L ≠ [] → b < w.heap.size := fun b off e hl => by
  have hi : 0 < L.length := List.length_pos_iff.2 hl
  obtain ⟨b', off', e', hk⟩ := h.at hi
  rw [e] at e'
  cases e'
  exact World.block_lt_of_cell? w _ (str_at hk hi)
theorem own_block {w : World} {B n d e size : Nat} {q : Option Addr} {xs : List Value} (h : w.ownsRow B e size (.slice q n d) n xs) : ∀ b off, q = some ⟨b, off, none⟩ → B ≤ b := fun b off he => by
  rcases h.2 with ⟨h1, h2⟩ | ⟨g', cap', cur, h1, h2, h3, h4, h5, h6⟩
  · cases h1; cases he
  · cases h1; cases he; omega
/-- a disk's block, its sectors written anew, and a result's block behind it -/
structure Run (w wr : World) (L : List ByteArray) (q : Option Addr) (n c : Nat) (p1 : Option Addr) (m c1 : Nat) (fuse : Int) (p3 : Option Addr) (k c3 : Nat) (dead : Bool) : Prop where
  below : Below w.heap.size w wr
  box : Box wr w.heap.size q n c p1 m c1 fuse p3 k c3 dead
  row : SLie strS wr q L c
  apart : ∀ b off, q = some ⟨b, off, none⟩ → L ≠ [] → b ≠ w.heap.size + 1
  apart0 : ∀ b off, q = some ⟨b, off, none⟩ → L ≠ [] → b ≠ w.heap.size
  own : Res wr w.heap.size
  res : Res wr (w.heap.size + 1)
theorem Run.next {w wr w' : World} {L L' : List ByteArray} {q q' : Option Addr} {n c d : Nat} {p1 : Option Addr} {m c1 : Nat} {fuse : Int} {p3 : Option Addr} {k c3 : Nat} {dead : Bool}
    (h : Run w wr L q n c p1 m c1 fuse p3 k c3 dead) (hn : L'.length = n) (ho : w'.ownsRow wr.heap.size 9 1 (.slice q' n d) n (flat strS L')) (hb : Below wr.heap.size wr w') :
    Run w (w'.setCell ⟨w.heap.size, 0, none⟩ (.slice q' n d)) L' q' n d p1 m c1 fuse p3 k c3 dead := by
  have hlt : w.heap.size < wr.heap.size := h.own.lt
  have hbx := h.box.below hb
  obtain ⟨v0, v1, v2, v3, v4, hc⟩ := (h.own.below hb).cell
  have e1 := (box_cell hc 1).symm.trans hbx.cache
  have e2 := (box_cell hc 2).symm.trans hbx.fuse
  have e3 := (box_cell hc 3).symm.trans hbx.keep
  have e4 := (box_cell hc 4).symm.trans hbx.dead
  simp at e1 e2 e3 e4
  subst e1 e2 e3 e4
  have hs := heap_setCell_same w' w.heap.size 0 _ 26 (.slice q' n d) hc
  exact ⟨(h.below.next hb).setCell (p := ⟨w.heap.size, 0, none⟩) (Nat.le_refl _) _, ⟨box_cell hs 0, box_cell hs 1, box_cell hs 2, box_cell hs 3, box_cell hs 4⟩,
    slie_own (ownsRow_setCell_below ho (a := ⟨w.heap.size, 0, none⟩) hlt _) hn, fun b off e _ => by have := own_block ho b off e; have := h.res.lt; omega, fun b off e _ => by have := own_block ho b off e; omega, ⟨_, _, _, _, _, hs⟩, (h.res.below hb).set (by omega) _⟩
theorem flags_cell {w : World} {blk off : Nat} {l : List Bool} (h : FlagsAt w blk off l) {i : Nat} (hi : i < l.length) : w.cell? ⟨blk, off + i, none⟩ = some (.bool l[i]) := by rw [h i hi, List.getD_eq_getElem?_getD, List.getElem?_eq_getElem hi]; rfl
set_option maxHeartbeats 8000000 in
theorem die_doc (d : Dsk) (hd : Sized d) (v : Value) (K : List Bool) (kk : Nat) (hkk : K.length = kk) (pk : Option Addr) (ck : Nat) (w : World) (h : DLie w v d) (hK : FlagsLie w pk K ck) :
    Calls Try.prog 24 #[v, .slice pk kk ck] w fun x w' => ∃ u, x = .returned u ∧ DLie w' u (dieD d K) ∧ Below w.heap.size w w' := by
  obtain ⟨p0, c0, p1, c1, p3, c3, rfl, h0, h1, h3⟩ := h
  obtain ⟨kept, cache, fuse, keep, dead⟩ := d
  dsimp only at *
  have hbg := begun w p0 kept.length c0 p1 cache.length c1 fuse p3 keep.length c3 dead
  generalize hw2 : (w.alloc (.cells #[.slice p0 kept.length c0, .slice p1 cache.length c1, .int .i64 fuse, .slice p3 keep.length c3, .bool dead] 26)).alloc (.cells #[.slice none 0 0, .slice none 0 0, .int .i64 0, .slice none 0 0, .bool false] 26) = w2 at *
  have HG := Lib.hid hbg
  have b0 := hbg.box.kept
  have b1 := hbg.box.cache
  have b2 := hbg.box.fuse
  have b3 := hbg.box.keep
  have b4 := hbg.box.dead
  have km := may_doc _ hd _ w2 ⟨p0, c0, p1, c1, p3, c3, rfl, h0.below hbg.below, h1.below hbg.below, h3.below hbg.below⟩
  dsimp only at km
  have H0 := Lib.hid h0
  have H1 := Lib.hid h1
  have HK := Lib.hid hK
  have Hkk := Lib.hid hkk
  have hr : dieD ⟨kept, cache, fuse, keep, dead⟩ K = if mayD ⟨kept, cache, fuse, keep, dead⟩ then ⟨dieC kept cache K, [], -1, [], true⟩ else noneD := rfl
  generalize dieD ⟨kept, cache, fuse, keep, dead⟩ K = ans at *
  clear h0 h1 h3 hbg hK hkk
  cases hm : mayD ⟨kept, cache, fuse, keep, dead⟩ with
  | true =>
    rw [hm] at km hr
    have hr2 : ans = ⟨dieC kept cache K, [], -1, [], true⟩ := hr
    subst hr2
    have HMp : Hid (∀ i (hi : i < cache.length), 0 ≤ cache[i].1 ∧ cache[i].1 < kept.length) := Lib.hid (fun i hi => mayD_put hm i hi)
    obtain ⟨m1, m2, m3⟩ := mayD_kept hm
    dsimp only at m1 m2 m3
    have zm : (cache.length : Int) ≤ 20000 := by omega
    have zc1 : (cache.length : Int) ≤ c1 := by have := H1.out.len; omega
    have zck : (kk : Int) ≤ ck := by have := HK.out.len; have := Hkk.out; omega
    have Hn : Hid (kept.length ≤ 5000) := Lib.hid m2
    clear hm hr m1 m2 m3
    go_enter Try.func24, Try.ntmps24
    go_wp2_with fail
    go_at_call 17
    refine km.mono ?_
    rintro x w3 ⟨rfl, hb3⟩
    have HR0 : Hid (Run w w3 kept p0 kept.length c0 p1 cache.length c1 fuse p3 keep.length c3 dead) := Lib.hid ⟨HG.out.below.next hb3, HG.out.box.below hb3, H0.out.below (HG.out.below.next hb3), fun b off e hl => by have := row_block H0.out b off e hl; omega, fun b off e hl => by have := row_block H0.out b off e hl; omega, HG.out.own.below hb3, HG.out.res.below hb3⟩
    clear km hb3 b0 b1 b2 b3 b4 HG
    go_wp2
    go_loopw [5] (fun i wr => ∃ (j : Nat) (q : Option Addr) (c : Nat), i = .int .i64 j ∧ j ≤ cache.length ∧ Hid (Run w wr (dieC kept (cache.take j) K) q kept.length c p1 cache.length c1 fuse p3 keep.length c3 dead)) (fun i _ => cache.length - (RowKit.intOf i).toNat)
    case atStart => exact ⟨0, p0, c0, rfl, Nat.zero_le _, by simpa [dieC] using HR0⟩
    case round =>
      clear HR0
      obtain ⟨j, q, c, rfl, hj, HR⟩ := hrel
      have bx := HR.out.box
      have d0 := bx.kept
      have d1 := bx.cache
      obtain ⟨-, -, -, -, -, g0, -⟩ := HR.out.own.get
      by_cases hlt : j < cache.length
      · have zj : (j : Int) < cache.length := by omega
        by_cases hlk : j < kk
        · have zk : (j : Int) < kk := by omega
          have hjK : j < K.length := by rw [Hkk.out]; exact hlk
          have HD := Lib.hid (dieC_step kept cache K j hlt hjK)
          obtain ⟨blk, off, rfl, hk⟩ := (HK.out.below HR.out.below).at hjK
          have ck0 := flags_cell hk hjK
          obtain ⟨fl, hfl⟩ : ∃ fl, fl = K[j] := ⟨_, rfl⟩
          rw [← hfl] at ck0 HD
          clear hk hfl
          cases fl with
          | true =>
            obtain ⟨bk1, of1, rfl, s1⟩ := (H1.out.below HR.out.below).at hlt
            obtain ⟨cx0, cx1⟩ := put_at s1 hlt
            obtain ⟨a, ha⟩ := Int.eq_ofNat_of_zero_le (HMp.out j hlt).1
            have hal : a < kept.length := by have := (HMp.out j hlt).2; omega
            rw [ha] at cx0
            have HD2 : Hid (dieC kept (cache.take (j + 1)) K = (dieC kept (cache.take j) K).set a cache[j].2) := by
              show _ = _
              rw [HD.out, if_pos rfl, ha]
              unfold setAt
              rw [Int.toNat_natCast]
            obtain ⟨t, ht⟩ : ∃ t, t = cache[j].2 := ⟨_, rfl⟩
            rw [← ht] at cx1 HD2
            have hw := with_doc (dieC kept (cache.take j) K) kept.length (dieC_length _ _ _) Hn.out q c a hal t wr.drew (HR.out.row.below ((Below.refl _ _).drew))
            have KW : Hid (∀ w4, Below wr.drew.heap.size wr.drew w4 → (∃ v, w4.cell? ⟨w.heap.size, 0, none⟩ = some v) ∧ w4.frozen? ⟨w.heap.size, 0, none⟩ = false) := Lib.hid (fun w4 hb => by
              have hg := ((HR.out.own.below ((Below.refl _ _).drew)).below hb).get
              exact ⟨hg.1, hg.2.2.2.2.2.1⟩)
            have HLn : Hid (((dieC kept (cache.take j) K).set a t).length = kept.length) := by show _ = _; rw [List.length_set, dieC_length]
            have KC : Hid (∀ w4, Below wr.drew.heap.size wr.drew w4 → w4.cell? ⟨w.heap.size, 1, none⟩ = some (.slice (some ⟨bk1, of1, none⟩) cache.length c1) ∧ w4.cell? ⟨bk1, of1 + j * 2, none⟩ = some (.int .i64 (a : Nat)) ∧ w4.cell? ⟨bk1, of1 + j * 2 + 1, none⟩ = some (.string t)) := Lib.hid (fun w4 hb => by
              have k1 : wr.drew.cell? ⟨w.heap.size, 1, none⟩ = some (.slice (some ⟨bk1, of1, none⟩) cache.length c1) := d1
              have k2 : wr.drew.cell? ⟨bk1, of1 + j * 2, none⟩ = some (.int .i64 (a : Nat)) := cx0
              have k3 : wr.drew.cell? ⟨bk1, of1 + j * 2 + 1, none⟩ = some (.string t) := cx1
              exact ⟨by rw [hb.cell (p := ⟨w.heap.size, 1, none⟩) (World.block_lt_of_cell? _ _ k1)]; exact k1, by rw [hb.cell (p := ⟨bk1, of1 + j * 2, none⟩) (World.block_lt_of_cell? _ _ k2)]; exact k2, by rw [hb.cell (p := ⟨bk1, of1 + j * 2 + 1, none⟩) (World.block_lt_of_cell? _ _ k3)]; exact k3⟩)
            clear s1 ha ht hal HD bx
            generalize hD : (dieC kept (cache.take j) K).set a t = D2 at *
            clear hD
            generalize dieC kept (cache.take j) K = D1 at *
            have d0d : wr.drew.cell? ⟨w.heap.size, 0, none⟩ = some (.slice q kept.length c) := d0
            go_wp2_with fail
            go_still_tail 14, (by kernel_rfl)
            go_wp2_with fail
            go_at_call 37
            refine hw.mono ?_
            rintro e w4 ⟨q4, c4, rfl, ho4, hb4⟩
            obtain ⟨⟨vk, k0⟩, k1⟩ := KW.out w4 hb4
            have HN := Lib.hid (HR.out.next HLn.out ho4 (((Below.refl wr.heap.size wr).drew).next hb4))
            clear hw ho4 hb4 HR KC KW d0 d1 d0d g0 cx0 cx1 ck0
            go_wp2
            go_roundw
            case measure => simp [RowKit.intOf]; omega
            case rel => exact ⟨j + 1, q4, c4, by go_num, by omega, by rw [HD2.out]; exact HN⟩
          | false =>
            go_wp2
            go_roundw
            case measure => simp [RowKit.intOf]; omega
            case rel => exact ⟨j + 1, q, c, by go_num, by omega, by rw [HD.out]; exact HR⟩
        · have zk : ¬ (j : Int) < kk := by omega
          have HE : dieC kept (cache.take j) K = dieC kept cache K := dieC_end kept cache K j (by rw [Hkk.out]; omega)
          have HRe := Lib.hid (by rw [HE] at HR; exact HR.out)
          obtain ⟨⟨r0, e0⟩, ⟨r1, e1⟩, ⟨r2, e2⟩, ⟨r3, e3⟩, ⟨r4, e4⟩, f0, f1, f2, f3, f4⟩ := HR.out.res.get
          clear HE HR bx
          go_wp2
          have HBf := put5_below HRe.out.below (b := w.heap.size + 1) (by omega) (.slice q kept.length c) (.slice none 0 0) (.int .i64 (-1)) (.slice none 0 0) (.bool true)
          refine bodyPost_ret (res_one rfl _ _ (w.heap.size + 1) (.slice q kept.length c) (.slice none 0 0) (.int .i64 (-1)) (.slice none 0 0) (.bool true) rfl (put5_heap HRe.out.res _ _ _ _ _)) rfl ?_
          exact ⟨_, rfl, ⟨q, c, none, 0, none, 0, by rw [dieC_length]; rfl, slie_same HRe.out.row (fun b off e hl => put5_other _ _ _ _ _ _ _ _ (HRe.out.apart b off e hl)), SLie.nil _, flagsNone _⟩, HBf⟩
      · have zj : ¬ (j : Int) < cache.length := by omega
        have HE : dieC kept (cache.take j) K = dieC kept cache K := by rw [List.take_of_length_le (by omega)]
        have HRe := Lib.hid (by rw [HE] at HR; exact HR.out)
        obtain ⟨⟨r0, e0⟩, ⟨r1, e1⟩, ⟨r2, e2⟩, ⟨r3, e3⟩, ⟨r4, e4⟩, f0, f1, f2, f3, f4⟩ := HR.out.res.get
        clear HE HR bx
        go_wp2
        have HBf := put5_below HRe.out.below (b := w.heap.size + 1) (by omega) (.slice q kept.length c) (.slice none 0 0) (.int .i64 (-1)) (.slice none 0 0) (.bool true)
        refine bodyPost_ret (res_one rfl _ _ (w.heap.size + 1) (.slice q kept.length c) (.slice none 0 0) (.int .i64 (-1)) (.slice none 0 0) (.bool true) rfl (put5_heap HRe.out.res _ _ _ _ _)) rfl ?_
        exact ⟨_, rfl, ⟨q, c, none, 0, none, 0, by rw [dieC_length]; rfl, slie_same HRe.out.row (fun b off e hl => put5_other _ _ _ _ _ _ _ _ (HRe.out.apart b off e hl)), SLie.nil _, flagsNone _⟩, HBf⟩
  | false =>
    rw [hm] at km hr
    have hr2 : ans = noneD := hr
    subst hr2
    clear hm hr
    go_enter Try.func24, Try.ntmps24
    go_wp2_with fail
    go_at_call 17
    refine km.mono ?_
    rintro x w3 ⟨rfl, hb3⟩
    have HB3 := Lib.hid (HG.out.below.next hb3)
    obtain ⟨⟨r0, e0⟩, ⟨r1, e1⟩, ⟨r2, e2⟩, ⟨r3, e3⟩, ⟨r4, e4⟩, f0, f1, f2, f3, f4⟩ := (HG.out.res.below hb3).get
    have HR3 := Lib.hid (HG.out.res.below hb3)
    clear km hb3 b0 b1 b2 b3 b4
    go_wp2
    have HBf := put5_below HB3.out (b := w.heap.size + 1) (by omega) (.slice none 0 0) (.slice none 0 0) (.int .i64 0) (.slice none 0 0) (.bool false)
    refine bodyPost_ret (res_one rfl _ _ (w.heap.size + 1) (.slice none 0 0) (.slice none 0 0) (.int .i64 0) (.slice none 0 0) (.bool false) rfl (put5_heap HR3.out _ _ _ _ _)) rfl ?_
    exact ⟨_, rfl, noneD_lie _, HBf⟩
end Go.Proofs.Ytaamjamcnnalbaa.Dv

