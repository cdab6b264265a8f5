/-
  Package device's Revive, Die of a disk.
-/
import Derived.Test.YtaamjamcnnalbaaDvK
namespace Go.Proofs.Ytaamjamcnnalbaa.Dv
set_option maxRecDepth 100000
open Go.RowKit Go.Lib
/-- a call's memory once the disk is its own: the disk's block, the result's block behind it, rows of its own behind that -/
structure Owd (w wr : World) (d : Dsk) (p0 : Option Addr) (c0 : Nat) (p1 : Option Addr) (c1 : Nat) (p3 : Option Addr) (c3 : Nat) : Prop where
  below : Below w.heap.size w wr
  box : Box wr w.heap.size p0 d.kept.length c0 p1 d.cache.length c1 d.fuse p3 d.keep.length c3 d.dead
  own : Res wr w.heap.size
  res : Res wr (w.heap.size + 1)
  mine : Mine (w.heap.size + 2) wr d p0 c0 p1 c1 p3 c3
theorem Owd.later {w wr w' : World} {d : Dsk} {p0 : Option Addr} {c0 : Nat} {p1 : Option Addr} {c1 : Nat} {p3 : Option Addr} {c3 : Nat} (h : Owd w wr d p0 c0 p1 c1 p3 c3) (hb : Below wr.heap.size wr w') : Owd w w' d p0 c0 p1 c1 p3 c3 :=
  ⟨h.below.next hb, h.box.below hb, h.own.below hb, h.res.below hb, own_later h.mine.row0 hb, own_later h.mine.row1 hb, own_later h.mine.row3 hb⟩
theorem row_ne {w : World} {B e s n b : Nat} {q : Option Addr} {d : Nat} {xs : List Value} (h : w.ownsRow B e s (.slice q n d) n xs) (hb : b < B) : (Value.slice q n d).ownBlock ≠ some b := fun k => by
  cases q with
  | none => cases k
  | some a =>
    rcases h.2 with ⟨h1, _⟩ | ⟨g, cap, cur, h1, h2, _⟩
    · cases h1
    · cases h1
      have e : g = b := by simpa [Value.ownBlock] using k
      omega
theorem owd (w w4 : World) (d : Dsk) (p0 : Option Addr) (c0 : Nat) (p1 : Option Addr) (c1 : Nat) (p3 : Option Addr) (c3 : Nat) (hb : Below w.heap.size w w4) (ho : Res w4 w.heap.size) (hr : Res w4 (w.heap.size + 1)) {B : Nat} (hB : w.heap.size + 2 ≤ B) (hm : Mine B w4 d p0 c0 p1 c1 p3 c3) :
    Owd w (put5 w4 w.heap.size (.slice p0 d.kept.length c0) (.slice p1 d.cache.length c1) (.int .i64 d.fuse) (.slice p3 d.keep.length c3) (.bool d.dead)) d p0 c0 p1 c1 p3 c3 := by
  have h5 := put5_heap ho (.slice p0 d.kept.length c0) (.slice p1 d.cache.length c1) (.int .i64 d.fuse) (.slice p3 d.keep.length c3) (.bool d.dead)
  exact ⟨put5_below hb (Nat.le_refl _) _ _ _ _ _, ⟨box_cell h5 0, box_cell h5 1, box_cell h5 2, box_cell h5 3, box_cell h5 4⟩, ⟨_, _, _, _, _, h5⟩, hr.same (put5_other _ _ _ _ _ _ _ _ (by omega)),
    own_low (own_put5 hm.row0 (row_ne hm.row0 (by omega)) _ _ _ _ _) hB, own_low (own_put5 hm.row1 (row_ne hm.row1 (by omega)) _ _ _ _ _) hB, own_low (own_put5 hm.row3 (row_ne hm.row3 (by omega)) _ _ _ _ _) hB⟩
/-- a row of one's own behind the store of a result -/
theorem own_res {α : Type} {S : Shape α} {w : World} {B b n c e : Nat} {q : Option Addr} {L : List α} (h : w.ownsRow B e S.size (.slice q n c) n (flat S L)) (hn : L.length = n) (hb : b < B) (v0 v1 v2 v3 v4 : Value) : SLie S (put5 w b v0 v1 v2 v3 v4) q L c :=
  slie_own (own_put5 h (row_ne h hb) v0 v1 v2 v3 v4) hn
set_option maxHeartbeats 4000000 in
theorem revive_own (d : Dsk) (v : Value) (w : World) (hd : Sized d) (h : DLie w v d) :
    Calls Try.prog 25 #[v] w fun x w' => ∃ u, x = .returned u ∧ DLie w' u (reviveD d) ∧ Below w.heap.size w w' := by
  obtain ⟨p0, c0, p1, c1, p3, c3, rfl, h0, h1, h3⟩ := h
  obtain ⟨kept, cache, fuse, keep, dead⟩ := d
  dsimp only at *
  have hbg := begun w p0 kept.length c0 p1 cache.length c1 fuse p3 keep.length c3 dead
  generalize hw2 : (w.alloc (.cells #[.slice p0 kept.length c0, .slice p1 cache.length c1, .int .i64 fuse, .slice p3 keep.length c3, .bool dead] 26)).alloc (.cells #[.slice none 0 0, .slice none 0 0, .int .i64 0, .slice none 0 0, .bool false] 26) = w2 at *
  have HG := Lib.hid hbg
  have b0 := hbg.box.kept
  have b1 := hbg.box.cache
  have b2 := hbg.box.fuse
  have b3 := hbg.box.keep
  have b4 := hbg.box.dead
  have km := may_code _ _ w2 hd ⟨p0, c0, p1, c1, p3, c3, rfl, h0.below hbg.below, h1.below hbg.below, h3.below hbg.below⟩
  dsimp only at km
  have H0 := Lib.hid h0
  have H1 := Lib.hid h1
  have H3 := Lib.hid h3
  have Hd := Lib.hid hd
  have hr : reviveD ⟨kept, cache, fuse, keep, dead⟩ = if mayD ⟨kept, cache, fuse, keep, dead⟩ then ⟨kept, [], -1, [], false⟩ else noneD := rfl
  generalize reviveD ⟨kept, cache, fuse, keep, dead⟩ = ans at *
  clear h0 h1 h3 hbg hd
  cases hm : mayD ⟨kept, cache, fuse, keep, dead⟩ with
  | true =>
    rw [hm] at km hr
    have hr2 : ans = ⟨kept, [], -1, [], false⟩ := hr
    subst hr2
    have KO := Lib.hid (fun w' (hb : Below w.heap.size w w') => own_code _ Hd.out hm _ w' ⟨p0, c0, p1, c1, p3, c3, rfl, H0.out.below hb, H1.out.below hb, H3.out.below hb⟩)
    dsimp only at KO
    clear hm hr
    go_enter Try.func25, Try.ntmps25
    go_wp2_with fail
    go_at_call 16
    refine km.mono ?_
    rintro x w3 ⟨rfl, hb3⟩
    have HB3 := Lib.hid (HG.out.below.next hb3)
    have HX3 := Lib.hid (HG.out.box.below hb3)
    have HR3 := Lib.hid (HG.out.res.below hb3)
    have ko := KO.out w3 HB3.out
    clear km hb3 b0 b1 b2 b3 b4
    have b0 := HX3.out.kept
    have b1 := HX3.out.cache
    have b2 := HX3.out.fuse
    have b3 := HX3.out.keep
    have b4 := HX3.out.dead
    go_wp2_with fail
    go_at_call 33
    refine ko.mono ?_
    rintro x w4 ⟨q0, e0, q1, e1, q3, e3, rfl, hmine, hb4⟩
    have HM := Lib.hid hmine
    have HB4 := Lib.hid (HB3.out.next hb4)
    have HR4 := Lib.hid (HR3.out.below hb4)
    have HL := Lib.hid HR3.out.lt
    have kr := restart_code q0 kept.length e0 q1 cache.length e1 fuse q3 keep.length e3 dead false w4
    clear ko hmine hb4 b0 b1 b2 b3 b4
    go_wp2_with fail
    go_at_call 36
    refine kr.mono ?_
    rintro x w5 ⟨rfl, hb5⟩
    have HB5 := Lib.hid (HB4.out.next hb5)
    have HR5 := Lib.hid (HR4.out.below hb5)
    have H5 := Lib.hid (own_later HM.out.row0 hb5)
    obtain ⟨⟨r0, e0⟩, ⟨r1, e1⟩, ⟨r2, e2⟩, ⟨r3, e3⟩, ⟨r4, e4⟩, f0, f1, f2, f3, f4⟩ := HR5.out.get
    clear kr hb5
    go_wp2
    refine bodyPost_ret (res_one rfl _ _ (w.heap.size + 1) _ (.slice none 0 0) (.int .i64 (-1)) (.slice none 0 0) (.bool false) rfl (put5_heap HR5.out _ _ _ _ _)) rfl ?_
    exact ⟨_, rfl, ⟨_, _, none, 0, none, 0, rfl, own_res (S := strS) H5.out rfl HL.out _ _ _ _ _, SLie.nil _, flagsNone _⟩, put5_below HB5.out (b := w.heap.size + 1) (by omega) _ _ _ _ _⟩
  | false =>
    rw [hm] at km hr
    have hr2 : ans = noneD := hr
    subst hr2
    clear hm hr
    go_enter Try.func25, Try.ntmps25
    go_wp2_with fail
    go_at_call 16
    refine km.mono ?_
    rintro x w3 ⟨rfl, hb3⟩
    have HB3 := Lib.hid (HG.out.below.next hb3)
    obtain ⟨⟨r0, e0⟩, ⟨r1, e1⟩, ⟨r2, e2⟩, ⟨r3, e3⟩, ⟨r4, e4⟩, f0, f1, f2, f3, f4⟩ := (HG.out.res.below hb3).get
    have HR3 := Lib.hid (HG.out.res.below hb3)
    clear km hb3 b0 b1 b2 b3 b4
    go_wp2
    refine bodyPost_ret (res_one rfl _ _ (w.heap.size + 1) (.slice none 0 0) (.slice none 0 0) (.int .i64 0) (.slice none 0 0) (.bool false) rfl (put5_heap HR3.out _ _ _ _ _)) rfl ?_
    exact ⟨_, rfl, noneD_lie _, put5_below HB3.out (b := w.heap.size + 1) (by omega) _ _ _ _ _⟩
end Go.Proofs.Ytaamjamcnnalbaa.Dv
