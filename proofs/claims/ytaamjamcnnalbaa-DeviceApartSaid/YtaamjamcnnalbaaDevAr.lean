/-
  The document's Arm of a disk.
-/
import Derived.Test.YtaamjamcnnalbaaDevRv
namespace Go.Proofs.Ytaamjamcnnalbaa.Dv
set_option maxRecDepth 100000
open Go.RowKit Go.Lib
theorem Res.set {w : World} {b g o : Nat} (h : Res w b) (hg : b ≠ g) (v : Value) : Res (w.setCell ⟨g, o, none⟩ v) b := by
  obtain ⟨v0, v1, v2, v3, v4, h⟩ := h.cell
  exact ⟨v0, v1, v2, v3, v4, by rw [heap_setCell_other w ⟨g, o, none⟩ b v hg]; exact h⟩
/-- what every call on a disk begins with: the disk in a block, a result's block behind it, and whether it may be -/
structure Begun (w w2 : World) (p0 : Option Addr) (n c0 : Nat) (p1 : Option Addr) (m c1 : Nat) (fuse : Int) (p3 : Option Addr) (k c3 : Nat) (dead : Bool) : Prop where
  below : Below w.heap.size w w2
  box : Box w2 w.heap.size p0 n c0 p1 m c1 fuse p3 k c3 dead
  own : Res w2 w.heap.size
  res : Res w2 (w.heap.size + 1)
theorem begun (w : World) (p0 : Option Addr) (n c0 : Nat) (p1 : Option Addr) (m c1 : Nat) (fuse : Int) (p3 : Option Addr) (k c3 : Nat) (dead : Bool) :
    Begun w ((w.alloc (.cells #[.slice p0 n c0, .slice p1 m c1, .int .i64 fuse, .slice p3 k c3, .bool dead] 26)).alloc (.cells #[.slice none 0 0, .slice none 0 0, .int .i64 0, .slice none 0 0, .bool false] 26)) p0 n c0 p1 m c1 fuse p3 k c3 dead := by
  have B1 := (Below.refl w.heap.size w).alloc (Nat.le_refl _) (.cells #[.slice p0 n c0, .slice p1 m c1, .int .i64 fuse, .slice p3 k c3, .bool dead] 26)
  have B2 := (Below.refl _ _).alloc (Nat.le_refl _) (w := w.alloc (.cells #[.slice p0 n c0, .slice p1 m c1, .int .i64 fuse, .slice p3 k c3, .bool dead] 26)) (.cells #[.slice none 0 0, .slice none 0 0, .int .i64 0, .slice none 0 0, .bool false] 26)
  have hbx := box_new w p0 n c0 p1 m c1 fuse p3 k c3 dead
  have hs1 : (w.alloc (.cells #[.slice p0 n c0, .slice p1 m c1, .int .i64 fuse, .slice p3 k c3, .bool dead] 26)).heap.size = w.heap.size + 1 := by simp
  have ho : Res (w.alloc (.cells #[.slice p0 n c0, .slice p1 m c1, .int .i64 fuse, .slice p3 k c3, .bool dead] 26)) w.heap.size := ⟨_, _, _, _, _, heap_alloc_new w _⟩
  exact ⟨B1.next B2, hbx.below B2, ho.below B2, ⟨_, _, _, _, _, by rw [← hs1]; exact heap_alloc_new _ _⟩⟩
set_option maxHeartbeats 4000000 in
theorem arm_doc (d : Dsk) (hd : Sized d) (v : Value) (f : Int) (K : List Bool) (kk : Nat) (hkk : K.length = kk) (pk : Option Addr) (ck : Nat) (w : World) (h : DLie w v d) (hK : FlagsLie w pk K ck) :
    Calls Try.prog 22 #[v, .int .i64 f, .slice pk kk ck] w fun x w' => ∃ u, x = .returned u ∧ DLie w' u (armD d f K) ∧ Below w.heap.size w w' := by
  obtain ⟨p0, c0, p1, c1, p3, c3, rfl, h0, h1, h3⟩ := h
  obtain ⟨kept, cache, fuse, keep, dead⟩ := d
  dsimp only at *
  have hbg := begun w p0 kept.length c0 p1 cache.length c1 fuse p3 keep.length c3 dead
  generalize hw2 : (w.alloc (.cells #[.slice p0 kept.length c0, .slice p1 cache.length c1, .int .i64 fuse, .slice p3 keep.length c3, .bool dead] 26)).alloc (.cells #[.slice none 0 0, .slice none 0 0, .int .i64 0, .slice none 0 0, .bool false] 26) = w2 at *
  have HG := Lib.hid hbg
  have b0 := hbg.box.kept
  have b1 := hbg.box.cache
  have b2 := hbg.box.fuse
  have b3 := hbg.box.keep
  have b4 := hbg.box.dead
  have km := may_doc _ hd _ w2 ⟨p0, c0, p1, c1, p3, c3, rfl, h0.below hbg.below, h1.below hbg.below, h3.below hbg.below⟩
  dsimp only at km
  have H0 := Lib.hid h0
  have H1 := Lib.hid h1
  have HK := Lib.hid hK
  have Hkk := Lib.hid hkk
  have hr : armD ⟨kept, cache, fuse, keep, dead⟩ f K = if mayD ⟨kept, cache, fuse, keep, dead⟩ then ⟨kept, cache, if f < -1 then -1 else f, K, dead⟩ else noneD := rfl
  generalize armD ⟨kept, cache, fuse, keep, dead⟩ f K = ans at *
  clear h0 h1 h3 hbg hK hkk
  cases hm : mayD ⟨kept, cache, fuse, keep, dead⟩ with
  | true =>
    rw [hm] at km hr
    have hr2 : ans = ⟨kept, cache, if f < -1 then -1 else f, K, dead⟩ := hr
    subst hr2
    clear hm hr
    obtain ⟨ff, hff⟩ : ∃ ff : Int, ff = if f < -1 then -1 else f := ⟨_, rfl⟩
    have HFf := Lib.hid hff
    have arm : (f < -1 ∧ ff = -1) ∨ (-1 ≤ f ∧ ff = f) := by
      rw [hff]
      split
      · exact .inl ⟨by assumption, rfl⟩
      · exact .inr ⟨by omega, rfl⟩
    clear hff
    have go : ∀ w3, Below w2.heap.size w2 w3 → ∀ u, u = Value.agg #[.slice p0 kept.length c0, .slice p1 cache.length c1, .int .i64 ff, .slice pk kk ck, .bool dead] →
        ∃ u', Ending.returned u = Ending.returned u' ∧ DLie (put5 ((w3.setCell ⟨w.heap.size, 2, none⟩ (.int .i64 ff)).setCell ⟨w.heap.size, 3, none⟩ (.slice pk kk ck)) (w.heap.size + 1) (.slice p0 kept.length c0) (.slice p1 cache.length c1) (.int .i64 ff) (.slice pk kk ck) (.bool dead)) u' ⟨kept, cache, if f < -1 then -1 else f, K, dead⟩ ∧ Below w.heap.size w (put5 ((w3.setCell ⟨w.heap.size, 2, none⟩ (.int .i64 ff)).setCell ⟨w.heap.size, 3, none⟩ (.slice pk kk ck)) (w.heap.size + 1) (.slice p0 kept.length c0) (.slice p1 cache.length c1) (.int .i64 ff) (.slice pk kk ck) (.bool dead)) := by
      intro w3 hb3 u hu
      have HBf := put5_below (((HG.out.below.next hb3).setCell (p := ⟨w.heap.size, 2, none⟩) (Nat.le_refl _) (.int .i64 ff)).setCell (p := ⟨w.heap.size, 3, none⟩) (Nat.le_refl _) (.slice pk kk ck)) (b := w.heap.size + 1) (by omega) (.slice p0 kept.length c0) (.slice p1 cache.length c1) (.int .i64 ff) (.slice pk kk ck) (.bool dead)
      refine ⟨_, rfl, ⟨p0, c0, p1, c1, pk, ck, ?_, H0.out.below HBf, H1.out.below HBf, HK.out.below HBf⟩, HBf⟩
      rw [hu, ← HFf.out, Hkk.out]
    have HGo := Lib.hid go
    clear go
    rcases arm with ⟨a1, a2⟩ | ⟨a1, a2⟩
    all_goals
      go_enter Try.func22, Try.ntmps22
      go_wp2_with fail
      go_at_call 17
      refine km.mono ?_
      rintro x w3 ⟨rfl, hb3⟩
      have HB3 := Lib.hid hb3
      have bx := HG.out.box.below hb3
      have d0 := bx.kept
      have d1 := bx.cache
      have d2 := bx.fuse
      have d3 := bx.keep
      have d4 := bx.dead
      obtain ⟨-, -, -, -, -, g0, g1, g2, g3, g4⟩ := (HG.out.own.below hb3).get
      obtain ⟨⟨r0, e0⟩, ⟨r1, e1⟩, ⟨r2, e2⟩, ⟨r3, e3⟩, ⟨r4, e4⟩, f0, f1, f2, f3, f4⟩ := (HG.out.res.below hb3).get
      have HR3 := Lib.hid (HG.out.res.below hb3)
      clear km hb3 b0 b1 b2 b3 b4 bx
      go_wp2
    · rw [a2, if_pos a1] at HGo
      refine bodyPost_ret (res_one rfl _ _ (w.heap.size + 1) (.slice p0 kept.length c0) (.slice p1 cache.length c1) (.int .i64 (-1)) (.slice pk kk ck) (.bool dead) rfl (put5_heap ((HR3.out.set (by omega) _).set (by omega) _) _ _ _ _ _)) rfl ?_
      exact HGo.out w3 HB3.out _ rfl
    · rw [a2, if_neg (by omega)] at HGo
      refine bodyPost_ret (res_one rfl _ _ (w.heap.size + 1) (.slice p0 kept.length c0) (.slice p1 cache.length c1) (.int .i64 f) (.slice pk kk ck) (.bool dead) rfl (put5_heap ((HR3.out.set (by omega) _).set (by omega) _) _ _ _ _ _)) rfl ?_
      exact HGo.out w3 HB3.out _ rfl
  | false =>
    rw [hm] at km hr
    have hr2 : ans = noneD := hr
    subst hr2
    clear hm hr
    go_enter Try.func22, Try.ntmps22
    go_wp2_with fail
    go_at_call 17
    refine km.mono ?_
    rintro x w3 ⟨rfl, hb3⟩
    have HB3 := Lib.hid (HG.out.below.next hb3)
    obtain ⟨⟨r0, e0⟩, ⟨r1, e1⟩, ⟨r2, e2⟩, ⟨r3, e3⟩, ⟨r4, e4⟩, f0, f1, f2, f3, f4⟩ := (HG.out.res.below hb3).get
    have HR3 := Lib.hid (HG.out.res.below hb3)
    clear km hb3 b0 b1 b2 b3 b4
    go_wp2
    have HBf := put5_below HB3.out (b := w.heap.size + 1) (by omega) (.slice none 0 0) (.slice none 0 0) (.int .i64 0) (.slice none 0 0) (.bool false)
    refine bodyPost_ret (res_one rfl _ _ (w.heap.size + 1) (.slice none 0 0) (.slice none 0 0) (.int .i64 0) (.slice none 0 0) (.bool false) rfl (put5_heap HR3.out _ _ _ _ _)) rfl ?_
    exact ⟨_, rfl, noneD_lie _, HBf⟩
end Go.Proofs.Ytaamjamcnnalbaa.Dv

