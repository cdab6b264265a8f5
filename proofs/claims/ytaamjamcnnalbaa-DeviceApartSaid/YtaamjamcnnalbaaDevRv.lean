/-
  The document's Revive and Arm of a disk.
-/
import Derived.Test.YtaamjamcnnalbaaDevRd
import Derived.Laws.ResultCell
namespace Go.Proofs.Ytaamjamcnnalbaa.Dv
set_option maxRecDepth 100000
open Go.RowKit Go.Lib
/-- a result's block: five cells that may be written -/
structure Res (w : World) (b : Nat) : Prop where
  cell : ∃ v0 v1 v2 v3 v4, w.heap[b]? = some (.cells #[v0, v1, v2, v3, v4] 26 (0, 0))
theorem Res.below {w w' : World} {b : Nat} (h : Res w b) (hb : Below w.heap.size w w') : Res w' b := by
  obtain ⟨v0, v1, v2, v3, v4, h⟩ := h.cell
  have hlt : b < w.heap.size := (Array.getElem?_eq_some_iff.1 h).1
  exact ⟨v0, v1, v2, v3, v4, (hb.block b hlt).trans h⟩
theorem Res.get {w : World} {b : Nat} (h : Res w b) : (∃ v, w.cell? ⟨b, 0, none⟩ = some v) ∧ (∃ v, w.cell? ⟨b, 1, none⟩ = some v) ∧ (∃ v, w.cell? ⟨b, 2, none⟩ = some v) ∧ (∃ v, w.cell? ⟨b, 3, none⟩ = some v) ∧ (∃ v, w.cell? ⟨b, 4, none⟩ = some v) ∧
    w.frozen? ⟨b, 0, none⟩ = false ∧ w.frozen? ⟨b, 1, none⟩ = false ∧ w.frozen? ⟨b, 2, none⟩ = false ∧ w.frozen? ⟨b, 3, none⟩ = false ∧ w.frozen? ⟨b, 4, none⟩ = false := by
  obtain ⟨v0, v1, v2, v3, v4, h⟩ := h.cell
  exact ⟨⟨_, box_cell h 0⟩, ⟨_, box_cell h 1⟩, ⟨_, box_cell h 2⟩, ⟨_, box_cell h 3⟩, ⟨_, box_cell h 4⟩, frozen_of_row w b 0 _ 26 h, frozen_of_row w b 1 _ 26 h, frozen_of_row w b 2 _ 26 h, frozen_of_row w b 3 _ 26 h, frozen_of_row w b 4 _ 26 h⟩
theorem Res.lt {w : World} {b : Nat} (h : Res w b) : b < w.heap.size := by
  obtain ⟨v0, v1, v2, v3, v4, h⟩ := h.cell
  exact (Array.getElem?_eq_some_iff.1 h).1
/-- a value of five cells, stored there -/
def put5 (w : World) (b : Nat) (v0 v1 v2 v3 v4 : Value) : World := ((((w.setCell ⟨b, 0, none⟩ v0).setCell ⟨b, 1, none⟩ v1).setCell ⟨b, 2, none⟩ v2).setCell ⟨b, 3, none⟩ v3).setCell ⟨b, 4, none⟩ v4
theorem put5_below {w0 w : World} {B b : Nat} (h : Below B w0 w) (hb : B ≤ b) (v0 v1 v2 v3 v4 : Value) : Below B w0 (put5 w b v0 v1 v2 v3 v4) :=
  ((((h.setCell (p := ⟨b, 0, none⟩) hb v0).setCell (p := ⟨b, 1, none⟩) hb v1).setCell (p := ⟨b, 2, none⟩) hb v2).setCell (p := ⟨b, 3, none⟩) hb v3).setCell (p := ⟨b, 4, none⟩) hb v4
theorem put5_heap {w : World} {b : Nat} (h : Res w b) (v0 v1 v2 v3 v4 : Value) : (put5 w b v0 v1 v2 v3 v4).heap[b]? = some (.cells #[v0, v1, v2, v3, v4] 26 (0, 0)) := by
  obtain ⟨x0, x1, x2, x3, x4, h⟩ := h.cell
  have k0 := heap_setCell_same w b 0 _ 26 v0 h
  have k1 := heap_setCell_same _ b 1 _ 26 v1 k0
  have k2 := heap_setCell_same _ b 2 _ 26 v2 k1
  have k3 := heap_setCell_same _ b 3 _ 26 v3 k2
  have k4 := heap_setCell_same _ b 4 _ 26 v4 k3
  unfold put5
  rw [k4]; rfl
theorem info26 : (Try.prog.info? 26).map (·.size) = some 5 := by kernel_rfl
theorem res_one {fn : Func} {p : Tmp} (h : fn.results = #[.cell p 26]) (tmps : Array Value) (w : World) (g : Nat) (v0 v1 v2 v3 v4 : Value) (hp : tmps.getD p undef = .pointer (some ⟨g, 0, none⟩))
    (hg : w.heap[g]? = some (.cells #[v0, v1, v2, v3, v4] 26 (0, 0))) : (results fn tmps).run Try.prog w = .ok (.agg #[v0, v1, v2, v3, v4]) w :=
  results_cell_row h tmps w g 26 _ (0, 0) _ hp hg Try.underlying26 rfl info26
theorem res_two {fn : Func} {p u : Tmp} (h : fn.results = #[.cell p 26, .tmp u]) (tmps : Array Value) (w : World) (g : Nat) (v0 v1 v2 v3 v4 : Value) (hp : tmps.getD p undef = .pointer (some ⟨g, 0, none⟩))
    (hg : w.heap[g]? = some (.cells #[v0, v1, v2, v3, v4] 26 (0, 0))) : (results fn tmps).run Try.prog w = .ok (.tuple #[.agg #[v0, v1, v2, v3, v4], tmps.getD u undef]) w := by
  rw [results_cell_tmp h, hp]
  simp only [asAddr, Sem.run_pure, Result.andThen_ok]
  rw [run_loadVar_row w g 26 26 _ (0, 0) _ hg Try.underlying26 rfl info26]
  rfl
theorem noneD_lie (w : World) : DLie w (.agg #[.slice none 0 0, .slice none 0 0, .int .i64 0, .slice none 0 0, .bool false]) noneD :=
  ⟨none, 0, none, 0, none, 0, rfl, SLie.nil w, SLie.nil w, flagsNone w⟩
set_option maxHeartbeats 4000000 in
theorem revive_doc (d : Dsk) (hd : Sized d) (v : Value) (w : World) (h : DLie w v d) :
    Calls Try.prog 26 #[v] w fun x w' => ∃ u, x = .returned u ∧ DLie w' u (reviveD d) ∧ Below w.heap.size w w' := by
  obtain ⟨p0, c0, p1, c1, p3, c3, rfl, h0, h1, h3⟩ := h
  obtain ⟨kept, cache, fuse, keep, dead⟩ := d
  dsimp only at *
  have hbx := box_new w p0 kept.length c0 p1 cache.length c1 fuse p3 keep.length c3 dead
  have B1 := (Below.refl w.heap.size w).alloc (Nat.le_refl _) (.cells #[.slice p0 kept.length c0, .slice p1 cache.length c1, .int .i64 fuse, .slice p3 keep.length c3, .bool dead] 26)
  generalize hw1 : w.alloc (.cells #[.slice p0 kept.length c0, .slice p1 cache.length c1, .int .i64 fuse, .slice p3 keep.length c3, .bool dead] 26) = w1 at *
  have hs1 : w1.heap.size = w.heap.size + 1 := by rw [← hw1]; simp
  have hrs : Res (w1.alloc (.cells #[.slice none 0 0, .slice none 0 0, .int .i64 0, .slice none 0 0, .bool false] 26)) (w.heap.size + 1) := ⟨_, _, _, _, _, by rw [← hs1]; exact heap_alloc_new w1 _⟩
  have B2 := (Below.refl w1.heap.size w1).alloc (Nat.le_refl _) (.cells #[.slice none 0 0, .slice none 0 0, .int .i64 0, .slice none 0 0, .bool false] 26)
  generalize hw2 : w1.alloc (.cells #[.slice none 0 0, .slice none 0 0, .int .i64 0, .slice none 0 0, .bool false] 26) = w2 at *
  have HB := Lib.hid (B1.next B2)
  have HX := Lib.hid (hbx.below B2)
  have b0 := HX.out.kept
  have b1 := HX.out.cache
  have b2 := HX.out.fuse
  have b3 := HX.out.keep
  have b4 := HX.out.dead
  have km := may_doc _ hd _ w2 ⟨p0, c0, p1, c1, p3, c3, rfl, h0.below HB.out, h1.below HB.out, h3.below HB.out⟩
  dsimp only at km
  have HK := Lib.hid h0
  have HR := Lib.hid hrs
  have hr : reviveD ⟨kept, cache, fuse, keep, dead⟩ = if mayD ⟨kept, cache, fuse, keep, dead⟩ then ⟨kept, [], -1, [], false⟩ else noneD := rfl
  generalize reviveD ⟨kept, cache, fuse, keep, dead⟩ = ans at *
  clear h0 h1 h3 hbx B1 B2 hrs
  cases hm : mayD ⟨kept, cache, fuse, keep, dead⟩ with
  | true =>
    rw [hm] at km hr
    have hr2 : ans = ⟨kept, [], -1, [], false⟩ := hr
    subst hr2
    clear hm hr
    go_enter Try.func26, Try.ntmps26
    go_wp2_with fail
    go_at_call 17
    refine km.mono ?_
    rintro x w3 ⟨rfl, hb3⟩
    have HB3 := Lib.hid (HB.out.next hb3)
    have bx := HX.out.below hb3
    have d0 := bx.kept
    obtain ⟨⟨r0, e0⟩, ⟨r1, e1⟩, ⟨r2, e2⟩, ⟨r3, e3⟩, ⟨r4, e4⟩, f0, f1, f2, f3, f4⟩ := (HR.out.below hb3).get
    have HR3 := Lib.hid (HR.out.below hb3)
    clear km hb3 b0 b1 b2 b3 b4 bx
    go_wp2
    have HBf := put5_below HB3.out (b := w.heap.size + 1) (by omega) (.slice p0 kept.length c0) (.slice none 0 0) (.int .i64 (-1)) (.slice none 0 0) (.bool false)
    refine bodyPost_ret (res_one rfl _ _ (w.heap.size + 1) (.slice p0 kept.length c0) (.slice none 0 0) (.int .i64 (-1)) (.slice none 0 0) (.bool false) rfl (put5_heap HR3.out _ _ _ _ _)) rfl ?_
    exact ⟨_, rfl, ⟨p0, c0, none, 0, none, 0, rfl, HK.out.below HBf, SLie.nil _, flagsNone _⟩, HBf⟩
  | false =>
    rw [hm] at km hr
    have hr2 : ans = noneD := hr
    subst hr2
    clear hm hr
    go_enter Try.func26, Try.ntmps26
    go_wp2_with fail
    go_at_call 17
    refine km.mono ?_
    rintro x w3 ⟨rfl, hb3⟩
    have HB3 := Lib.hid (HB.out.next hb3)
    obtain ⟨⟨r0, e0⟩, ⟨r1, e1⟩, ⟨r2, e2⟩, ⟨r3, e3⟩, ⟨r4, e4⟩, f0, f1, f2, f3, f4⟩ := (HR.out.below hb3).get
    have HR3 := Lib.hid (HR.out.below hb3)
    clear km hb3 b0 b1 b2 b3 b4
    go_wp2
    have HBf := put5_below HB3.out (b := w.heap.size + 1) (by omega) (.slice none 0 0) (.slice none 0 0) (.int .i64 0) (.slice none 0 0) (.bool false)
    refine bodyPost_ret (res_one rfl _ _ (w.heap.size + 1) (.slice none 0 0) (.slice none 0 0) (.int .i64 0) (.slice none 0 0) (.bool false) rfl (put5_heap HR3.out _ _ _ _ _)) rfl ?_
    exact ⟨_, rfl, noneD_lie _, HBf⟩
end Go.Proofs.Ytaamjamcnnalbaa.Dv

