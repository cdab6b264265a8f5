/-
  The law's fixed calls, from what package device owes.
-/
import Derived.Test.YtaamjamcnnalbaaDevFm
import Derived.Test.YtaamjamcnnalbaaRegI
import Derived.Deep.RegionHeld3
import Derived.Deep.CutRange
import Derived.Deep.DeepCutAuto
namespace Go.Proofs.Ytaamjamcnnalbaa.Dv
set_option maxRecDepth 100000
open Go.RowKit Go.Lib
/-- a variable that holds a disk -/
def Var (w : World) (g : Nat) (d : Dsk) : Prop := ∃ p0 c0 p1 c1 p3 c3, w.heap[g]? = some (.cells #[.slice p0 d.kept.length c0, .slice p1 d.cache.length c1, .int .i64 d.fuse, .slice p3 d.keep.length c3, .bool d.dead] 26 (0, 0)) ∧
  DLie w (.agg #[.slice p0 d.kept.length c0, .slice p1 d.cache.length c1, .int .i64 d.fuse, .slice p3 d.keep.length c3, .bool d.dead]) d
theorem Var.below {w w' : World} {g : Nat} {d : Dsk} (h : Var w g d) (hb : Below w.heap.size w w') : Var w' g d := by
  obtain ⟨p0, c0, p1, c1, p3, c3, e, hd⟩ := h
  exact ⟨p0, c0, p1, c1, p3, c3, (hb.block _ (Array.getElem?_eq_some_iff.1 e).1).trans e, hd.below hb⟩
theorem Var.lt {w : World} {g : Nat} {d : Dsk} (h : Var w g d) : g < w.heap.size := by
  obtain ⟨p0, c0, p1, c1, p3, c3, e, hd⟩ := h
  exact (Array.getElem?_eq_some_iff.1 e).1
theorem Var.new {w : World} {d : Dsk} {p0 p1 p3 : Option Addr} {c0 c1 c3 : Nat} (h : DLie w (.agg #[.slice p0 d.kept.length c0, .slice p1 d.cache.length c1, .int .i64 d.fuse, .slice p3 d.keep.length c3, .bool d.dead]) d) :
    Var (w.alloc (.cells #[.slice p0 d.kept.length c0, .slice p1 d.cache.length c1, .int .i64 d.fuse, .slice p3 d.keep.length c3, .bool d.dead] 26)) w.heap.size d :=
  ⟨p0, c0, p1, c1, p3, c3, heap_alloc_new w _, h.below ((Below.refl _ _).alloc (Nat.le_refl _) _)⟩
/-- a new variable's zero -/
abbrev Z5 : Obj := .cells #[.slice none 0 0, .slice none 0 0, .int .i64 0, .slice none 0 0, .bool false] 26
structure Zero (w : World) (g : Nat) : Prop where
  heap : w.heap[g]? = some (.cells #[.slice none 0 0, .slice none 0 0, .int .i64 0, .slice none 0 0, .bool false] 26 (0, 0))
theorem Zero.new {W w' : World} (hb : Below (W.alloc Z5).heap.size (W.alloc Z5) w') : Zero w' W.heap.size :=
  ⟨(hb.block _ (by simp)).trans (heap_alloc_new W Z5)⟩
theorem Zero.newd {W w' : World} (hb : Below (W.alloc Z5).drew.heap.size (W.alloc Z5).drew w') : Zero w' W.heap.size :=
  ⟨(hb.block W.heap.size (by show W.heap.size < (W.alloc Z5).heap.size; simp)).trans (heap_alloc_new W Z5)⟩
theorem Zero.below {w w' : World} {g : Nat} (h : Zero w g) (hb : Below w.heap.size w w') : Zero w' g := ⟨(hb.block _ (Array.getElem?_eq_some_iff.1 h.heap).1).trans h.heap⟩
theorem Zero.cells {w : World} {g : Nat} (h : Zero w g) : (w.cell? ⟨g, 0, none⟩ = some (.slice none 0 0) ∧ w.cell? ⟨g, 1, none⟩ = some (.slice none 0 0) ∧ w.cell? ⟨g, 2, none⟩ = some (.int .i64 0) ∧ w.cell? ⟨g, 3, none⟩ = some (.slice none 0 0) ∧ w.cell? ⟨g, 4, none⟩ = some (.bool false)) ∧
    (w.frozen? ⟨g, 0, none⟩ = false ∧ w.frozen? ⟨g, 1, none⟩ = false ∧ w.frozen? ⟨g, 2, none⟩ = false ∧ w.frozen? ⟨g, 3, none⟩ = false ∧ w.frozen? ⟨g, 4, none⟩ = false) :=
  ⟨⟨cell_of_row w g 0 _ 26 (0, 0) h.heap, cell_of_row w g 1 _ 26 (0, 0) h.heap, cell_of_row w g 2 _ 26 (0, 0) h.heap, cell_of_row w g 3 _ 26 (0, 0) h.heap, cell_of_row w g 4 _ 26 (0, 0) h.heap⟩,
    ⟨frozen_of_row w g 0 _ 26 h.heap, frozen_of_row w g 1 _ 26 h.heap, frozen_of_row w g 2 _ 26 h.heap, frozen_of_row w g 3 _ 26 h.heap, frozen_of_row w g 4 _ 26 h.heap⟩⟩
theorem Zero.no_text {w : World} {g : Nat} (h : Zero w g) (o : Nat) (s : ByteArray) : w.cell? ⟨g, o, none⟩ ≠ some (.string s) := by
  rw [cell_of_row w g o _ 26 (0, 0) h.heap]
  match o with
  | 0 | 1 | 2 | 3 | 4 => simp
  | n + 5 => simp
theorem puts_apart {w : World} {g : Nat} (hz : Zero w g) {q : Option Addr} {L : List (Int × ByteArray)} {c : Nat} (h : SLie putS w q L c) : ∀ blk off, q = some ⟨blk, off, none⟩ → L ≠ [] → blk ≠ g := by
  intro blk off e hl eb
  subst eb
  have hi : 0 < L.length := List.length_pos_iff.2 hl
  obtain ⟨b', o', e', hk⟩ := h.at hi
  rw [e] at e'
  cases e'
  exact hz.no_text _ _ (hk 0 hi 1 (.string L[0].2) rfl)
theorem Zero.res {w : World} {g : Nat} (h : Zero w g) : Res w g := ⟨_, _, _, _, _, h.heap⟩
/-- a disk whose Keep is empty is stored into a new variable -/
theorem Var.put {w : World} {g : Nat} {d : Dsk} (hz : Zero w g) (hk : d.keep = []) {p0 p1 p3 : Option Addr} {c0 c1 c3 : Nat} (h : DLie w (.agg #[.slice p0 d.kept.length c0, .slice p1 d.cache.length c1, .int .i64 d.fuse, .slice p3 d.keep.length c3, .bool d.dead]) d) :
    Var (put5 w g (.slice p0 d.kept.length c0) (.slice p1 d.cache.length c1) (.int .i64 d.fuse) (.slice p3 d.keep.length c3) (.bool d.dead)) g d := by
  obtain ⟨q0, e0, q1, e1, q3, e3, e, h0, h1, h3⟩ := h
  simp only [Value.agg.injEq, Array.mk.injEq, List.cons.injEq, Value.slice.injEq, true_and, and_true] at e
  obtain ⟨⟨rfl, rfl⟩, ⟨rfl, rfl⟩, rfl, rfl⟩ := e
  refine ⟨p0, c0, p1, c1, p3, c3, put5_heap hz.res _ _ _ _ _, p0, c0, p1, c1, p3, c3, rfl, slie_same h0 (fun b off e hl => put5_other _ _ _ _ _ _ _ _ (texts_apart hz.heap h0 b off e hl)), slie_same h1 (fun b off e hl => put5_other _ _ _ _ _ _ _ _ (puts_apart hz h1 b off e hl)), ⟨h3.len, h3.cap, .inl hk⟩⟩
/-- a variable's cells, now and later -/
theorem Var.opened {w : World} {g : Nat} {d : Dsk} (h : Var w g d) : ∃ p0 c0 p1 c1 p3 c3, (w.cell? ⟨g, 0, none⟩ = some (.slice p0 d.kept.length c0) ∧ w.cell? ⟨g, 1, none⟩ = some (.slice p1 d.cache.length c1) ∧ w.cell? ⟨g, 2, none⟩ = some (.int .i64 d.fuse) ∧ w.cell? ⟨g, 3, none⟩ = some (.slice p3 d.keep.length c3) ∧ w.cell? ⟨g, 4, none⟩ = some (.bool d.dead)) ∧
    DLie w (.agg #[.slice p0 d.kept.length c0, .slice p1 d.cache.length c1, .int .i64 d.fuse, .slice p3 d.keep.length c3, .bool d.dead]) d := by
  obtain ⟨p0, c0, p1, c1, p3, c3, e, hd⟩ := h
  exact ⟨p0, c0, p1, c1, p3, c3, ⟨cell_of_row w g 0 _ 26 (0, 0) e, cell_of_row w g 1 _ 26 (0, 0) e, cell_of_row w g 2 _ 26 (0, 0) e, cell_of_row w g 3 _ 26 (0, 0) e, cell_of_row w g 4 _ 26 (0, 0) e⟩, hd⟩
theorem sized_fd : Sized fd := sized_new 2
theorem fw_keep : fw.keep = [] := by decide +kernel
theorem fa_keep : fa.keep = [] := by decide +kernel
theorem fb_keep : fb.keep = [] := by decide +kernel
theorem sized_fw : Sized fw := sized_write sized_fd 1 _
theorem sized_fa : Sized fa := sized_die sized_fw _
theorem sized_fb : Sized fb := sized_die sized_fw _
/-- a disk's value, by its parts -/
def DV (d : Dsk) (p0 : Option Addr) (c0 : Nat) (p1 : Option Addr) (c1 : Nat) (p3 : Option Addr) (c3 : Nat) : Value := .agg #[.slice p0 d.kept.length c0, .slice p1 d.cache.length c1, .int .i64 d.fuse, .slice p3 d.keep.length c3, .bool d.dead]
theorem open_two {P : Program} {f : FuncId} {args : Array Value} {w : World} {d : Dsk} {e : Int} (h : Calls P f args w fun x w' => ∃ u, x = .returned (.tuple #[u, .int .i64 e]) ∧ DLie w' u d ∧ Below w.heap.size w w') :
    Calls P f args w fun x w' => ∃ p0 c0 p1 c1 p3 c3, x = .returned (.tuple #[.agg #[.slice p0 d.kept.length c0, .slice p1 d.cache.length c1, .int .i64 d.fuse, .slice p3 d.keep.length c3, .bool d.dead], .int .i64 e]) ∧ DLie w' (DV d p0 c0 p1 c1 p3 c3) d ∧ Below w.heap.size w w' :=
  h.mono fun x w' ⟨u, h1, h2, h3⟩ => by
    obtain ⟨p0, c0, p1, c1, p3, c3, rfl, hh⟩ := h2
    exact ⟨p0, c0, p1, c1, p3, c3, h1, ⟨p0, c0, p1, c1, p3, c3, rfl, hh⟩, h3⟩
/-! ### two disks made of one: the operations in any order -/
theorem Zero.to {w w' : World} {g : Nat} (h : Zero w g) (he : w'.heap[g]? = w.heap[g]?) : Zero w' g := ⟨he.trans h.heap⟩
/-- a value that holds a disk -/
def Val (w : World) (v : Value) (d : Dsk) : Prop := ∃ p0 c0 p1 c1 p3 c3, v = .agg #[.slice p0 d.kept.length c0, .slice p1 d.cache.length c1, .int .i64 d.fuse, .slice p3 d.keep.length c3, .bool d.dead] ∧ DLie w (.agg #[.slice p0 d.kept.length c0, .slice p1 d.cache.length c1, .int .i64 d.fuse, .slice p3 d.keep.length c3, .bool d.dead]) d
theorem Val.below {w w' : World} {v : Value} {d : Dsk} (h : Val w v d) (hb : Below w.heap.size w w') : Val w' v d := by
  obtain ⟨p0, c0, p1, c1, p3, c3, e, hd⟩ := h
  exact ⟨p0, c0, p1, c1, p3, c3, e, hd.below hb⟩
theorem DLie.val {w : World} {v : Value} {d : Dsk} (h : DLie w v d) : Val w v d := by
  obtain ⟨p0, c0, p1, c1, p3, c3, rfl, hh⟩ := h
  exact ⟨p0, c0, p1, c1, p3, c3, rfl, p0, c0, p1, c1, p3, c3, rfl, hh⟩
theorem put5_keeps {w : World} {g : Nat} (hz : Zero w g) {v : Value} {d : Dsk} (hk : d.keep = []) (h : Val w v d) (a0 a1 a2 a3 a4 : Value) : Val (put5 w g a0 a1 a2 a3 a4) v d := by
  obtain ⟨p0, c0, p1, c1, p3, c3, rfl, hd⟩ := h
  obtain ⟨q0, e0, q1, e1, q3, e3, e, h0, h1, h3⟩ := hd
  simp only [Value.agg.injEq, Array.mk.injEq, List.cons.injEq, Value.slice.injEq, true_and, and_true] at e
  obtain ⟨⟨rfl, rfl⟩, ⟨rfl, rfl⟩, rfl, rfl⟩ := e
  exact ⟨p0, c0, p1, c1, p3, c3, rfl, p0, c0, p1, c1, p3, c3, rfl, slie_same h0 (fun b off e hl => put5_other _ _ _ _ _ _ _ _ (texts_apart hz.heap h0 b off e hl)), slie_same h1 (fun b off e hl => put5_other _ _ _ _ _ _ _ _ (puts_apart hz h1 b off e hl)), ⟨h3.len, h3.cap, .inl hk⟩⟩
theorem put5_var {w : World} {g h : Nat} (hz : Zero w g) {d : Dsk} (hk : d.keep = []) (hv : Var w h d) (hgh : h ≠ g) (a0 a1 a2 a3 a4 : Value) : Var (put5 w g a0 a1 a2 a3 a4) h d := by
  obtain ⟨p0, c0, p1, c1, p3, c3, e, hd⟩ := hv
  obtain ⟨q0, e0, q1, e1, q3, e3, e', h0, h1, h3⟩ := hd
  simp only [Value.agg.injEq, Array.mk.injEq, List.cons.injEq, Value.slice.injEq, true_and, and_true] at e'
  obtain ⟨⟨rfl, rfl⟩, ⟨rfl, rfl⟩, rfl, rfl⟩ := e'
  exact ⟨p0, c0, p1, c1, p3, c3, (put5_other _ _ _ _ _ _ _ _ hgh).trans e, p0, c0, p1, c1, p3, c3, rfl, slie_same h0 (fun b off e hl => put5_other _ _ _ _ _ _ _ _ (texts_apart hz.heap h0 b off e hl)), slie_same h1 (fun b off e hl => put5_other _ _ _ _ _ _ _ _ (puts_apart hz h1 b off e hl)), ⟨h3.len, h3.cap, .inl hk⟩⟩
structure I4 (wR : World) (dv : Value) (A B : Dsk) (l0 l1 l2 l3 l4 l5 l6 l7 l8 : Bool) (v0 v1 v2 v3 v4 v5 v6 : Value) (w : World) : Prop where
  base : Below wR.heap.size wR w
  x0 : l0 = true → v0 = dv
  x1 : l1 = true → l7 = false → ∃ g, v1 = .slice (some ⟨g, 0, none⟩) 1 1 ∧ w.cell? ⟨g, 0, none⟩ = some (.bool true)
  x2 : l2 = true → l7 = false → Val w v2 A
  x3 : l3 = true → v3 = dv
  x4 : l4 = true → l8 = false → Val w v4 B
  x5 : l5 = true → ∃ g, v5 = .pointer (some ⟨g, 0, none⟩) ∧ wR.heap.size ≤ g ∧ (l7 = false → Zero w g) ∧ (l7 = true → Var w g A)
  x6 : l6 = true → ∃ g, v6 = .pointer (some ⟨g, 0, none⟩) ∧ wR.heap.size ≤ g ∧ (l8 = false → Zero w g) ∧ (l8 = true → Var w g B)
  x56 : l5 = true → l6 = true → v5 ≠ v6
  y7 : l7 = true → l2 = true ∧ l5 = true ∧ l6 = true
  y8 : l8 = true → l7 = true
section
variable {wR : World} {dv : Value} {A B : Dsk} {l0 l1 l2 l3 l4 l5 l6 l7 l8 : Bool} {v0 v1 v2 v3 v4 v5 v6 : Value} {w : World}
theorem I4.start (h : Below wR.heap.size wR w) : I4 wR dv A B false false false false false false false false false v0 v1 v2 v3 v4 v5 v6 w :=
  ⟨h, nofun, nofun, nofun, nofun, nofun, nofun, nofun, nofun, nofun, nofun⟩
theorem I4.grow (h : I4 wR dv A B l0 l1 l2 l3 l4 l5 l6 l7 l8 v0 v1 v2 v3 v4 v5 v6 w) {w' : World} (hb : Below w.heap.size w w') : I4 wR dv A B l0 l1 l2 l3 l4 l5 l6 l7 l8 v0 v1 v2 v3 v4 v5 v6 w' :=
  ⟨h.base.next hb, h.x0, fun a b => let ⟨g, e, c⟩ := h.x1 a b; ⟨g, e, (hb.cell (p := ⟨g, 0, none⟩) (World.block_lt_of_cell? w _ c)).trans c⟩, fun a b => (h.x2 a b).below hb, h.x3, fun a b => (h.x4 a b).below hb,
    fun a => let ⟨g, e, k, z, u⟩ := h.x5 a; ⟨g, e, k, fun b => (z b).below hb, fun b => (u b).below hb⟩, fun a => let ⟨g, e, k, z, u⟩ := h.x6 a; ⟨g, e, k, fun b => (z b).below hb, fun b => (u b).below hb⟩, h.x56, h.y7, h.y8⟩
theorem I4.s0 (h : I4 wR dv A B l0 l1 l2 l3 l4 l5 l6 l7 l8 v0 v1 v2 v3 v4 v5 v6 w) : I4 wR dv A B true l1 l2 l3 l4 l5 l6 l7 l8 dv v1 v2 v3 v4 v5 v6 w := ⟨h.base, fun _ => rfl, h.x1, h.x2, h.x3, h.x4, h.x5, h.x6, h.x56, h.y7, h.y8⟩
theorem I4.s3 (h : I4 wR dv A B l0 l1 l2 l3 l4 l5 l6 l7 l8 v0 v1 v2 v3 v4 v5 v6 w) : I4 wR dv A B l0 l1 l2 true l4 l5 l6 l7 l8 v0 v1 v2 dv v4 v5 v6 w := ⟨h.base, h.x0, h.x1, h.x2, fun _ => rfl, h.x4, h.x5, h.x6, h.x56, h.y7, h.y8⟩
theorem I4.s1 (h : I4 wR dv A B l0 l1 l2 l3 l4 l5 l6 l7 l8 v0 v1 v2 v3 v4 v5 v6 w) {t : TypeId} : I4 wR dv A B l0 true l2 l3 l4 l5 l6 l7 l8 v0 (.slice (some ⟨w.heap.size, 0, none⟩) 1 1) v2 v3 v4 v5 v6 (w.alloc (.cells #[.bool true] t)) := by
  have k := h.grow ((Below.refl w.heap.size w).alloc (Nat.le_refl _) (.cells #[.bool true] t))
  exact ⟨k.base, k.x0, fun _ _ => ⟨_, rfl, cell_of_row _ _ 0 _ t (0, 0) (heap_alloc_new w _)⟩, k.x2, k.x3, k.x4, k.x5, k.x6, k.x56, k.y7, k.y8⟩
theorem I4.s2 (h : I4 wR dv A B l0 l1 l2 l3 l4 l5 l6 l7 l8 v0 v1 v2 v3 v4 v5 v6 w) {w' : World} {u : Value} (hu : DLie w' u A) (hb : Below w.heap.size w w') : I4 wR dv A B l0 l1 true l3 l4 l5 l6 l7 l8 v0 v1 u v3 v4 v5 v6 w' := by
  have k := h.grow hb
  exact ⟨k.base, k.x0, k.x1, fun _ _ => hu.val, k.x3, k.x4, k.x5, k.x6, k.x56, fun a => ⟨rfl, (k.y7 a).2⟩, k.y8⟩
theorem I4.s4 (h : I4 wR dv A B l0 l1 l2 l3 l4 l5 l6 l7 l8 v0 v1 v2 v3 v4 v5 v6 w) {w' : World} {u : Value} (hu : DLie w' u B) (hb : Below w.heap.size w w') : I4 wR dv A B l0 l1 l2 l3 true l5 l6 l7 l8 v0 v1 v2 v3 u v5 v6 w' := by
  have k := h.grow hb
  exact ⟨k.base, k.x0, k.x1, k.x2, k.x3, fun _ _ => hu.val, k.x5, k.x6, k.x56, k.y7, k.y8⟩
theorem I4.s5 (h : I4 wR dv A B l0 l1 l2 l3 l4 l5 l6 false l8 v0 v1 v2 v3 v4 v5 v6 w) : I4 wR dv A B l0 l1 l2 l3 l4 true l6 false l8 v0 v1 v2 v3 v4 (.pointer (some ⟨w.heap.size, 0, none⟩)) v6 (w.alloc Z5) := by
  have k := h.grow ((Below.refl w.heap.size w).alloc (Nat.le_refl _) Z5)
  refine ⟨k.base, k.x0, k.x1, k.x2, k.x3, k.x4, fun _ => ⟨_, rfl, h.base.size, fun _ => ⟨heap_alloc_new w Z5⟩, nofun⟩, k.x6, fun _ h6 e => ?_, nofun, k.y8⟩
  obtain ⟨g, e2, _, z, u⟩ := h.x6 h6
  rw [e2] at e
  cases e
  cases l8 with
  | false => exact Nat.lt_irrefl _ (Array.getElem?_eq_some_iff.1 (z rfl).heap).1
  | true => exact Nat.lt_irrefl _ (u rfl).lt
theorem I4.s6 (h : I4 wR dv A B l0 l1 l2 l3 l4 l5 l6 l7 false v0 v1 v2 v3 v4 v5 v6 w) : I4 wR dv A B l0 l1 l2 l3 l4 l5 true l7 false v0 v1 v2 v3 v4 v5 (.pointer (some ⟨w.heap.size, 0, none⟩)) (w.alloc Z5) := by
  have k := h.grow ((Below.refl w.heap.size w).alloc (Nat.le_refl _) Z5)
  refine ⟨k.base, k.x0, k.x1, k.x2, k.x3, k.x4, k.x5, fun _ => ⟨_, rfl, h.base.size, fun _ => ⟨heap_alloc_new w Z5⟩, nofun⟩, fun h5 _ e => ?_, fun a => ⟨(k.y7 a).1, (k.y7 a).2.1, rfl⟩, nofun⟩
  obtain ⟨g, e2, _, z, u⟩ := h.x5 h5
  rw [e2] at e
  cases e
  cases l7 with
  | false => exact Nat.lt_irrefl _ (Array.getElem?_eq_some_iff.1 (z rfl).heap).1
  | true => exact Nat.lt_irrefl _ (u rfl).lt
theorem I4.s7 (h : I4 wR dv A B l0 l1 true l3 l4 true true false l8 v0 v1 v2 v3 v4 v5 v6 w) (hA : A.keep = []) (hB : B.keep = []) : ∃ g p0 c0 p1 c1 p3 c3, v5 = .pointer (some ⟨g, 0, none⟩) ∧ v2 = .agg #[.slice p0 A.kept.length c0, .slice p1 A.cache.length c1, .int .i64 A.fuse, .slice p3 A.keep.length c3, .bool A.dead] ∧ Zero w g ∧
    I4 wR dv A B l0 l1 true l3 l4 true true true l8 v0 v1 v2 v3 v4 v5 v6 (put5 w g (.slice p0 A.kept.length c0) (.slice p1 A.cache.length c1) (.int .i64 A.fuse) (.slice p3 A.keep.length c3) (.bool A.dead)) := by
  obtain ⟨g, e5, hg, z, _⟩ := h.x5 rfl
  obtain ⟨p0, c0, p1, c1, p3, c3, e2, hd⟩ := h.x2 rfl rfl
  have hz := z rfl
  refine ⟨g, p0, c0, p1, c1, p3, c3, e5, e2, hz, put5_below h.base hg _ _ _ _ _, h.x0, nofun, nofun, h.x3, fun a b => put5_keeps hz hB (h.x4 a b) _ _ _ _ _, fun _ => ⟨g, e5, hg, nofun, fun _ => Var.put hz hA hd⟩, fun a => ?_, h.x56, fun _ => ⟨rfl, rfl, rfl⟩, fun _ => rfl⟩
  obtain ⟨g6, e6, hg6, z6, u6⟩ := h.x6 a
  have hne : g6 ≠ g := fun e => h.x56 rfl a (by rw [e5, e6, e])
  exact ⟨g6, e6, hg6, fun b => (z6 b).to (put5_other _ _ _ _ _ _ _ _ hne), fun b => put5_var hz hB (u6 b) hne _ _ _ _ _⟩
theorem I4.s8 (h : I4 wR dv A B l0 l1 l2 l3 true l5 true true false v0 v1 v2 v3 v4 v5 v6 w) (hA : A.keep = []) (hB : B.keep = []) : ∃ g p0 c0 p1 c1 p3 c3, v6 = .pointer (some ⟨g, 0, none⟩) ∧ v4 = .agg #[.slice p0 B.kept.length c0, .slice p1 B.cache.length c1, .int .i64 B.fuse, .slice p3 B.keep.length c3, .bool B.dead] ∧ Zero w g ∧
    I4 wR dv A B l0 l1 l2 l3 true l5 true true true v0 v1 v2 v3 v4 v5 v6 (put5 w g (.slice p0 B.kept.length c0) (.slice p1 B.cache.length c1) (.int .i64 B.fuse) (.slice p3 B.keep.length c3) (.bool B.dead)) := by
  obtain ⟨g, e6, hg, z, _⟩ := h.x6 rfl
  obtain ⟨p0, c0, p1, c1, p3, c3, e4, hd⟩ := h.x4 rfl rfl
  have hz := z rfl
  refine ⟨g, p0, c0, p1, c1, p3, c3, e6, e4, hz, put5_below h.base hg _ _ _ _ _, h.x0, nofun, nofun, h.x3, nofun, fun a => ?_, fun _ => ⟨g, e6, hg, nofun, fun _ => Var.put hz hB hd⟩, h.x56, h.y7, fun _ => rfl⟩
  obtain ⟨g5, e5, hg5, z5, u5⟩ := h.x5 a
  have hne : g5 ≠ g := fun e => h.x56 a rfl (by rw [e5, e6, e])
  exact ⟨g5, e5, hg5, fun b => (z5 b).to (put5_other _ _ _ _ _ _ _ _ hne), fun b => put5_var hz hA (u5 b) hne _ _ _ _ _⟩
end
theorem nine {l : Array Bool} (h : l.size = 9) : ∃ b0 b1 b2 b3 b4 b5 b6 b7 b8, l = #[b0, b1, b2, b3, b4, b5, b6, b7, b8] := by
  obtain ⟨l⟩ := l
  match l, h with
  | [b0, b1, b2, b3, b4, b5, b6, b7, b8], _ => exact ⟨b0, b1, b2, b3, b4, b5, b6, b7, b8, rfl⟩
set_option maxHeartbeats 8000000 in
theorem fixed_any (S : SpecD) (w : World) : Calls Try.prog 9 #[] w fun e w' => e = .returned (.bool true) ∧ Below w.heap.size w w' := by
  have K1 : Hid (∀ w, Calls Try.prog 19 #[.int .i64 2] w fun x w' => ∃ u, x = .returned (.tuple #[u, .int .i64 0]) ∧ DLie w' u fd ∧ Below w.heap.size w w') := Lib.hid fun w => by
    have := S.new 2 w (by decide) (by decide)
    rw [fix_new.1] at this
    exact this
  have K2 : Hid (∀ w, Calls Try.prog 28 #[.int .u8 7] w fun e w' => e = .returned (.string (sectorB 7)) ∧ Below w.heap.size w w') := Lib.hid fun w => sector_doc 7 w
  have K8 : Hid (∀ w, Calls Try.prog 28 #[.int .u8 1] w fun e w' => e = .returned (.string (sectorB 1)) ∧ Below w.heap.size w w') := Lib.hid fun w => sector_doc 1 w
  have K3 : Hid (∀ v w, DLie w v fd → Calls Try.prog 12 #[v, .int .i64 1, .string (sectorB 7)] w fun x w' => ∃ u, x = .returned (.tuple #[u, .int .i64 0]) ∧ DLie w' u fw ∧ Below w.heap.size w w') := Lib.hid fun v w h => by
    have := S.write fd v 1 (sectorB 7) w sized_fd (by decide) (by decide) h
    rw [fix_write] at this
    exact this
  have KR : Hid (∀ v w, DLie w v fw → Calls Try.prog 10 #[v, .int .i64 1] w fun x w' => x = .returned (.tuple #[.string (sectorB 7), .int .i64 0]) ∧ Below w.heap.size w w') := Lib.hid fun v w h => by
    have := S.read fw v 1 w sized_fw (by decide) (by decide) h
    rw [fix_read.1, fix_read.2] at this
    exact this
  have KA : Hid (∀ v p w, DLie w v fw → FlagsLie w p [true] 1 → Calls Try.prog 23 #[v, .slice p 1 1] w fun x w' => ∃ u, x = .returned u ∧ DLie w' u fa ∧ Below w.heap.size w w') := Lib.hid fun v p w h hf => S.die fw v [true] 1 p 1 w sized_fw rfl h hf
  have KB : Hid (∀ v w, DLie w v fw → Calls Try.prog 23 #[v, .slice none 0 0] w fun x w' => ∃ u, x = .returned u ∧ DLie w' u fb ∧ Below w.heap.size w w') := Lib.hid fun v w h => S.die fw v [] 0 none 0 w sized_fw rfl h (flagsNone w)
  have K5 : Hid (∀ v w, DLie w v fd → Calls Try.prog 21 #[v, .int .i64 0, .slice none 0 0] w fun x w' => ∃ u, x = .returned u ∧ DLie w' u (armD fd 0 []) ∧ Below w.heap.size w w') := Lib.hid fun v w h => S.arm fd v 0 [] 0 none 0 w sized_fd (by decide) (by decide) rfl (by decide) h (flagsNone w)
  have K6 : Hid (∀ v w, DLie w v (armD fd 0 []) → Calls Try.prog 12 #[v, .int .i64 0, .string (sectorB 1)] w fun x w' => ∃ u, x = .returned (.tuple #[u, .int .i64 90]) ∧ DLie w' u fx.1 ∧ Below w.heap.size w w') := Lib.hid fun v w h => by
    have := S.write (armD fd 0 []) v 0 (sectorB 1) w (sized_arm sized_fd (by decide) (by decide)) (by decide) (by decide) h
    rw [show (writeD (armD fd 0 []) 0 (sectorB 1)).2 = 90 from fix_dead.1] at this
    exact this
  have K7a : Hid (∀ v w, DLie w v fa → Calls Try.prog 25 #[v] w fun x w' => ∃ u, x = .returned u ∧ DLie w' u (reviveD fa) ∧ Below w.heap.size w w') := Lib.hid fun v w h => S.revive fa v w sized_fa h
  have K7b : Hid (∀ v w, DLie w v fb → Calls Try.prog 25 #[v] w fun x w' => ∃ u, x = .returned u ∧ DLie w' u (reviveD fb) ∧ Below w.heap.size w w') := Lib.hid fun v w h => S.revive fb v w sized_fb h
  have K9a : Hid (∀ v w, DLie w v (reviveD fa) → Calls Try.prog 10 #[v, .int .i64 1] w fun x w' => x = .returned (.tuple #[.string (sectorB 7), .int .i64 (readD (reviveD fa) 1).2]) ∧ Below w.heap.size w w') := Lib.hid fun v w h => by
    have := S.read (reviveD fa) v 1 w (sized_revive sized_fa) (by decide) (by decide) h
    rw [fix_kept] at this
    exact this
  have K9b : Hid (∀ v w, DLie w v (reviveD fb) → Calls Try.prog 10 #[v, .int .i64 1] w fun x w' => x = .returned (.tuple #[.string zero32, .int .i64 (readD (reviveD fb) 1).2]) ∧ Below w.heap.size w w') := Lib.hid fun v w h => by
    have := S.read (reviveD fb) v 1 w (sized_revive sized_fb) (by decide) (by decide) h
    rw [fix_lost] at this
    exact this
  have K9c : Hid (∀ v w, DLie w v fa → Calls Try.prog 10 #[v, .int .i64 1] w fun x w' => x = .returned (.tuple #[.string (readD fa 1).1, .int .i64 90]) ∧ Below w.heap.size w w') := Lib.hid fun v w h => by
    have := S.read fa v 1 w sized_fa (by decide) (by decide) h
    rw [fix_dead.2.2] at this
    exact this
  have K10 : Hid (∀ w, Calls Try.prog 19 #[.int .i64 0] w fun x w' => ∃ u, x = .returned (.tuple #[u, .int .i64 1]) ∧ DLie w' u (newD 0).1 ∧ Below w.heap.size w w') := Lib.hid fun w => by
    have := S.new 0 w (by decide) (by decide)
    rw [fix_new.2] at this
    exact this
  have K11 : Hid (∀ v w, DLie w v fd → Calls Try.prog 16 #[v] w fun e w' => e = .returned (.bool true) ∧ Below w.heap.size w w') := Lib.hid fun v w h => by
    have := S.may fd v w sized_fd h
    rw [fix_may.1] at this
    exact this
  have K12 : Hid (∀ w, Calls Try.prog 29 #[] w fun e w' => e = .returned (.string zero32) ∧ Below w.heap.size w w') := Lib.hid fun w => zeros_doc w
  have HFL : Hid (fd.kept.length = 2) := Lib.hid fix_may.2
  have HFD : Hid (fx.1.dead = true) := Lib.hid fix_dead.2.1
  generalize (readD (reviveD fa) 1).2 = na at *
  generalize (readD (reviveD fb) 1).2 = nb at *
  generalize (readD fa 1).1 = sa at *
  generalize zero32 = s0 at *
  generalize sectorB 7 = s7 at *
  generalize sectorB 1 = s1 at *
  have HB0 := Lib.hid (Below.refl w.heap.size w)
  go_enter Try.func9, Try.ntmps9
  go_wp2_with fail
  go_at_call 19
  refine (K1.out _).mono ?_
  rintro x w1 ⟨u, rfl, hd, hb⟩
  obtain ⟨p0, c0, p1, c1, p3, c3, rfl, h0, h1, h3⟩ := hd
  have V1 := Lib.hid (Var.new (w := w1) (d := fd) ⟨p0, c0, p1, c1, p3, c3, rfl, h0, h1, h3⟩)
  have HB1 := Lib.hid (HB0.out.next hb)
  obtain ⟨g1, hg1⟩ : ∃ g1, g1 = w1.heap.size := ⟨_, rfl⟩
  have HBa := Lib.hid (belowNew HB1.out (.cells #[.slice p0 fd.kept.length c0, .slice p1 fd.cache.length c1, .int .i64 fd.fuse, .slice p3 fd.keep.length c3, .bool fd.dead] 26))
  rw [← hg1] at V1
  have HG1 := Lib.hid hg1
  clear h0 h1 h3 hb HB0 HB1
  go_wp2_with fail
  rw [← hg1]
  generalize w1.alloc (.cells #[.slice p0 fd.kept.length c0, .slice p1 fd.cache.length c1, .int .i64 fd.fuse, .slice p3 fd.keep.length c3, .bool fd.dead] 26) = w2 at *
  clear hg1 HG1
  obtain ⟨q0, d0, q1, d1, q3, d3, e2, hD⟩ := V1.out
  have hlt := (Array.getElem?_eq_some_iff.1 e2).1
  have y0 := cell_of_row w2 g1 0 _ 26 (0, 0) e2
  have y1 := cell_of_row w2 g1 1 _ 26 (0, 0) e2
  have y2 := cell_of_row w2 g1 2 _ 26 (0, 0) e2
  have y3 := cell_of_row w2 g1 3 _ 26 (0, 0) e2
  have y4 := cell_of_row w2 g1 4 _ 26 (0, 0) e2
  have hv2 := Lib.hid (fun (wx : World) (hb : Below w2.heap.size w2 wx) => hD.below hb)
  have hc2 : Hid (∀ wx, Below w2.heap.size w2 wx → wx.cell? ⟨g1, 0, none⟩ = some (.slice q0 fd.kept.length d0) ∧ wx.cell? ⟨g1, 1, none⟩ = some (.slice q1 fd.cache.length d1) ∧ wx.cell? ⟨g1, 2, none⟩ = some (.int .i64 fd.fuse) ∧ wx.cell? ⟨g1, 3, none⟩ = some (.slice q3 fd.keep.length d3) ∧ wx.cell? ⟨g1, 4, none⟩ = some (.bool fd.dead)) := Lib.hid fun wx hb =>
    ⟨(hb.cell (p := ⟨g1, 0, none⟩) hlt).trans y0, (hb.cell (p := ⟨g1, 1, none⟩) hlt).trans y1, (hb.cell (p := ⟨g1, 2, none⟩) hlt).trans y2, (hb.cell (p := ⟨g1, 3, none⟩) hlt).trans y3, (hb.cell (p := ⟨g1, 4, none⟩) hlt).trans y4⟩
  simp at y0 y1 y2 y3 y4
  have HB0 : Hid (Below w2.heap.size w2 w2.drew) := Lib.hid (Below.refl _ _).drew
  have HBr : Hid (Below w2.heap.size w2 w2) := Lib.hid (Below.refl _ _)
  clear e2 hD
  go_cut [3, 4] (fun p e wx => ∃ g, p = .pointer (some ⟨g, 0, none⟩) ∧ e = .int .i64 0 ∧ Hid (Var wx g fw) ∧ Hid (Below w2.heap.size w2 wx))
  case first =>
    go_region_held3 (fun w' => (w'.cell? ⟨g1, 0, none⟩ = some (.slice q0 fd.kept.length d0) ∧ w'.cell? ⟨g1, 1, none⟩ = some (.slice q1 fd.cache.length d1) ∧ w'.cell? ⟨g1, 2, none⟩ = some (.int .i64 fd.fuse) ∧ w'.cell? ⟨g1, 3, none⟩ = some (.slice q3 fd.keep.length d3) ∧ w'.cell? ⟨g1, 4, none⟩ = some (.bool fd.dead)))
      (first | go_keep | exact hc2.out _ (HB0.out.next hb3) | exact hc2.out _ ((belowNew HBr.out _).drew.next hb3) | exact hc2.out _ ((HB0.out.next hb3).next hb4) | exact hc2.out _ (((belowNew HBr.out _).drew.next hb3).next hb4) | exact hc2.out _ ((belowNew (HB0.out.next hb3) _).next hb4) | exact hc2.out _ (belowNew ((HB0.out.next hb3).next hb4) _) | exact hc2.out _ (put5_below (((belowNew HBr.out _).drew.next hb3).next hb4) (Nat.le_refl _) _ _ _ _ _) | exact hc2.out _ (put5_below ((belowNew (HB0.out.next hb3) _).next hb4) (HB0.out.next hb3).size _ _ _ _ _))
      (first
        | (go_at_call 28; with_reducible refine (K2.out _).mono ?_; rintro x w3 ⟨rfl, hb3⟩)
        | (go_at_call 12; with_reducible refine (open_two (K3.out _ _ ?_)).mono ?_; (· first | exact hv2.out _ (HB0.out.next hb3) | exact hv2.out _ ((belowNew HBr.out _).drew.next hb3) | exact hv2.out _ (belowNew (HB0.out.next hb3) _)); rintro x w4 ⟨p4, c4, p5, c5, p6, c6, rfl, hd4, hb4⟩; try (first | have hz := Zero.new (W := w3) hb4 | have hz := (Zero.newd (W := w2) hb3).below hb4); try have hzc := hz.cells; try (obtain ⟨⟨z0, z1, z2, z3, z4⟩, f0, f1, f2, f3, f4⟩ := hzc)))
    · simp only [Exit.then]
      go_step
      go_meet
      exact ⟨_, rfl, rfl, Lib.hid (Var.new hd4), Lib.hid (belowNew ((HB0.out.next hb3).next hb4) _)⟩
    · simp only [Exit.then]
      go_step
      go_meet
      exact ⟨_, rfl, rfl, Lib.hid (Var.put hz fw_keep hd4), Lib.hid (put5_below ((belowNew (HB0.out.next hb3) _).next hb4) (HB0.out.next hb3).size _ _ _ _ _)⟩
    · simp only [Exit.then]
      go_step
      go_meet
      exact ⟨_, rfl, rfl, Lib.hid (Var.put hz fw_keep hd4), Lib.hid (put5_below (((belowNew HBr.out _).drew.next hb3).next hb4) (Nat.le_refl _) _ _ _ _ _)⟩
  case rest =>
    obtain ⟨g2, rfl, rfl, V2, HB2⟩ := hcut
    have K4 : Hid (∀ v w, DLie w v fw → Calls Try.prog 10 #[v, .int .i64 1] w fun x w' => x = .returned (.tuple #[.string s7, .int .i64 0]) ∧ Below w.heap.size w w') := KR.out
    obtain ⟨r0, e0, r1, e1, r3, e3, ⟨u0, u1, u2, u3, u4⟩, hE⟩ := V2.out.opened
    have k4 := K4.out _ _ hE
    clear hE
    go_wp2_with fail
    go_at_call 10
    refine k4.mono ?_
    rintro x w5 ⟨rfl, hb5⟩
    clear k4 u0 u1 u2 u3 u4
    go_wp2_with fail
    obtain ⟨r0, e0, r1, e1, r3, e3, HC, hE⟩ := (V2.out.below hb5).opened
    have HE := Lib.hid hE
    have hlt2 := (V2.out.below hb5).lt
    have HCc : Hid (∀ wx, Below w5.heap.size w5 wx → wx.cell? ⟨g2, 0, none⟩ = some (.slice r0 fw.kept.length e0) ∧ wx.cell? ⟨g2, 1, none⟩ = some (.slice r1 fw.cache.length e1) ∧ wx.cell? ⟨g2, 2, none⟩ = some (.int .i64 fw.fuse) ∧ wx.cell? ⟨g2, 3, none⟩ = some (.slice r3 fw.keep.length e3) ∧ wx.cell? ⟨g2, 4, none⟩ = some (.bool fw.dead)) := Lib.hid fun wx hb =>
      ⟨(hb.cell (p := ⟨g2, 0, none⟩) hlt2).trans HC.1, (hb.cell (p := ⟨g2, 1, none⟩) hlt2).trans HC.2.1, (hb.cell (p := ⟨g2, 2, none⟩) hlt2).trans HC.2.2.1, (hb.cell (p := ⟨g2, 3, none⟩) hlt2).trans HC.2.2.2.1, (hb.cell (p := ⟨g2, 4, none⟩) hlt2).trans HC.2.2.2.2⟩
    clear hE HC
    refine wp_region_inv_at (fun a0 l a w => ∃ b0 b1 b2 b3 b4 b5 b6 b7 b8 v0 v1 v2 v3 v4 v5 v6, l = #[b0, b1, b2, b3, b4, b5, b6, b7, b8] ∧ a = ((((((a0.put (some 34) v0).put (some 35) v1).put (some 36) v2).put (some 37) v3).put (some 38) v4).put (some 7) v5).put (some 8) v6 ∧ Hid (I4 w5 (.agg #[.slice r0 fw.kept.length e0, .slice r1 fw.cache.length e1, .int .i64 fw.fuse, .slice r3 fw.keep.length e3, .bool fw.dead]) fa fb b0 b1 b2 b3 b4 b5 b6 b7 b8 v0 v1 v2 v3 v4 v5 v6 w)) (by kernel_rfl) ?_ ?_ ?_
    · refine ⟨_, _, _, _, _, _, _, _, _, ?q0, ?q1, ?q2, ?q3, ?q4, ?q5, ?q6, rfl, ?_, Lib.hid (I4.start (Below.refl _ _).drew)⟩
      rotate_right
      simp only [Act.put, List.setIfInBounds_toArray, List.set_cons_zero, List.set_cons_succ]
      rfl
    · intro l a w6 hl hI i hi
      obtain ⟨b0, b1, b2, b3, b4, b5, b6, b7, b8, v0, v1, v2, v3, v4, v5, v6, rfl, rfl, HI⟩ := hI
      have hr := ready_mem hi
      have hnew := hr.2.1
      have hdone := hr.2.2
      have hi9 : i = 0 ∨ i = 1 ∨ i = 2 ∨ i = 3 ∨ i = 4 ∨ i = 5 ∨ i = 6 ∨ i = 7 ∨ i = 8 := by have := hr.1; simp at this; omega
      clear hi hl hr
      simp only [Act.put, List.setIfInBounds_toArray, List.set_cons_zero, List.set_cons_succ]
      rcases hi9 with rfl | rfl | rfl | rfl | rfl | rfl | rfl | rfl | rfl
      · clear hnew hdone
        obtain ⟨c0, c1, c2, c3, c4⟩ := HCc.out _ HI.out.base
        refine wpOp_step rfl (fun K hK => ?_)
        have HK := Lib.hid hK
        clear hK
        go_simp
        refine HK.out _ _ ⟨_, _, _, _, _, _, _, _, _, _, _, _, _, _, _, _, rfl, rfl, Lib.hid HI.out.s0⟩
      · clear hnew hdone
        refine wpOp_step rfl (fun K hK => ?_)
        have HK := Lib.hid hK
        clear hK
        go_simp
        refine HK.out _ _ ⟨_, _, _, _, _, _, _, _, _, _, _, _, _, _, _, _, rfl, rfl, Lib.hid HI.out.s1⟩
      · have e0 : b0 = true := hdone _ rfl ⟨0, .data⟩ (by simp) rfl
        have e1 : b1 = true := hdone _ rfl ⟨1, .data⟩ (by simp) rfl
        have e2 : b2 = false := hnew
        clear hnew hdone
        subst e0 e1 e2
        have e7 : b7 = false := by cases b7 with | false => rfl | true => exact absurd (HI.out.y7 rfl).1 (by decide)
        subst e7
        obtain ⟨g, rfl, hg⟩ := HI.out.x1 rfl rfl
        obtain rfl := HI.out.x0 rfl
        have ka := KA.out _ (some ⟨g, 0, none⟩) w6 (HE.out.below HI.out.base) ⟨Nat.le_refl 1, by decide, .inr ⟨g, 0, rfl, fun i hi => by
          have : i = 0 := by simp at hi; omega
          subst this
          exact hg⟩⟩
        refine wpOp_step rfl (fun K hK => ?_)
        have HK := Lib.hid hK
        clear hK hg
        go_simp
        go_at_call 23
        refine ka.mono ?_
        rintro x w7 ⟨u, rfl, hu, hb⟩
        refine HK.out _ _ ⟨_, _, _, _, _, _, _, _, _, _, _, _, _, _, _, _, rfl, rfl, Lib.hid (HI.out.s2 hu hb)⟩
      · clear hnew hdone
        obtain ⟨c0, c1, c2, c3, c4⟩ := HCc.out _ HI.out.base
        refine wpOp_step rfl (fun K hK => ?_)
        have HK := Lib.hid hK
        clear hK
        go_simp
        refine HK.out _ _ ⟨_, _, _, _, _, _, _, _, _, _, _, _, _, _, _, _, rfl, rfl, Lib.hid HI.out.s3⟩
      · have e3 : b3 = true := hdone _ rfl ⟨3, .data⟩ (by simp) rfl
        clear hnew hdone
        subst e3
        obtain rfl := HI.out.x3 rfl
        have kb := KB.out _ w6 (HE.out.below HI.out.base)
        refine wpOp_step rfl (fun K hK => ?_)
        have HK := Lib.hid hK
        clear hK
        go_simp
        go_at_call 23
        refine kb.mono ?_
        rintro x w7 ⟨u, rfl, hu, hb⟩
        refine HK.out _ _ ⟨_, _, _, _, _, _, _, _, _, _, _, _, _, _, _, _, rfl, rfl, Lib.hid (HI.out.s4 hu hb)⟩
      · have e5 : b5 = false := hnew
        clear hnew hdone
        subst e5
        have e7 : b7 = false := by cases b7 with | false => rfl | true => exact absurd (HI.out.y7 rfl).2.1 (by decide)
        subst e7
        refine wpOp_step rfl (fun K hK => ?_)
        have HK := Lib.hid hK
        clear hK
        go_simp
        refine HK.out _ _ ⟨_, _, _, _, _, _, _, _, _, _, _, _, _, _, _, _, rfl, rfl, Lib.hid HI.out.s5⟩
      · have e6 : b6 = false := hnew
        clear hnew hdone
        subst e6
        have e8 : b8 = false := by cases b8 with | false => rfl | true => exact absurd (HI.out.y7 (HI.out.y8 rfl)).2.2 (by decide)
        subst e8
        refine wpOp_step rfl (fun K hK => ?_)
        have HK := Lib.hid hK
        clear hK
        go_simp
        refine HK.out _ _ ⟨_, _, _, _, _, _, _, _, _, _, _, _, _, _, _, _, rfl, rfl, Lib.hid HI.out.s6⟩
      · have e5 : b5 = true := hdone _ rfl ⟨5, .data⟩ (by simp) rfl
        have e2 : b2 = true := hdone _ rfl ⟨2, .data⟩ (by simp) rfl
        have e6 : b6 = true := hdone _ rfl ⟨6, .phase⟩ (by simp) rfl
        have e7 : b7 = false := hnew
        clear hnew hdone
        subst e5 e2 e6 e7
        obtain ⟨g, z0, f0, z1, f1, z3, f3, rfl, rfl, hz, hI7⟩ := HI.out.s7 fa_keep fb_keep
        obtain ⟨⟨c0, c1, c2, c3, c4⟩, h0, h1, h2, h3, h4⟩ := hz.cells
        have HI7 := Lib.hid hI7
        clear hI7 hz
        refine wpOp_step rfl (fun K hK => ?_)
        have HK := Lib.hid hK
        clear hK
        go_simp
        refine HK.out _ _ ⟨_, _, _, _, _, _, _, _, _, _, _, _, _, _, _, _, rfl, rfl, HI7⟩
      · have e4 : b4 = true := hdone _ rfl ⟨4, .data⟩ (by simp) rfl
        have e6 : b6 = true := hdone _ rfl ⟨6, .data⟩ (by simp) rfl
        have e7 : b7 = true := hdone _ rfl ⟨7, .chain⟩ (by simp) rfl
        have e8 : b8 = false := hnew
        clear hnew hdone
        subst e4 e6 e7 e8
        obtain ⟨g, z0, f0, z1, f1, z3, f3, rfl, rfl, hz, hI8⟩ := HI.out.s8 fa_keep fb_keep
        obtain ⟨⟨c0, c1, c2, c3, c4⟩, h0, h1, h2, h3, h4⟩ := hz.cells
        have HI8 := Lib.hid hI8
        clear hI8 hz
        refine wpOp_step rfl (fun K hK => ?_)
        have HK := Lib.hid hK
        clear hK
        go_simp
        refine HK.out _ _ ⟨_, _, _, _, _, _, _, _, _, _, _, _, _, _, _, _, rfl, rfl, HI8⟩
    · intro l a w6 hl hI hr
      obtain ⟨b0, b1, b2, b3, b4, b5, b6, b7, b8, v0, v1, v2, v3, v4, v5, v6, rfl, rfl, HI⟩ := hI
      obtain ⟨rfl, rfl, rfl, rfl⟩ : b5 = true ∧ b6 = true ∧ b7 = true ∧ b8 = true := by
        clear HI hl
        revert hr b0 b1 b2 b3 b4 b5 b6 b7 b8
        decide +kernel
      simp only [Act.put, List.setIfInBounds_toArray, List.set_cons_zero, List.set_cons_succ]
      obtain ⟨g3, rfl, _, _, hVA⟩ := HI.out.x5 rfl
      obtain ⟨g4, rfl, _, _, hVB⟩ := HI.out.x6 rfl
      have VA := Lib.hid (hVA rfl)
      have VB := Lib.hid (hVB rfl)
      have HB6 := Lib.hid ((HB2.out.next hb5).next HI.out.base)
      have VD := Lib.hid (V1.out.below HB6.out)
      have HB7 := Lib.hid (HBa.out.next HB6.out)
      clear HI hVA hVB HB6 HB2 HBa V1 V2 hb5 HCc HE hl hr hlt hlt2 HBr HB0 hc2 hv2 y0 y1 y2 y3 y4 K3 KA KB K1
      -- region 5
      obtain ⟨_, _, _, _, _, _, ⟨u0, u1, u2, u3, u4⟩, hE⟩ := VD.out.opened
      have k5 := K5.out _ _ hE
      clear hE
      go_wp2_with fail
      go_at_call 21
      refine k5.mono ?_
      rintro x w7 ⟨u, rfl, hd, hb⟩
      obtain ⟨p0, c0, p1, c1, p3, c3, rfl, hh⟩ := hd.val
      have HD := Lib.hid hh
      have VA1 := Lib.hid (VA.out.below hb)
      have VB1 := Lib.hid (VB.out.below hb)
      have VD1 := Lib.hid (VD.out.below hb)
      have HB8 := Lib.hid (HB7.out.next hb)
      clear hb hd hh u0 u1 u2 u3 u4 VA VB VD HB7 k5
      go_wp2_with fail
      go_at_call 28
      refine (K8.out _).mono ?_
      rintro x w8 ⟨rfl, hb⟩
      replace HD := Lib.hid (HD.out.below hb)
      replace HB8 := Lib.hid (HB8.out.next hb)
      replace VA1 := Lib.hid (VA1.out.below hb)
      replace VB1 := Lib.hid (VB1.out.below hb)
      replace VD1 := Lib.hid (VD1.out.below hb)
      have k6 := K6.out _ _ HD.out
      clear hb
      go_wp2_with fail
      go_at_call 12
      refine k6.mono ?_
      rintro x w9 ⟨u, rfl, hd, hb⟩
      clear k6 HD
      obtain ⟨p0, c0, p1, c1, p3, c3, rfl, hh⟩ := hd.val
      have V9 := Lib.hid (Var.new hh)
      have HV9 := Lib.hid ((Below.refl w9.heap.size w9).alloc (Nat.le_refl _) (.cells #[.slice p0 fx.1.kept.length c0, .slice p1 fx.1.cache.length c1, .int .i64 fx.1.fuse, .slice p3 fx.1.keep.length c3, .bool fx.1.dead] 26))
      replace HB8 := Lib.hid ((HB8.out.next hb).next HV9.out)
      replace VA1 := Lib.hid ((VA1.out.below hb).below HV9.out)
      replace VB1 := Lib.hid ((VB1.out.below hb).below HV9.out)
      replace VD1 := Lib.hid ((VD1.out.below hb).below HV9.out)
      clear hb hd hh HV9 K5 K6 K8
      -- region 6
      obtain ⟨_, _, _, _, _, _, ⟨u0, u1, u2, u3, u4⟩, hE⟩ := VA1.out.opened
      have k7 := K7a.out _ _ hE
      clear hE
      go_wp2_with fail
      obtain ⟨g9, hg9⟩ : ∃ g9, g9 = w9.heap.size := ⟨_, rfl⟩
      rw [← hg9] at V9 ⊢
      generalize w9.alloc (.cells #[.slice p0 fx.1.kept.length c0, .slice p1 fx.1.cache.length c1, .int .i64 fx.1.fuse, .slice p3 fx.1.keep.length c3, .bool fx.1.dead] 26) = wa at *
      clear hg9 u0 u1 u2 u3 u4
      go_at_call 25
      refine k7.mono ?_
      rintro x w10 ⟨u, rfl, hd, hb⟩
      clear k7
      obtain ⟨p0, c0, p1, c1, p3, c3, rfl, hh⟩ := hd.val
      have k9 := K9a.out _ _ hh
      replace HB8 := Lib.hid (HB8.out.next hb)
      replace VA1 := Lib.hid (VA1.out.below hb)
      replace VB1 := Lib.hid (VB1.out.below hb)
      replace VD1 := Lib.hid (VD1.out.below hb)
      replace V9 := Lib.hid (V9.out.below hb)
      clear hb hd hh
      go_wp2_with fail
      go_at_call 10
      refine k9.mono ?_
      rintro x w11 ⟨rfl, hb⟩
      clear k9
      replace HB8 := Lib.hid (HB8.out.next hb)
      replace VA1 := Lib.hid (VA1.out.below hb)
      replace VB1 := Lib.hid (VB1.out.below hb)
      replace VD1 := Lib.hid (VD1.out.below hb)
      replace V9 := Lib.hid (V9.out.below hb)
      clear hb
      -- region 7
      obtain ⟨_, _, _, _, _, _, ⟨u0, u1, u2, u3, u4⟩, hE⟩ := VB1.out.opened
      have k7 := K7b.out _ _ hE
      clear hE
      go_wp2_with fail
      go_at_call 25
      refine k7.mono ?_
      rintro x w12 ⟨u, rfl, hd, hb⟩
      clear k7 u0 u1 u2 u3 u4
      obtain ⟨p0, c0, p1, c1, p3, c3, rfl, hh⟩ := hd.val
      have k9 := K9b.out _ _ hh
      replace HB8 := Lib.hid (HB8.out.next hb)
      replace VA1 := Lib.hid (VA1.out.below hb)
      replace VD1 := Lib.hid (VD1.out.below hb)
      replace V9 := Lib.hid (V9.out.below hb)
      clear hb hd hh VB1
      go_wp2_with fail
      go_at_call 10
      refine k9.mono ?_
      rintro x w13 ⟨rfl, hb⟩
      clear k9
      replace HB8 := Lib.hid (HB8.out.next hb)
      replace VA1 := Lib.hid (VA1.out.below hb)
      replace VD1 := Lib.hid (VD1.out.below hb)
      replace V9 := Lib.hid (V9.out.below hb)
      clear hb
      -- region 8
      obtain ⟨_, _, _, _, _, _, ⟨u0, u1, u2, u3, u4⟩, hE⟩ := VA1.out.opened
      have k9 := K9c.out _ _ hE
      clear hE
      go_wp2_with fail
      go_at_call 10
      refine k9.mono ?_
      rintro x w14 ⟨rfl, hb⟩
      clear k9 u0 u1 u2 u3 u4
      replace HB8 := Lib.hid (HB8.out.next hb)
      replace VD1 := Lib.hid (VD1.out.below hb)
      replace V9 := Lib.hid (V9.out.below hb)
      clear hb VA1
      -- region 9
      go_wp2_with fail
      go_at_call 19
      refine (K10.out _).mono ?_
      rintro x w15 ⟨u, rfl, hd, hb⟩
      obtain ⟨p0, c0, p1, c1, p3, c3, rfl, hh⟩ := hd.val
      have HV9 := Lib.hid ((Below.refl w15.heap.size w15).alloc (Nat.le_refl _) (.cells #[.slice p0 (newD 0).1.kept.length c0, .slice p1 (newD 0).1.cache.length c1, .int .i64 (newD 0).1.fuse, .slice p3 (newD 0).1.keep.length c3, .bool (newD 0).1.dead] 26))
      replace HB8 := Lib.hid ((HB8.out.next hb).next HV9.out)
      replace VD1 := Lib.hid ((VD1.out.below hb).below HV9.out)
      replace V9 := Lib.hid ((V9.out.below hb).below HV9.out)
      clear hb hd hh HV9
      -- region 10
      go_wp2_with fail
      go_at_call 28
      refine (K2.out _).mono ?_
      rintro x w16 ⟨rfl, hb⟩
      replace HB8 := Lib.hid (HB8.out.next hb)
      replace VD1 := Lib.hid (VD1.out.below hb)
      replace V9 := Lib.hid (V9.out.below hb)
      clear hb
      go_wp2_with fail
      go_at_call 28
      refine (K2.out _).mono ?_
      rintro x w17 ⟨rfl, hb⟩
      replace HB8 := Lib.hid (HB8.out.next hb)
      replace VD1 := Lib.hid (VD1.out.below hb)
      replace V9 := Lib.hid (V9.out.below hb)
      clear hb
      go_wp2_with fail
      go_at_call 29
      refine (K12.out _).mono ?_
      rintro x w18 ⟨rfl, hb⟩
      replace HB8 := Lib.hid (HB8.out.next hb)
      replace VD1 := Lib.hid (VD1.out.below hb)
      replace V9 := Lib.hid (V9.out.below hb)
      clear hb
      obtain ⟨_, _, _, _, _, _, ⟨_, _, _, _, z4⟩, _⟩ := V9.out.opened
      rw [HFD.out] at z4
      obtain ⟨_, _, _, _, _, _, ⟨u0, u1, u2, u3, u4⟩, hE⟩ := VD1.out.opened
      have k11 := K11.out _ _ hE
      have z2 : ((fd.kept.length : Nat) : Int) = 2 := by rw [HFL.out]; rfl
      clear hE
      go_wp2_with fail
      go_at_call 16
      refine k11.mono ?_
      rintro x w19 ⟨rfl, hb⟩
      replace HB8 := Lib.hid (HB8.out.next hb)
      obtain ⟨_, _, _, _, _, _, ⟨y0, _, _, _, _⟩, _⟩ := (VD1.out.below hb).opened
      clear hb k11 u0 u1 u2 u3 u4 z4
      go_wp2
      go_ret
      exact ⟨rfl, HB8.out⟩
end Go.Proofs.Ytaamjamcnnalbaa.Dv

