/-
  Package device's own: a disk in memory of its own.
-/
import Derived.Test.YtaamjamcnnalbaaDvP
namespace Go.Proofs.Ytaamjamcnnalbaa.Dv
set_option maxRecDepth 100000
open Go.RowKit Go.Lib
/-- own's memory while the texts are gathered -/
structure Gath (w wr : World) (s : List UInt8) (p0 : Option Addr) (n c0 : Nat) (p1 : Option Addr) (m c1 : Nat) (fuse : Int) (p3 : Option Addr) (k c3 : Nat) (dead : Bool) : Prop where
  below : Below w.heap.size w wr
  box : Box wr w.heap.size p0 n c0 p1 m c1 fuse p3 k c3 dead
  own : Res wr w.heap.size
  res : Res wr (w.heap.size + 1)
  bld : Bld (w.heap.size + 2) (w.heap.size + 2) s wr
theorem Gath.lt {w wr : World} {s : List UInt8} {p0 : Option Addr} {n c0 : Nat} {p1 : Option Addr} {m c1 : Nat} {fuse : Int} {p3 : Option Addr} {k c3 : Nat} {dead : Bool} (h : Gath w wr s p0 n c0 p1 m c1 fuse p3 k c3 dead) : w.heap.size + 2 < wr.heap.size := by
  obtain ⟨p, v, k⟩ := h.bld.block
  exact (Array.getElem?_eq_some_iff.1 k).1
theorem Gath.next {w wr w' : World} {s s' : List UInt8} {p0 : Option Addr} {n c0 : Nat} {p1 : Option Addr} {m c1 : Nat} {fuse : Int} {p3 : Option Addr} {k c3 : Nat} {dead : Bool} (h : Gath w wr s p0 n c0 p1 m c1 fuse p3 k c3 dead)
    (hb : Below (w.heap.size + 2) wr w') (hs : Bld (w.heap.size + 2) (w.heap.size + 2) s' w') : Gath w w' s' p0 n c0 p1 m c1 fuse p3 k c3 dead :=
  ⟨h.below.trans (hb.mono (by omega)), h.box.same (hb.block _ (by omega)), h.own.same (hb.block _ (by omega)), h.res.same (hb.block _ (by omega)), hs⟩
theorem gath (w : World) (p0 : Option Addr) (n c0 : Nat) (p1 : Option Addr) (m c1 : Nat) (fuse : Int) (p3 : Option Addr) (k c3 : Nat) (dead : Bool) :
    ∀ w3, w3 = ((w.alloc (.cells #[.slice p0 n c0, .slice p1 m c1, .int .i64 fuse, .slice p3 k c3, .bool dead] 26)).alloc (.cells #[.slice none 0 0, .slice none 0 0, .int .i64 0, .slice none 0 0, .bool false] 26)).alloc (.cells #[.pointer none, .slice none 0 0] 71) →
    (w3.heap.size = w.heap.size + 3 ∧ Begun w w3 p0 n c0 p1 m c1 fuse p3 k c3 dead) ∧ w3.heap[w.heap.size + 2]? = some (.cells #[.pointer none, .slice none 0 0] 71 (0, 0)) := by
  rintro w3 rfl
  have h := begun w p0 n c0 p1 m c1 fuse p3 k c3 dead
  generalize hw2 : (w.alloc (.cells #[.slice p0 n c0, .slice p1 m c1, .int .i64 fuse, .slice p3 k c3, .bool dead] 26)).alloc (.cells #[.slice none 0 0, .slice none 0 0, .int .i64 0, .slice none 0 0, .bool false] 26) = w2 at *
  have hs : w2.heap.size = w.heap.size + 2 := by rw [← hw2]; simp
  have B := (Below.refl w2.heap.size w2).alloc (Nat.le_refl _) (.cells #[.pointer none, .slice none 0 0] 71)
  refine ⟨⟨by simp [hs], ⟨h.below.next B, h.box.below B, h.own.below B, h.res.below B⟩⟩, ?_⟩
  rw [← hs]
  exact heap_alloc_new w2 _
theorem mayD_texts {d : Dsk} (h : mayD d = true) : ∀ s ∈ d.kept ++ d.cache.map Prod.snd, s.size = 32 := by
  unfold mayD at h
  simp only [Bool.and_eq_true, List.all_eq_true] at h
  intro s hs
  rcases List.mem_append.1 hs with h1 | h1
  · exact of_decide_eq_true (h.2.1 s h1)
  · obtain ⟨p, hp, rfl⟩ := List.mem_map.1 h1
    have := h.2.2 p hp
    unfold putMay at this
    simp only [Bool.and_eq_true, decide_eq_true_eq] at this
    exact this.2.2
/-- a disk in memory of one's own -/
structure Mine (B : Nat) (w : World) (d : Dsk) (p0 : Option Addr) (c0 : Nat) (p1 : Option Addr) (c1 : Nat) (p3 : Option Addr) (c3 : Nat) : Prop where
  row0 : w.ownsRow B 9 1 (.slice p0 d.kept.length c0) d.kept.length (flat strS d.kept)
  row1 : w.ownsRow B 45 2 (.slice p1 d.cache.length c1) d.cache.length (flat putS d.cache)
  row3 : w.ownsRow B 4 1 (.slice p3 d.keep.length c3) d.keep.length (flat boolC d.keep)
theorem Box.setKeep {w : World} {b : Nat} {p0 : Option Addr} {n c0 : Nat} {p1 : Option Addr} {m c1 : Nat} {fuse : Int} {p3 : Option Addr} {k c3 : Nat} {dead : Bool}
    (h : Box w b p0 n c0 p1 m c1 fuse p3 k c3 dead) (hr : Res w b) (q : Option Addr) (n1 d : Nat) : Box (w.setCell ⟨b, 3, none⟩ (.slice q n1 d)) b p0 n c0 p1 m c1 fuse q n1 d dead ∧ Res (w.setCell ⟨b, 3, none⟩ (.slice q n1 d)) b := by
  obtain ⟨v0, v1, v2, v3, v4, hc⟩ := hr.cell
  have e0 := (box_cell hc 0).symm.trans h.kept
  have e1 := (box_cell hc 1).symm.trans h.cache
  have e2 := (box_cell hc 2).symm.trans h.fuse
  have e4 := (box_cell hc 4).symm.trans h.dead
  simp at e0 e1 e2 e4
  subst e0 e1 e2 e4
  have hs := heap_setCell_same w b 3 _ 26 (.slice q n1 d) hc
  exact ⟨⟨box_cell hs 0, box_cell hs 1, box_cell hs 2, box_cell hs 3, box_cell hs 4⟩, ⟨_, _, _, _, _, hs⟩⟩
theorem set_same {l : List Value} {k : Nat} {v : Value} (h : l[k]? = some v) : l.set k v = l := by
  obtain ⟨hl, rfl⟩ := List.getElem?_eq_some_iff.1 h
  exact List.set_getElem_self hl
/-- own's memory behind the clones -/
structure Owned (w wr : World) (s : List UInt8) (d : Dsk) (p0 : Option Addr) (c0 : Nat) (p1 : Option Addr) (c1 : Nat) (p3 : Option Addr) (c3 : Nat) : Prop where
  below : Below w.heap.size w wr
  box : Box wr w.heap.size p0 d.kept.length c0 p1 d.cache.length c1 d.fuse p3 d.keep.length c3 d.dead
  own : Res wr w.heap.size
  res : Res wr (w.heap.size + 1)
  bld : Bld (w.heap.size + 2) (w.heap.size + 2) s wr
  mine : Mine w.heap.size wr d p0 c0 p1 c1 p3 c3
theorem Owned.lt {w wr : World} {s : List UInt8} {d : Dsk} {p0 : Option Addr} {c0 : Nat} {p1 : Option Addr} {c1 : Nat} {p3 : Option Addr} {c3 : Nat} (h : Owned w wr s d p0 c0 p1 c1 p3 c3) : w.heap.size + 2 < wr.heap.size := by
  obtain ⟨p, v, k⟩ := h.bld.block
  exact (Array.getElem?_eq_some_iff.1 k).1
theorem Owned.string {w wr w' : World} {s : List UInt8} {d : Dsk} {p0 : Option Addr} {c0 : Nat} {p1 : Option Addr} {c1 : Nat} {p3 : Option Addr} {c3 : Nat} (h : Owned w wr s d p0 c0 p1 c1 p3 c3)
    (hb : Below (w.heap.size + 2) wr w') (hs : Bld (w.heap.size + 2) (w.heap.size + 2) s w') (ho : Lib.OthersKept 5 (some (w.heap.size + 2)) wr w') : Owned w w' s d p0 c0 p1 c1 p3 c3 := by
  obtain ⟨p, v, k⟩ := h.bld.block
  exact ⟨h.below.trans (hb.mono (by omega)), h.box.same (hb.block _ (by omega)), h.own.same (hb.block _ (by omega)), h.res.same (hb.block _ (by omega)), hs,
    own_others h.mine.row0 ho k (by decide) (by decide), own_others h.mine.row1 ho k (by decide) (by decide), own_others h.mine.row3 ho k (by decide) (by decide)⟩
theorem Owned.drew {w wr : World} {s : List UInt8} {d : Dsk} {p0 : Option Addr} {c0 : Nat} {p1 : Option Addr} {c1 : Nat} {p3 : Option Addr} {c3 : Nat} (h : Owned w wr s d p0 c0 p1 c1 p3 c3) : Owned w wr.drew s d p0 c0 p1 c1 p3 c3 := by
  have B := (Below.refl wr.heap.size wr).drew
  exact ⟨h.below.next B, h.box.below B, h.own.below B, h.res.below B, h.bld.below B, own_later h.mine.row0 B, own_later h.mine.row1 B, own_later h.mine.row3 B⟩
theorem Owned.store {w wr : World} {s : List UInt8} {d : Dsk} {p0 : Option Addr} {c0 : Nat} {p1 : Option Addr} {c1 : Nat} {p3 : Option Addr} {c3 : Nat} (h : Owned w wr s d p0 c0 p1 c1 p3 c3) {g : Nat} {cs : Array Value} {e : TypeId} {fr : Nat × Nat}
    (hg : wr.heap[g]? = some (.cells cs e fr)) (hB : w.heap.size ≤ g) (h1 : e ≠ 71) (h2 : e ≠ 5) (h3 : e ≠ 26) (o : Nat) (x : Value) (hm : Mine w.heap.size (wr.setCell ⟨g, o, none⟩ x) d p0 c0 p1 c1 p3 c3) :
    Owned w (wr.setCell ⟨g, o, none⟩ x) s d p0 c0 p1 c1 p3 c3 := by
  have n0 : w.heap.size ≠ g := fun e' => by obtain ⟨_, _, _, _, _, k⟩ := h.own.cell; rw [e', hg] at k; cases k; exact h3 rfl
  have n1 : w.heap.size + 1 ≠ g := fun e' => by obtain ⟨_, _, _, _, _, k⟩ := h.res.cell; rw [e', hg] at k; cases k; exact h3 rfl
  exact ⟨h.below.setCell (p := ⟨g, o, none⟩) hB x, h.box.same (heap_setCell_other wr ⟨g, o, none⟩ _ x n0), h.own.set n0 x, h.res.set n1 x, h.bld.set hg h1 h2 o x, hm⟩
theorem Owned.kept {w wr : World} {s : List UInt8} {d : Dsk} {g c0 : Nat} {p1 : Option Addr} {c1 : Nat} {p3 : Option Addr} {c3 : Nat} (h : Owned w wr s d (some ⟨g, 0, none⟩) c0 p1 c1 p3 c3) (i : Nat) (hi : i < d.kept.length) :
    Owned w (wr.setCell ⟨g, i, none⟩ (.string d.kept[i])) s d (some ⟨g, 0, none⟩) c0 p1 c1 p3 c3 := by
  obtain ⟨g', cap, cur, hv, hb, hg, _⟩ : ∃ g' cap cur, Value.slice (some ⟨g, 0, none⟩) d.kept.length c0 = .slice (some ⟨g', 0, none⟩) d.kept.length cap ∧ w.heap.size ≤ g' ∧ wr.heap[g']? = some (.cells cur 9 (0, 0)) ∧ True := by
    rcases h.mine.row0.2 with ⟨k, _⟩ | ⟨g', cap, cur, k1, k2, k3, _⟩
    · cases k
    · exact ⟨g', cap, cur, k1, k2, k3, trivial⟩
  cases hv
  refine h.store hg hb (by decide) (by decide) (by decide) i _ ⟨?_, own_set h.mine.row1 i _ (own_ne h.mine.row1 hg (by decide)), own_set h.mine.row3 i _ (own_ne h.mine.row3 hg (by decide))⟩
  have h5 := (h.mine.row0.stored i (.string d.kept[i])).1
  have h6 := flat_get (S := strS) d.kept i hi 0 _ rfl
  rw [show i * strS.size + 0 = i by show i * 1 + 0 = i; omega] at h6
  rw [set_same h6] at h5
  exact h5
theorem Owned.cache {w wr : World} {s : List UInt8} {d : Dsk} {p0 : Option Addr} {c0 g c1 : Nat} {p3 : Option Addr} {c3 : Nat} (h : Owned w wr s d p0 c0 (some ⟨g, 0, none⟩) c1 p3 c3) (i : Nat) (hi : i < d.cache.length) :
    Owned w (wr.setCell ⟨g, i * 2 + 1, none⟩ (.string d.cache[i].2)) s d p0 c0 (some ⟨g, 0, none⟩) c1 p3 c3 := by
  obtain ⟨g', cap, cur, hv, hb, hg, _⟩ : ∃ g' cap cur, Value.slice (some ⟨g, 0, none⟩) d.cache.length c1 = .slice (some ⟨g', 0, none⟩) d.cache.length cap ∧ w.heap.size ≤ g' ∧ wr.heap[g']? = some (.cells cur 45 (0, 0)) ∧ True := by
    rcases h.mine.row1.2 with ⟨k, _⟩ | ⟨g', cap, cur, k1, k2, k3, _⟩
    · cases k
    · exact ⟨g', cap, cur, k1, k2, k3, trivial⟩
  cases hv
  refine h.store hg hb (by decide) (by decide) (by decide) (i * 2 + 1) _ ⟨own_set h.mine.row0 _ _ (own_ne h.mine.row0 hg (by decide)), ?_, own_set h.mine.row3 _ _ (own_ne h.mine.row3 hg (by decide))⟩
  have h5 := (h.mine.row1.stored (i * 2 + 1) (.string d.cache[i].2)).1
  have h6 : (flat putS d.cache)[i * 2 + 1]? = some (.string d.cache[i].2) := flat_get (S := putS) d.cache i hi 1 _ rfl
  rw [set_same h6] at h5
  exact h5
theorem Mine.some0 {B : Nat} {w : World} {d : Dsk} {p0 : Option Addr} {c0 : Nat} {p1 : Option Addr} {c1 : Nat} {p3 : Option Addr} {c3 : Nat} (h : Mine B w d p0 c0 p1 c1 p3 c3) (hl : 0 < d.kept.length) : (∃ g, p0 = some ⟨g, 0, none⟩) ∧ (d.kept.length : Int) ≤ c0 := by
  rcases h.row0.2 with ⟨_, k⟩ | ⟨g, cap, cur, k, _, _, k2, _⟩
  · omega
  · cases k; exact ⟨⟨g, rfl⟩, by omega⟩
theorem Mine.some1 {B : Nat} {w : World} {d : Dsk} {p0 : Option Addr} {c0 : Nat} {p1 : Option Addr} {c1 : Nat} {p3 : Option Addr} {c3 : Nat} (h : Mine B w d p0 c0 p1 c1 p3 c3) (hl : 0 < d.cache.length) : (∃ g, p1 = some ⟨g, 0, none⟩) ∧ (d.cache.length : Int) ≤ c1 := by
  rcases h.row1.2 with ⟨_, k⟩ | ⟨g, cap, cur, k, _, _, k2, _⟩
  · omega
  · cases k; exact ⟨⟨g, rfl⟩, by omega⟩
theorem own_put5 {w : World} {B e s n b : Nat} {v : Value} {xs : List Value} (h : w.ownsRow B e s v n xs) (hne : v.ownBlock ≠ some b) (v0 v1 v2 v3 v4 : Value) : (put5 w b v0 v1 v2 v3 v4).ownsRow B e s v n xs :=
  own_set (own_set (own_set (own_set (own_set h 0 v0 hne) 1 v1 hne) 2 v2 hne) 3 v3 hne) 4 v4 hne
theorem wrapS {z : Int} (h1 : 0 ≤ z) (h2 : z ≤ 1000000) : IntKind.i64.wrap z = z := by rw [IntKind.wrap_i64]; omega
set_option maxHeartbeats 8000000 in
theorem own_code (d : Dsk) (hd : Sized d) (hm : mayD d = true) (v : Value) (w : World) (h : DLie w v d) :
    Calls Try.prog 33 #[v] w fun x w' => ∃ p0 c0 p1 c1 p3 c3, x = .returned (.agg #[.slice p0 d.kept.length c0, .slice p1 d.cache.length c1, .int .i64 d.fuse, .slice p3 d.keep.length c3, .bool d.dead]) ∧ Mine w.heap.size w' d p0 c0 p1 c1 p3 c3 ∧ Below w.heap.size w w' := by
  obtain ⟨p0, c0, p1, c1, p3, c3, rfl, h0, h1, h3⟩ := h
  obtain ⟨m1, m2, m3⟩ := mayD_kept hm
  have mt := mayD_texts hm
  obtain ⟨kept, cache, fuse, keep, dead⟩ := d
  dsimp only at *
  have hk := hd.keep
  dsimp only at hk
  clear hd hm
  obtain ⟨⟨hs3, hbg⟩, hbb⟩ := gath w p0 kept.length c0 p1 cache.length c1 fuse p3 keep.length c3 dead _ rfl
  generalize hw3 : ((w.alloc (.cells #[.slice p0 kept.length c0, .slice p1 cache.length c1, .int .i64 fuse, .slice p3 keep.length c3, .bool dead] 26)).alloc (.cells #[.slice none 0 0, .slice none 0 0, .int .i64 0, .slice none 0 0, .bool false] 26)).alloc (.cells #[.pointer none, .slice none 0 0] 71) = w3 at *
  have kg := bgrow (w.heap.size + 2) (w.heap.size + 2) ((kept.length + cache.length) * 32) w3 (Nat.le_refl _) hbb (by omega) (by omega)
  rw [show (((kept.length + cache.length) * 32 : Nat) : Int) = ((kept.length : Int) + cache.length) * 32 by omega] at kg
  have HG := Lib.hid hbg
  have b0 := hbg.box.kept
  have b1 := hbg.box.cache
  have b2 := hbg.box.fuse
  have b3 := hbg.box.keep
  have b4 := hbg.box.dead
  have H0 := Lib.hid h0
  have H1 := Lib.hid h1
  have H3 := Lib.hid h3
  have HT := Lib.hid mt
  have HK := Lib.hid hk
  have M1 := Lib.hid m1
  have M2 := Lib.hid m2
  have M3 := Lib.hid m3
  have zn : (kept.length : Int) ≤ 5000 := by omega
  have zm : (cache.length : Int) ≤ 20000 := by omega
  have zc0 : (kept.length : Int) ≤ c0 := by have := h0.len; omega
  have zc1 : (cache.length : Int) ≤ c1 := by have := h1.len; omega
  clear h0 h1 h3 hbg hbb mt hk m1 m2 m3 hs3
  go_enter Try.func33, Try.ntmps33
  go_wp2_with fail
  go_at_call 46
  refine kg.mono ?_
  rintro x w4 ⟨rfl, hl4, hb4⟩
  have HR0 : Hid (Gath w w4 (cat (kept.take 0)) p0 kept.length c0 p1 cache.length c1 fuse p3 keep.length c3 dead) :=
    Lib.hid ⟨HG.out.below.trans (hb4.mono (by omega)), HG.out.box.same (hb4.block _ (by omega)), HG.out.own.same (hb4.block _ (by omega)), HG.out.res.same (hb4.block _ (by omega)), hl4⟩
  have d0 := HR0.out.box.kept
  clear kg hl4 hb4 b0 b1 b2 b3 b4 HG hw3
  go_wp2
  go_loopw [22] (fun i wr => ∃ j : Nat, i = .int .i64 j ∧ j ≤ kept.length ∧ Hid (Gath w wr (cat (kept.take j)) p0 kept.length c0 p1 cache.length c1 fuse p3 keep.length c3 dead)) (fun i _ => kept.length - (RowKit.intOf i).toNat)
  case atStart => exact ⟨0, rfl, Nat.zero_le _, HR0⟩
  case round =>
    clear HR0 d0
    obtain ⟨j, rfl, hj, HR⟩ := hrel
    have d0 := HR.out.box.kept
    have d1 := HR.out.box.cache
    by_cases hlt : j < kept.length
    · have zj : (j : Int) < kept.length := by omega
      obtain ⟨blk, off, rfl, hc⟩ := (H0.out.below HR.out.below).at hlt
      have cx := str_at hc hlt
      have hlen : (cat (kept.take j)).length + kept[j].size ≤ 140737488355328 := by
        rw [cat_len _ (fun s hs => HT.out s (List.mem_append_left _ (List.mem_of_mem_take hs))), HT.out kept[j] (List.mem_append_left _ (List.getElem_mem hlt)), List.length_take]
        have := M2.out; omega
      have kw := wstr (w.heap.size + 2) (w.heap.size + 2) _ kept[j] wr HR.out.bld hlen (by have := HR.out.lt; omega)
      have HN := Lib.hid (fun w' (hs : Bld (w.heap.size + 2) (w.heap.size + 2) (cat (kept.take j) ++ kept[j].data.toList) w') hb => show Gath w w' (cat (kept.take (j + 1))) _ kept.length c0 p1 cache.length c1 fuse p3 keep.length c3 dead from HR.out.next hb (by rw [cat_take kept j hlt]; exact hs))
      generalize kept[j] = t at *
      clear hc hlen
      go_wp2_with fail
      go_at_call 47
      refine kw.mono ?_
      rintro x w5 ⟨rfl, hs5, hb5⟩
      have HN2 := Lib.hid (HN.out w5 hs5 hb5)
      clear kw hs5 hb5 d0 d1 cx HN HR
      go_wp2
      go_roundw
      case measure => simp [RowKit.intOf]; omega
      case rel => exact ⟨j + 1, by go_num, by omega, HN2⟩
    · have zj : ¬ (j : Int) < kept.length := by omega
      have e : j = kept.length := by omega
      have HR1 : Hid (Gath w wr (cat (kept ++ (cache.map Prod.snd).take 0)) p0 kept.length c0 p1 cache.length c1 fuse p3 keep.length c3 dead) := Lib.hid (by
        have := HR.out; rw [e, List.take_length] at this; rw [List.take_zero, List.append_nil]; exact this)
      clear e hlt HR
      go_wp2
      go_loopw [32] (fun i wr => ∃ j : Nat, i = .int .i64 j ∧ j ≤ cache.length ∧ Hid (Gath w wr (cat (kept ++ (cache.map Prod.snd).take j)) p0 kept.length c0 p1 cache.length c1 fuse p3 keep.length c3 dead)) (fun i _ => cache.length - (RowKit.intOf i).toNat)
      case atStart => exact ⟨0, rfl, Nat.zero_le _, HR1⟩
      case round =>
        clear HR1 d0 d1
        obtain ⟨i, rfl, hi, HR⟩ := hrel
        by_cases hlt : i < cache.length
        · have zi : (i : Int) < cache.length := by omega
          obtain ⟨blk, off, rfl, hc⟩ := (H1.out.below HR.out.below).at hlt
          obtain ⟨cx0, cx1⟩ := put_at hc hlt
          have hlen : (cat (kept ++ (cache.map Prod.snd).take i)).length + cache[i].2.size ≤ 140737488355328 := by
            have hl2 : i < (cache.map Prod.snd).length := by rw [List.length_map]; exact hlt
            rw [cat_len _ (fun s hs => HT.out s ?_), HT.out cache[i].2 (List.mem_append_right _ (List.mem_map.2 ⟨_, List.getElem_mem hlt, rfl⟩)), List.length_append, List.length_take, List.length_map]
            · have := M2.out; have := M3.out; omega
            · rcases List.mem_append.1 hs with h | h
              · exact List.mem_append_left _ h
              · exact List.mem_append_right _ (List.mem_of_mem_take h)
          have hcat : cat (kept ++ (cache.map Prod.snd).take (i + 1)) = cat (kept ++ (cache.map Prod.snd).take i) ++ cache[i].2.data.toList := by
            have hl2 : i < (cache.map Prod.snd).length := by rw [List.length_map]; exact hlt
            rw [List.take_succ_eq_append_getElem hl2, ← List.append_assoc, cat_append _ [_], cat_one, List.getElem_map]
          have hal := (Below.refl wr.heap.size wr).alloc (Nat.le_refl _) (.cells #[.int .i64 cache[i].1, .string cache[i].2] 45)
          have kw := wstr (w.heap.size + 2) (w.heap.size + 2) _ cache[i].2 (wr.alloc (.cells #[.int .i64 cache[i].1, .string cache[i].2] 45)) (HR.out.bld.below hal) hlen (by have := HR.out.lt; have := hal.size; omega)
          have HN := Lib.hid (fun w' (hs : Bld (w.heap.size + 2) (w.heap.size + 2) (cat (kept ++ (cache.map Prod.snd).take i) ++ cache[i].2.data.toList) w') hb => show Gath w w' (cat (kept ++ (cache.map Prod.snd).take (i + 1))) p0 kept.length c0 _ cache.length c1 fuse p3 keep.length c3 dead from HR.out.next ((hal.mono (by have := HR.out.lt; omega)).trans hb) (by rw [hcat]; exact hs))
          clear hc hlen hcat hal
          generalize cache[i] = t at *
          obtain ⟨a, t⟩ := t
          dsimp only at *
          go_wp2_with fail
          go_at_call 47
          refine kw.mono ?_
          rintro x w5 ⟨rfl, hs5, hb5⟩
          have HN2 := Lib.hid (HN.out w5 hs5 hb5)
          clear kw hs5 hb5 cx0 cx1 HN HR
          go_wp2
          go_roundw
          case measure => simp [RowKit.intOf]; omega
          case rel => exact ⟨i + 1, by go_num, by omega, HN2⟩
        · have zi : ¬ (i : Int) < cache.length := by omega
          have e : i = cache.length := by omega
          have HA : Hid (Gath w wr (cat (kept ++ cache.map Prod.snd)) p0 kept.length c0 p1 cache.length c1 fuse p3 keep.length c3 dead) := Lib.hid (by
            have := HR.out; rw [e, List.take_of_length_le (by rw [List.length_map]; exact Nat.le_refl _)] at this; exact this)
          have KS := Lib.hid (fun wx (hb : Below wr.heap.size wr wx) => clone_str kept kept.length rfl (by have := M2.out; omega) p0 c0 wx (fun e => by have := H0.out.none0 e; have := H0.out.len; exact List.length_eq_zero_iff.1 (by omega)) (fun a e => by subst e; exact H0.out.below (HA.out.below.next hb)))
          have KP := Lib.hid (fun wx (hb : Below wr.heap.size wr wx) => clone_put cache cache.length rfl (by have := M3.out; omega) p1 c1 wx (fun e => by have := H1.out.none0 e; have := H1.out.len; exact List.length_eq_zero_iff.1 (by omega)) (fun a e => by subst e; exact H1.out.below (HA.out.below.next hb)))
          have KB := Lib.hid (fun wx (hb : Below wr.heap.size wr wx) => clone_bool keep keep.length rfl (by have := HK.out; omega) p3 c3 wx (fun e => by rcases H3.out.lies with h | ⟨_, _, h, _⟩; (exact h); (rw [e] at h; cases h)) (fun a e => by subst e; exact flags_lie (H3.out.below (HA.out.below.next hb))))
          have HR2 : Hid (Below wr.heap.size wr wr.drew) := Lib.hid ((Below.refl _ _).drew)
          have HC := Lib.hid (fun wx (hb : Below wr.heap.size wr wx) => show wx.cell? ⟨w.heap.size, 0, none⟩ = some (.slice p0 kept.length c0) ∧ wx.cell? ⟨w.heap.size, 1, none⟩ = some (.slice p1 cache.length c1) ∧ wx.cell? ⟨w.heap.size, 3, none⟩ = some (.slice p3 keep.length c3) from
            have bx := HA.out.box.below hb; ⟨bx.kept, bx.cache, bx.keep⟩)
          clear e hlt HR
          go_wp2_with fail
          have HR := HR2
          clear HR2
          refine wp_region_heldT (S := fun wx => wx.cell? ⟨w.heap.size, 0, none⟩ = some (.slice p0 kept.length c0) ∧ wx.cell? ⟨w.heap.size, 1, none⟩ = some (.slice p1 cache.length c1) ∧ wx.cell? ⟨w.heap.size, 3, none⟩ = some (.slice p3 keep.length c3)) 10 (by kernel_rfl) (HC.out _ HR.out) (fun hh0 => ?_)
          refine wpAnyT_take (i := 0) (v := ?rv0) rfl (by kernel_rfl) (by rfl) (by kernel_rfl) (by kernel_rfl) (by kernel_rfl) (fun _ _ _ h => h) (Or.inl ⟨by rfl, ?ry0⟩) hh0 ?_
          case ry0 => (intro w hSw; (try dsimp only at hSw); go_simp; try (with_reducible rfl))
          try simp only [Act.put, List.setIfInBounds_toArray, List.set_cons_zero, List.set_cons_succ]
          refine wpAnyT_take (i := 1) (v := ?rv1) rfl (by kernel_rfl) (by rfl) (by kernel_rfl) (by kernel_rfl) (by kernel_rfl) (fun _ _ _ h => h) (Or.inl ⟨by rfl, ?ry1⟩) hh0 ?_
          case ry1 => (intro w hSw; (try dsimp only at hSw); go_simp; try (with_reducible rfl))
          try simp only [Act.put, List.setIfInBounds_toArray, List.set_cons_zero, List.set_cons_succ]
          refine wpAnyT_take (i := 3) (v := ?rv3) rfl (by kernel_rfl) (by rfl) (by kernel_rfl) (by kernel_rfl) (by kernel_rfl) (fun _ _ _ h => h) (Or.inl ⟨by rfl, ?ry3⟩) hh0 ?_
          case ry3 => (intro w hSw; (try dsimp only at hSw); go_simp; try (with_reducible rfl))
          try simp only [Act.put, List.setIfInBounds_toArray, List.set_cons_zero, List.set_cons_succ]
          refine wpAnyT_take (i := 4) (v := ?rv4) rfl (by kernel_rfl) (by rfl) (by kernel_rfl) (by kernel_rfl) (by kernel_rfl) (fun _ _ _ h => h) (Or.inl ⟨by rfl, ?ry4⟩) hh0 ?_
          case ry4 => (intro w hSw; (try dsimp only at hSw); go_simp; try (with_reducible rfl))
          try simp only [Act.put, List.setIfInBounds_toArray, List.set_cons_zero, List.set_cons_succ]
          refine wpAnyT_take (i := 6) (v := ?rv6) rfl (by kernel_rfl) (by rfl) (by kernel_rfl) (by kernel_rfl) (by kernel_rfl) (fun _ _ _ h => h) (Or.inl ⟨by rfl, ?ry6⟩) hh0 ?_
          case ry6 => (intro w hSw; (try dsimp only at hSw); go_simp; try (with_reducible rfl))
          try simp only [Act.put, List.setIfInBounds_toArray, List.set_cons_zero, List.set_cons_succ]
          refine wpAnyT_take (i := 7) (v := ?rv7) rfl (by kernel_rfl) (by rfl) (by kernel_rfl) (by kernel_rfl) (by kernel_rfl) (fun _ _ _ h => h) (Or.inl ⟨by rfl, ?ry7⟩) hh0 ?_
          case ry7 => (intro w hSw; (try dsimp only at hSw); go_simp; try (with_reducible rfl))
          try simp only [Act.put, List.setIfInBounds_toArray, List.set_cons_zero, List.set_cons_succ]
          refine wpAnyT_ready (rs := [2]) (by kernel_rfl) (by simp) ?_
          refine AllReadyT.cons rfl (fun Kn hK => ?_) AllReadyT.nil
          go_simp
          go_at_call 48
          refine (KS.out _ HR.out).mono ?_
          rintro x wx ⟨q0, e0, rfl, hrow, hb⟩
          have O0 := Lib.hid (own_low hrow HR.out.size)
          replace HR := Lib.hid (HR.out.next hb)
          clear hrow hb
          refine hK.out _ _ (HC.out _ HR.out) (fun hh1 => ?_)
          clear hK Kn hh0
          try simp only [Act.put, List.setIfInBounds_toArray, List.set_cons_zero, List.set_cons_succ]
          refine wpAnyT_take (i := 9) (v := ?rv9) rfl (by kernel_rfl) (by rfl) (by kernel_rfl) (by kernel_rfl) (by kernel_rfl) (fun _ _ _ h => h) (Or.inl ⟨by rfl, ?ry9⟩) hh1 ?_
          case ry9 => (intro w hSw; (try dsimp only at hSw); go_simp; try (with_reducible rfl))
          try simp only [Act.put, List.setIfInBounds_toArray, List.set_cons_zero, List.set_cons_succ]
          refine wpAnyT_ready (rs := [5]) (by kernel_rfl) (by simp) ?_
          refine AllReadyT.cons rfl (fun Kn hK => ?_) AllReadyT.nil
          go_simp
          go_at_call 49
          refine (KP.out _ HR.out).mono ?_
          rintro x wx ⟨q1, e1, rfl, hrow, hb⟩
          replace O0 := Lib.hid (own_later O0.out hb)
          have O1 := Lib.hid (own_low hrow HR.out.size)
          replace HR := Lib.hid (HR.out.next hb)
          clear hrow hb
          refine hK.out _ _ (HC.out _ HR.out) (fun hh2 => ?_)
          clear hK Kn hh1
          try simp only [Act.put, List.setIfInBounds_toArray, List.set_cons_zero, List.set_cons_succ]
          refine wpAnyT_ready (rs := [8]) (by kernel_rfl) (by simp) ?_
          refine AllReadyT.cons rfl (fun Kn hK => ?_) AllReadyT.nil
          go_simp
          go_at_call 43
          refine (KB.out _ HR.out).mono ?_
          rintro x wx ⟨q3, e3, rfl, hrow, hb⟩
          replace O0 := Lib.hid (own_later O0.out hb)
          replace O1 := Lib.hid (own_later O1.out hb)
          have O3 := Lib.hid (own_low hrow HR.out.size)
          replace HR := Lib.hid (HR.out.next hb)
          clear hrow hb
          refine hK.out _ _ (HC.out _ HR.out) (fun hh3 => ?_)
          clear hK Kn hh2
          try simp only [Act.put, List.setIfInBounds_toArray, List.set_cons_zero, List.set_cons_succ]
          refine wpAnyT_tail (by kernel_rfl) rfl (by kernel_rfl) ?_
          clear hh3
          simp only [List.drop_succ_cons, List.drop_zero]
          obtain ⟨⟨vk, k0⟩, ⟨v1k, k1⟩, -, ⟨v3k, k3⟩, -, f0, f1, -, f3, -⟩ := (HA.out.own.below HR.out).get
          have HO : Hid (Owned w (((wx.setCell ⟨w.heap.size, 0, none⟩ (.slice q0 kept.length e0)).setCell ⟨w.heap.size, 1, none⟩ (.slice q1 cache.length e1)).setCell ⟨w.heap.size, 3, none⟩ (.slice q3 keep.length e3)) (cat (kept ++ cache.map Prod.snd)) ⟨kept, cache, fuse, keep, dead⟩ q0 e0 q1 e1 q3 e3) := Lib.hid (by
            obtain ⟨bx1, r1⟩ := (HA.out.box.below HR.out).setKept (HA.out.own.below HR.out) q0 kept.length e0
            obtain ⟨bx2, r2⟩ := bx1.setCache r1 q1 cache.length e1
            obtain ⟨bx3, r3⟩ := bx2.setKeep r2 q3 keep.length e3
            have hlt := HA.out.lt
            have ob : ∀ {e s n : Nat} {v : Value} {xs : List Value}, wx.ownsRow wr.heap.size e s v n xs → (((wx.setCell ⟨w.heap.size, 0, none⟩ (.slice q0 kept.length e0)).setCell ⟨w.heap.size, 1, none⟩ (.slice q1 cache.length e1)).setCell ⟨w.heap.size, 3, none⟩ (.slice q3 keep.length e3)).ownsRow w.heap.size e s v n xs := fun h =>
              own_low (ownsRow_setCell_below (ownsRow_setCell_below (ownsRow_setCell_below h (a := ⟨w.heap.size, 0, none⟩) (show w.heap.size < wr.heap.size by omega) _) (a := ⟨w.heap.size, 1, none⟩) (show w.heap.size < wr.heap.size by omega) _) (a := ⟨w.heap.size, 3, none⟩) (show w.heap.size < wr.heap.size by omega) _) (by omega)
            refine ⟨((((HA.out.below.next HR.out).setCell (p := ⟨w.heap.size, 0, none⟩) (Nat.le_refl _) _).setCell (p := ⟨w.heap.size, 1, none⟩) (Nat.le_refl _) _).setCell (p := ⟨w.heap.size, 3, none⟩) (Nat.le_refl _) _), bx3, r3, (((HA.out.res.below HR.out).set (by omega) _).set (by omega) _).set (by omega) _, ?_, ⟨ob O0.out, ob O1.out, ob O3.out⟩⟩
            obtain ⟨_, _, _, _, _, hc⟩ := (HA.out.own.below HR.out).cell
            obtain ⟨_, _, _, _, _, hc1⟩ := r1.cell
            obtain ⟨_, _, _, _, _, hc2⟩ := r2.cell
            exact (((HA.out.bld.below HR.out).set hc (by decide) (by decide) 0 _).set hc1 (by decide) (by decide) 1 _).set hc2 (by decide) (by decide) 3 _)
          clear O0 O1 O3 HA KS KP KB HC HR
          have j0 := HO.out.box.kept
          have HE := Lib.hid ((HO.out.mine.some0 (by have := M1.out; exact this)).1)
          have ze0 := (HO.out.mine.some0 (by have := M1.out; exact this)).2
          dsimp only at ze0
          obtain ⟨S0, hS0⟩ : ∃ S0 : ByteArray, S0 = ⟨(cat (kept ++ cache.map Prod.snd)).toArray⟩ := ⟨_, rfl⟩
          have HSZ : Hid (S0.size = (kept.length + cache.length) * 32) := Lib.hid (by
            rw [hS0]; show (cat (kept ++ cache.map Prod.snd)).toArray.size = _
            rw [List.size_toArray, cat_len _ HT.out, List.length_append, List.length_map])
          have HCut : Hid (∀ i (hi : i < (kept ++ cache.map Prod.snd).length), cut S0 i = (kept ++ cache.map Prod.snd)[i]) := Lib.hid (fun i hi => by rw [hS0]; exact cut_cat _ HT.out i hi)
          have KG := Lib.hid (fun wx (h : Owned w wx (cat (kept ++ cache.map Prod.snd)) ⟨kept, cache, fuse, keep, dead⟩ q0 e0 q1 e1 q3 e3) => bstr (w.heap.size + 2) (w.heap.size + 2) (cat (kept ++ cache.map Prod.snd)) wx h.bld (by have := h.lt; omega))
          rw [← hS0] at KG
          have HS0 := Lib.hid hS0
          clear hS0
          go_wp2
          go_loopw [55] (fun i wr => ∃ j : Nat, i = .int .i64 j ∧ j ≤ kept.length ∧ Hid (Owned w wr (cat (kept ++ cache.map Prod.snd)) ⟨kept, cache, fuse, keep, dead⟩  q0 e0 q1 e1 q3 e3)) (fun i _ => kept.length - (RowKit.intOf i).toNat)
          case atStart => exact ⟨0, rfl, Nat.zero_le _, HO⟩
          case round =>
            clear HO j0 k0 k1 k3 f0 f1 f3
            obtain ⟨l, rfl, hl, HR⟩ := hrel
            by_cases hlt : l < kept.length
            · have zl : (l : Int) < kept.length := by omega
              obtain ⟨g0, rfl⟩ := HE.out
              have kc := fun w => sector_code S0 l (by rw [HSZ.out]; omega) (by rw [HSZ.out]; have := M2.out; have := M3.out; omega) w
              rw [HCut.out l (by rw [List.length_append]; omega), List.getElem_append_left hlt] at kc
              have HC := Lib.hid (fun wx (h : Owned w wx (cat (kept ++ cache.map Prod.snd)) ⟨kept, cache, fuse, keep, dead⟩  (some ⟨g0, 0, none⟩) e0 q1 e1 q3 e3) => show wx.cell? ⟨w.heap.size, 0, none⟩ = some (.slice (some ⟨g0, 0, none⟩) kept.length e0) from h.box.kept)
              have HN := Lib.hid (fun wx (h : Owned w wx (cat (kept ++ cache.map Prod.snd)) ⟨kept, cache, fuse, keep, dead⟩  (some ⟨g0, 0, none⟩) e0 q1 e1 q3 e3) => show (∃ v, wx.cell? ⟨g0, l, none⟩ = some v) ∧ wx.frozen? ⟨g0, l, none⟩ = false ∧ Owned w (wx.setCell ⟨g0, l, none⟩ (.string kept[l])) (cat (kept ++ cache.map Prod.snd)) ⟨kept, cache, fuse, keep, dead⟩  (some ⟨g0, 0, none⟩) e0 q1 e1 q3 e3 from by
                refine ⟨⟨.string kept[l], ?_⟩, h.mine.row0.frozenAt l, h.kept l hlt⟩
                have h6 := flat_get (S := strS) kept l hlt 0 _ rfl
                rw [show l * strS.size + 0 = l by show l * 1 + 0 = l; omega] at h6
                rw [h.mine.row0.cellAt l (by show l < kept.length * 1; omega)]; exact h6)
              generalize kept[l] = t at *
              replace HR : Hid (Owned w wr.drew (cat (kept ++ cache.map Prod.snd)) ⟨kept, cache, fuse, keep, dead⟩  (some ⟨g0, 0, none⟩) e0 q1 e1 q3 e3) := Lib.hid HR.out.drew
              go_wp2_with fail
              refine wp_region_heldT (S := fun wx => wx.cell? ⟨w.heap.size, 0, none⟩ = some (.slice (some ⟨g0, 0, none⟩) kept.length e0)) 6 (by kernel_rfl) (HC.out _ HR.out) (fun hh0 => ?_)
              refine wpAnyT_take (i := 0) (v := ?sv0) rfl (by kernel_rfl) (by rfl) (by kernel_rfl) (by kernel_rfl) (by kernel_rfl) (fun _ _ _ h => h) (Or.inl ⟨by rfl, ?sy0⟩) hh0 ?_
              case sy0 => (intro w hSw; (try dsimp only at hSw); go_simp; try (with_reducible rfl))
              try simp only [Act.put, List.setIfInBounds_toArray, List.set_cons_zero, List.set_cons_succ]
              refine wpAnyT_take (i := 1) (v := ?sv1) rfl (by kernel_rfl) (by rfl) (by kernel_rfl) (by kernel_rfl) (by kernel_rfl) (fun _ _ _ h => h) (Or.inl ⟨by rfl, ?sy1⟩) hh0 ?_
              case sy1 => (intro w hSw; (try dsimp only at hSw); go_simp; try (with_reducible rfl))
              try simp only [Act.put, List.setIfInBounds_toArray, List.set_cons_zero, List.set_cons_succ]
              refine wpAnyT_take (i := 2) (v := ?sv2) rfl (by kernel_rfl) (by rfl) (by kernel_rfl) (by kernel_rfl) (by kernel_rfl) (fun _ _ _ h => h) (Or.inl ⟨by rfl, ?sy2⟩) hh0 ?_
              case sy2 => (intro w hSw; (try dsimp only at hSw); go_simp; try (with_reducible rfl))
              try simp only [Act.put, List.setIfInBounds_toArray, List.set_cons_zero, List.set_cons_succ]
              refine wpAnyT_take (i := 4) (v := ?sv4) rfl (by kernel_rfl) (by rfl) (by kernel_rfl) (by kernel_rfl) (by kernel_rfl) (fun _ _ _ h => h) (Or.inl ⟨by rfl, ?sy4⟩) hh0 ?_
              case sy4 => (intro w hSw; (try dsimp only at hSw); go_simp; try (with_reducible rfl))
              try simp only [Act.put, List.setIfInBounds_toArray, List.set_cons_zero, List.set_cons_succ]
              refine wpAnyT_ready (rs := [3]) (by kernel_rfl) (by simp) ?_
              refine AllReadyT.cons rfl (fun Kn hK => ?_) AllReadyT.nil
              go_simp
              go_at_call 50
              refine (KG.out _ HR.out).mono ?_
              rintro x wx ⟨rfl, hbl, hb, ho⟩
              replace HR := Lib.hid (HR.out.string hb hbl ho)
              clear hbl hb ho
              refine hK.out _ _ (HC.out _ HR.out) (fun hh1 => ?_)
              clear hK Kn hh0
              try simp only [Act.put, List.setIfInBounds_toArray, List.set_cons_zero, List.set_cons_succ]
              refine wpAnyT_ready (rs := [5]) (by kernel_rfl) (by simp) ?_
              refine AllReadyT.cons rfl (fun Kn hK => ?_) AllReadyT.nil
              go_simp
              go_at_call 42
              refine (kc _).mono ?_
              rintro x wx ⟨rfl, rfl⟩
              refine hK.out _ _ (HC.out _ HR.out) (fun hh2 => ?_)
              clear hK Kn hh1
              try simp only [Act.put, List.setIfInBounds_toArray, List.set_cons_zero, List.set_cons_succ]
              refine wpAnyT_tail (by kernel_rfl) rfl (by kernel_rfl) ?_
              clear hh2
              simp only [List.drop_succ_cons, List.drop_zero]
              obtain ⟨⟨vk, k0⟩, k1, hN⟩ := HN.out _ HR.out
              have HN2 := Lib.hid hN
              clear hN HN HC HR KG
              go_wp2
              go_roundw
              case measure => simp [RowKit.intOf]; omega
              case rel => exact ⟨l + 1, by go_num, by omega, HN2⟩
            · have zl : ¬ (l : Int) < kept.length := by omega
              have k1 := HR.out.box.cache
              clear hlt
              go_wp2
              go_loopw [69] (fun i wr => ∃ j : Nat, i = .int .i64 j ∧ j ≤ cache.length ∧ Hid (Owned w wr (cat (kept ++ cache.map Prod.snd)) ⟨kept, cache, fuse, keep, dead⟩ q0 e0 q1 e1 q3 e3)) (fun i _ => cache.length - (RowKit.intOf i).toNat)
              case atStart => exact ⟨0, rfl, Nat.zero_le _, HR⟩
              case round =>
                clear HR k1 HE ze0
                obtain ⟨l, rfl, hl, HR⟩ := hrel
                by_cases hlt : l < cache.length
                · have zl : (l : Int) < cache.length := by omega
                  obtain ⟨⟨g1, rfl⟩, ze1⟩ := HR.out.mine.some1 (show 0 < cache.length by omega)
                  dsimp only at ze1
                  have kc := fun w => sector_code S0 (kept.length + l) (by rw [HSZ.out]; omega) (by rw [HSZ.out]; have := M2.out; have := M3.out; omega) w
                  rw [HCut.out (kept.length + l) (by rw [List.length_append, List.length_map]; omega), List.getElem_append_right (by omega)] at kc
                  simp only [Nat.add_sub_cancel_left, List.getElem_map] at kc
                  rw [show ((kept.length + l : Nat) : Int) = (kept.length : Int) + l by omega] at kc
                  have hW : IntKind.i64.wrap ((kept.length : Int) + l) = (kept.length : Int) + l := wrapS (by omega) (by omega)
                  have HC := Lib.hid (fun wx (h : Owned w wx (cat (kept ++ cache.map Prod.snd)) ⟨kept, cache, fuse, keep, dead⟩ q0 e0 (some ⟨g1, 0, none⟩) e1 q3 e3) => show wx.cell? ⟨w.heap.size, 0, none⟩ = some (.slice q0 kept.length e0) ∧ wx.cell? ⟨w.heap.size, 1, none⟩ = some (.slice (some ⟨g1, 0, none⟩) cache.length e1) from ⟨h.box.kept, h.box.cache⟩)
                  have HN := Lib.hid (fun wx (h : Owned w wx (cat (kept ++ cache.map Prod.snd)) ⟨kept, cache, fuse, keep, dead⟩ q0 e0 (some ⟨g1, 0, none⟩) e1 q3 e3) => show (∃ v, wx.cell? ⟨g1, l * 2 + 1, none⟩ = some v) ∧ wx.frozen? ⟨g1, l * 2 + 1, none⟩ = false ∧ Owned w (wx.setCell ⟨g1, l * 2 + 1, none⟩ (.string cache[l].2)) (cat (kept ++ cache.map Prod.snd)) ⟨kept, cache, fuse, keep, dead⟩ q0 e0 (some ⟨g1, 0, none⟩) e1 q3 e3 from by
                    refine ⟨⟨.string cache[l].2, ?_⟩, h.mine.row1.frozenAt (l * 2 + 1), h.cache l hlt⟩
                    have h6 : (flat putS cache)[l * 2 + 1]? = some (.string cache[l].2) := flat_get (S := putS) cache l hlt 1 _ rfl
                    rw [h.mine.row1.cellAt (l * 2 + 1) (by show l * 2 + 1 < cache.length * 2; omega)]; exact h6)
                  generalize cache[l].2 = t at *
                  replace HR : Hid (Owned w wr.drew (cat (kept ++ cache.map Prod.snd)) ⟨kept, cache, fuse, keep, dead⟩ q0 e0 (some ⟨g1, 0, none⟩) e1 q3 e3) := Lib.hid HR.out.drew
                  go_wp2_with fail
                  refine wp_region_heldT (S := fun wx => wx.cell? ⟨w.heap.size, 0, none⟩ = some (.slice q0 kept.length e0) ∧ wx.cell? ⟨w.heap.size, 1, none⟩ = some (.slice (some ⟨g1, 0, none⟩) cache.length e1)) 10 (by kernel_rfl) (HC.out _ HR.out) (fun hh0 => ?_)
                  refine wpAnyT_take (i := 0) (v := ?uv0) rfl (by kernel_rfl) (by rfl) (by kernel_rfl) (by kernel_rfl) (by kernel_rfl) (fun _ _ _ h => h) (Or.inl ⟨by rfl, ?uy0⟩) hh0 ?_
                  case uy0 => (intro w hSw; (try dsimp only at hSw); go_simp; try (with_reducible rfl))
                  try simp only [Act.put, List.setIfInBounds_toArray, List.set_cons_zero, List.set_cons_succ]
                  refine wpAnyT_take (i := 1) (v := ?uv1) rfl (by kernel_rfl) (by rfl) (by kernel_rfl) (by kernel_rfl) (by kernel_rfl) (fun _ _ _ h => h) (Or.inl ⟨by rfl, ?uy1⟩) hh0 ?_
                  case uy1 => (intro w hSw; (try dsimp only at hSw); go_simp; try (with_reducible rfl))
                  try simp only [Act.put, List.setIfInBounds_toArray, List.set_cons_zero, List.set_cons_succ]
                  refine wpAnyT_take (i := 2) (v := ?uv2) rfl (by kernel_rfl) (by rfl) (by kernel_rfl) (by kernel_rfl) (by kernel_rfl) (fun _ _ _ h => h) (Or.inl ⟨by rfl, ?uy2⟩) hh0 ?_
                  case uy2 => (intro w hSw; (try dsimp only at hSw); go_simp; try (with_reducible rfl))
                  try simp only [Act.put, List.setIfInBounds_toArray, List.set_cons_zero, List.set_cons_succ]
                  refine wpAnyT_take (i := 4) (v := ?uv4) rfl (by kernel_rfl) (by rfl) (by kernel_rfl) (by kernel_rfl) (by kernel_rfl) (fun _ _ _ h => h) (Or.inl ⟨by rfl, ?uy4⟩) hh0 ?_
                  case uy4 => (intro w hSw; (try dsimp only at hSw); go_simp; try (with_reducible rfl))
                  try simp only [Act.put, List.setIfInBounds_toArray, List.set_cons_zero, List.set_cons_succ]
                  refine wpAnyT_take (i := 5) (v := ?uv5) rfl (by kernel_rfl) (by rfl) (by kernel_rfl) (by kernel_rfl) (by kernel_rfl) (fun _ _ _ h => h) (Or.inl ⟨by rfl, ?uy5⟩) hh0 ?_
                  case uy5 => (intro w hSw; (try dsimp only at hSw); go_simp; try (with_reducible rfl))
                  try simp only [Act.put, List.setIfInBounds_toArray, List.set_cons_zero, List.set_cons_succ]
                  refine wpAnyT_take (i := 6) (v := ?uv6) rfl (by kernel_rfl) (by rfl) (by kernel_rfl) (by kernel_rfl) (by kernel_rfl) (fun _ _ _ h => h) (Or.inl ⟨by rfl, ?uy6⟩) hh0 ?_
                  case uy6 => (intro w hSw; (try dsimp only at hSw); go_simp; try (with_reducible rfl))
                  try simp only [Act.put, List.setIfInBounds_toArray, List.set_cons_zero, List.set_cons_succ]
                  refine wpAnyT_take (i := 7) (v := ?uv7) rfl (by kernel_rfl) (by rfl) (by kernel_rfl) (by kernel_rfl) (by kernel_rfl) (fun _ _ _ h => h) (Or.inl ⟨by rfl, ?uy7⟩) hh0 ?_
                  case uy7 => (intro w hSw; (try dsimp only at hSw); go_simp; try (with_reducible rfl))
                  try simp only [Act.put, List.setIfInBounds_toArray, List.set_cons_zero, List.set_cons_succ]
                  refine wpAnyT_take (i := 8) (v := ?uv8) rfl (by kernel_rfl) (by rfl) (by kernel_rfl) (by kernel_rfl) (by kernel_rfl) (fun _ _ _ h => h) (Or.inl ⟨by rfl, ?uy8⟩) hh0 ?_
                  case uy8 => (intro w hSw; (try dsimp only at hSw); go_simp; try (with_reducible rfl))
                  try simp only [Act.put, List.setIfInBounds_toArray, List.set_cons_zero, List.set_cons_succ]
                  refine wpAnyT_ready (rs := [3]) (by kernel_rfl) (by simp) ?_
                  refine AllReadyT.cons rfl (fun Kn hK => ?_) AllReadyT.nil
                  go_simp
                  go_at_call 50
                  refine (KG.out _ HR.out).mono ?_
                  rintro x wx ⟨rfl, hbl, hb, ho⟩
                  replace HR := Lib.hid (HR.out.string hb hbl ho)
                  clear hbl hb ho
                  refine hK.out _ _ (HC.out _ HR.out) (fun hh1 => ?_)
                  clear hK Kn hh0
                  try simp only [Act.put, List.setIfInBounds_toArray, List.set_cons_zero, List.set_cons_succ]
                  refine wpAnyT_ready (rs := [9]) (by kernel_rfl) (by simp) ?_
                  refine AllReadyT.cons rfl (fun Kn hK => ?_) AllReadyT.nil
                  go_simp
                  go_at_call 42
                  refine (kc _).mono ?_
                  rintro x wx ⟨rfl, rfl⟩
                  refine hK.out _ _ (HC.out _ HR.out) (fun hh2 => ?_)
                  clear hK Kn hh1
                  try simp only [Act.put, List.setIfInBounds_toArray, List.set_cons_zero, List.set_cons_succ]
                  refine wpAnyT_tail (by kernel_rfl) rfl (by kernel_rfl) ?_
                  clear hh2
                  simp only [List.drop_succ_cons, List.drop_zero]
                  obtain ⟨⟨vk, k0⟩, k1, hN⟩ := HN.out _ HR.out
                  have HN2 := Lib.hid hN
                  clear hN HN HC HR KG
                  go_wp2
                  go_roundw
                  case measure => simp [RowKit.intOf]; omega
                  case rel => exact ⟨l + 1, by go_num, by omega, HN2⟩
                · have zl : ¬ (l : Int) < cache.length := by omega
                  have j0 := HR.out.box.kept
                  have j1 := HR.out.box.cache
                  have j2 := HR.out.box.fuse
                  have j3 := HR.out.box.keep
                  have j4 := HR.out.box.dead
                  obtain ⟨⟨r0, t0⟩, ⟨r1, t1⟩, ⟨r2, t2⟩, ⟨r3, t3⟩, ⟨r4, t4⟩, f0, f1, f2, f3, f4⟩ := HR.out.res.get
                  clear hlt
                  go_wp2
                  have hrt := HR.out.res
                  refine bodyPost_ret (res_one rfl _ _ (w.heap.size + 1) (.slice q0 kept.length e0) (.slice q1 cache.length e1) (.int .i64 fuse) (.slice q3 keep.length e3) (.bool dead) rfl (put5_heap hrt _ _ _ _ _)) rfl ?_
                  obtain ⟨_, _, _, _, _, hrc⟩ := hrt.cell
                  have hm := HR.out.mine
                  have n0 := own_ne hm.row0 hrc (by decide)
                  have n1 := own_ne hm.row1 hrc (by decide)
                  have n3 := own_ne hm.row3 hrc (by decide)
                  exact ⟨q0, e0, q1, e1, q3, e3, rfl, ⟨own_put5 hm.row0 n0 _ _ _ _ _, own_put5 hm.row1 n1 _ _ _ _ _, own_put5 hm.row3 n3 _ _ _ _ _⟩, put5_below HR.out.below (b := w.heap.size + 1) (by omega) _ _ _ _ _⟩
end Go.Proofs.Ytaamjamcnnalbaa.Dv
