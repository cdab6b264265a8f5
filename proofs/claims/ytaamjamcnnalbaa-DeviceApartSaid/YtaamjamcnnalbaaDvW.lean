/-
  Package device's Write of a disk.
-/
import Derived.Test.YtaamjamcnnalbaaDvU
namespace Go.Proofs.Ytaamjamcnnalbaa.Dv
set_option maxRecDepth 100000
open Go.RowKit Go.Lib
theorem keep_new {w wr : World} {P : Nat → Prop} {q : Option Addr} {l : List Bool} {c : Nat} (h : wr.ownsRow (w.heap.size + 2) 4 1 (.slice q l.length c) l.length (flat boolC l)) : l = [] ∨ ∃ blk off, q = some ⟨blk, off, none⟩ ∧ (P blk ∨ w.heap.size ≤ blk) := by
  rcases (slie_own (S := boolC) h rfl).lies with k | ⟨blk, off, e, _⟩
  · exact .inl k
  · exact .inr ⟨blk, off, e, .inr (by have := own_block h blk off e; omega)⟩
theorem own_grow {w w' : World} {B e s n : Nat} {v : Value} {xs : List Value} (h : w.ownsRow B e s v n xs) {B' e' s' m : Nat} {u : Value} {ys : List Value} (hu : w.ownsRow B' e' s' u m ys) (he : e ≠ e') (hg : w.grownBy w' u.ownBlock) : w'.ownsRow B e s v n xs := by
  refine h.kept hg ?_
  rcases hu.2 with ⟨rfl, _⟩ | ⟨g, cap, cur, rfl, _, k, _⟩
  · exact Classical.em _
  · exact .inr (own_ne h k he)
theorem mayD_more {kept : List ByteArray} {cache : List (Int × ByteArray)} {fuse : Int} {keep : List Bool} {dead : Bool} (h : mayD ⟨kept, cache, fuse, keep, dead⟩ = true) {a : Int} {s : ByteArray} (h1 : there ⟨kept, cache, fuse, keep, dead⟩ a = true) (h2 : s.size = 32) (h3 : cache.length < 20000) : mayD ⟨kept, cache ++ [(a, s)], fuse, keep, dead⟩ = true := by
  unfold mayD at *
  unfold there at h1
  simp only [Bool.and_eq_true, decide_eq_true_eq, List.all_append, List.length_append, List.length_singleton, List.all_cons, List.all_nil, and_true] at *
  refine ⟨⟨h.1.1, h.1.2.1, by omega, h.1.2.2.2⟩, h.2.1, h.2.2, ?_⟩
  unfold putMay
  simp only [Bool.and_eq_true, decide_eq_true_eq]
  exact ⟨h1.1, h1.2, h2⟩
theorem Owl.setFuse {w wr : World} {L : List ByteArray} {n : Nat} {cache : List (Int × ByteArray)} {m : Nat} {fuse : Int} {keep : List Bool} {k : Nat} {dead : Bool} {g c0 : Nat} {p1 : Option Addr} {c1 : Nat} {p3 : Option Addr} {c3 : Nat} (h : Owl w wr L n cache m fuse keep k dead g c0 p1 c1 p3 c3) (f : Int) :
    Owl w (wr.setCell ⟨w.heap.size, 2, none⟩ (.int .i64 f)) L n cache m f keep k dead g c0 p1 c1 p3 c3 := by
  obtain ⟨bx, ow⟩ := h.box.setFuse h.own f
  exact ⟨h.below.setCell (p := ⟨w.heap.size, 2, none⟩) (Nat.le_refl _) _, bx, ow, h.res.set (by omega) _, own_set (g := w.heap.size) h.row0 2 _ (row_ne (b := w.heap.size) h.row0 (by omega)), own_set (g := w.heap.size) h.row1 2 _ (row_ne (b := w.heap.size) h.row1 (by omega)), own_set (g := w.heap.size) h.row3 2 _ (row_ne (b := w.heap.size) h.row3 (by omega))⟩
set_option maxHeartbeats 8000000 in
theorem write_code (P : Nat → Prop) (d : Dsk) (v : Value) (a : Int) (s : ByteArray) (w : World) (hd : Sized d) (h : DLie w v d) :
    Calls Try.prog 12 #[v, .int .i64 a, .string s] w fun x w' => ∃ u, x = .returned (.tuple #[u, .int .i64 (writeD d a s).2]) ∧ KV (fun b => P b ∨ w.heap.size ≤ b) w' u (writeD d a s).1 ∧ Below w.heap.size w w' := by
  obtain ⟨p0, c0, p1, c1, p3, c3, rfl, h0, h1, h3⟩ := h
  obtain ⟨kept, cache, fuse, keep, dead⟩ := d
  dsimp only at *
  have hbg := begun w p0 kept.length c0 p1 cache.length c1 fuse p3 keep.length c3 dead
  generalize hw2 : (w.alloc (.cells #[.slice p0 kept.length c0, .slice p1 cache.length c1, .int .i64 fuse, .slice p3 keep.length c3, .bool dead] 26)).alloc (.cells #[.slice none 0 0, .slice none 0 0, .int .i64 0, .slice none 0 0, .bool false] 26) = w2 at *
  have HG := Lib.hid hbg
  have b0 := hbg.box.kept
  have b1 := hbg.box.cache
  have b2 := hbg.box.fuse
  have b3 := hbg.box.keep
  have b4 := hbg.box.dead
  have km := may_code _ _ w2 hd ⟨p0, c0, p1, c1, p3, c3, rfl, h0.below hbg.below, h1.below hbg.below, h3.below hbg.below⟩
  dsimp only at km
  have H0 := Lib.hid h0
  have H1 := Lib.hid h1
  have H3 := Lib.hid h3
  have Hd := Lib.hid hd
  have hr : writeD ⟨kept, cache, fuse, keep, dead⟩ a s = if mayD ⟨kept, cache, fuse, keep, dead⟩ then
    if dead then (⟨kept, cache, fuse, keep, dead⟩, 90)
    else if there ⟨kept, cache, fuse, keep, dead⟩ a = false ∨ ¬ s.size = 32 ∨ 20000 ≤ cache.length then (⟨kept, cache, fuse, keep, dead⟩, 1)
    else if fuse = 0 then (dieD ⟨kept, cache ++ [(a, s)], fuse, keep, dead⟩ keep, 90)
    else (⟨kept, cache ++ [(a, s)], if 0 < fuse then fuse - 1 else fuse, keep, dead⟩, 0)
    else (noneD, 1) := rfl
  generalize writeD ⟨kept, cache, fuse, keep, dead⟩ a s = ans at *
  clear h0 h1 h3 hbg hd
  cases hm : mayD ⟨kept, cache, fuse, keep, dead⟩ with
  | true =>
    rw [hm] at km hr
    obtain ⟨m1, m2, m3⟩ := mayD_kept hm
    dsimp only at m1 m2 m3
    have zn : (kept.length : Int) ≤ 5000 := by omega
    have zm : (cache.length : Int) ≤ 20000 := by omega
    cases dead with
    | true =>
      have hr2 : ans = (⟨kept, cache, fuse, keep, true⟩, 90) := hr
      subst hr2
      have KO := Lib.hid (fun w' (hb : Below w.heap.size w w') => own_code _ Hd.out hm _ w' ⟨p0, c0, p1, c1, p3, c3, rfl, H0.out.below hb, H1.out.below hb, H3.out.below hb⟩)
      dsimp only at KO
      clear hr
      go_enter Try.func12, Try.ntmps12
      go_wp2_with fail
      go_at_call 16
      refine km.mono ?_
      rintro x w3 ⟨rfl, hb3⟩
      have HB3 := Lib.hid (HG.out.below.next hb3)
      have HX3 := Lib.hid (HG.out.box.below hb3)
      have HO3 := Lib.hid (HG.out.own.below hb3)
      have HR3 := Lib.hid (HG.out.res.below hb3)
      have ko := KO.out w3 HB3.out
      clear km hb3 b0 b1 b2 b3 b4 KO
      have b0 := HX3.out.kept
      have b1 := HX3.out.cache
      have b2 := HX3.out.fuse
      have b3 := HX3.out.keep
      have b4 := HX3.out.dead
      go_wp2_with fail
      go_at_call 33
      refine ko.mono ?_
      rintro x w4 ⟨q0, e0, q1, e1, q3, e3, rfl, hmine, hb4⟩
      have HB34 := Lib.hid hb4
      have HW := Lib.hid (owd w w4 _ q0 e0 q1 e1 q3 e3 (HB3.out.next hb4) (HO3.out.below hb4) (HR3.out.below hb4) (by have := HR3.out.lt; omega) hmine)
      have hfr := (HO3.out.below hb4).get
      obtain ⟨⟨x0, y0⟩, ⟨x1, y1⟩, ⟨x2, y2⟩, ⟨x3, y3⟩, ⟨x4, y4⟩, z0, z1, z2, z3, z4⟩ := hfr
      have a0 := HW.out.box.kept
      have a1 := HW.out.box.cache
      have a2 := HW.out.box.fuse
      have a3 := HW.out.box.keep
      have a4 := HW.out.box.dead
      unfold put5 at a0 a1 a2 a3 a4
      dsimp only at HW a0 a1 a2 a3 a4
      clear ko hmine hb4 b0 b1 b2 b3 b4 HX3 HO3
      obtain ⟨⟨r0, t0⟩, ⟨r1, t1⟩, ⟨r2, t2⟩, ⟨r3, t3⟩, ⟨r4, t4⟩, f0, f1, f2, f3, f4⟩ := (HR3.out.below HB34.out).get
      clear hm
      go_wp2
      have hw := HW.out
      refine bodyPost_ret (res_two rfl _ _ (w.heap.size + 1) (.slice q0 kept.length e0) (.slice q1 cache.length e1) (.int .i64 fuse) (.slice q3 keep.length e3) (.bool true) rfl (put5_heap hw.res _ _ _ _ _)) rfl ?_
      refine ⟨_, rfl, ⟨q0, e0, q1, e1, q3, e3, rfl, own_res (S := strS) (b := w.heap.size + 1) hw.mine.row0 rfl (by omega) _ _ _ _ _, own_res (S := putS) (b := w.heap.size + 1) hw.mine.row1 rfl (by omega) _ _ _ _ _, lie_flags (own_res (S := boolC) (b := w.heap.size + 1) hw.mine.row3 rfl (by omega) _ _ _ _ _), keep_new hw.mine.row3⟩, put5_below hw.below (b := w.heap.size + 1) (by omega) _ _ _ _ _⟩
    | false =>
      by_cases hbad : there ⟨kept, cache, fuse, keep, false⟩ a = false ∨ ¬ s.size = 32 ∨ 20000 ≤ cache.length
      · have hr2 : ans = (⟨kept, cache, fuse, keep, false⟩, 1) := by rw [hr, if_pos rfl, if_neg (by decide), if_pos hbad]
        subst hr2
        have ht : there ⟨kept, cache, fuse, keep, false⟩ a = (decide (0 ≤ a) && decide (a < kept.length)) := rfl
        have arm : (there ⟨kept, cache, fuse, keep, false⟩ a = false) ∨ (there ⟨kept, cache, fuse, keep, false⟩ a = true ∧ textMay s = false) ∨ (there ⟨kept, cache, fuse, keep, false⟩ a = true ∧ textMay s = true ∧ cache.length = 20000) := by
          cases hth : there ⟨kept, cache, fuse, keep, false⟩ a with
          | false => exact .inl rfl
          | true =>
            by_cases h32 : s.size = 32
            · refine .inr (.inr ⟨rfl, decide_eq_true h32, ?_⟩)
              rcases hbad with g | g | g
              · rw [hth] at g; cases g
              · exact absurd h32 g
              · omega
            · exact .inr (.inl ⟨rfl, decide_eq_false h32⟩)
        clear hbad m1 m2 m3
        have KO := Lib.hid (fun w' (hb : Below w.heap.size w w') => own_code _ Hd.out hm _ w' ⟨p0, c0, p1, c1, p3, c3, rfl, H0.out.below hb, H1.out.below hb, H3.out.below hb⟩)
        dsimp only at KO
        clear hr
        go_enter Try.func12, Try.ntmps12
        go_wp2_with fail
        go_at_call 16
        refine km.mono ?_
        rintro x w3 ⟨rfl, hb3⟩
        have HB3 := Lib.hid (HG.out.below.next hb3)
        have HX3 := Lib.hid (HG.out.box.below hb3)
        have HO3 := Lib.hid (HG.out.own.below hb3)
        have HR3 := Lib.hid (HG.out.res.below hb3)
        have ko := KO.out w3 HB3.out
        clear km hb3 b0 b1 b2 b3 b4 KO
        have b0 := HX3.out.kept
        have b1 := HX3.out.cache
        have b2 := HX3.out.fuse
        have b3 := HX3.out.keep
        have b4 := HX3.out.dead
        go_wp2_with fail
        go_at_call 33
        refine ko.mono ?_
        rintro x w4 ⟨q0, e0, q1, e1, q3, e3, rfl, hmine, hb4⟩
        have HB34 := Lib.hid hb4
        have HW := Lib.hid (owd w w4 _ q0 e0 q1 e1 q3 e3 (HB3.out.next hb4) (HO3.out.below hb4) (HR3.out.below hb4) (by have := HR3.out.lt; omega) hmine)
        have hfr := (HO3.out.below hb4).get
        obtain ⟨⟨x0, y0⟩, ⟨x1, y1⟩, ⟨x2, y2⟩, ⟨x3, y3⟩, ⟨x4, y4⟩, z0, z1, z2, z3, z4⟩ := hfr
        have a0 := HW.out.box.kept
        have a1 := HW.out.box.cache
        have a2 := HW.out.box.fuse
        have a3 := HW.out.box.keep
        have a4 := HW.out.box.dead
        unfold put5 at a0 a1 a2 a3 a4
        dsimp only at HW a0 a1 a2 a3 a4
        clear ko hmine hb4 b0 b1 b2 b3 b4 HX3 HO3
        have kh := has_code q0 kept.length e0 q1 cache.length e1 fuse q3 keep.length e3 false a (put5 w4 w.heap.size (.slice q0 kept.length e0) (.slice q1 cache.length e1) (.int .i64 fuse) (.slice q3 keep.length e3) (.bool false))
        unfold put5 at kh
        rw [← ht] at kh
        clear hm ht
        go_wp2_with fail
        go_at_call 30
        refine kh.mono ?_
        rintro x w6 ⟨rfl, hb6⟩
        have HW6 := Lib.hid (HW.out.later hb6)
        have a0 := HW6.out.box.kept
        have a1 := HW6.out.box.cache
        have a2 := HW6.out.box.fuse
        have a3 := HW6.out.box.keep
        have a4 := HW6.out.box.dead
        dsimp only at HW6 a0 a1 a2 a3 a4
        have ki := fun w => isno s w
        obtain ⟨⟨r0, t0⟩, ⟨r1, t1⟩, ⟨r2, t2⟩, ⟨r3, t3⟩, ⟨r4, t4⟩, f0, f1, f2, f3, f4⟩ := HW6.out.res.get
        clear kh hb6 x0 x1 x2 x3 x4 y0 y1 y2 y3 y4 z0 z1 z2 z3 z4 HW
        rcases arm with g1 | ⟨g1, g2⟩ | ⟨g1, g2, g3⟩
        · rw [g1]
          clear g1 ki
          go_wp2
          have hw := HW6.out
          refine bodyPost_ret (res_two rfl _ _ (w.heap.size + 1) (.slice q0 kept.length e0) (.slice q1 cache.length e1) (.int .i64 fuse) (.slice q3 keep.length e3) (.bool false) rfl (put5_heap hw.res _ _ _ _ _)) rfl ?_
          refine ⟨_, rfl, ⟨q0, e0, q1, e1, q3, e3, rfl, own_res (S := strS) (b := w.heap.size + 1) hw.mine.row0 rfl (by omega) _ _ _ _ _, own_res (S := putS) (b := w.heap.size + 1) hw.mine.row1 rfl (by omega) _ _ _ _ _, lie_flags (own_res (S := boolC) (b := w.heap.size + 1) hw.mine.row3 rfl (by omega) _ _ _ _ _), keep_new hw.mine.row3⟩, put5_below hw.below (b := w.heap.size + 1) (by omega) _ _ _ _ _⟩
        · rw [g1]
          rw [g2] at ki
          clear g1 g2
          go_wp2_with (go_at_call 34; refine (ki _).mono ?_; rintro e w' ⟨rfl, rfl⟩)
          have hw := HW6.out
          refine bodyPost_ret (res_two rfl _ _ (w.heap.size + 1) (.slice q0 kept.length e0) (.slice q1 cache.length e1) (.int .i64 fuse) (.slice q3 keep.length e3) (.bool false) rfl (put5_heap hw.res _ _ _ _ _)) rfl ?_
          refine ⟨_, rfl, ⟨q0, e0, q1, e1, q3, e3, rfl, own_res (S := strS) (b := w.heap.size + 1) hw.mine.row0 rfl (by omega) _ _ _ _ _, own_res (S := putS) (b := w.heap.size + 1) hw.mine.row1 rfl (by omega) _ _ _ _ _, lie_flags (own_res (S := boolC) (b := w.heap.size + 1) hw.mine.row3 rfl (by omega) _ _ _ _ _), keep_new hw.mine.row3⟩, put5_below hw.below (b := w.heap.size + 1) (by omega) _ _ _ _ _⟩
        · rw [g1]
          rw [g2] at ki
          have g4 : (((cache.length : Nat) : Int) == 20000) = true := by rw [beq_iff_eq]; omega
          have g5 : (cache.length == 20000) = true := by rw [beq_iff_eq]; omega
          clear g1 g2 g3
          go_wp2_with (go_at_call 34; refine (ki _).mono ?_; rintro e w' ⟨rfl, rfl⟩)
          have hw := HW6.out
          refine bodyPost_ret (res_two rfl _ _ (w.heap.size + 1) (.slice q0 kept.length e0) (.slice q1 cache.length e1) (.int .i64 fuse) (.slice q3 keep.length e3) (.bool false) rfl (put5_heap hw.res _ _ _ _ _)) rfl ?_
          refine ⟨_, rfl, ⟨q0, e0, q1, e1, q3, e3, rfl, own_res (S := strS) (b := w.heap.size + 1) hw.mine.row0 rfl (by omega) _ _ _ _ _, own_res (S := putS) (b := w.heap.size + 1) hw.mine.row1 rfl (by omega) _ _ _ _ _, lie_flags (own_res (S := boolC) (b := w.heap.size + 1) hw.mine.row3 rfl (by omega) _ _ _ _ _), keep_new hw.mine.row3⟩, put5_below hw.below (b := w.heap.size + 1) (by omega) _ _ _ _ _⟩
      · simp only [not_or, Bool.not_eq_false, Nat.not_le, Decidable.not_not] at hbad
        obtain ⟨g1, g2, g3⟩ := hbad
        have hr2 : ans = if fuse = 0 then (dieD ⟨kept, cache ++ [(a, s)], fuse, keep, false⟩ keep, 90) else (⟨kept, cache ++ [(a, s)], if 0 < fuse then fuse - 1 else fuse, keep, false⟩, 0) := by
          rw [hr, if_pos rfl, if_neg (by decide), if_neg (by rintro (e | e | e); (rw [g1] at e; cases e); exact e g2; omega)]
        have hms := mayD_more hm g1 g2 g3
        have hat2 := fun i (hi : i < (cache ++ [(a, s)]).length) => mayD_put hms i hi
        have ht : there ⟨kept, cache, fuse, keep, false⟩ a = (decide (0 ≤ a) && decide (a < kept.length)) := rfl
        have htx : textMay s = true := decide_eq_true g2
        have HS32 := Lib.hid g2
        have G3 := Lib.hid g3
        have M1 := Lib.hid m1
        have M2 := Lib.hid m2
        have HA := Lib.hid hat2
        dsimp only at HA
        have hlo := Hd.out.lo
        have hhi := Hd.out.hi
        dsimp only at hlo hhi
        have KO := Lib.hid (fun w' (hb : Below w.heap.size w w') => own_code _ Hd.out hm _ w' ⟨p0, c0, p1, c1, p3, c3, rfl, H0.out.below hb, H1.out.below hb, H3.out.below hb⟩)
        dsimp only at KO
        clear hr
        go_enter Try.func12, Try.ntmps12
        go_wp2_with fail
        go_at_call 16
        refine km.mono ?_
        rintro x w3 ⟨rfl, hb3⟩
        have HB3 := Lib.hid (HG.out.below.next hb3)
        have HX3 := Lib.hid (HG.out.box.below hb3)
        have HO3 := Lib.hid (HG.out.own.below hb3)
        have HR3 := Lib.hid (HG.out.res.below hb3)
        have ko := KO.out w3 HB3.out
        clear km hb3 b0 b1 b2 b3 b4 KO
        have b0 := HX3.out.kept
        have b1 := HX3.out.cache
        have b2 := HX3.out.fuse
        have b3 := HX3.out.keep
        have b4 := HX3.out.dead
        go_wp2_with fail
        go_at_call 33
        refine ko.mono ?_
        rintro x w4 ⟨q0, e0, q1, e1, q3, e3, rfl, hmine, hb4⟩
        have HB34 := Lib.hid hb4
        have HW := Lib.hid (owd w w4 _ q0 e0 q1 e1 q3 e3 (HB3.out.next hb4) (HO3.out.below hb4) (HR3.out.below hb4) (by have := HR3.out.lt; omega) hmine)
        have hfr := (HO3.out.below hb4).get
        obtain ⟨⟨x0, y0⟩, ⟨x1, y1⟩, ⟨x2, y2⟩, ⟨x3, y3⟩, ⟨x4, y4⟩, z0, z1, z2, z3, z4⟩ := hfr
        have a0 := HW.out.box.kept
        have a1 := HW.out.box.cache
        have a2 := HW.out.box.fuse
        have a3 := HW.out.box.keep
        have a4 := HW.out.box.dead
        unfold put5 at a0 a1 a2 a3 a4
        dsimp only at HW a0 a1 a2 a3 a4
        clear ko hmine hb4 b0 b1 b2 b3 b4 HX3 HO3
        have kh := has_code q0 kept.length e0 q1 cache.length e1 fuse q3 keep.length e3 false a (put5 w4 w.heap.size (.slice q0 kept.length e0) (.slice q1 cache.length e1) (.int .i64 fuse) (.slice q3 keep.length e3) (.bool false))
        unfold put5 at kh
        rw [← ht, g1] at kh
        have HMS := Lib.hid hms
        clear hm ht g1 g2 hat2 hms
        go_wp2_with fail
        go_at_call 30
        refine kh.mono ?_
        rintro x w6 ⟨rfl, hb6⟩
        have HW6 := Lib.hid (HW.out.later hb6)
        have a1 := HW6.out.box.cache
        dsimp only at HW6 a1
        have ki := fun w => isno s w
        rw [htx] at ki
        have g4 : (((cache.length : Nat) : Int) == 20000) = false := by rw [beq_eq_false_iff_ne]; omega
        have g5 : (cache.length == 20000) = false := by rw [beq_eq_false_iff_ne]; omega
        clear kh hb6 a0 a2 a3 a4 x0 x1 x2 x3 x4 y0 y1 y2 y3 y4 z0 z1 z2 z3 z4 HW g3 htx
        go_wp2_with (go_at_call 34; refine (ki _).mono ?_; rintro e w' ⟨rfl, rfl⟩)
        have HW7 := Lib.hid HW6.out
        have KC := Lib.hid (fun w => clone32 s (by have := HS32.out; omega) w)
        have HC := Lib.hid (fun wx (hb : Below w'.heap.size w' wx) => show wx.cell? ⟨w.heap.size, 1, none⟩ = some (.slice q1 cache.length e1) from (HW7.out.box.below hb).cache)
        have HR : Hid (Below w'.heap.size w' w'.drew) := Lib.hid ((Below.refl _ _).drew)
        clear ki HW6
        refine wp_region_heldT (S := fun wx => wx.cell? ⟨w.heap.size, 1, none⟩ = some (.slice q1 cache.length e1)) 7 (by kernel_rfl) (HC.out _ HR.out) (fun hh0 => ?_)
        refine wpAnyT_take (i := 0) (v := ?rv0) rfl (by kernel_rfl) (by rfl) (by kernel_rfl) (by kernel_rfl) (by kernel_rfl) (fun _ _ _ h => h) (Or.inl ⟨by rfl, ?ry0⟩) hh0 ?_
        case ry0 => (intro w hSw; (try dsimp only at hSw); go_simp; try (with_reducible rfl))
        try simp only [Act.put, List.setIfInBounds_toArray, List.set_cons_zero, List.set_cons_succ]
        refine wpAnyT_take (i := 1) (v := ?rv1) rfl (by kernel_rfl) (by rfl) (by kernel_rfl) (by kernel_rfl) (by kernel_rfl) (fun _ _ _ h => h) (Or.inl ⟨by rfl, ?ry1⟩) hh0 ?_
        case ry1 => (intro w hSw; (try dsimp only at hSw); go_simp; try (with_reducible rfl))
        try simp only [Act.put, List.setIfInBounds_toArray, List.set_cons_zero, List.set_cons_succ]
        refine wpAnyT_take (i := 2) (v := ?rv2) rfl (by kernel_rfl) (by rfl) (by kernel_rfl) (by kernel_rfl) (by kernel_rfl) (fun _ _ _ h => h) (Or.inl ⟨by rfl, ?ry2⟩) hh0 ?_
        case ry2 => (intro w hSw; (try dsimp only at hSw); go_simp; try (with_reducible rfl))
        try simp only [Act.put, List.setIfInBounds_toArray, List.set_cons_zero, List.set_cons_succ]
        refine wpAnyT_take (i := 3) (v := ?rv3) rfl (by kernel_rfl) (by rfl) (by kernel_rfl) (by kernel_rfl) (by kernel_rfl) (fun _ _ _ h => h) (Or.inl ⟨by rfl, ?ry3⟩) hh0 ?_
        case ry3 => (intro w hSw; (try dsimp only at hSw); go_simp; try (with_reducible rfl))
        try simp only [Act.put, List.setIfInBounds_toArray, List.set_cons_zero, List.set_cons_succ]
        refine wpAnyT_ready (rs := [4]) (by kernel_rfl) (by simp) ?_
        refine AllReadyT.cons rfl (fun Kn hK => ?_) AllReadyT.nil
        go_simp
        go_at_call 32
        refine (KC.out _).mono ?_
        rintro x wx ⟨rfl, hb⟩
        replace HR := Lib.hid (HR.out.next hb)
        clear hb
        refine hK.out _ _ (HC.out _ HR.out) (fun hh1 => ?_)
        clear hK Kn hh0
        try simp only [Act.put, List.setIfInBounds_toArray, List.set_cons_zero, List.set_cons_succ]
        refine wpAnyT_take (i := 5) (v := ?rv5) rfl (by kernel_rfl) (by rfl) (by kernel_rfl) (by kernel_rfl) (by kernel_rfl) (fun _ _ _ h => h) (Or.inl ⟨by rfl, ?ry5⟩) hh1 ?_
        case ry5 => (intro w hSw; (try dsimp only at hSw); go_simp; try (with_reducible rfl))
        try simp only [Act.put, List.setIfInBounds_toArray, List.set_cons_zero, List.set_cons_succ]
        refine wpAnyT_ready (rs := [6]) (by kernel_rfl) (by simp) ?_
        refine AllReadyT.cons rfl (fun Kn hK => ?_) AllReadyT.nil
        go_simp
        replace HR := Lib.hid (HR.out.next ((Below.refl _ _).alloc (Nat.le_refl _) (.cells #[.int .i64 a, .string s] 45)))
        refine hK.out _ _ (HC.out _ HR.out) (fun hh2 => ?_)
        clear hK Kn hh1
        try simp only [Act.put, List.setIfInBounds_toArray, List.set_cons_zero, List.set_cons_succ]
        refine wpAnyT_tail (by kernel_rfl) rfl (by kernel_rfl) ?_
        clear hh2
        simp only [List.drop_succ_cons, List.drop_zero]
        obtain ⟨⟨g0, rfl⟩, ze0⟩ := HW7.out.mine.some0 M1.out
        try dsimp only at ze0
        have HO8 := Lib.hid (HW7.out.later HR.out)
        try dsimp only at HO8
        obtain ⟨i0, hi0, hz0, hz1, hz2⟩ := info_parts infoPut
        have p1' := HO8.out.mine.row1
        try dsimp only at p1'
        have p2 : ∀ j u, (flat putS [(a, s)])[j]? = some u → (wx.alloc (.cells #[.int .i64 a, .string s] 45)).cell? ((⟨wx.heap.size, 0, none⟩ : Addr).add j) = some u := fun j u hj => by
          rw [Addr.add_lit, Nat.zero_add, cell_of_row _ _ j _ 45 (0, 0) (heap_alloc_new wx _)]
          simpa [flat, putS] using hj
        have p3' : w.heap.size + 2 ≤ (wx.alloc (.cells #[.int .i64 a, .string s] 45)).heap.size := by have := HO8.out.res.lt; omega
        obtain ⟨-, ⟨x1, y1⟩, -, -, -, -, z1, -⟩ := HO8.out.own.get
        clear KC HC HW7 a1
        go_wp2_with (first
          | (at_builtin; refine wpList_append_own _ rfl _ _ 23 rfl (w.heap.size + 2) 45 i0 (.agg #[.int .i64 0, .string ⟨#[]⟩]) 2 24 Try.underlying23 hi0 hz0 hz1 hz2 rfl (by decide) (.slice q1 cache.length e1) cache.length (flat putS cache) rfl p1' ⟨wx.heap.size, 0, none⟩ 1 1 (flat putS [(a, s)]) rfl rfl p2 (flat_cell (S := putS) _) (by have := G3.out; unfold maxLen; omega) (by have := G3.out; omega) p3' ?_)
          | go_in)
        intro v9 w9 own9 gr9 nn9
        have hv9 : ¬ v9 = .slice none 0 0 := nn9
        obtain ⟨g9, c9, rfl⟩ := own_some own9 hv9
        rw [← flat_append] at own9
        have HL : Hid ((cache ++ [(a, s)]).length = cache.length + 1) := Lib.hid (by simp)
        have hb9 : Below (w.heap.size + 2) (wx.alloc (.cells #[.int .i64 a, .string s] 45)) w9 := (Below.refl _ _).grown gr9 p3' (fun k hk => (p1'.lt k hk).1)
        have r0 := own_grow HO8.out.mine.row0 p1' (by decide) gr9
        have r3 := own_grow HO8.out.mine.row3 p1' (by decide) gr9
        have bx9 := HO8.out.box.same (hb9.block w.heap.size (by omega))
        have ow9 := HO8.out.own.same (hb9.block w.heap.size (by omega))
        have rs9 := HO8.out.res.same (hb9.block (w.heap.size + 1) (by omega))
        obtain ⟨bx10, ow10⟩ := bx9.setCache ow9 (some ⟨g9, 0, none⟩) (cache.length + 1) c9
        have HX : Hid (Owl w (w9.setCell ⟨w.heap.size, 1, none⟩ (.slice (some ⟨g9, 0, none⟩) (cache.length + 1) c9)) kept kept.length (cache ++ [(a, s)]) (cache.length + 1) fuse keep keep.length false g0 e0 (some ⟨g9, 0, none⟩) c9 q3 e3) := Lib.hid
          ⟨(HO8.out.below.trans (hb9.mono (by omega))).setCell (p := ⟨w.heap.size, 1, none⟩) (Nat.le_refl _) _, bx10, ow10, rs9.set (by omega) _, own_set (g := w.heap.size) r0 1 _ (row_ne (b := w.heap.size) r0 (by omega)), own_set (g := w.heap.size) own9 1 _ (row_ne (b := w.heap.size) own9 (by omega)), own_set (g := w.heap.size) r3 1 _ (row_ne (b := w.heap.size) r3 (by omega))⟩
        obtain ⟨-, ⟨x1, y1⟩, -, -, -, -, z1, -⟩ := ow9.get
        have a0 := bx10.kept
        have a1 := bx10.cache
        have a2 := bx10.fuse
        have a3 := bx10.keep
        have a4 := bx10.dead
        obtain ⟨-, -, ⟨x2, y2⟩, -, -, -, -, z2, -⟩ := ow10.get
        obtain ⟨⟨r0, t0⟩, ⟨r1, t1⟩, ⟨r2, t2⟩, ⟨r3, t3⟩, ⟨r4, t4⟩, f0, f1, f2, f3, f4⟩ := HX.out.res.get
        clear p1' p2 p3' own9 gr9 nn9 hv9 hb9 bx9 ow9 rs9 bx10 ow10 HO8 HR
        rcases (show (0 < fuse ∧ decide (0 < fuse) = true) ∨ (fuse < 0 ∧ decide (0 < fuse) = false ∧ decide (fuse < 0) = true) ∨ (fuse = 0 ∧ True) from by
          by_cases h1 : 0 < fuse
          · exact .inl ⟨h1, decide_eq_true h1⟩
          · by_cases h2 : fuse < 0
            · exact .inr (.inl ⟨h2, decide_eq_false h1, decide_eq_true h2⟩)
            · exact .inr (.inr ⟨by omega, trivial⟩)) with ⟨b1, b2⟩ | ⟨b1, b2, b3⟩ | ⟨rfl, -⟩
        · rw [if_neg (show ¬ fuse = 0 by omega), if_pos b1] at hr2
          subst hr2
          go_wp2
          have hw := HX.out.setFuse (fuse - 1)
          refine bodyPost_ret (res_two rfl _ _ (w.heap.size + 1) (.slice (some ⟨g0, 0, none⟩) kept.length e0) (.slice (some ⟨g9, 0, none⟩) (cache.length + 1) c9) (.int .i64 (fuse - 1)) (.slice q3 keep.length e3) (.bool false) rfl (put5_heap hw.res _ _ _ _ _)) rfl ?_
          refine ⟨_, rfl, ⟨some ⟨g0, 0, none⟩, e0, some ⟨g9, 0, none⟩, c9, q3, e3, by rw [HL.out], own_res (S := strS) (b := w.heap.size + 1) hw.row0 rfl (by omega) _ _ _ _ _, own_res (S := putS) (b := w.heap.size + 1) hw.row1 HL.out (by omega) _ _ _ _ _, lie_flags (own_res (S := boolC) (b := w.heap.size + 1) hw.row3 rfl (by omega) _ _ _ _ _), keep_new hw.row3⟩, put5_below hw.below (b := w.heap.size + 1) (by omega) _ _ _ _ _⟩
        · rw [if_neg (show ¬ fuse = 0 by omega), if_neg (show ¬ 0 < fuse by omega)] at hr2
          subst hr2
          go_wp2
          have hw := HX.out
          refine bodyPost_ret (res_two rfl _ _ (w.heap.size + 1) (.slice (some ⟨g0, 0, none⟩) kept.length e0) (.slice (some ⟨g9, 0, none⟩) (cache.length + 1) c9) (.int .i64 fuse) (.slice q3 keep.length e3) (.bool false) rfl (put5_heap hw.res _ _ _ _ _)) rfl ?_
          refine ⟨_, rfl, ⟨some ⟨g0, 0, none⟩, e0, some ⟨g9, 0, none⟩, c9, q3, e3, by rw [HL.out], own_res (S := strS) (b := w.heap.size + 1) hw.row0 rfl (by omega) _ _ _ _ _, own_res (S := putS) (b := w.heap.size + 1) hw.row1 HL.out (by omega) _ _ _ _ _, lie_flags (own_res (S := boolC) (b := w.heap.size + 1) hw.row3 rfl (by omega) _ _ _ _ _), keep_new hw.row3⟩, put5_below hw.below (b := w.heap.size + 1) (by omega) _ _ _ _ _⟩
        · rw [if_pos rfl] at hr2
          subst hr2
          clear y2 z2
          have kd := keep_code (w.heap.size + 2) g0 kept kept.length rfl M2.out e0 (cache ++ [(a, s)]) (cache.length + 1) HL.out (by have := G3.out; omega) (some ⟨g9, 0, none⟩) c9 0 q3 keep.length e3 false keep keep.length rfl (by have := (slie_own (S := boolC) HX.out.row3 rfl).len; have := (slie_own (S := boolC) HX.out.row3 rfl).cap; omega) q3 e3 _ HX.out.row0
            (by have := (HX.out.row0.lt g0 rfl).2; exact this) HX.out.res.lt (slie_own (S := putS) HX.out.row1 HL.out)
            (fun b hb _ => by
              cases hb
              rcases HX.out.row0.2 with ⟨k, _⟩ | ⟨g, cap, cur, k1, k2, k3, _⟩
              · cases k
              · cases k1
                have := own_ne HX.out.row1 k3 (by decide)
                intro e; exact this (by rw [← e]; rfl))
            HA.out (lie_flags (slie_own (S := boolC) HX.out.row3 rfl)) (fun b hb _ => by
              subst hb
              rcases HX.out.row0.2 with ⟨k, _⟩ | ⟨g, cap, cur, k1, k2, k3, _⟩
              · cases k
              · cases k1
                have := own_ne HX.out.row3 k3 (by decide)
                intro e; exact this (by rw [← e]; rfl))
          have hg0 : w.heap.size + 2 ≤ g0 := own_block HX.out.row0 _ _ rfl
          go_wp2_with fail
          go_at_call 35
          refine kd.mono ?_
          rintro x w11 ⟨rfl, hrow, hb11, hoth⟩
          have HB11 := Lib.hid (HX.out.below.trans (hb11.mono (by omega)))
          have HX11 := Lib.hid (HX.out.box.same (hb11.block w.heap.size (by omega)))
          have HR11 := Lib.hid (HX.out.res.same (hb11.block (w.heap.size + 1) (by omega)))
          have HW11 := Lib.hid hrow
          clear kd hrow hb11 hoth a0 a1 a2 a3 a4 r0 r1 r2 r3 r4 t0 t1 t2 t3 t4 f0 f1 f2 f3 f4 x1 y1 z1
          have a0 := HX11.out.kept
          have a1 := HX11.out.cache
          have a2 := HX11.out.fuse
          have a3 := HX11.out.keep
          have a4 := HX11.out.dead
          have kr := restart_code (some ⟨g0, 0, none⟩) kept.length e0 (some ⟨g9, 0, none⟩) (cache.length + 1) c9 0 q3 keep.length e3 false true w11
          go_wp2_with fail
          go_at_call 36
          refine kr.mono ?_
          rintro x w12 ⟨rfl, hb12⟩
          have HB12 := Lib.hid (HB11.out.next hb12)
          have HR12 := Lib.hid (HR11.out.below hb12)
          have H12 := Lib.hid (own_later HW11.out hb12)
          obtain ⟨⟨r0, t0⟩, ⟨r1, t1⟩, ⟨r2, t2⟩, ⟨r3, t3⟩, ⟨r4, t4⟩, f0, f1, f2, f3, f4⟩ := HR12.out.get
          clear kr hb12 a0 a1 a2 a3 a4
          go_wp2
          refine bodyPost_ret (res_two rfl _ _ (w.heap.size + 1) (.slice (some ⟨g0, 0, none⟩) kept.length e0) (.slice none 0 0) (.int .i64 (-1)) (.slice none 0 0) (.bool true) rfl (put5_heap HR12.out _ _ _ _ _)) rfl ?_
          have hD : dieD ⟨kept, cache ++ [(a, s)], 0, keep, false⟩ keep = ⟨dieC kept (cache ++ [(a, s)]) keep, [], -1, [], true⟩ := by unfold dieD; rw [if_pos HMS.out]
          refine ⟨_, rfl, ?_, put5_below HB12.out (b := w.heap.size + 1) (by omega) _ _ _ _ _⟩
          show KV _ _ _ (dieD ⟨kept, cache ++ [(a, s)], 0, keep, false⟩ keep)
          rw [hD]
          exact ⟨_, _, none, 0, none, 0, by rw [dieC_length]; rfl, own_res (S := strS) (b := w.heap.size + 1) H12.out (dieC_length _ _ _) (by omega) _ _ _ _ _, SLie.nil _, flagsNone _, .inl rfl⟩
  | false =>
    rw [hm] at km hr
    have hr2 : ans = (noneD, 1) := hr
    subst hr2
    clear hm hr
    go_enter Try.func12, Try.ntmps12
    go_wp2_with fail
    go_at_call 16
    refine km.mono ?_
    rintro x w3 ⟨rfl, hb3⟩
    have HB3 := Lib.hid (HG.out.below.next hb3)
    obtain ⟨⟨r0, e0⟩, ⟨r1, e1⟩, ⟨r2, e2⟩, ⟨r3, e3⟩, ⟨r4, e4⟩, f0, f1, f2, f3, f4⟩ := (HG.out.res.below hb3).get
    have HR3 := Lib.hid (HG.out.res.below hb3)
    clear km hb3 b0 b1 b2 b3 b4
    go_wp2
    refine bodyPost_ret (res_two rfl _ _ (w.heap.size + 1) (.slice none 0 0) (.slice none 0 0) (.int .i64 0) (.slice none 0 0) (.bool false) rfl (put5_heap HR3.out _ _ _ _ _)) rfl ?_
    exact ⟨_, rfl, (noneD_lie _).kvNone rfl, put5_below HB3.out (b := w.heap.size + 1) (by omega) _ _ _ _ _⟩
end Go.Proofs.Ytaamjamcnnalbaa.Dv
