/-
  The document's Write of a disk.
-/
import Derived.Test.YtaamjamcnnalbaaDevFl
import Derived.Laws.AppendOwnNone
namespace Go.Proofs.Ytaamjamcnnalbaa.Dv
set_option maxRecDepth 100000
open Go.RowKit Go.Lib
/-- append of a row that lies, nil or not, to a row of the call's own -/
theorem wpList_append_lie {α : Type} {S : Shape α} {P : Program} (w : World) {ops : Array Oper} {rest : List Oper} {o : Oper} {a : Act} {Q : Exit → Act → World → Prop} (hgd : o.guard = none) (s x : Operand) (t : TypeId)
    (ho : o.op = .call { callee := .builtin .append, args := #[s, x], argTypes := #[t, t] })
    (base : Nat) (e : TypeId) (i : TypeInfo) (z : Value) (bytes : Nat) (ht : P.underlying t = some (.slice e)) (hi : P.info? e = some i) (hz : i.zero = some z)
    (hsize : i.size = S.size) (hby : i.bytes = bytes) (hzs : z.cells.size = S.size) (hsz : 0 < S.size)
    (v : Value) (n : Nat) (xs : List Value) (hs : a.eval s = v) (hown : w.ownsRow base e S.size v n xs)
    (p : Option Addr) (L : List α) (c : Nat) (hx : a.eval x = .slice p L.length c) (hL : SLie S w p L c)
    (h63 : n + L.length ≤ maxLen) (hbytes : (n + L.length) * bytes ≤ 140737488355328) (hbase : base ≤ w.heap.size)
    (h : ∀ v' w', w'.ownsRow base e S.size v' (n + L.length) (xs ++ flat S L) → w.grownBy w' v.ownBlock → (v' = .slice none 0 0 ↔ v = .slice none 0 0 ∧ L.length = 0) → wpList P ops Q rest (a.put o.dst v') w') : wpList P ops Q (o :: rest) a w := by
  cases p with
  | none =>
    have hc := hL.none0 rfl
    subst hc
    have hl : L = [] := by
      rcases hL.lies with h | ⟨_, _, h, _⟩
      · exact h
      · cases h
    subst hl
    refine wpList_append_own_none hgd s x t ho base e i S.size ht hi v n xs hs hown hx ?_
    exact h v w (by simpa [flat] using hown) ⟨rfl, rfl, rfl, Nat.le_refl _, fun _ _ _ => rfl⟩ (by simp)
  | some ad =>
    exact wpList_append_own w hgd s x t ho base e i z S.size bytes ht hi hz hsize hby hzs hsz v n xs hs hown ad L.length c (flat S L) hx (flat_length L) (slie_news hL) (flat_cell L) h63 hbytes hbase h
theorem infoPut : (Try.prog.info? 45).map (fun i => (i.zero, i.size, i.bytes)) = some (some (.agg #[.int .i64 0, .string ⟨#[]⟩]), 2, 24) := by kernel_rfl
theorem Box.setCache {w : World} {b : Nat} {p0 : Option Addr} {n c0 : Nat} {p1 : Option Addr} {m c1 : Nat} {fuse : Int} {p3 : Option Addr} {k c3 : Nat} {dead : Bool}
    (h : Box w b p0 n c0 p1 m c1 fuse p3 k c3 dead) (hr : Res w b) (q : Option Addr) (n1 d : Nat) : Box (w.setCell ⟨b, 1, none⟩ (.slice q n1 d)) b p0 n c0 q n1 d fuse p3 k c3 dead ∧ Res (w.setCell ⟨b, 1, none⟩ (.slice q n1 d)) b := by
  obtain ⟨v0, v1, v2, v3, v4, hc⟩ := hr.cell
  have e0 := (box_cell hc 0).symm.trans h.kept
  have e2 := (box_cell hc 2).symm.trans h.fuse
  have e3 := (box_cell hc 3).symm.trans h.keep
  have e4 := (box_cell hc 4).symm.trans h.dead
  simp at e0 e2 e3 e4
  subst e0 e2 e3 e4
  have hs := heap_setCell_same w b 1 _ 26 (.slice q n1 d) hc
  exact ⟨⟨box_cell hs 0, box_cell hs 1, box_cell hs 2, box_cell hs 3, box_cell hs 4⟩, ⟨_, _, _, _, _, hs⟩⟩
/-- texts lie in no block of a result that is still zero -/
theorem texts_apart {w : World} {b : Nat} (hz : w.heap[b]? = some (.cells #[.slice none 0 0, .slice none 0 0, .int .i64 0, .slice none 0 0, .bool false] 26 (0, 0))) {q : Option Addr} {L : List ByteArray} {c : Nat} (h : SLie strS w q L c) :
    ∀ g off, q = some ⟨g, off, none⟩ → L ≠ [] → g ≠ b := fun g off e hl hg => by
  have hi : 0 < L.length := List.length_pos_iff.2 hl
  obtain ⟨b', off', e', hk⟩ := h.at hi
  rw [e] at e'
  cases e'
  subst hg
  have h1 := str_at hk hi
  rw [box_cell hz] at h1
  rcases Nat.lt_or_ge (off + 0) 5 with h5 | h5
  · have : off + 0 = 0 ∨ off + 0 = 1 ∨ off + 0 = 2 ∨ off + 0 = 3 ∨ off + 0 = 4 := by omega
    rcases this with k | k | k | k | k <;> rw [k] at h1 <;> simp at h1
  · rw [Array.getElem?_eq_none (by simpa using h5)] at h1
    cases h1
theorem dieD_empty (d : Dsk) (k : List Bool) : (dieD d k).cache = [] ∧ (dieD d k).keep = [] := by
  unfold dieD
  split
  · exact ⟨rfl, rfl⟩
  · exact ⟨rfl, rfl⟩
theorem begun_zero (w : World) (p0 : Option Addr) (n c0 : Nat) (p1 : Option Addr) (m c1 : Nat) (fuse : Int) (p3 : Option Addr) (k c3 : Nat) (dead : Bool) :
    ((w.alloc (.cells #[.slice p0 n c0, .slice p1 m c1, .int .i64 fuse, .slice p3 k c3, .bool dead] 26)).alloc (.cells #[.slice none 0 0, .slice none 0 0, .int .i64 0, .slice none 0 0, .bool false] 26)).heap[w.heap.size + 1]? = some (.cells #[.slice none 0 0, .slice none 0 0, .int .i64 0, .slice none 0 0, .bool false] 26 (0, 0)) := by
  have hs1 : (w.alloc (.cells #[.slice p0 n c0, .slice p1 m c1, .int .i64 fuse, .slice p3 k c3, .bool dead] 26)).heap.size = w.heap.size + 1 := by simp
  rw [← hs1]; exact heap_alloc_new _ _
set_option maxHeartbeats 8000000 in
theorem write_doc (d : Dsk) (hd : Sized d) (v : Value) (a : Int) (s : ByteArray) (w : World) (h : DLie w v d) :
    Calls Try.prog 13 #[v, .int .i64 a, .string s] w fun x w' => ∃ u, x = .returned (.tuple #[u, .int .i64 (writeD d a s).2]) ∧ DLie w' u (writeD d a s).1 ∧ Below w.heap.size w w' := by
  obtain ⟨p0, c0, p1, c1, p3, c3, rfl, h0, h1, h3⟩ := h
  obtain ⟨kept, cache, fuse, keep, dead⟩ := d
  dsimp only at *
  have hbg := begun w p0 kept.length c0 p1 cache.length c1 fuse p3 keep.length c3 dead
  have hbz := begun_zero w p0 kept.length c0 p1 cache.length c1 fuse p3 keep.length c3 dead
  generalize hw2 : (w.alloc (.cells #[.slice p0 kept.length c0, .slice p1 cache.length c1, .int .i64 fuse, .slice p3 keep.length c3, .bool dead] 26)).alloc (.cells #[.slice none 0 0, .slice none 0 0, .int .i64 0, .slice none 0 0, .bool false] 26) = w2 at *
  have HG := Lib.hid hbg
  have HZ := Lib.hid hbz
  have b0 := hbg.box.kept
  have b1 := hbg.box.cache
  have b2 := hbg.box.fuse
  have b3 := hbg.box.keep
  have b4 := hbg.box.dead
  have km := may_doc _ hd _ w2 ⟨p0, c0, p1, c1, p3, c3, rfl, h0.below hbg.below, h1.below hbg.below, h3.below hbg.below⟩
  dsimp only at km
  have H0 := Lib.hid h0
  have H1 := Lib.hid h1
  have H3 := Lib.hid h3
  have Hd := Lib.hid hd
  have hr : writeD ⟨kept, cache, fuse, keep, dead⟩ a s = if mayD ⟨kept, cache, fuse, keep, dead⟩ then
    if dead then (⟨kept, cache, fuse, keep, dead⟩, 90)
    else if there ⟨kept, cache, fuse, keep, dead⟩ a = false ∨ ¬ s.size = 32 ∨ 20000 ≤ cache.length then (⟨kept, cache, fuse, keep, dead⟩, 1)
    else if fuse = 0 then (dieD ⟨kept, cache ++ [(a, s)], fuse, keep, dead⟩ keep, 90)
    else (⟨kept, cache ++ [(a, s)], if 0 < fuse then fuse - 1 else fuse, keep, dead⟩, 0)
    else (noneD, 1) := rfl
  generalize writeD ⟨kept, cache, fuse, keep, dead⟩ a s = ans at *
  clear h0 h1 h3 hbg hbz hd
  cases hm : mayD ⟨kept, cache, fuse, keep, dead⟩ with
  | true =>
    rw [hm] at km hr
    cases dead with
    | true =>
      have hr2 : ans = (⟨kept, cache, fuse, keep, true⟩, 90) := hr
      subst hr2
      clear hm hr
      go_enter Try.func13, Try.ntmps13
      go_wp2_with fail
      go_at_call 17
      refine km.mono ?_
      rintro x w3 ⟨rfl, hb3⟩
      have HB3 := Lib.hid (HG.out.below.next hb3)
      have bx := HG.out.box.below hb3
      have d0 := bx.kept
      have d1 := bx.cache
      have d2 := bx.fuse
      have d3 := bx.keep
      have d4 := bx.dead
      obtain ⟨⟨r0, e0⟩, ⟨r1, e1⟩, ⟨r2, e2⟩, ⟨r3, e3⟩, ⟨r4, e4⟩, f0, f1, f2, f3, f4⟩ := (HG.out.res.below hb3).get
      have HR3 := Lib.hid (HG.out.res.below hb3)
      clear km hb3 b0 b1 b2 b3 b4 bx
      go_wp2
      have HBf := put5_below HB3.out (b := w.heap.size + 1) (by omega) (.slice p0 kept.length c0) (.slice p1 cache.length c1) (.int .i64 fuse) (.slice p3 keep.length c3) (.bool true)
      refine bodyPost_ret (res_two rfl _ _ (w.heap.size + 1) (.slice p0 kept.length c0) (.slice p1 cache.length c1) (.int .i64 fuse) (.slice p3 keep.length c3) (.bool true) rfl (put5_heap HR3.out _ _ _ _ _)) rfl ?_
      exact ⟨_, rfl, ⟨p0, c0, p1, c1, p3, c3, rfl, H0.out.below HBf, H1.out.below HBf, H3.out.below HBf⟩, HBf⟩
    | false =>
      obtain ⟨m1, m2, m3⟩ := mayD_kept hm
      dsimp only at m1 m2 m3
      have zm : (cache.length : Int) ≤ 20000 := by omega
      have zn : (kept.length : Int) ≤ 5000 := by omega
      by_cases hbad : there ⟨kept, cache, fuse, keep, false⟩ a = false ∨ ¬ s.size = 32 ∨ 20000 ≤ cache.length
      · have hr2 : ans = (⟨kept, cache, fuse, keep, false⟩, 1) := by rw [hr, if_pos hbad]; rfl
        subst hr2
        have arm : (a < 0 ∧ decide (a < 0) = true) ∨ (decide (a < 0) = false ∧ decide ((kept.length : Int) ≤ a) = true) ∨ (decide (a < 0) = false ∧ decide ((kept.length : Int) ≤ a) = false ∧ ¬ (s.size : Int) = 32) ∨
            (decide (a < 0) = false ∧ decide ((kept.length : Int) ≤ a) = false ∧ (s.size : Int) = 32 ∧ (20000 : Int) ≤ cache.length) := by
          unfold there at hbad
          simp only [Bool.and_eq_false_iff, decide_eq_false_iff_not] at hbad
          by_cases g0 : a < 0
          · exact .inl ⟨g0, decide_eq_true g0⟩
          · by_cases g1 : (kept.length : Int) ≤ a
            · exact .inr (.inl ⟨decide_eq_false g0, decide_eq_true g1⟩)
            · by_cases g2 : s.size = 32
              · exact .inr (.inr (.inr ⟨decide_eq_false g0, decide_eq_false g1, by omega, by omega⟩))
              · have g3 : ¬ (s.size : Int) = 32 := by omega
                exact .inr (.inr (.inl ⟨decide_eq_false g0, decide_eq_false g1, g3⟩))
        clear hm hr hbad m1 m2 m3
        rcases arm with ⟨q1, q2⟩ | ⟨q1, q2⟩ | ⟨q1, q2, q3⟩ | ⟨q1, q2, q3, q4⟩
        all_goals
          go_enter Try.func13, Try.ntmps13
          go_wp2_with fail
          go_at_call 17
          refine km.mono ?_
          rintro x w3 ⟨rfl, hb3⟩
          have HB3 := Lib.hid (HG.out.below.next hb3)
          have bx := HG.out.box.below hb3
          have d0 := bx.kept
          have d1 := bx.cache
          have d2 := bx.fuse
          have d3 := bx.keep
          have d4 := bx.dead
          obtain ⟨⟨r0, e0⟩, ⟨r1, e1⟩, ⟨r2, e2⟩, ⟨r3, e3⟩, ⟨r4, e4⟩, f0, f1, f2, f3, f4⟩ := (HG.out.res.below hb3).get
          have HR3 := Lib.hid (HG.out.res.below hb3)
          clear km hb3 b0 b1 b2 b3 b4 bx
          go_wp2
          have HBf := put5_below HB3.out (b := w.heap.size + 1) (by omega) (.slice p0 kept.length c0) (.slice p1 cache.length c1) (.int .i64 fuse) (.slice p3 keep.length c3) (.bool false)
          refine bodyPost_ret (res_two rfl _ _ (w.heap.size + 1) (.slice p0 kept.length c0) (.slice p1 cache.length c1) (.int .i64 fuse) (.slice p3 keep.length c3) (.bool false) rfl (put5_heap HR3.out _ _ _ _ _)) rfl ?_
          exact ⟨_, rfl, ⟨p0, c0, p1, c1, p3, c3, rfl, H0.out.below HBf, H1.out.below HBf, H3.out.below HBf⟩, HBf⟩
      · simp only [not_or, Bool.not_eq_false, Nat.not_le, Decidable.not_not] at hbad
        obtain ⟨g1, g2, g3⟩ := hbad
        have hr1 : ans = if fuse = 0 then (dieD ⟨kept, cache ++ [(a, s)], fuse, keep, false⟩ keep, 90) else (⟨kept, cache ++ [(a, s)], if 0 < fuse then fuse - 1 else fuse, keep, false⟩, 0) := by
          rw [hr]; show (if (there _ a = false ∨ ¬ s.size = 32 ∨ 20000 ≤ cache.length) then _ else _) = _; rw [if_neg (by rintro (e | e | e); (rw [g1] at e; cases e); exact e g2; omega)]
        unfold there at g1
        simp only [Bool.and_eq_true, decide_eq_true_eq] at g1
        have q1 : decide (a < 0) = false := decide_eq_false (by omega)
        have q2 : decide ((kept.length : Int) ≤ a) = false := decide_eq_false (by omega)
        have q3 : (s.size : Int) = 32 := by omega
        have q4 : decide ((20000 : Int) ≤ cache.length) = false := decide_eq_false (by omega)
        obtain ⟨i0, hi0, hz0, hz1, hz2⟩ := info_parts infoPut
        have hlo := Hd.out.lo
        have hhi := Hd.out.hi
        dsimp only at hlo hhi
        have HSz : Hid (cache.length ≤ 20000) := Lib.hid m3
        clear hr g1 g2 g3 hm m1 m2 m3
        have arm : (fuse = 0 ∧ True) ∨ (0 < fuse ∧ (fuse == 0) = false ∧ decide (0 < fuse) = true) ∨ (fuse < 0 ∧ (fuse == 0) = false ∧ decide (0 < fuse) = false) := by
          by_cases g0 : fuse = 0
          · exact .inl ⟨g0, trivial⟩
          · by_cases g1 : 0 < fuse
            · exact .inr (.inl ⟨g1, by simpa using g0, decide_eq_true g1⟩)
            · exact .inr (.inr ⟨by omega, by simpa using g0, decide_eq_false g1⟩)
        have HA := Lib.hid arm
        clear arm
        go_enter Try.func13, Try.ntmps13
        go_wp2_with fail
        go_at_call 17
        refine km.mono ?_
        rintro x w3 ⟨rfl, hb3⟩
        have HB3 := Lib.hid (HG.out.below.next hb3)
        have bx := HG.out.box.below hb3
        have d0 := bx.kept
        have d1 := bx.cache
        have d2 := bx.fuse
        have d3 := bx.keep
        have d4 := bx.dead
        obtain ⟨⟨r0, e0⟩, ⟨r1, e1⟩, ⟨r2, e2⟩, ⟨r3, e3⟩, ⟨r4, e4⟩, f0, f1, f2, f3, f4⟩ := (HG.out.res.below hb3).get
        have HR3 := Lib.hid (HG.out.res.below hb3)
        have HX3 := Lib.hid bx
        have HO3 := Lib.hid (HG.out.own.below hb3)
        have HZ3 := Lib.hid ((hb3.block _ (by have := HG.out.res.lt; exact this)).trans HZ.out)
        clear km hb3 b0 b1 b2 b3 b4 bx HZ
        obtain ⟨-, -, -, -, -, f5, f6, f7, f8, f9⟩ := HO3.out.get
        have o1 : (w3.alloc (.cells #[] 45)).ownsRow w3.heap.size 45 2 (.slice (some ⟨w3.heap.size, 0, none⟩) 0 0) 0 [] := World.ownsRow_made (base := w3.heap.size) (e := 45) (size := 2) w3 #[] 0 (Nat.le_refl _) (by decide) rfl
        have o3 : w3.heap.size ≤ (w3.alloc (.cells #[] 45)).heap.size := by simp
        have HBa := Lib.hid ((Below.refl w3.heap.size w3).alloc (Nat.le_refl _) (.cells #[] 45))
        have o2 := (H1.out.below HB3.out).below HBa.out
        have d1a := (HX3.out.below HBa.out).cache
        go_wp2_with (first
          | (at_builtin; refine wpList_append_lie (S := putS) _ rfl _ _ 23 rfl w3.heap.size 45 i0 (.agg #[.int .i64 0, .string ⟨#[]⟩]) 24 Try.underlying23 hi0 hz0 hz1 hz2 rfl (by decide) _ 0 [] rfl o1 p1 cache c1 rfl o2 (by have := HSz.out; unfold maxLen; omega) (by have := HSz.out; omega) o3 ?_)
          | go_in)
        intro v4 w4 own4 gr4 nn4
        have hv4 : ¬ v4 = .slice none 0 0 := nn4
        obtain ⟨g4, c4, rfl⟩ := own_some own4 hv4
        have B4 := Lib.hid (HBa.out.grown gr4 o3 (fun b hb => by cases hb; exact Nat.le_refl _))
        have HBb := Lib.hid ((Below.refl w4.heap.size w4).alloc (Nat.le_refl _) (.cells #[.int .i64 a, .string s] 45))
        have p1' : (w4.alloc (.cells #[.int .i64 a, .string s] 45)).ownsRow w3.heap.size 45 2 (.slice (some ⟨g4, 0, none⟩) cache.length c4) cache.length (flat putS cache) := own_later own4 HBb.out
        have P1 := Lib.hid p1'
        have p2 : ∀ j u, (flat putS [(a, s)])[j]? = some u → (w4.alloc (.cells #[.int .i64 a, .string s] 45)).cell? ((⟨w4.heap.size, 0, none⟩ : Addr).add j) = some u := fun j u hj => by
          rw [Addr.add_lit, Nat.zero_add, cell_of_row _ _ j _ 45 (0, 0) (heap_alloc_new w4 _)]
          simpa [flat, putS] using hj
        have p3' : w3.heap.size ≤ (w4.alloc (.cells #[.int .i64 a, .string s] 45)).heap.size := by have := B4.out.size; simp; omega
        clear o1 o2 o3 d1a own4 gr4 nn4 hv4 d0 d1 d2 d3 d4 e0 e1 e2 e3 e4 f0 f1 f2 f3 f4 f5 f6 f7 f8 f9
        go_wp2_with (first
          | (at_builtin; refine wpList_append_own _ rfl _ _ 23 rfl w3.heap.size 45 i0 (.agg #[.int .i64 0, .string ⟨#[]⟩]) 2 24 Try.underlying23 hi0 hz0 hz1 hz2 rfl (by decide) (.slice (some ⟨g4, 0, none⟩) cache.length c4) cache.length (flat putS cache) rfl p1' ⟨w4.heap.size, 0, none⟩ 1 1 (flat putS [(a, s)]) rfl rfl p2 (flat_cell (S := putS) _) (by have := HSz.out; unfold maxLen; omega) (by have := HSz.out; omega) p3' ?_)
          | go_in)
        intro v5 w5 own5 gr5 nn5
        have hv5 : ¬ v5 = .slice none 0 0 := nn5
        obtain ⟨g5, c5, rfl⟩ := own_some own5 hv5
        have hlt3 : w.heap.size + 1 < w3.heap.size := HR3.out.lt
        have B5 : Below w3.heap.size w3 w5 := (B4.out.alloc B4.out.size (.cells #[.int .i64 a, .string s] 45)).grown gr5 p3' (fun b hb => by cases hb; exact own_block P1.out _ _ rfl)
        rw [← flat_append] at own5
        have hL5 : (cache ++ [(a, s)]).length = cache.length + 1 := by simp
        have hbx5 := HX3.out.below B5
        have hox5 := HO3.out.below B5
        obtain ⟨hbx6, hr6⟩ := hbx5.setCache hox5 (some ⟨g5, 0, none⟩) (cache.length + 1) c5
        have S5 : SLie putS (w5.setCell ⟨w.heap.size, 1, none⟩ (.slice (some ⟨g5, 0, none⟩) (cache.length + 1) c5)) (some ⟨g5, 0, none⟩) (cache ++ [(a, s)]) c5 := slie_own (ownsRow_setCell_below own5 (a := ⟨w.heap.size, 1, none⟩) (show w.heap.size < w3.heap.size by omega) _) hL5
        have hg5 : w3.heap.size ≤ g5 := own_block own5 _ _ rfl
        have HB6 := Lib.hid ((HB3.out.next B5).setCell (p := ⟨w.heap.size, 1, none⟩) (Nat.le_refl _) (.slice (some ⟨g5, 0, none⟩) (cache.length + 1) c5))
        have HZ6 : Hid ((w5.setCell ⟨w.heap.size, 1, none⟩ (.slice (some ⟨g5, 0, none⟩) (cache.length + 1) c5)).heap[w.heap.size + 1]? = some (.cells #[.slice none 0 0, .slice none 0 0, .int .i64 0, .slice none 0 0, .bool false] 26 (0, 0))) :=
          Lib.hid ((heap_setCell_other w5 ⟨w.heap.size, 1, none⟩ _ _ (show w.heap.size + 1 ≠ w.heap.size by omega)).trans ((B5.block _ hlt3).trans HZ3.out))
        have HR6 := Lib.hid ((HR3.out.below B5).set (show w.heap.size + 1 ≠ w.heap.size by omega) (o := 1) (.slice (some ⟨g5, 0, none⟩) (cache.length + 1) c5))
        have HS5 := Lib.hid S5
        have HX6 := Lib.hid hbx6
        have d0 := hbx5.kept
        have d1 := hbx5.cache
        have d2 := hbx5.fuse
        have d3 := hbx5.keep
        have d4 := hbx5.dead
        obtain ⟨-, -, -, -, -, f5, f6, f7, f8, f9⟩ := hox5.get
        obtain ⟨⟨r0, e0⟩, ⟨r1, e1⟩, ⟨r2, e2⟩, ⟨r3, e3⟩, ⟨r4, e4⟩, f0, f1, f2, f3, f4⟩ := (HR3.out.below B5).get
        have HL5 := Lib.hid hL5
        have Hg5 := Lib.hid hg5
        have Hlt3 := Lib.hid hlt3
        clear p1' p2 p3' own5 gr5 nn5 hv5 B5 hbx5 hox5 hbx6 hr6 S5 hL5 hg5 hlt3
        rcases HA.out with ⟨rfl, -⟩ | ⟨z0, z1, z2⟩ | ⟨z0, z1, z2⟩
        · rw [if_pos rfl] at hr1
          have kd := die_doc ⟨kept, cache ++ [(a, s)], 0, keep, false⟩ ⟨Hd.out.kept, by have := HL5.out; have := HSz.out; simp only; omega, Hd.out.keep, by simp, by simp⟩ (.agg #[.slice p0 kept.length c0, .slice (some ⟨g5, 0, none⟩) (cache.length + 1) c5, .int .i64 0, .slice p3 keep.length c3, .bool false]) keep keep.length rfl p3 c3 _
            ⟨p0, c0, some ⟨g5, 0, none⟩, c5, p3, c3, by rw [HL5.out], H0.out.below HB6.out, HS5.out, H3.out.below HB6.out⟩ (H3.out.below HB6.out)
          obtain ⟨em1, em2⟩ := dieD_empty ⟨kept, cache ++ [(a, s)], 0, keep, false⟩ keep
          have HE1 := Lib.hid em1
          have HE2 := Lib.hid em2
          clear em1 em2
          subst hr1
          obtain ⟨D, hD⟩ : ∃ D, D = dieD ⟨kept, cache ++ [(a, s)], 0, keep, false⟩ keep := ⟨_, rfl⟩
          rw [← hD] at kd HE1 HE2
          have HD := Lib.hid hD
          clear hD
          go_wp2_with fail
          go_at_call 24
          refine kd.mono ?_
          rintro x w7 ⟨u, rfl, hu, hb7⟩
          obtain ⟨q0, k0, q1, k1, q3, k3, rfl, l0, l1, l3⟩ := hu
          have HL0 := Lib.hid l0
          have HL1 := Lib.hid l1
          have HL3 := Lib.hid l3
          have HR7 := Lib.hid (HR6.out.below hb7)
          have HZ7 := Lib.hid ((hb7.block _ HR6.out.lt).trans HZ6.out)
          have HB7 := Lib.hid (HB6.out.next hb7)
          clear d0 d1 d2 d3 d4 e0 e1 e2 e3 e4 f0 f1 f2 f3 f4 f5 f6 f7 f8 f9 kd l0 l1 l3 hb7
          obtain ⟨⟨r0, e0⟩, ⟨r1, e1⟩, ⟨r2, e2⟩, ⟨r3, e3⟩, ⟨r4, e4⟩, f0, f1, f2, f3, f4⟩ := HR7.out.get
          go_wp2
          have HBf := put5_below HB7.out (b := w.heap.size + 1) (by omega) (.slice q0 D.kept.length k0) (.slice q1 D.cache.length k1) (.int .i64 D.fuse) (.slice q3 D.keep.length k3) (.bool D.dead)
          refine bodyPost_ret (res_two rfl _ _ (w.heap.size + 1) (.slice q0 D.kept.length k0) (.slice q1 D.cache.length k1) (.int .i64 D.fuse) (.slice q3 D.keep.length k3) (.bool D.dead) rfl (put5_heap HR7.out _ _ _ _ _)) rfl ?_
          refine ⟨_, rfl, ?_, HBf⟩
          show DLie _ _ (dieD ⟨kept, cache ++ [(a, s)], 0, keep, false⟩ keep)
          rw [← HD.out]
          exact ⟨q0, k0, q1, k1, q3, k3, rfl, slie_same HL0.out (fun b off e hl => put5_other _ _ _ _ _ _ _ _ (texts_apart HZ7.out HL0.out b off e hl)), slie_same HL1.out (fun b off e hl => absurd HE1.out hl), ⟨HL3.out.len, HL3.out.cap, .inl HE2.out⟩⟩
        · have hf : ¬ fuse = 0 := by omega
          rw [if_neg hf, if_pos z0] at hr1
          subst hr1
          clear hf
          go_wp2
          have HBs : Below w.heap.size w ((w5.setCell ⟨w.heap.size, 1, none⟩ (.slice (some ⟨g5, 0, none⟩) (cache.length + 1) c5)).setCell ⟨w.heap.size, 2, none⟩ (.int .i64 (fuse - 1))) := HB6.out.setCell (p := ⟨w.heap.size, 2, none⟩) (Nat.le_refl _) _
          have HBf := put5_below HBs (b := w.heap.size + 1) (by omega) (.slice p0 kept.length c0) (.slice (some ⟨g5, 0, none⟩) (cache.length + 1) c5) (.int .i64 (fuse - 1)) (.slice p3 keep.length c3) (.bool false)
          refine bodyPost_ret (res_two rfl _ _ (w.heap.size + 1) (.slice p0 kept.length c0) (.slice (some ⟨g5, 0, none⟩) (cache.length + 1) c5) (.int .i64 (fuse - 1)) (.slice p3 keep.length c3) (.bool false) rfl (put5_heap (HR6.out.set (by omega) _) _ _ _ _ _)) rfl ?_
          exact ⟨_, rfl, ⟨p0, c0, some ⟨g5, 0, none⟩, c5, p3, c3, by rw [HL5.out], H0.out.below HBf, slie_same HS5.out (fun b off e hl => (put5_other _ _ _ _ _ _ _ _ (by cases e; have := Hg5.out; have := Hlt3.out; omega)).trans (heap_setCell_other _ ⟨w.heap.size, 2, none⟩ _ _ (by cases e; have := Hg5.out; have := Hlt3.out; show _ ≠ w.heap.size; omega))), H3.out.below HBf⟩, HBf⟩
        · have hf : ¬ fuse = 0 := by omega
          rw [if_neg hf, if_neg (show ¬ 0 < fuse by omega)] at hr1
          subst hr1
          clear hf
          go_wp2
          have HBf := put5_below HB6.out (b := w.heap.size + 1) (by omega) (.slice p0 kept.length c0) (.slice (some ⟨g5, 0, none⟩) (cache.length + 1) c5) (.int .i64 fuse) (.slice p3 keep.length c3) (.bool false)
          refine bodyPost_ret (res_two rfl _ _ (w.heap.size + 1) (.slice p0 kept.length c0) (.slice (some ⟨g5, 0, none⟩) (cache.length + 1) c5) (.int .i64 fuse) (.slice p3 keep.length c3) (.bool false) rfl (put5_heap HR6.out _ _ _ _ _)) rfl ?_
          exact ⟨_, rfl, ⟨p0, c0, some ⟨g5, 0, none⟩, c5, p3, c3, by rw [HL5.out], H0.out.below HBf, slie_same HS5.out (fun b off e hl => put5_other _ _ _ _ _ _ _ _ (by cases e; have := Hg5.out; have := Hlt3.out; omega)), H3.out.below HBf⟩, HBf⟩
  | false =>
    rw [hm] at km hr
    have hr2 : ans = (noneD, 1) := hr
    subst hr2
    clear hm hr
    go_enter Try.func13, Try.ntmps13
    go_wp2_with fail
    go_at_call 17
    refine km.mono ?_
    rintro x w3 ⟨rfl, hb3⟩
    have HB3 := Lib.hid (HG.out.below.next hb3)
    obtain ⟨⟨r0, e0⟩, ⟨r1, e1⟩, ⟨r2, e2⟩, ⟨r3, e3⟩, ⟨r4, e4⟩, f0, f1, f2, f3, f4⟩ := (HG.out.res.below hb3).get
    have HR3 := Lib.hid (HG.out.res.below hb3)
    clear km hb3 b0 b1 b2 b3 b4
    go_wp2
    have HBf := put5_below HB3.out (b := w.heap.size + 1) (by omega) (.slice none 0 0) (.slice none 0 0) (.int .i64 0) (.slice none 0 0) (.bool false)
    refine bodyPost_ret (res_two rfl _ _ (w.heap.size + 1) (.slice none 0 0) (.slice none 0 0) (.int .i64 0) (.slice none 0 0) (.bool false) rfl (put5_heap HR3.out _ _ _ _ _)) rfl ?_
    exact ⟨_, rfl, noneD_lie _, HBf⟩
end Go.Proofs.Ytaamjamcnnalbaa.Dv

