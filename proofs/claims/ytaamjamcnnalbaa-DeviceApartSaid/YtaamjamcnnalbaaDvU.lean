/-
  Package device's Read of a disk.
-/
import Derived.Test.YtaamjamcnnalbaaDvT
import Derived.Control
namespace Go.Proofs.Ytaamjamcnnalbaa.Dv
set_option maxRecDepth 100000
open Go.RowKit Go.Lib Go.Shelf
attribute [local go_sem] Oper.semAt_some
/-- Read's own variables: the disk's block, the place's, the two results' -/
structure Rv (w wr : World) (p0 : Option Addr) (n c0 : Nat) (p1 : Option Addr) (m c1 : Nat) (fuse : Int) (p3 : Option Addr) (k c3 : Nat) (dead : Bool) (a : Int) : Prop where
  below : Below w.heap.size w wr
  size : w.heap.size + 3 < wr.heap.size
  box : Box wr w.heap.size p0 n c0 p1 m c1 fuse p3 k c3 dead
  at1 : Boxed wr (w.heap.size + 1) 3 (.int .i64 a)
  r0 : Boxed wr (w.heap.size + 2) 9 (.string ⟨#[]⟩)
  r1 : Boxed wr (w.heap.size + 3) 31 (.int .i64 0)
theorem boxed_below {w w' : World} {B : Nat} {t : TypeId} {v : Value} (h : Boxed w B t v) (hb : Below w.heap.size w w') : Boxed w' B t v := (hb.block B h.lt).trans h
theorem Rv.later {w wr w' : World} {p0 : Option Addr} {n c0 : Nat} {p1 : Option Addr} {m c1 : Nat} {fuse : Int} {p3 : Option Addr} {k c3 : Nat} {dead : Bool} {a : Int} (h : Rv w wr p0 n c0 p1 m c1 fuse p3 k c3 dead a) (hb : Below wr.heap.size wr w') : Rv w w' p0 n c0 p1 m c1 fuse p3 k c3 dead a :=
  ⟨h.below.next hb, Nat.lt_of_lt_of_le h.size hb.size, h.box.below hb, boxed_below h.at1 hb, boxed_below h.r0 hb, boxed_below h.r1 hb⟩
theorem rv_new (w : World) (p0 : Option Addr) (n c0 : Nat) (p1 : Option Addr) (m c1 : Nat) (fuse : Int) (p3 : Option Addr) (k c3 : Nat) (dead : Bool) (a : Int) (W : World)
    (hW : W = (((w.alloc (.cells #[.slice p0 n c0, .slice p1 m c1, .int .i64 fuse, .slice p3 k c3, .bool dead] 26)).alloc (.cells #[.int .i64 a] 3)).alloc (.cells #[.string ⟨#[]⟩] 9)).alloc (.cells #[.int .i64 0] 31)) : Rv w W p0 n c0 p1 m c1 fuse p3 k c3 dead a := by
  subst hW
  have B1 := (Below.refl w.heap.size w).alloc (Nat.le_refl _) (.cells #[.slice p0 n c0, .slice p1 m c1, .int .i64 fuse, .slice p3 k c3, .bool dead] 26)
  have hbx := box_new w p0 n c0 p1 m c1 fuse p3 k c3 dead
  have s1 : (w.alloc (.cells #[.slice p0 n c0, .slice p1 m c1, .int .i64 fuse, .slice p3 k c3, .bool dead] 26)).heap.size = w.heap.size + 1 := by simp
  generalize w.alloc (.cells #[.slice p0 n c0, .slice p1 m c1, .int .i64 fuse, .slice p3 k c3, .bool dead] 26) = w1 at *
  have b1 := (Below.refl w1.heap.size w1).alloc (Nat.le_refl _) (.cells #[.int .i64 a] 3)
  have x1 := Boxed.new w1 3 (.int .i64 a)
  have s2 : (w1.alloc (.cells #[.int .i64 a] 3)).heap.size = w.heap.size + 2 := by simp [s1]
  rw [s1] at x1
  generalize w1.alloc (.cells #[.int .i64 a] 3) = w2 at *
  have b2 := (Below.refl w2.heap.size w2).alloc (Nat.le_refl _) (.cells #[.string ⟨#[]⟩] 9)
  have x2 := Boxed.new w2 9 (.string ⟨#[]⟩)
  have s3 : (w2.alloc (.cells #[.string ⟨#[]⟩] 9)).heap.size = w.heap.size + 3 := by simp [s2]
  rw [s2] at x2
  generalize w2.alloc (.cells #[.string ⟨#[]⟩] 9) = w3 at *
  have b3 := (Below.refl w3.heap.size w3).alloc (Nat.le_refl _) (.cells #[.int .i64 0] 31)
  have x3 := Boxed.new w3 31 (.int .i64 0)
  rw [s3] at x3
  exact ⟨((B1.next b1).next b2).next b3, by simp [s3], ((hbx.below b1).below b2).below b3, boxed_below (boxed_below x1 b2) b3, boxed_below x2 b3, x3⟩
theorem res_cells {fn : Func} {p u : Tmp} (h : fn.results = #[.cell p 9, .cell u 31]) (tmps : Array Value) (w : World) (g0 g1 : Nat) (v0 v1 : Value) (h0 : tmps.getD p undef = .pointer (some ⟨g0, 0, none⟩)) (h1 : tmps.getD u undef = .pointer (some ⟨g1, 0, none⟩))
    (c0 : w.cell? ⟨g0, 0, none⟩ = some v0) (c1 : w.cell? ⟨g1, 0, none⟩ = some v1) : (results fn tmps).run Try.prog w = .ok (.tuple #[v0, v1]) w := by
  have k4 : tmps[p]?.getD undef = .pointer (some ⟨g0, 0, none⟩) := by simpa using h0
  have k5 : tmps[u]?.getD undef = .pointer (some ⟨g1, 0, none⟩) := by simpa using h1
  simp [results, h, go_sem, k4, k5, c0, c1]
theorem clone32 (s : ByteArray) (h : s.size ≤ 1000) (w : World) : Calls Try.prog 32 #[.string s] w fun e w' => e = .returned (.string s) ∧ Below w.heap.size w w' := by
  have hc := Try.stringslite_Clone s w (by omega)
  clear h
  go_enter Try.func32, Try.ntmps32
  go_wp2_with (go_at_call 45; refine hc.mono ?_; rintro e w' ⟨rfl, hb⟩)
  go_ret
  exact ⟨rfl, by assumption⟩
theorem keepsFrom_below {B : Nat} {W W' : World} (h : Below W.heap.size W W') : KeepsFrom B W W' := ⟨h.size, fun k _ _ hk _ => (h.block k (Array.getElem?_eq_some_iff.1 hk).1).trans hk⟩
theorem heap_from {B B' : Nat} {W W' : World} {row : Option Nat} {cs : Array Value} {t : TypeId} {fr : Nat × Nat} (h : W.heap[B]? = some (.cells cs t fr)) (hg : W.grownBy W' row) (hr : ∀ r, row = some r → B' ≤ r ∧ ∃ o : Obj, W.heap[r]? = some o ∧ o.isCells = false) : W'.heap[B]? = some (.cells cs t fr) :=
  (hg.block B (Array.getElem?_eq_some_iff.1 h).1 (fun e => by obtain ⟨o, ho, hc⟩ := (hr B e.symm).2; rw [h] at ho; cases ho; cases hc)).trans h
theorem lastAt_none (c : List (Int × ByteArray)) (a : Int) (s : ByteArray) (h : ∀ p ∈ c, p.1 ≠ a) : lastAt c a s = s := by
  induction c generalizing s with
  | nil => rfl
  | cons p c ih =>
    unfold lastAt at *
    rw [List.foldl_cons, if_neg (h p (List.mem_cons_self ..))]
    exact ih s (fun q hq => h q (List.mem_cons_of_mem _ hq))
theorem lastAt_here (c : List (Int × ByteArray)) (a : Int) (s : ByteArray) (j : Nat) (hj : j < c.length) (h1 : c[j].1 = a) (h2 : ∀ i (hi : i < c.length), j < i → c[i].1 ≠ a) : lastAt c a s = c[j].2 := by
  have e : c = c.take j ++ (c[j] :: c.drop (j + 1)) := by rw [← List.drop_eq_getElem_cons hj, List.take_append_drop]
  have e2 : lastAt c a s = lastAt (c.drop (j + 1)) a c[j].2 := by
    generalize hz : c[j] = z at *
    refine (congrArg (fun c => lastAt c a s) e).trans ?_
    unfold lastAt
    rw [List.foldl_append, List.foldl_cons, if_pos h1]
  rw [e2, lastAt_none]
  intro p hp
  obtain ⟨i, hi, rfl⟩ := List.getElem_of_mem hp
  rw [List.length_drop] at hi
  rw [List.getElem_drop]
  exact h2 _ (by omega) (by omega)
theorem itm_at (c : List (Int × ByteArray)) (hc : ∀ p ∈ c, p.2.size ≤ 1000) (j : Nat) (hj : j < c.length) : itm c hc (c.length - 1 - j) = (j, c[j].1, ⟨c[j].2, hc _ (List.getElem_mem hj)⟩) := by
  unfold itm
  rw [dif_pos (by omega)]
  have e : c.length - 1 - (c.length - 1 - j) = j := by omega
  simp only [e]
theorem upto_all_ne (c : List (Int × ByteArray)) (hc : ∀ p ∈ c, p.2.size ≤ 1000) (a : Int) (h : ∀ x ∈ upto (itm c hc) c.length, x.2.1 ≠ a) : ∀ p ∈ c, p.1 ≠ a := by
  intro p hp
  obtain ⟨j, hj, rfl⟩ := List.getElem_of_mem hp
  have := h _ (List.mem_map.2 ⟨c.length - 1 - j, List.mem_range.2 (by omega), itm_at c hc j hj⟩)
  exact this
theorem upto_found (c : List (Int × ByteArray)) (hc : ∀ p ∈ c, p.2.size ≤ 1000) (a : Int) (s : ByteArray) (k : Nat) (hk : k ≤ c.length) (pre : List Itm) (x : Itm) (he : upto (itm c hc) k = pre ++ [x]) (h1 : ∀ y ∈ pre, y.2.1 ≠ a) (h2 : x.2.1 = a) : lastAt c a s = x.2.2.1 := by
  cases k with
  | zero => simp [upto] at he
  | succ k =>
    rw [upto_succ] at he
    obtain ⟨e1, e2⟩ := List.append_inj_left' he rfl |> fun e => And.intro e (by have := List.append_inj_right' he rfl; simpa using this)
    have hj : c.length - 1 - k < c.length := by omega
    have e3 := itm_at c hc (c.length - 1 - k) hj
    rw [show c.length - 1 - (c.length - 1 - k) = k by omega, e2] at e3
    rw [e3] at h2 ⊢
    refine lastAt_here c a s _ hj h2 fun i hi hji => ?_
    have := h1 (itm c hc (c.length - 1 - i)) (by rw [← e1]; exact List.mem_map.2 ⟨_, List.mem_range.2 (by omega), rfl⟩)
    rw [itm_at c hc i hi] at this
    exact this
set_option maxHeartbeats 8000000 in
theorem read_code (d : Dsk) (v : Value) (a : Int) (w : World) (hd : Sized d) (h : DLie w v d) :
    Calls Try.prog 10 #[v, .int .i64 a] w fun x w' => x = .returned (.tuple #[.string (readD d a).1, .int .i64 (readD d a).2]) ∧ Below w.heap.size w w' := by
  obtain ⟨p0, c0, p1, c1, p3, c3, rfl, h0, h1, h3⟩ := h
  obtain ⟨kept, cache, fuse, keep, dead⟩ := d
  dsimp only at *
  have hrv := rv_new w p0 kept.length c0 p1 cache.length c1 fuse p3 keep.length c3 dead a _ rfl
  generalize hW : (((w.alloc (.cells #[.slice p0 kept.length c0, .slice p1 cache.length c1, .int .i64 fuse, .slice p3 keep.length c3, .bool dead] 26)).alloc (.cells #[.int .i64 a] 3)).alloc (.cells #[.string ⟨#[]⟩] 9)).alloc (.cells #[.int .i64 0] 31) = W at *
  have km := may_code _ _ W hd ⟨p0, c0, p1, c1, p3, c3, rfl, h0.below hrv.below, h1.below hrv.below, h3.below hrv.below⟩
  dsimp only at km
  have HV := Lib.hid hrv
  have H0 := Lib.hid h0
  have H1 := Lib.hid h1
  have b0 := hrv.box.kept
  have b1 := hrv.box.cache
  have b2 := hrv.box.fuse
  have b3 := hrv.box.keep
  have b4 := hrv.box.dead
  have hr : readD ⟨kept, cache, fuse, keep, dead⟩ a = if mayD ⟨kept, cache, fuse, keep, dead⟩ then if dead then (empty0, 90) else if there ⟨kept, cache, fuse, keep, dead⟩ a then (lastAt cache a (kept.getD a.toNat empty0), 0) else (empty0, 1) else (empty0, 1) := rfl
  generalize readD ⟨kept, cache, fuse, keep, dead⟩ a = ans at *
  clear h0 h1 h3 hrv hd
  cases hm : mayD ⟨kept, cache, fuse, keep, dead⟩ with
  | false =>
    rw [hm] at km hr
    have hr2 : ans = (empty0, 1) := hr
    subst hr2
    clear hm hr
    go_enter Try.func10, Try.ntmps10
    go_wp2_with fail
    go_at_call 16
    refine km.mono ?_
    rintro x w3 ⟨rfl, hb3⟩
    have HV3 := Lib.hid (HV.out.later hb3)
    have k0 := HV3.out.r0.cell
    have k1 := HV3.out.r1.cell
    have f0 := HV3.out.r0.frozen
    have f1 := HV3.out.r1.frozen
    clear km hb3 b0 b1 b2 b3 b4
    go_wp2
    refine bodyPost_ret (res_cells rfl _ _ (w.heap.size + 2) (w.heap.size + 3) (.string ⟨#[]⟩) (.int .i64 1) rfl rfl ?_ ?_) rfl ?_
    · exact (World.cell?_setCell_other _ _ _ _ (by simp)).trans (World.cell?_setCell_same _ _ _ k0)
    · exact World.cell?_setCell_same _ _ _ ((World.cell?_setCell_other _ _ _ _ (by simp)).trans k1)
    · exact ⟨rfl, (HV3.out.below.setCell (p := ⟨w.heap.size + 2, 0, none⟩) (by simp) _).setCell (p := ⟨w.heap.size + 3, 0, none⟩) (by simp) _⟩
  | true =>
    rw [hm] at km hr
    have mt := mayD_texts hm
    obtain ⟨m1, m2, m3⟩ := mayD_kept hm
    dsimp only at mt m1 m2 m3
    cases dead with
    | true =>
      have hr2 : ans = (empty0, 90) := hr
      subst hr2
      clear hm hr mt m1 m2 m3
      go_enter Try.func10, Try.ntmps10
      go_wp2_with fail
      go_at_call 16
      refine km.mono ?_
      rintro x w3 ⟨rfl, hb3⟩
      have HV3 := Lib.hid (HV.out.later hb3)
      have k0 := HV3.out.r0.cell
      have k1 := HV3.out.r1.cell
      have f0 := HV3.out.r0.frozen
      have f1 := HV3.out.r1.frozen
      have d4 := HV3.out.box.dead
      clear km hb3 b0 b1 b2 b3 b4
      go_wp2
      refine bodyPost_ret (res_cells rfl _ _ (w.heap.size + 2) (w.heap.size + 3) (.string ⟨#[]⟩) (.int .i64 90) rfl rfl ?_ ?_) rfl ?_
      · exact (World.cell?_setCell_other _ _ _ _ (by simp)).trans (World.cell?_setCell_same _ _ _ k0)
      · exact World.cell?_setCell_same _ _ _ ((World.cell?_setCell_other _ _ _ _ (by simp)).trans k1)
      · exact ⟨rfl, (HV3.out.below.setCell (p := ⟨w.heap.size + 2, 0, none⟩) (by simp) _).setCell (p := ⟨w.heap.size + 3, 0, none⟩) (by simp) _⟩
    | false =>
      have hr2 : ans = if there ⟨kept, cache, fuse, keep, false⟩ a then (lastAt cache a (kept.getD a.toNat empty0), 0) else (empty0, 1) := hr
      have ht : there ⟨kept, cache, fuse, keep, false⟩ a = (decide (0 ≤ a) && decide (a < kept.length)) := rfl
      have KH := Lib.hid (fun w => has_code p0 kept.length c0 p1 cache.length c1 fuse p3 keep.length c3 false a w)
      rw [← ht] at KH
      clear hr
      cases hth : there ⟨kept, cache, fuse, keep, false⟩ a with
      | false =>
        rw [hth] at KH hr2
        have hr3 : ans = (empty0, 1) := hr2
        subst hr3
        clear hm hr2 mt m1 m2 m3 ht hth
        go_enter Try.func10, Try.ntmps10
        go_wp2_with fail
        go_at_call 16
        refine km.mono ?_
        rintro x w3 ⟨rfl, hb3⟩
        have HV3 := Lib.hid (HV.out.later hb3)
        have kh := KH.out w3
        have d0 := HV3.out.box.kept
        have d1 := HV3.out.box.cache
        have d2 := HV3.out.box.fuse
        have d3 := HV3.out.box.keep
        have d4 := HV3.out.box.dead
        have d5 := HV3.out.at1.cell
        clear km hb3 b0 b1 b2 b3 b4 KH
        go_wp2_with fail
        go_at_call 30
        refine kh.mono ?_
        rintro x w4 ⟨rfl, hb4⟩
        have HV4 := Lib.hid (HV3.out.later hb4)
        have k0 := HV4.out.r0.cell
        have k1 := HV4.out.r1.cell
        have f0 := HV4.out.r0.frozen
        have f1 := HV4.out.r1.frozen
        clear kh hb4 d0 d1 d2 d3 d4 d5
        go_wp2
        refine bodyPost_ret (res_cells rfl _ _ (w.heap.size + 2) (w.heap.size + 3) (.string ⟨#[]⟩) (.int .i64 1) rfl rfl ?_ ?_) rfl ?_
        · exact (World.cell?_setCell_other _ _ _ _ (by simp)).trans (World.cell?_setCell_same _ _ _ k0)
        · exact World.cell?_setCell_same _ _ _ ((World.cell?_setCell_other _ _ _ _ (by simp)).trans k1)
        · exact ⟨rfl, (HV4.out.below.setCell (p := ⟨w.heap.size + 2, 0, none⟩) (by simp) _).setCell (p := ⟨w.heap.size + 3, 0, none⟩) (by simp) _⟩
      | true =>
        rw [hth] at KH hr2
        rw [ht] at hth
        simp only [Bool.and_eq_true, decide_eq_true_eq] at hth
        obtain ⟨i, rfl⟩ := Int.eq_ofNat_of_zero_le hth.1
        have hil : i < kept.length := by omega
        have hg : kept.getD ((i : Int)).toNat empty0 = kept[i] := by rw [Int.toNat_natCast, List.getD_eq_getElem?_getD, List.getElem?_eq_getElem hil]; rfl
        have hr3 : ans = (lastAt cache (i : Int) kept[i], 0) := by rw [← hg]; exact hr2
        subst hr3
        have hc : ∀ p ∈ cache, p.2.size ≤ 1000 := fun p hp => by have := mt p.2 (List.mem_append_right _ (List.mem_map.2 ⟨p, hp, rfl⟩)); omega
        have hk32 : kept[i].size ≤ 1000 := by have := mt kept[i] (List.mem_append_left _ (List.getElem_mem hil)); omega
        have zi : (i : Int) < kept.length := hth.2
        have zn : (kept.length : Int) ≤ 5000 := by omega
        have zm : (cache.length : Int) ≤ 20000 := by omega
        have M3 := Lib.hid m3
        clear hm hr2 mt m1 m2 m3 ht hth hg
        refine (callsIn_wide (n := 10)).1 ?_
        refine callsIn_of_wp_marks Try.func10 rfl trivial ?_ rfl
        simp only [Try.ntmps10, List.size_toArray, List.length_cons, List.length_nil, Nat.reduceAdd, Nat.reduceSub, Array.replicate_succ, Array.replicate_zero, List.push_toArray, List.append_toArray, List.nil_append, List.cons_append]
        refine wpIn_wide.2 ?_
        go_wp2_with fail
        go_at_call 16
        refine km.mono ?_
        rintro x w3 ⟨rfl, hb3⟩
        have HV3 := Lib.hid (HV.out.later hb3)
        have kh := KH.out w3
        have d0 := HV3.out.box.kept
        have d1 := HV3.out.box.cache
        have d2 := HV3.out.box.fuse
        have d3 := HV3.out.box.keep
        have d4 := HV3.out.box.dead
        have d5 := HV3.out.at1.cell
        clear km hb3 b0 b1 b2 b3 b4 KH
        go_wp2_with fail
        go_at_call 30
        refine kh.mono ?_
        rintro x w4 ⟨rfl, hb4⟩
        have HV4 := Lib.hid (HV3.out.later hb4)
        have d1 := HV4.out.box.cache
        have kb := callsIn_wide.1 (back_in Fence.wide 10 trivial rfl p1 cache.length c1 w4)
        clear kh hb4 d0 d2 d3 d4 d5
        go_wp2_with fail
        go_at_call 31
        refine kb.mono ?_
        rintro x w5 ⟨rfl, rfl⟩
        clear kb
        go_wp2_with fail
        have hal := (Below.refl w4.heap.size w4).alloc (Nat.le_refl _) (.cells #[.slice p1 cache.length c1] 23)
        have hbx := Boxed.new w4 23 (.slice p1 cache.length c1)
        have hv5 := HV4.out.later hal
        have hs5 : w4.heap.size < (w4.alloc (.cells #[.slice p1 cache.length c1] 23)).heap.size := by simp
        obtain ⟨W0, hW0⟩ : ∃ W0, w4.alloc (.cells #[.slice p1 cache.length c1] 23) = W0 := ⟨_, rfl⟩
        rw [hW0] at hal hbx hv5 hs5 ⊢
        have hlt0 := hv5.size
        have hst := back_stops Fence.wide (10 - 1) trivial rfl (by decide) w4.heap.size p1 c1 cache hc (by have := M3.out; omega) W0 hs5 hbx.cell (H1.out.below hv5.below)
        have HV5 := Lib.hid hv5
        have HS5 := Lib.hid hlt0
        clear hW0 hal hbx hs5 d1
        refine (wpIn_wide (n := 10)).1 ?_
        refine wpIn_rangeFunc_ownH (F := Fence.wide) (n := 10) rfl (by decide) (gf := 44) (lb := #[.pointer (some ⟨w4.heap.size, 0, none⟩)]) rfl trivial (enters_of Try.func44 (by kernel_rfl) rfl)
          hst belowK_t (belowK_b (Nat.le_refl _)) (Below.refl _ _) (fun _ => rfl)
          (fun pre W' => (∀ x ∈ pre, x.2.1 ≠ (i : Int)) ∧ Below W0.heap.size W0 W')
          (fun c pre W' => ((c = .ret ∧ ∃ (pre' : List Itm) (x : Itm), pre = pre' ++ [x] ∧ (∀ y ∈ pre', y.2.1 ≠ (i : Int)) ∧ x.2.1 = (i : Int) ∧ Boxed W' (w.heap.size + 2) 9 (.string x.2.2.1)) ∧ Boxed W' (w.heap.size + 3) 31 (.int .i64 0)) ∧ Below w.heap.size w W')
          (OwnFrom.and (ownFrom_pure _ _) (ownFrom_below (Nat.le_refl _) (Nat.le_refl _)))
          (fun c => OwnFrom.and (OwnFrom.and (fun s X Y row hs hg hr => by obtain ⟨e, pre', x, e1, g1, g2, hb⟩ := hs; exact ⟨e, pre', x, e1, g1, g2, heap_from hb hg hr⟩) (Own.from (boxed_own _ _ (fun _ => .int .i64 0)) _)) (ownFrom_below (Nat.le_refl _) (by omega)))
          ⟨by simp, Below.refl _ _⟩
          (fun x a' W' => ∃ Bx, W'.heap[Bx]? = some (.cells #[.int .i64 x.2.1, .string x.2.2.1] 45 (0, 0)) ∧ a' = { tmps := #[.agg #[.slice p0 kept.length c0, .slice p1 cache.length c1, .int .i64 fuse, .slice p3 keep.length c3, .bool false], .int .i64 i, .pointer (some ⟨w.heap.size, 0, none⟩), .pointer (some ⟨w.heap.size + 1, 0, none⟩), .pointer (some ⟨w.heap.size + 1 + 1, 0, none⟩), .pointer (some ⟨w.heap.size + 1 + 1 + 1, 0, none⟩), undef, .pointer (some ⟨Bx, 0, none⟩), .bool false, .agg #[.slice p0 kept.length c0, .slice p1 cache.length c1, .int .i64 fuse, .slice p3 keep.length c3, .bool false], .bool true, .bool false, .bool false, .pointer (some ⟨w.heap.size, 4, none⟩), .bool false, .bool false, .agg #[.slice p0 kept.length c0, .slice p1 cache.length c1, .int .i64 fuse, .slice p3 keep.length c3, .bool false], .int .i64 i, .bool true, .bool false, .pointer (some ⟨w.heap.size, 1, none⟩), .slice p1 cache.length c1, .func (.func 44) #[] #[.pointer (some ⟨w4.heap.size, 0, none⟩)], .int .i64 x.1, .agg #[.int .i64 x.2.1, .string x.2.2.1], undef, undef, undef, undef, undef, undef, undef, undef, undef, undef, undef, undef, undef], defers := [] })
          (fun x a' _ X Y row hs hg hr => by obtain ⟨Bx, e1, e2⟩ := hs; exact ⟨Bx, heap_from e1 hg hr, e2⟩)
          ?assign ?body ?done ?stop
        case assign =>
          rintro l pre x W' K ⟨hp, hB⟩ hK
          unfold encI
          gi_wp2
          exact hK _ _ ((KeepsOthers.alloc _ _).from _) ((Below.refl _ W').alloc hB.size _) ⟨hp, hB.alloc hB.size _⟩ ⟨W'.heap.size, World.alloc_heap_new W' _, rfl⟩
        case body =>
          rintro l pre x a' W' hl ⟨r, hr⟩ ⟨hp, hB⟩ ⟨Bx, hX, rfl⟩ hlt
          have hv := HV5.out.later hB
          have ca := hv.at1.cell
          have cx0 : W'.cell? ⟨Bx, 0, none⟩ = some (.int .i64 x.2.1) := cell_of_row W' Bx 0 _ 45 (0, 0) hX
          have cx1 : W'.cell? ⟨Bx, 1, none⟩ = some (.string x.2.2.1) := cell_of_row W' Bx 1 _ 45 (0, 0) hX
          have h1' : 1 ≤ 10 - 1 - 1 := by decide
          have hcl := clone32 x.2.2.1 x.2.2.2
          by_cases hxi : x.2.1 = (i : Int)
          · have z : (x.2.1 == (i : Int)) = true := by rw [hxi]; simp
            gi_wp2_with fail
            refine ⟨trivial, ?_⟩
            gi_at_call 32
            refine (CallsIn.inRound l (callsIn_wide.2 (hcl _))).mono ?_
            rintro e wc ⟨rfl, hbc⟩
            have hvc := hv.later hbc
            have k0 := hvc.r0.cell
            have k1 := hvc.r1.cell
            have f0 := hvc.r0.frozen
            have f1 := hvc.r1.frozen
            have hkf : KeepsFrom W0.heap.size W' wc := keepsFrom_below hbc
            gi_wp2
            refine ⟨(hkf.trans ((KeepsOthers.setCell _ _ _).from _)).trans ((KeepsOthers.setCell _ _ _).from _), ⟨⟨rfl, pre, x, rfl, hp, hxi, ?_⟩, ?_⟩, (hvc.below.setCell (p := ⟨w.heap.size + 2, 0, none⟩) (by simp) _).setCell (p := ⟨w.heap.size + 3, 0, none⟩) (by simp) _⟩
            · exact (hvc.r0.set _).other (show w.heap.size + 2 ≠ w.heap.size + 3 by omega) _
            · exact (hvc.r1.other (show w.heap.size + 3 ≠ w.heap.size + 2 by omega) _).set _
          · have z : (x.2.1 == (i : Int)) = false := by simpa using hxi
            gi_wp2
            exact ⟨KeepsFrom.refl _ _, Below.refl _ _, ⟨fun y hy => (List.mem_append.1 hy).elim (hp y) (fun e => by simp at e; subst e; exact hxi), hB⟩⟩
        case done =>
          rintro D zs W' hD rfl ⟨hp, hB⟩ hK
          have hv := HV5.out.later hB
          have k0 := hv.box.kept
          have k1 := hv.at1.cell
          obtain ⟨blk, off, rfl, hkc⟩ := (H0.out.below hv.below).at hil
          have cx := str_at hkc hil
          have hcl := clone32 kept[i] hk32 W'
          have hlast : lastAt cache (i : Int) kept[i] = kept[i] := lastAt_none _ _ _ (upto_all_ne cache hc i hp)
          go_wp2_with fail
          go_at_call 32
          refine hcl.mono ?_
          rintro e wc ⟨rfl, hbc⟩
          have hvc := hv.later hbc
          have j0 := hvc.r0.cell
          have j1 := hvc.r1.cell
          have f0 := hvc.r0.frozen
          have f1 := hvc.r1.frozen
          have hKc : wc.heap[D]? = some (.deferred (some [])) := (hbc.block D (Array.getElem?_eq_some_iff.1 hK).1).trans hK
          clear k0 k1 cx hcl hkc
          go_wp2
          have hKe := ((KeepsOthers.setCell wc ⟨w.heap.size + 2, 0, none⟩ (.string kept[i])).trans (KeepsOthers.setCell _ ⟨w.heap.size + 3, 0, none⟩ (.int .i64 0))).same D _ hKc rfl
          have e0 := ((hvc.r0.set (.string kept[i])).other (show w.heap.size + 2 ≠ w.heap.size + 3 by omega) (.int .i64 0)).cell
          have e1 := ((hvc.r1.other (show w.heap.size + 3 ≠ w.heap.size + 2 by omega) (.string kept[i])).set (.int .i64 0)).cell
          refine ⟨by simp, .inl ⟨_, _, rfl, run_takeDeferred hKe, ?_⟩⟩
          refine ⟨_, res_cells rfl _ _ (w.heap.size + 2) (w.heap.size + 3) (.string kept[i]) (.int .i64 0) rfl rfl (cell_kept e0 (grownBy_putObj' _ D (.deferred none)) (fun r e => by cases e; exact ⟨_, hKe, rfl⟩)) (cell_kept e1 (grownBy_putObj' _ D (.deferred none)) (fun r e => by cases e; exact ⟨_, hKe, rfl⟩)), by rw [hlast], ?_⟩
          exact ((hvc.below.setCell (p := ⟨w.heap.size + 2, 0, none⟩) (by simp) _).setCell (p := ⟨w.heap.size + 3, 0, none⟩) (by simp) _).trans (belowK_b (w := w) (Nat.le_refl _) _ D _ _ (by omega) hKe rfl rfl)
        case stop =>
          rintro D c pre W' hD ⟨k, hk, hpre⟩ ⟨⟨⟨rfl, pre', x, he, g1, g2, b0⟩, b1⟩, hB⟩ hK
          have hlast : lastAt cache (i : Int) kept[i] = x.2.2.1 := upto_found cache hc i _ k hk pre' x (by rw [← hpre, he]) g1 g2
          refine wpIn_wide.2 ?_
          go_wp2_with fail
          refine ⟨by simp, .inl ⟨_, _, rfl, run_takeDeferred hK, ?_⟩⟩
          refine ⟨_, res_cells rfl _ _ (w.heap.size + 2) (w.heap.size + 3) (.string x.2.2.1) (.int .i64 0) rfl rfl (cell_kept b0.cell (grownBy_putObj' _ D (.deferred none)) (fun r e => by cases e; exact ⟨_, hK, rfl⟩)) (cell_kept b1.cell (grownBy_putObj' _ D (.deferred none)) (fun r e => by cases e; exact ⟨_, hK, rfl⟩)), by rw [hlast], ?_⟩
          exact hB.trans (belowK_b (w := w) (Nat.le_refl _) W' D _ _ (by omega) hK rfl rfl)
end Go.Proofs.Ytaamjamcnnalbaa.Dv
