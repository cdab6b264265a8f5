/-
  The heap of the symbols that are there, each by itself.
-/
import Derived.Test.YtengkkbiceennaaHufTk
namespace Go.Proofs.Ytengkkbiceennaa
open Go.RowKit Go.Lib Hf
set_option maxRecDepth 100000

theorem lt_of_some {w : World} {k : Nat} {o : Obj} (h : w.heap[k]? = some o) : k < w.heap.size := by
  rcases Nat.lt_or_ge k w.heap.size with z | z
  · exact z
  · rw [Array.getElem?_eq_none z] at h; cases h
theorem Kept.alloc {B : Nat} {w : World} (hB : B ≤ w.heap.size) (o : Obj) : Kept B w (w.alloc o) :=
  ⟨(Below.refl B w).alloc hB o, fun k c t fr _ _ h => by rw [Below.heap_alloc w o k (lt_of_some h)]; exact h⟩
theorem Kept.refl (B : Nat) (w : World) : Kept B w w := ⟨Below.refl _ _, fun _ _ _ _ _ _ h => h⟩
theorem Heaped.alloc {B h : Nat} {w : World} {X : List T} (hX : Heaped w B h X) (o : Obj) : Heaped (w.alloc o) B h X := by
  obtain ⟨v, bs, h1, h2, h3, h4, h5⟩ := hX
  exact ⟨v, bs, by rw [Below.heap_alloc w o h (lt_of_some h1)]; exact h1, h2, h3, h4.alloc o, fun i hi => Lies.keep (fun b c hb => by rw [Below.heap_alloc w o b (lt_of_some hb)]; exact hb) (h5 i hi)⟩
/-- a tree is put behind a heap's row -/
theorem heaped_grown {B h b r1 cap1 : Nat} {X : List T} {t : T} {v : Value} {bs : List Nat} {w W0 w3 : World} (h0 : Below B w W0) (h1 : ∀ k, k < w.heap.size → W0.heap[k]? = w.heap[k]?) (h2 : w.heap.size ≤ W0.heap.size)
    (hh : w.heap[h]? = some (.cells #[v] 36 (0, 0))) (hBh : B ≤ h) (hbl : bs.length = X.length) (ho : w.ownsRow B 38 1 v X.length (bs.map ptr)) (hls : ∀ i, i < X.length → Lies w (bs.getD i 0) (g X i)) (hb : Lies w b t)
    (own1 : w3.ownsRow B 38 1 (.slice (some ⟨r1, 0, none⟩) (X.length + 1) cap1) (X.length + 1) (bs.map ptr ++ [ptr b])) (gr1 : W0.grownBy w3 v.ownBlock) (hob : v.ownBlock = some r1 ∨ w.heap.size ≤ r1) :
    Kept B w (w3.setCell ⟨h, 0, none⟩ (.slice (some ⟨r1, 0, none⟩) (X.length + 1) cap1)) ∧ Heaped (w3.setCell ⟨h, 0, none⟩ (.slice (some ⟨r1, 0, none⟩) (X.length + 1) cap1)) B h (X ++ [t]) := by
  have hap0 := head_apart ho hh
  have hhl := lt_of_some hh
  have g3 : w3.heap[h]? = some (.cells #[v] 36 (0, 0)) := by rw [gr1.block h (by omega) (fun e => hap0 e.symm), h1 h hhl]; exact hh
  have hap1 : (Value.slice (some ⟨r1, 0, none⟩) (X.length + 1) cap1).ownBlock ≠ some h := by
    rcases hob with e | e
    · rw [show (Value.slice (some ⟨r1, 0, none⟩) (X.length + 1) cap1).ownBlock = some r1 from rfl, ← e]; exact hap0
    · rw [show (Value.slice (some ⟨r1, 0, none⟩) (X.length + 1) cap1).ownBlock = some r1 from rfl]; simp; omega
  have HK : Kept B w (w3.setCell ⟨h, 0, none⟩ (.slice (some ⟨r1, 0, none⟩) (X.length + 1) cap1)) := by
    refine ⟨(h0.grown gr1 (Nat.le_trans (by have := hhl; omega) h2) (fun k hk => (ho.lt k hk).1)).setCell (p := ⟨h, 0, none⟩) hBh _, fun k x tt fr k1 k2 k3 => ?_⟩
    have hkl := lt_of_some k3
    rw [Below.heap_setCell w3 ⟨h, 0, none⟩ _ k (fun e => by subst e; rw [hh] at k3; cases k3; exact k1 rfl), gr1.block k (by omega) (fun e => k2 (row_type ho e.symm k3)), h1 k hkl]
    exact k3
  refine ⟨HK, _, bs ++ [b], heap_setCell_same w3 h 0 #[v] 36 _ g3, hBh, by simp [hbl], ?_, fun i hi => ?_⟩
  · have := own1.kept (w' := w3.setCell ⟨h, 0, none⟩ (.slice (some ⟨r1, 0, none⟩) (X.length + 1) cap1)) (row := some h) ⟨rfl, rfl, rfl, by simp, fun k _ hk => heap_setCell_other w3 ⟨h, 0, none⟩ k _ (fun e => hk (by simp [e]))⟩ (Or.inr hap1)
    simpa using this
  · refine HK.lies ?_
    by_cases hi2 : i < X.length
    · have e1 : (bs ++ [b]).getD i 0 = bs.getD i 0 := by rw [List.getD_eq_getElem?_getD, List.getD_eq_getElem?_getD, List.getElem?_append_left (by omega)]
      have e3 : g (X ++ [t]) i = g X i := by unfold g; rw [List.getD_eq_getElem?_getD, List.getD_eq_getElem?_getD, List.getElem?_append_left hi2]
      rw [e1, e3]; exact hls i hi2
    · have hi3 : i = X.length := by simp at hi; omega
      have e1 : (bs ++ [b]).getD i 0 = b := by rw [List.getD_eq_getElem?_getD, List.getElem?_append_right (by omega)]; simp [hi3, hbl]
      have e3 : g (X ++ [t]) i = t := by unfold g; rw [List.getD_eq_getElem?_getD, List.getElem?_append_right (by omega)]; simp [hi3]
      rw [e1, e3]; exact hb
theorem firsts_len (f : List Nat) (i : Nat) : (firsts f i).length ≤ i := by
  unfold firsts
  rw [List.length_map]
  have h2 := List.length_filter_le (fun j => decide (0 < f.getD j 0)) (List.range i)
  rwa [List.length_range] at h2

set_option maxHeartbeats 4000000 in
theorem single_at (f : List Nat) (hn : f.length ≤ 300) (hm : ∀ i, f.getD i 0 ≤ 100000) (p : Option Addr) (cap : Nat) (w : World) (h : IntsLie w p (nums f) cap) :
    Calls Try.prog 25 #[.slice p f.length cap] w fun e w' => ∃ (v : Value) (X : List T) (bs : List Nat), e = .returned v ∧ X.Perm (Hf.leaves f) ∧ Heap X X.length ∧ Below w.heap.size w w' ∧ bs.length = X.length ∧ w'.ownsRow w.heap.size 38 1 v X.length (bs.map ptr) ∧ ∀ i, i < X.length → Lies w' (bs.getD i 0) (g X i) := by
  have HI := Lib.hid h
  have HM := Lib.hid hm
  have zn : (f.length : Int) ≤ 300 := by omega
  have hn2 := Lib.hid hn
  have hcap : (f.length : Int) ≤ cap := by have := h.len; rw [nums_len] at this; omega
  have HS0 : Hid (Heaped (w.alloc (.cells #[.slice none 0 0] 36)) w.heap.size w.heap.size []) :=
    Lib.hid ⟨_, [], heap_alloc_new w _, Nat.le_refl _, rfl, World.ownsRow_nil _ _ _ _, fun i hi => by simp at hi⟩
  obtain ⟨i0, hi0, hz0, hz1, hz2⟩ := info_parts info36
  clear h hm hn
  go_enter Try.func25, Try.ntmps25
  go_wp2
  go_loopw [8] (fun v wr => ∃ i : Nat, v = .int .i64 i ∧ i ≤ f.length ∧ Hid (Heaped wr w.heap.size w.heap.size (firsts f i)) ∧ Hid (Below w.heap.size w wr)) (fun v _ => f.length - (RowKit.intOf v).toNat)
  case atStart => exact ⟨0, rfl, Nat.zero_le _, HS0, (Below.refl _ _).alloc (Nat.le_refl _) _⟩
  case round =>
    clear HS0
    obtain ⟨i, rfl, hi, HS, HB⟩ := hrel
    by_cases hlt : i < f.length
    · have ii : (i : Int) < f.length := by omega
      have i3 : (i : Int) ≤ 299 := by have := hn2.out; omega
      obtain ⟨blk, off, rfl, hc⟩ := (HI.out.below HB.out).at (i := i) (by rw [nums_len]; exact hlt)
      have cx := hc i (by rw [nums_len]; exact hlt)
      rw [nums_get] at cx
      have HF := Lib.hid (firsts_succ f i)
      have hx1 := HM.out i
      obtain ⟨x, hx⟩ : ∃ x, f.getD i 0 = x := ⟨_, rfl⟩
      rw [hx] at HF hx1 cx
      clear hx hc
      by_cases h0 : 0 < x
      · have zx : (0 : Int) < (x : Int) := by omega
        rw [if_pos h0] at HF
        have hXl : (firsts f i).length ≤ 299 := by have h1 := firsts_len f i; have := hn2.out; omega
        have HF2 := Lib.hid HF.out
        generalize firsts f i = X at *
        obtain ⟨v, bs, hh, hBh, hbl, ho, hls⟩ := HS.out
        have hc := cell_of_row wr w.heap.size 0 #[v] 36 (0, 0) hh
        have hf := frozen_of_row wr w.heap.size 0 #[v] 36 hh
        have hne := World.new_ne wr ⟨w.heap.size, 0, none⟩ hc
        have hb : Lies (wr.alloc (.cells #[.int .i64 (x : Int), .int .i64 (i : Int), .pointer none, .pointer none] 49)) wr.heap.size (.leaf i x) := heap_alloc_new wr _
        have hbase : w.heap.size ≤ wr.heap.size := HB.out.size
        have hap0 := head_apart ho hh
        have hhl := lt_of_some hh
        have FIN := Lib.hid (fun (r1 cap1 : Nat) (w3 : World) own1 gr1 hob => heaped_grown (B := w.heap.size) (h := w.heap.size) (b := wr.heap.size) (r1 := r1) (cap1 := cap1) (X := X) (t := .leaf i x) (v := v) (bs := bs) (w := wr.alloc (.cells #[.int .i64 (x : Int), .int .i64 (i : Int), .pointer none, .pointer none] 49))
          (W0 := (wr.alloc (.cells #[.int .i64 (x : Int), .int .i64 (i : Int), .pointer none, .pointer none] 49)).alloc (.cells #[ptr wr.heap.size] 38)) (w3 := w3)
          ((Below.refl _ _).alloc (by simp; omega) _) (fun k hk => Below.heap_alloc _ _ k hk) (by simp) (by rw [Below.heap_alloc _ _ _ hhl]; exact hh) (Nat.le_refl _) hbl (ho.alloc _) (fun j hj => Lies.keep (fun b c hb => by rw [Below.heap_alloc wr _ b (lt_of_some hb)]; exact hb) (hls j hj)) hb own1 gr1 hob)
        have hgr : ∀ w3, World.grownBy ((wr.alloc (.cells #[.int .i64 (x : Int), .int .i64 (i : Int), .pointer none, .pointer none] 49)).alloc (.cells #[ptr wr.heap.size] 38)) w3 v.ownBlock → w3.heap[w.heap.size]? = some (.cells #[v] 36 (0, 0)) := fun w3 gr1 => by
          rw [gr1.block _ (by simp; omega) (fun e => hap0 e.symm), Below.heap_alloc _ _ _ (by simp; omega), Below.heap_alloc _ _ _ hhl]; exact hh
        have hcv : wr.cell? ⟨w.heap.size, 0, none⟩ = some v := hc
        have o1 := Lib.hid ((ho.alloc (.cells #[.int .i64 (x : Int), .int .i64 (i : Int), .pointer none, .pointer none] 49)).alloc (.cells #[ptr wr.heap.size] 38))
        have o2 := one_ptr (wr.alloc (.cells #[.int .i64 (x : Int), .int .i64 (i : Int), .pointer none, .pointer none] 49)) wr.heap.size
        rw [show (wr.alloc (.cells #[.int .i64 (x : Int), .int .i64 (i : Int), .pointer none, .pointer none] 49)).heap.size = wr.heap.size + 1 by simp] at o2
        have HB0 := HB.out
        have HBn : Hid (∀ w3, Kept w.heap.size (wr.alloc (.cells #[.int .i64 (x : Int), .int .i64 (i : Int), .pointer none, .pointer none] 49)) w3 → Below w.heap.size w w3) := Lib.hid fun w3 hk => ((HB0.alloc hbase _).trans hk.below)
        clear hc hh hls ho hb HS HB HI HB0 hbl
        go_wp2_with (with_reducible refine stop_push ?_)
        unfold StopP
        refine wpList_append_lies _ rfl _ _ 36 rfl w.heap.size 38 i0 (.pointer none) 1 8 Try.underlying36 hi0 hz0 hz1 hz2 rfl (by decide) v X.length (bs.map ptr) rfl o1.out ⟨wr.heap.size + 1, 0, none⟩ 1 1 ([wr.heap.size].map ptr) rfl rfl o2 (by simp [ptr, Value.oneCell']) (by omega) (by unfold maxLen; omega) (by omega) (by simp; omega) (wr.heap.size + 1 + 1) (by simp) ?_
        intro r1 cap1 w3 own1 gr1 hob hlt3
        have g3 := hgr w3 gr1
        have hf3 := frozen_of_row w3 w.heap.size 0 #[v] 36 g3
        have hc3 : w3.cell? ⟨w.heap.size, 0, none⟩ = some v := cell_of_row w3 w.heap.size 0 #[v] 36 (0, 0) g3
        obtain ⟨z1, z2⟩ := FIN.out r1 cap1 w3 own1 gr1 (by rcases hob with e | e; exact Or.inl e; exact Or.inr (by simp; omega))
        have Z1 := Lib.hid (HBn.out _ z1)
        have Z2 := Lib.hid z2
        clear z1 z2 own1 gr1 hob FIN hgr o1 o2 HBn g3
        go_wp2
        go_roundw
        case measure => simp [RowKit.intOf]; omega
        case rel => exact ⟨i + 1, by go_num, by omega, by rw [HF.out]; exact Z2.out, Z1.out⟩
      · have x0 : x = 0 := by omega
        subst x0
        rw [if_neg h0, List.append_nil] at HF
        clear h0 hx1
        go_wp2
        go_roundw
        case measure => simp [RowKit.intOf]; omega
        case rel => exact ⟨i + 1, by go_num, by omega, by rw [HF.out]; exact HS.out, HB.out⟩
    · have hie : i = f.length := by omega
      subst hie
      clear hlt
      have ci := init_at w.heap.size w.heap.size (firsts f f.length) wr HS.out (by have := firsts_len f f.length; have := hn2.out; omega)
      have HB0 := HB.out
      clear HS HB
      go_wp2_with fail
      go_at_call 31
      refine ci.mono ?_
      rintro e w2 ⟨rfl, hK, X', hP, hH, hX'⟩
      obtain ⟨v, bs, hh, hBh, hbl, ho, hls⟩ := hX'
      have hc : w2.cell? ⟨w.heap.size, 0, none⟩ = some v := cell_of_row w2 w.heap.size 0 #[v] 36 (0, 0) hh
      have HR := Lib.hid (And.intro hP (And.intro hH (And.intro (HB0.trans hK.below) (And.intro hbl (And.intro ho hls)))))
      clear hP hH hK hbl ho hls ci hh HB0
      go_wp2
      go_ret
      obtain ⟨r1, r2, r3, r4, r5, r6⟩ := HR.out
      exact ⟨v, X', bs, rfl, r1, r2, r3, r4, r5, r6⟩
end Go.Proofs.Ytengkkbiceennaa
