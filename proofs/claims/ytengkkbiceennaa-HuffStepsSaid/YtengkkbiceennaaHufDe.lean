/-
  How deep each symbol is, of one round.
-/
import Derived.Test.YtengkkbiceennaaHufTg
import Derived.Test.YtengkkbiceennaaHufNo
namespace Go.Proofs.Ytengkkbiceennaa
open Go.RowKit Go.Lib Hf
set_option maxRecDepth 100000

theorem own_below {w w' : World} {B n size : Nat} {e : TypeId} {v : Value} {xs : List Value} (h : w.ownsRow B e size v n xs) (hb : Below w.heap.size w w') : w'.ownsRow B e size v n xs := by
  refine ⟨h.1, ?_⟩
  rcases h.2 with h1 | ⟨g', cap', cur, h1, h2, h3, h4⟩
  · exact Or.inl h1
  · exact Or.inr ⟨g', cap', cur, h1, h2, by rw [hb.block g' (lt_of_some h3)]; exact h3, h4⟩
theorem own_base {w : World} {B B' n size : Nat} {e : TypeId} {v : Value} {xs : List Value} (h : w.ownsRow B e size v n xs) (hb : B' ≤ B) : w.ownsRow B' e size v n xs :=
  ⟨h.1, h.2.imp id fun ⟨g', cap', cur, h1, h2, h3⟩ => ⟨g', cap', cur, h1, Nat.le_trans hb h2, h3⟩⟩
theorem own_shape {w : World} {B n size : Nat} {e : TypeId} {v : Value} {xs : List Value} (h : w.ownsRow B e size v n xs) : ∃ q c, v = .slice q n c := by
  rcases h.2 with ⟨rfl, h1⟩ | ⟨g', cap', cur, h1, _⟩
  · exact ⟨none, 0, by rw [h1]⟩
  · exact ⟨_, _, h1⟩
theorem row_kept {B n c R : Nat} {w w' : World} {xs : List Value} (hk : Kept B w w') (h : w.ownsRow B 3 1 (.slice (some ⟨R, 0, none⟩) n c) n xs) : w'.ownsRow B 3 1 (.slice (some ⟨R, 0, none⟩) n c) n xs := by
  refine ⟨h.1, ?_⟩
  rcases h.2 with h1 | ⟨g', cap', cur, h1, h2, h3, h4⟩
  · exact Or.inl h1
  · exact Or.inr ⟨g', cap', cur, h1, h2, hk.block g' cur 3 (0, 0) (by decide) (by decide) h3, h4⟩
theorem h_syms : ∀ t : T, t.h + 1 ≤ t.syms.length
  | .leaf _ _ => Nat.le_refl _
  | .node a b => by
    have h1 := h_syms a
    have h2 := h_syms b
    show max a.h b.h + 1 + 1 ≤ (a.syms ++ b.syms).length
    rw [List.length_append]
    omega
theorem leaf_of {t : T} (h : t.syms.length = 1) (i : Nat) : t.dep i = 0 := by
  cases t with
  | leaf j w => rfl
  | node a b =>
    have h1 := h_syms a
    have h2 := h_syms b
    have h3 : (a.syms ++ b.syms).length = 1 := h
    rw [List.length_append] at h3
    omega
theorem paint_once {f : List Nat} {t : T} (hW : Hf.Way f [t]) : paint (List.replicate f.length 0) t 0 = (List.range f.length).map (once f) := by
  have hs : (T.syms t).Perm (S0 f) := by have := hW.syms; unfold Hf.syms at this; simpa using this
  have hnd : t.syms.Nodup := hs.nodup_iff.2 (S0_nodup f)
  have hlen : (paint (List.replicate f.length 0) t 0).length = f.length := by rw [paint_length]; simp
  refine List.ext_getElem (by rw [hlen]; simp) fun i h1 h2 => ?_
  have hi : i < f.length := by rw [← hlen]; exact h1
  have e0 : (paint (List.replicate f.length 0) t 0)[i] = (paint (List.replicate f.length 0) t 0).getD i 0 := by rw [List.getD_eq_getElem?_getD, List.getElem?_eq_getElem h1]; rfl
  rw [e0, List.getElem_map, List.getElem_range]
  by_cases hm : i ∈ t.syms
  · rw [paint_at t _ 0 i hnd hm (by simpa using hi), Nat.zero_add]
    have hS := hs.mem_iff.1 hm
    by_cases h1 : (S0 f).length = 1
    · rw [leaf_of (by rw [hs.length_eq]; exact h1)]
      unfold once
      rw [if_pos h1, if_pos hS]; rfl
    · have he := way_end hW (by simp) h1 i
      have hd : dep [t] i = t.dep i := by simp [dep, sm]
      have hp := once_pos hS
      rw [← he, hd] at *
      omega
  · rw [paint_none t _ 0 i hm, once_none (fun k => hm (hs.mem_iff.2 k))]
    simp [List.getD_eq_getElem?_getD, hi]
theorem none_once {f : List Nat} (h : S0 f = []) : List.replicate f.length 0 = (List.range f.length).map (once f) := by
  refine List.ext_getElem (by simp) fun i h1 h2 => ?_
  rw [List.getElem_replicate, List.getElem_map, List.getElem_range, once_none (by rw [h]; simp)]
theorem info3b : (Try.prog.info? 3).map (fun i => (i.zero, i.size, i.bytes)) = some (some (.int .i64 0), 1, 8) := by kernel_rfl
theorem make_row (n : Nat) (hn : n ≤ 1000) (w : World) :
    (Instr.makeSlice 22 (.int .i64 n) (.int .i64 n)).run Try.prog w = .ok (.slice (some ⟨w.heap.size, 0, none⟩) n n) (w.alloc (.cells (madeCells #[.int .i64 0] n) 3)) := by
  obtain ⟨i0, hi, hz0, hz1, hz2⟩ := info_parts info3b
  have h := run_make (P := Try.prog) w 22 3 i0 (.int .i64 0) Try.underlying22 hi hz0 .i64 .i64 n n (by omega) (Int.le_refl _) (by rw [hz2]; omega) (by omega)
  simp only [Int.toNat_natCast, hz1, Nat.mul_one] at h
  exact h
theorem made_row (w : World) (n : Nat) (hn : n ≤ 300) : (w.alloc (.cells (madeCells #[.int .i64 0] n) 3)).ownsRow w.heap.size 3 1 (.slice (some ⟨w.heap.size, 0, none⟩) n n) n (intsN (List.replicate n 0)) := by
  have := World.ownsRow_lit (base := w.heap.size) (e := 3) (size := 1) w (madeCells #[.int .i64 0] n) n (Nat.le_refl _) (by unfold maxLen; omega) (by simp [madeCells])
  rw [toList_madeCells_one] at this
  have e1 : intsN (List.replicate n 0) = List.replicate n (.int .i64 0) := by unfold intsN; rw [List.map_replicate]; rfl
  rw [e1]
  exact this

set_option maxHeartbeats 4000000 in
theorem depths_at (f : List Nat) (hn : f.length ≤ 300) (hm : ∀ i, f.getD i 0 ≤ 100000) (p : Option Addr) (cap : Nat) (w : World) (h : IntsLie w p (nums f) cap) :
    Calls Try.prog 19 #[.slice p f.length cap] w fun e w' => ∃ R, e = .returned (.slice (some ⟨R, 0, none⟩) f.length f.length) ∧ w'.ownsRow w.heap.size 3 1 (.slice (some ⟨R, 0, none⟩) f.length f.length) f.length (intsN ((List.range f.length).map (Hf.once f))) ∧ Below w.heap.size w w' := by
  have HM := Lib.hid hm
  have zn : (f.length : Int) ≤ 300 := by omega
  have mk := fun w => make_row f.length (by omega) w
  have hn2 := Lib.hid hn
  have R0 := Lib.hid (made_row w f.length hn)
  have B0 := Lib.hid ((Below.refl w.heap.size w).alloc (Nat.le_refl _) (.cells (madeCells #[.int .i64 0] f.length) 3))
  have c1 := single_at f hn hm p cap (w.alloc (.cells (madeCells #[.int .i64 0] f.length) 3)) (h.below ((Below.refl w.heap.size w).alloc (Nat.le_refl _) _))
  clear h hm hn
  go_enter Try.func19, Try.ntmps19
  go_wp2_with fail
  go_at_call 25
  refine c1.mono ?_
  rintro e w2 ⟨v, X, bs, rfl, hP, hH, hB, hbl, ho, hls⟩
  have R2 := Lib.hid (own_below R0.out hB)
  have B2 := Lib.hid (B0.out.trans (hB.mono (by simp)))
  have OX : Hid (w2.ownsRow w.heap.size 38 1 v X.length (bs.map ptr)) := own_base ho (by simp)
  obtain ⟨q, c, rfl⟩ := own_shape ho
  clear c1 hB ho R0 B0
  have hXl : X.length = (S0 f).length := by rw [hP.length_eq]; unfold leaves; rw [List.length_map]
  by_cases h0 : X.length = 0
  · have hS0 : S0 f = [] := List.length_eq_zero_iff.1 (by omega)
    have HR := Lib.hid (none_once hS0)
    rw [h0]
    clear hP hH hbl hls OX hXl h0 hS0
    go_wp2
    go_ret
    refine ⟨w.heap.size, rfl, ?_, B2.out.alloc B2.out.size _⟩
    rw [← HR.out]
    exact R2.out.alloc _
  · have hSl : (S0 f).length ≤ f.length := by unfold S0; refine Nat.le_trans (List.length_filter_le _ _) ?_; rw [List.length_range]; exact Nat.le_refl _
    have zX : (0 : Int) < X.length := by omega
    have hP0 : X.Perm (F0 f) := hP.trans (sortT_perm (leaves f)).symm
    have HX3 : Heaped (w2.alloc (.cells #[.slice q X.length c] 36)) w.heap.size w2.heap.size X :=
      ⟨_, bs, heap_alloc_new w2 _, B2.out.size, hbl, OX.out.alloc _, fun i hi => Lies.keep (fun b c hb => by rw [Below.heap_alloc w2 _ b (lt_of_some hb)]; exact hb) (hls i hi)⟩
    have ct := together_at f hn2.out HM.out w.heap.size w2.heap.size X (F0 f) _ HX3 hH hP0 (way_start f) ⟨by omega, by have := hn2.out; omega⟩ (by have := B2.out.size; simp; omega)
    have R3 := Lib.hid (R2.out.alloc (.cells #[.slice q X.length c] 36))
    have B3 := Lib.hid (B2.out.alloc B2.out.size (.cells #[.slice q X.length c] 36))
    have HSl := Lib.hid hSl
    clear hP hH hbl hls OX h0 hP0 HX3 R2 B2 hXl hSl
    go_wp2_with fail
    go_at_call 26
    refine ct.mono ?_
    rintro e w4 ⟨b, t, rfl, hK, hL, hW⟩
    have hs : (T.syms t).Perm (S0 f) := by have := hW.syms; unfold Hf.syms at this; simpa using this
    have cn := note_at w.heap.size w.heap.size f.length f.length t b 0 (List.replicate f.length 0) w4 (fun i hi => (S0_mem.1 (hs.mem_iff.1 hi)).1) (by simp) (by have := hn2.out; omega) (by have h1 := h_syms t; have h2 := hs.length_eq; have h3 := hn2.out; have h4 := HSl.out; omega) hL (row_kept hK R3.out)
    rw [paint_once hW] at cn
    have B4 := Lib.hid (B3.out.trans hK.below)
    clear hs hK hL hW R3 B3 ct
    go_wp2_with fail
    go_at_call 27
    refine cn.mono ?_
    rintro e w5 ⟨rfl, hO, hr⟩
    have B5 := Lib.hid (B4.out.trans (hO.below (Nat.le_refl _)))
    have R5 := Lib.hid hr
    clear hO hr cn B4
    go_wp2
    go_ret
    exact ⟨w.heap.size, rfl, R5.out, B5.out⟩
end Go.Proofs.Ytengkkbiceennaa
