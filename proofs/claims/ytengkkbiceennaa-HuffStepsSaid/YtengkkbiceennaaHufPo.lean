/-
  A heap's own Pop, container/heap's Pop over trees in memory (over a stand-in).
-/
import Derived.Test.YtengkkbiceennaaHufPh
namespace Go.Proofs.Ytengkkbiceennaa
open Go.RowKit Go.Lib Hf
set_option maxRecDepth 100000

theorem g_take {X : List T} {n i : Nat} (h : i < n) : g (X.take n) i = g X i := by
  unfold g; rw [List.getD_eq_getElem?_getD, List.getD_eq_getElem?_getD, List.getElem?_take, if_pos h]
theorem heap_take {X : List T} {n : Nat} (h : Heap X n) : Heap (X.take n) n := fun i h0 hi => by
  rw [g_take (by omega), g_take hi]; exact h i h0 hi
theorem take_perm {X : List T} {n : Nat} (h : X.length = n + 1) : (g X n :: X.take n).Perm X := by
  have e : X = X.take n ++ [g X n] := by
    rw [g_get (by omega : n < X.length)]
    have := List.take_append_drop n X
    rw [List.drop_eq_getElem_cons (by omega), List.drop_of_length_le (by omega)] at this
    exact this.symm
  conv => rhs; rw [e]
  exact (List.perm_append_singleton _ _).symm

set_option maxHeartbeats 2000000 in
theorem own_pop (B h S c n : Nat) (X : List T) (w : World) (hn : X.length = n + 1) (hB : B ≤ h) (hl : n ≤ 1000) (hh : w.heap[h]? = some (.cells #[.slice (some ⟨S, 0, none⟩) (n + 1) c] 36 (0, 0))) (hT : Trees w B S c X) :
    Calls Try.prog 56 #[.pointer (some ⟨h, 0, none⟩)] w fun e w' => ∃ b, e = .returned (.iface 38 (.pointer (some ⟨b, 0, none⟩))) ∧ Kept B w w' ∧ Lies w' b (g X n) ∧ Heaped w' B h (X.take n) := by
  obtain ⟨bs, hbl, ho, hls⟩ := hT
  rw [hn] at ho hbl hls
  have hc : w.cell? ⟨h, 0, none⟩ = some (.slice (some ⟨S, 0, none⟩) (n + 1) c) := cell_of_row w h 0 _ 36 (0, 0) hh
  have hf := frozen_of_row w h 0 #[.slice (some ⟨S, 0, none⟩) (n + 1) c] 36 hh
  have hx : w.cell? ⟨S, n, none⟩ = some (.pointer (some ⟨bs.getD n 0, 0, none⟩)) := by
    rw [ho.cellAt n (by omega), List.getElem?_map, List.getD_eq_getElem?_getD, List.getElem?_eq_getElem (by omega : n < bs.length)]
    rfl
  have hap := head_apart ho hh
  have hnc : n + 1 ≤ c := by
    rcases ho.2 with ⟨h1, _⟩ | ⟨g', cap', cur, h1, _, _, h2, _⟩
    · cases h1
    · cases h1; exact h2
  have HK : Hid (∀ u, Kept B w (w.setCell ⟨h, 0, none⟩ u)) := fun u => by
    refine ⟨(Below.refl B w).setCell (p := ⟨h, 0, none⟩) hB u, fun k x tt fr h1 _ h3 => ?_⟩
    rw [Below.heap_setCell w ⟨h, 0, none⟩ u k (fun e => by subst e; rw [hh] at h3; cases h3; exact h1 rfl)]
    exact h3
  have HL : Hid (∀ u, Lies (w.setCell ⟨h, 0, none⟩ u) (bs.getD n 0) (g X n)) := fun u => (HK.out u).lies (hls n (by omega))
  have HH : Hid (Heaped (w.setCell ⟨h, 0, none⟩ (.slice (some ⟨S, 0, none⟩) n c)) B h (X.take n)) := by
    have hlt : (X.take n).length = n := by rw [List.length_take]; omega
    refine ⟨_, bs.take n, heap_setCell_same w h 0 _ 36 _ hh, hB, by rw [List.length_take, hlt]; omega, ?_, fun i hi => ?_⟩
    · rw [hlt]
      have hsp : bs.map ptr = (bs.take n).map ptr ++ [ptr (bs.getD n 0)] := by
        have := List.take_append_drop n bs
        rw [List.drop_eq_getElem_cons (by omega), List.drop_of_length_le (by omega)] at this
        conv => lhs; rw [← this]
        rw [List.map_append, List.getD_eq_getElem?_getD, List.getElem?_eq_getElem (by omega : n < bs.length)]
        rfl
      rw [hsp] at ho
      have h2 := ownsRow_pop (by simp; omega) ho
      exact h2.kept (w' := w.setCell ⟨h, 0, none⟩ _) (row := some h) ⟨rfl, rfl, rfl, by simp, fun k _ hk => heap_setCell_other w ⟨h, 0, none⟩ k _ (fun e => hk (by simp [e]))⟩ (Or.inr hap)
    · rw [hlt] at hi
      rw [g_take hi]
      have e1 : (bs.take n).getD i 0 = bs.getD i 0 := by rw [List.getD_eq_getElem?_getD, List.getD_eq_getElem?_getD, List.getElem?_take, if_pos hi]
      rw [e1]
      exact (HK.out _).lies (hls i (by omega))
  generalize bs.getD n 0 = b at *
  clear ho hls hh hap hbl
  go_enter Try.func56, Try.ntmps56
  go_wp2
  go_ret
  exact ⟨b, rfl, HK.out _, HL.out _, HH.out⟩

set_option maxHeartbeats 4000000 in
/-- The least of a heap is taken from it. -/
theorem heap_pop (B h n : Nat) (X : List T) (w : World) (hn : X.length = n + 1) (hX : Heaped w B h X) (hp : Heap X (n + 1)) (hl : n ≤ 900) :
    Calls Try.prog 35 #[.iface 51 (.pointer (some ⟨h, 0, none⟩))] w fun e w' => ∃ b Z, e = .returned (.iface 38 (.pointer (some ⟨b, 0, none⟩))) ∧ Kept B w w' ∧ Lies w' b (g X 0) ∧ (g X 0 :: Z).Perm X ∧ Z.length = n ∧ Heap Z n ∧ Heaped w' B h Z := by
  have hBh : B ≤ h := by obtain ⟨_, _, _, k, _⟩ := hX; exact k
  obtain ⟨S, c, hh, hap, hBS, hT, cur, hS⟩ := hX.trees (by omega)
  rw [hn] at hh
  have hc : w.cell? ⟨h, 0, none⟩ = some (.slice (some ⟨S, 0, none⟩) (n + 1) c) := cell_of_row w h 0 _ 36 (0, 0) hh
  have mL := fun w hw => meth_len ⟨h, 0, none⟩ (.slice (some ⟨S, 0, none⟩) (n + 1) c) w hw
  have mS := fun w hw => meth_swap ⟨h, 0, none⟩ (.slice (some ⟨S, 0, none⟩) (n + 1) c) w hw
  have mP : ∀ w, (method 178 51 (.pointer (some ⟨h, 0, none⟩)) "Pop").run Try.prog w = .ok (56, .pointer (some ⟨h, 0, none⟩)) w := meth_pop _
  have c1 := len_at (some ⟨S, 0, none⟩) (n + 1) c w
  have c2 := swap_row (c := c) hT hn 0 n (by omega) (by omega)
  have HD : Hid (Down (swp X 0 n) n 0 0) := down_start hp hn
  have Hn : Hid (X.length = n + 1) := hn
  have Hh := Lib.hid hh
  have HS := Lib.hid hS
  clear hX hp hT hh hS hn
  go_enter Try.func35, Try.ntmps35
  go_wp2_with fail
  refine c1.mono ?_
  rintro e w1 ⟨rfl, rfl⟩
  go_wp2_with fail
  refine c2.mono ?_
  rintro e w2 ⟨rfl, hO2, hT2⟩
  have hc2 : w2.cell? ⟨h, 0, none⟩ = some (.slice (some ⟨S, 0, none⟩) (n + 1) c) := by rw [hO2.cell (p := ⟨h, 0, none⟩) hap]; exact hc
  have c3 := down_at ⟨h, 0, none⟩ B S c (n + 1) n 0 hap (swp X 0 n) (by rw [swp_length]; exact Hn.out) (by omega) (by omega) w2 hc2 hT2 (by omega) HD.out
  have HO2 := Lib.hid hO2
  clear hT2 hO2 c1 c2
  go_wp2_with fail
  refine c3.mono ?_
  rintro e w3 ⟨⟨bb, rfl⟩, hO3, X', hP, hF, hHp0, hT3⟩
  have hHp := from_all hHp0
  clear hHp0
  have hO := HO2.out.trans hO3
  have hn0 := Hn.out
  have hl3 : X'.length = n + 1 := by rw [hP.length_eq, swp_length]; exact hn0
  have hh3 : w3.heap[h]? = some (.cells #[.slice (some ⟨S, 0, none⟩) (n + 1) c] 36 (0, 0)) := by rw [hO.block h hap]; exact Hh.out
  have hg : g X' n = g X 0 := by
    rw [hF.out n (Nat.le_refl _), swp_get (by omega) (by omega), if_pos rfl]
  have c4 := own_pop B h S c n X' w3 hl3 hBh (by omega) hh3 hT3
  rw [hg] at c4
  have HK : Hid (Kept B w1 w3) := hO.kept hBS HS.out
  have HZ : Hid ((g X 0 :: X'.take n).Perm X) := by
    have h1 := take_perm hl3
    rw [hg] at h1
    exact (h1.trans hP).trans (swp_perm (by omega) (by omega))
  have HZl : Hid ((X'.take n).length = n) := by
    have : (X'.take n).length = n := by rw [List.length_take]; omega
    exact this
  have HZh : Hid (Heap (X'.take n) n) := heap_take hHp
  clear hO hO3 hP hF hHp hT3 hh3 hg c3 hn0 hl3 hc hc2 HO2 Hh HS HD
  go_wp2_with fail
  refine c4.mono ?_
  rintro e w4 ⟨b, rfl, hK4, hL4, hH4⟩
  have HK4 := Lib.hid (HK.out.trans hK4)
  have HL4 := Lib.hid hL4
  have HH4 := Lib.hid hH4
  clear hK4 hL4 hH4 c4 HK
  go_wp2
  go_ret
  exact ⟨b, X'.take n, rfl, HK4.out, HL4.out, HZ.out, HZl.out, HZh.out, HH4.out⟩
end Go.Proofs.Ytengkkbiceennaa

