/-
  Package device's New of a disk.
-/
import Derived.Test.YtaamjamcnnalbaaDvQ
namespace Go.Proofs.Ytaamjamcnnalbaa.Dv
set_option maxRecDepth 100000
open Go.RowKit Go.Lib
def zeroL (n j : Nat) : List ByteArray := List.replicate j zero32 ++ List.replicate (n - j) ⟨#[]⟩
theorem zeroL_len (n j : Nat) (h : j ≤ n) : (zeroL n j).length = n := by unfold zeroL; rw [List.length_append, List.length_replicate, List.length_replicate]; omega
theorem zeroL_set (n j : Nat) (h : j < n) : (zeroL n j).set j zero32 = zeroL n (j + 1) := by
  unfold zeroL
  rw [List.set_append_right _ _ (by rw [List.length_replicate]; exact Nat.le_refl _), List.length_replicate, Nat.sub_self, show n - j = (n - (j + 1)) + 1 by omega, List.replicate_succ, List.set_cons_zero, List.replicate_succ' (n := j), List.append_assoc]; rfl
theorem zeroL_end (n : Nat) : zeroL n n = List.replicate n zero32 := by unfold zeroL; rw [Nat.sub_self]; simp
def zeros (n : Nat) : ByteArray := ⟨(List.replicate (n * 32) (0 : UInt8)).toArray⟩
theorem zeros_cut (n j : Nat) (h : j < n) : cut (zeros n) j = zero32 := by
  apply ByteArray.ext
  apply Array.ext'
  rw [cut_list]
  unfold zeros zero32
  simp only [List.drop_replicate, List.take_replicate]
  rw [Nat.min_eq_left (by omega)]
/-- New's memory while its sectors are made -/
structure Nw (w wr : World) (g : Nat) (L : List ByteArray) (n : Nat) : Prop where
  below : Below w.heap.size w wr
  res : Res wr w.heap.size
  row : wr.ownsRow (w.heap.size + 1) 9 1 (.slice (some ⟨g, 0, none⟩) n n) n (flat strS L)
theorem Nw.drew {w wr : World} {g : Nat} {L : List ByteArray} {n : Nat} (h : Nw w wr g L n) : Nw w wr.drew g L n := by
  have b := (Below.refl wr.heap.size wr).drew
  exact ⟨h.below.next b, h.res.below b, own_later h.row b⟩
theorem Nw.store {w wr : World} {g : Nat} {L : List ByteArray} {n : Nat} (h : Nw w wr g L n) (a : Nat) (t : ByteArray) : Nw w (wr.setCell ⟨g, a, none⟩ (.string t)) g (L.set a t) n := by
  have hB := own_block h.row _ _ rfl
  have h5 := (h.row.stored a (.string t)).1
  rw [flat_str_set] at h5
  exact ⟨h.below.setCell (p := ⟨g, a, none⟩) (show w.heap.size ≤ g by omega) _, h.res.set (by omega) _, h5⟩
theorem Nw.cells {w wr : World} {g : Nat} {L : List ByteArray} {n : Nat} (h : Nw w wr g L n) (hl : L.length = n) (a : Nat) (ha : a < n) : (∃ v, wr.cell? ⟨g, a, none⟩ = some v) ∧ wr.frozen? ⟨g, a, none⟩ = false := by
  refine ⟨⟨.string (L[a]'(by omega)), ?_⟩, h.row.frozenAt a⟩
  rw [h.row.cellAt a (by omega)]
  have := flat_get (S := strS) L a (by omega) 0 _ rfl
  rw [show a * strS.size + 0 = a by show a * 1 + 0 = a; omega] at this
  exact this
theorem flat_str_map (L : List ByteArray) : flat strS L = L.map Value.string := by
  induction L with
  | nil => rfl
  | cons x L ih => unfold flat at *; rw [List.flatMap_cons, ih]; rfl
theorem made_str (m : Nat) : (madeCells #[Value.string ⟨#[]⟩] m).toList = flat strS (List.replicate m ⟨#[]⟩) := by
  rw [flat_str_map, List.map_replicate]
  unfold madeCells
  rw [Array.toList_map, Array.toList_range]
  apply List.ext_getElem
  · simp
  · intro i h1 h2
    simp [Nat.mod_one]
set_option maxHeartbeats 4000000 in
theorem new_code (n : Int) (w : World) (hn1 : -9223372036854775808 ≤ n) (hn2 : n ≤ 9223372036854775807) :
    Calls Try.prog 19 #[.int .i64 n] w fun x w' => ∃ u, x = .returned (.tuple #[u, .int .i64 (newD n).2]) ∧ DLie w' u (newD n).1 ∧ Below w.heap.size w w' := by
  have hr : newD n = if 1 ≤ n ∧ n ≤ 5000 then (⟨List.replicate n.toNat zero32, [], -1, [], false⟩, 0) else (noneD, 1) := rfl
  generalize newD n = ans at *
  have hres : Res (w.alloc (.cells #[.slice none 0 0, .slice none 0 0, .int .i64 0, .slice none 0 0, .bool false] 26)) w.heap.size := ⟨_, _, _, _, _, heap_alloc_new w _⟩
  have B1 := (Below.refl w.heap.size w).alloc (Nat.le_refl _) (.cells #[.slice none 0 0, .slice none 0 0, .int .i64 0, .slice none 0 0, .bool false] 26)
  by_cases h : 1 ≤ n ∧ n ≤ 5000
  · rw [if_pos h] at hr
    subst hr
    obtain ⟨m, rfl⟩ := Int.eq_ofNat_of_zero_le (show 0 ≤ n by omega)
    have hm1 : (1 : Int) ≤ m := h.1
    have hm2 : (m : Int) ≤ 5000 := h.2
    have hm3 : Hid (m ≤ 5000) := Lib.hid (by omega)
    generalize hw1 : w.alloc (.cells #[.slice none 0 0, .slice none 0 0, .int .i64 0, .slice none 0 0, .bool false] 26) = w1 at *
    have hs1 : w1.heap.size = w.heap.size + 1 := by rw [← hw1]; simp
    obtain ⟨i0, hi0, hz0, hz1, hz2⟩ := info_parts infoByte
    obtain ⟨j0, hj0, hy0, hy1, hy2⟩ := info_parts infoStr
    have hmk := run_make (P := Try.prog) w1 65 5 i0 (.int .u8 0) Try.underlying65 hi0 hz0 .i64 .i64 ((m : Int) * 32) ((m : Int) * 32) (by omega) (by omega) (by rw [hz2]; omega) (by omega)
    rw [hz1, show ((m : Int) * 32).toNat = m * 32 by omega, Nat.mul_one, hs1] at hmk
    have B2 := (Below.refl w1.heap.size w1).alloc (Nat.le_refl _) (.cells (madeCells #[.int .u8 0] (m * 32)) 5)
    have hcv : (convert 65 9 (.slice (some ⟨w.heap.size + 1, 0, none⟩) (m * 32) (m * 32))).run Try.prog (w1.alloc (.cells (madeCells #[.int .u8 0] (m * 32)) 5)) = .ok (.string (zeros m)) (w1.alloc (.cells (madeCells #[.int .u8 0] (m * 32)) 5)) := by
      have := run_convert_bytes_back (P := Try.prog) (w1.alloc (.cells (madeCells #[.int .u8 0] (m * 32)) 5)) 65 9 5 ⟨w.heap.size + 1, 0, none⟩ (m * 32) (List.replicate (m * 32) 0) Try.underlying65 Try.underlying5 Try.underlying9 (fun j hj => by
        rw [List.getElem_replicate]
        rw [List.length_replicate] at hj
        rw [Addr.add_lit, Nat.zero_add, ← hs1, cell_of_row _ _ j _ 5 (0, 0) (heap_alloc_new w1 _)]
        simp [madeCells, hj, Nat.mod_one])
      rw [List.length_replicate] at this
      exact this
    have hs2 : (w1.alloc (.cells (madeCells #[.int .u8 0] (m * 32)) 5)).heap.size = w.heap.size + 2 := by simp [hs1]
    generalize hw2 : w1.alloc (.cells (madeCells #[.int .u8 0] (m * 32)) 5) = w2 at *
    replace hmk : (Instr.makeSlice 65 (.int .i64 ((m : Int) * 32)) (.int .i64 ((m : Int) * 32))).run Try.prog w1 = .ok (.slice (some ⟨w.heap.size + 1, 0, none⟩) (m * 32) (m * 32)) w2 := by rw [hmk]; exact congrArg _ hw2
    have hmk2 := run_make (P := Try.prog) w2 22 9 j0 (.string ⟨#[]⟩) Try.underlying22 hj0 hy0 .i64 .i64 (m : Int) (m : Int) (by omega) (by omega) (by rw [hy2]; omega) (by omega)
    rw [hy1, Int.toNat_natCast, Nat.mul_one, hs2] at hmk2
    have B3 := (Below.refl w2.heap.size w2).alloc (Nat.le_refl _) (.cells (madeCells #[.string ⟨#[]⟩] m) 9)
    have hrow : (w2.alloc (.cells (madeCells #[.string ⟨#[]⟩] m) 9)).ownsRow (w.heap.size + 1) 9 1 (.slice (some ⟨w.heap.size + 2, 0, none⟩) m m) m (flat strS (zeroL m 0)) := by
      refine ⟨by rw [flat_length, zeroL_len m 0 (Nat.zero_le _)]; rfl, .inr ⟨w.heap.size + 2, m, madeCells #[.string ⟨#[]⟩] m, rfl, by omega, by rw [← hs2]; exact heap_alloc_new w2 _, Nat.le_refl _, by have := hm3.out; unfold maxLen; omega, by rw [size_madeCells, Nat.mul_one], ?_⟩⟩
      rw [List.take_of_length_le (by simp [madeCells]), made_str]
      rfl
    generalize hw3 : w2.alloc (.cells (madeCells #[.string ⟨#[]⟩] m) 9) = w3 at *
    replace hmk2 : (Instr.makeSlice 22 (.int .i64 (m : Int)) (.int .i64 (m : Int))).run Try.prog w2 = .ok (.slice (some ⟨w.heap.size + 2, 0, none⟩) m m) w3 := by rw [hmk2]; exact congrArg _ hw3
    have HR0 : Hid (Nw w w3 (w.heap.size + 2) (zeroL m 0) m) := Lib.hid ⟨(B1.next B2).next B3, (hres.below B2).below B3, hrow⟩
    have HZ : Hid ((zeros m).size = m * 32) := Lib.hid (by show (List.replicate (m * 32) (0 : UInt8)).toArray.size = _; simp)
    have HCu : Hid (∀ j, j < m → cut (zeros m) j = zero32) := Lib.hid (fun j hj => zeros_cut m j hj)
    obtain ⟨Z, hZ⟩ : ∃ Z, Z = zeros m := ⟨_, rfl⟩
    rw [← hZ] at HZ HCu hcv
    obtain ⟨g, hg⟩ : ∃ g, g = w.heap.size + 2 := ⟨_, rfl⟩
    rw [← hg] at HR0 hmk2
    clear hZ hg hw2 hw3 B1 B2 B3 hrow hres h hs1 hs2 hi0 hz0 hz1 hz2 hj0 hy0 hy1 hy2
    go_enter Try.func19, Try.ntmps19
    go_wp2
    go_loopw [22] (fun i wr => ∃ j : Nat, i = .int .i64 j ∧ j ≤ m ∧ Hid (Nw w wr g (zeroL m j) m)) (fun i _ => m - (RowKit.intOf i).toNat)
    case atStart => exact ⟨0, rfl, Nat.zero_le _, HR0⟩
    case round =>
      clear HR0
      obtain ⟨j, rfl, hj, HR⟩ := hrel
      by_cases hlt : j < m
      · have zj : (j : Int) < m := by omega
        have kc := fun w => sector_code Z j (by rw [HZ.out]; omega) (by rw [HZ.out]; have := hm3.out; omega) w
        rw [HCu.out j hlt] at kc
        have hN := HR.out.store j zero32
        rw [zeroL_set m j hlt] at hN
        obtain ⟨⟨vk, k0⟩, k1⟩ := HR.out.cells (zeroL_len m j (by omega)) j hlt
        have HN := Lib.hid hN
        generalize zero32 = z at kc HN
        clear hN HR
        go_wp2_with (go_at_call 42; refine (kc _).mono ?_; rintro e w' ⟨rfl, rfl⟩)
        go_roundw
        case measure => simp [RowKit.intOf]; omega
        case rel => exact ⟨j + 1, by go_num, by omega, HN⟩
      · have e : j = m := by omega
        have zj : ¬ (j : Int) < m := by omega
        obtain ⟨⟨r0, t0⟩, ⟨r1, t1⟩, ⟨r2, t2⟩, ⟨r3, t3⟩, ⟨r4, t4⟩, f0, f1, f2, f3, f4⟩ := HR.out.res.get
        have HE := Lib.hid e
        clear e hlt
        go_wp2
        have hw := HR.out
        rw [HE.out, zeroL_end] at hw
        refine bodyPost_ret (res_two rfl _ _ w.heap.size (.slice (some ⟨g, 0, none⟩) m m) (.slice none 0 0) (.int .i64 (-1)) (.slice none 0 0) (.bool false) rfl (put5_heap hw.res _ _ _ _ _)) rfl ?_
        have hl : (List.replicate ((m : Int)).toNat zero32).length = m := by rw [List.length_replicate, Int.toNat_natCast]
        exact ⟨_, rfl, ⟨some ⟨g, 0, none⟩, m, none, 0, none, 0, by show _ = Value.agg #[.slice _ (List.replicate ((m : Int)).toNat zero32).length m, _, _, _, _]; rw [hl]; rfl, own_res (S := strS) (b := w.heap.size) hw.row (List.length_replicate ..) (by omega) _ _ _ _ _, SLie.nil _, flagsNone _⟩, put5_below hw.below (b := w.heap.size) (by omega) _ _ _ _ _⟩
  · rw [if_neg h] at hr
    subst hr
    have arm : (n < 1 ∧ decide (n < 1) = true) ∨ (decide (n < 1) = false ∧ decide (5000 < n) = true) := by
      by_cases g : n < 1
      · exact .inl ⟨g, decide_eq_true g⟩
      · exact .inr ⟨decide_eq_false g, decide_eq_true (by omega)⟩
    have HB := Lib.hid B1
    clear hres h B1
    rcases arm with ⟨a1, a2⟩ | ⟨a1, a2⟩
    all_goals
      go_enter Try.func19, Try.ntmps19
      go_wp2
      refine bodyPost_ret (res_two rfl _ _ w.heap.size (.slice none 0 0) (.slice none 0 0) (.int .i64 0) (.slice none 0 0) (.bool false) rfl (heap_alloc_new w _)) rfl ?_
      exact ⟨_, rfl, noneD_lie _, HB.out⟩
end Go.Proofs.Ytaamjamcnnalbaa.Dv
