/-
  Contract of Put: of a list that is nil, of one that is there, and of numbers and widths that do not go.
-/
import Derived.Test.YtbkehlppngejnaaBitAn
import Derived.Laws.MakeOwn
import Derived.Laws.AppendOwnNone
namespace Go.Proofs.Ytbkehlppngejnaa
open Go.RowKit Mb Go.Lib
/-- a number that goes into so many bits -/
def fits (x n : Int) : Bool := decide (0 ≤ n) && decide (n ≤ 30) && (decide (0 ≤ x) && decide (x < ((2 ^ n.toNat : Nat) : Int)))
theorem fits_nat {x n : Int} (h : fits x n = true) : ∃ y m : Nat, x = y ∧ n = m ∧ m ≤ 30 ∧ y < 2 ^ m ∧ y < 2 ^ 30 := by
  unfold fits at h
  simp only [Bool.and_eq_true, decide_eq_true_eq] at h
  obtain ⟨⟨h1, h2⟩, h3, h4⟩ := h
  obtain ⟨y, rfl⟩ := Int.eq_ofNat_of_zero_le h3
  obtain ⟨m, rfl⟩ := Int.eq_ofNat_of_zero_le h1
  have h5 : y < 2 ^ m := by rw [Int.toNat_natCast] at h4; exact Int.ofNat_lt.1 h4
  have h6 : 2 ^ m ≤ 2 ^ 30 := Nat.pow_le_pow_right (by decide) (by omega)
  exact ⟨y, m, rfl, rfl, by omega, h5, by omega⟩
theorem make_bools (n : Nat) (hn : n ≤ 140737488355300) (w : World) :
    (Instr.makeSlice 23 (.int .i64 0) (.int .i64 n)).run Try.prog w = .ok (.slice (some ⟨w.heap.size, 0, Option.none⟩) 0 n) (w.alloc (.cells (madeCells #[.bool false] n) 4)) := by
  obtain ⟨i0, hi0, hz0, hz1, hz2⟩ := info_parts info4
  have h := run_make (P := Try.prog) w 23 4 i0 (.bool false) Try.underlying23 hi0 hz0 .i64 .i64 0 n (by omega) (by omega) (by rw [hz2]; omega) (by omega)
  rw [hz1] at h
  simp only [Int.toNat_zero, Int.toNat_natCast, Nat.mul_one] at h
  exact h
theorem RowB.made (w : World) (n : Nat) (hn : n ≤ maxLen) : RowB w.heap.size w (w.alloc (.cells (madeCells #[.bool false] n) 4)) w.heap.size n [] :=
  ⟨World.ownsRow_made w _ n (Nat.le_refl _) hn (by simp [size_madeCells]), (Below.refl _ _).alloc (Nat.le_refl _) _, Nat.le_refl _⟩
set_option maxHeartbeats 1000000 in
theorem put_some (l : List Bool) (a : Addr) (cap x n : Nat) (hn : n ≤ 30) (hx : x < 2 ^ n) (hl : l.length ≤ 140737488355000) (w : World) (hc : ∀ i, i < l.length → w.cell? (a.add i) = some (.bool (l.getD i false))) :
    Calls Try.prog 21 #[.slice (some a) l.length cap, .int .i64 x, .int .i64 n] w fun e w' => ∃ g c, e = .returned (.tuple #[.slice (some ⟨g, 0, Option.none⟩) (l ++ dig x n).length c, .bool true]) ∧ RowB w.heap.size w w' g c (l ++ dig x n) := by
  have hx30 : x < 2 ^ 30 := Nat.lt_of_lt_of_le hx (Nat.pow_le_pow_right (by decide) hn)
  have hp : (2 : Int) ^ n ≤ 1073741824 := by
    have h6 : 2 ^ n ≤ 2 ^ 30 := Nat.pow_le_pow_right (by decide) hn
    have h7 : ((2 ^ n : Nat) : Int) ≤ ((2 ^ 30 : Nat) : Int) := by omega
    simpa using h7
  have hp0 : (x : Int) < 2 ^ n := by
    have h7 : (x : Int) < ((2 ^ n : Nat) : Int) := by omega
    simpa using h7
  have hw := width_any n w
  have b0 : (n : Int) ≤ 30 := by omega
  have b4 : (decide ((0 : Int) ≤ n) && decide ((n : Int) ≤ 30)) = true := by simp; omega
  rw [b4] at hw
  clear b4
  have hmk := fun w => make_bools (l.length + n) (by omega) w
  rw [show ((l.length + n : Nat) : Int) = (l.length : Int) + n by omega] at hmk
  have bl : (l.length : Int) ≤ 140737488355000 := by omega
  have HX := Lib.hid hx
  clear hx
  obtain ⟨i0, hi0, hz0, hz1, hz2⟩ := info_parts info4
  have HR : Hid (RowB w.heap.size w (w.alloc (.cells (madeCells #[.bool false] (l.length + n)) 4)) w.heap.size (l.length + n) []) := RowB.made w _ (by unfold maxLen; omega)
  obtain ⟨B, hB⟩ : ∃ B, B = w.heap.size := ⟨_, rfl⟩
  have HB := Lib.hid hB
  have HR : Hid (RowB B w (w.alloc (.cells (madeCells #[.bool false] (l.length + n)) 4)) w.heap.size (l.length + n) []) := by rw [hB]; exact HR
  clear hB
  have o1 := HR.out.own
  have o3 := HR.out.size
  have n1 : (pbv l).length = l.length * 1 := by simp [pbv]
  have n2 : ∀ j u, (pbv l)[j]? = some u → (w.alloc (.cells (madeCells #[.bool false] (l.length + n)) 4)).cell? (a.add j) = some u := fun j u hj => by
    by_cases h : j < l.length
    · have e := hc j h
      have hb := World.block_lt_of_cell? w _ e
      rw [World.cell?_alloc_old _ _ _ (by omega), e, ← hj]
      unfold pbv
      rw [List.getElem?_map, List.getElem?_eq_getElem h]
      simp [h]
    · unfold pbv at hj
      rw [List.getElem?_map, List.getElem?_eq_none (by omega)] at hj
      simp at hj
  clear hc
  generalize hw1 : w.alloc (.cells (madeCells #[.bool false] (l.length + n)) 4) = w1 at *
  go_enter Try.func21, Try.ntmps21
  go_wp2_with (first
    | (go_at_call 28; ((with_reducible refine hw.mono ?_); rintro e w' ⟨rfl, rfl⟩))
    | (at_builtin; refine wpList_append_own _ rfl _ _ 23 rfl B 4 i0 (.bool false) 1 1 Try.underlying23 hi0 hz0 hz1 hz2 rfl (by decide) _ 0 [] rfl o1 a l.length cap (pbv l) rfl n1 n2 (pbv_one _) (by unfold maxLen; omega) (by omega) o3 ?_)
    | go_in)
  intro v1 w3 own1 gr1 nn1
  obtain ⟨g2, c2, hv, HN⟩ := HR.out.more (m := l) (Below.refl _ _) (by simpa [pbv] using own1) gr1 nn1
  simp only [List.length_nil, Nat.zero_add, List.nil_append] at hv HN
  subst hv
  replace HN := Lib.hid HN
  have hk := append_any B _ l x n g2 c2 hn hx30 (by omega) _ HN.out
  clear HN HR hmk o1 o3 n1 n2 gr1 own1 nn1
  go_wp2_with (go_at_call 29; ((with_reducible refine hk.mono ?_); rintro e w' ⟨g3, c3, rfl, HF⟩))
  go_ret2
  exact ⟨g3, c3, by simp [dig_length], HB.out ▸ HF⟩
set_option maxHeartbeats 1000000 in
theorem put_nil (x n : Nat) (hn : n ≤ 30) (hx : x < 2 ^ n) (w : World) :
    Calls Try.prog 21 #[.slice Option.none 0 0, .int .i64 x, .int .i64 n] w fun e w' => ∃ g c, e = .returned (.tuple #[.slice (some ⟨g, 0, Option.none⟩) (dig x n).length c, .bool true]) ∧ RowB w.heap.size w w' g c (dig x n) := by
  have hx30 : x < 2 ^ 30 := Nat.lt_of_lt_of_le hx (Nat.pow_le_pow_right (by decide) hn)
  have hp : (2 : Int) ^ n ≤ 1073741824 := by
    have h6 : 2 ^ n ≤ 2 ^ 30 := Nat.pow_le_pow_right (by decide) hn
    have h7 : ((2 ^ n : Nat) : Int) ≤ ((2 ^ 30 : Nat) : Int) := by omega
    simpa using h7
  have hp0 : (x : Int) < 2 ^ n := by
    have h7 : (x : Int) < ((2 ^ n : Nat) : Int) := by omega
    simpa using h7
  have hw := width_any n w
  have b0 : (n : Int) ≤ 30 := by omega
  have b4 : (decide ((0 : Int) ≤ n) && decide ((n : Int) ≤ 30)) = true := by simp; omega
  rw [b4] at hw
  clear b4
  have hmk := fun w => make_bools n (by omega) w
  have HX := Lib.hid hx
  clear hx
  obtain ⟨i0, hi0, hz0, hz1, hz2⟩ := info_parts info4
  have HR : Hid (RowB w.heap.size w (w.alloc (.cells (madeCells #[.bool false] n) 4)) w.heap.size n []) := RowB.made w _ (by unfold maxLen; omega)
  obtain ⟨B, hB⟩ : ∃ B, B = w.heap.size := ⟨_, rfl⟩
  have HB := Lib.hid hB
  have HR : Hid (RowB B w (w.alloc (.cells (madeCells #[.bool false] n) 4)) w.heap.size n []) := by rw [hB]; exact HR
  clear hB
  have o1 := HR.out.own
  have o3 := HR.out.size
  have hk := append_any B _ [] x n _ _ hn hx30 (by decide) _ HR.out
  simp only [List.length_nil] at hk
  generalize hw1 : w.alloc (.cells (madeCells #[.bool false] n) 4) = w1 at *
  go_enter Try.func21, Try.ntmps21
  go_wp2_with (first
    | (go_at_call 28; ((with_reducible refine hw.mono ?_); rintro e w' ⟨rfl, rfl⟩))
    | (at_builtin; refine wpList_append_own_none rfl _ _ 23 rfl B 4 i0 1 Try.underlying23 hi0 _ 0 [] rfl o1 rfl ?_)
    | (go_at_call 29; ((with_reducible refine hk.mono ?_); rintro e w' ⟨g3, c3, rfl, HF⟩))
    | go_in)
  go_ret2
  exact ⟨g3, c3, by simp [dig_length], HB.out ▸ HF⟩
/-- what does not go -/
theorem put_no (v : Value) (x n : Int) (h : fits x n = false) (w : World) :
    Calls Try.prog 21 #[v, .int .i64 x, .int .i64 n] w fun e w' => e = .returned (.tuple #[.slice Option.none 0 0, .bool false]) ∧ w' = w := by
  have hw := width_any n w
  by_cases h1 : 0 ≤ n ∧ n ≤ 30
  · obtain ⟨m, rfl⟩ := Int.eq_ofNat_of_zero_le h1.1
    have b4 : (decide ((0 : Int) ≤ m) && decide ((m : Int) ≤ 30)) = true := by simp; omega
    have hp : (2 : Int) ^ m ≤ 1073741824 := by
      have h6 : 2 ^ m ≤ 2 ^ 30 := Nat.pow_le_pow_right (by decide) (by omega)
      have h7 : ((2 ^ m : Nat) : Int) ≤ ((2 ^ 30 : Nat) : Int) := by omega
      simpa using h7
    have b0 : (m : Int) ≤ 30 := h1.2
    unfold fits at h
    rw [b4] at hw h
    clear b4
    by_cases h2 : x < 0
    · clear h
      go_enter Try.func21, Try.ntmps21
      go_wp2_with (go_at_call 28; ((with_reducible refine hw.mono ?_); rintro e w' ⟨rfl, rfl⟩))
      go_ret2
      exact ⟨rfl, rfl⟩
    · have h3 : (2 : Int) ^ m ≤ x := by
        have h4 : ¬ x < ((2 ^ m : Nat) : Int) := by
          intro h5
          have h6 : 0 ≤ x := by omega
          simp [h6] at h
          simp at h5
          omega
        simp at h4
        exact h4
      have hp0 : (0 : Int) ≤ 2 ^ m := by
        have h7 : (0 : Int) ≤ ((2 ^ m : Nat) : Int) := Int.natCast_nonneg _
        simpa using h7
      clear h
      go_enter Try.func21, Try.ntmps21
      go_wp2_with (go_at_call 28; ((with_reducible refine hw.mono ?_); rintro e w' ⟨rfl, rfl⟩))
      go_ret2
      exact ⟨rfl, rfl⟩
  · have b4 : (decide ((0 : Int) ≤ n) && decide ((n : Int) ≤ 30)) = false := by
      cases hq : (decide ((0 : Int) ≤ n) && decide ((n : Int) ≤ 30))
      · rfl
      · simp at hq; omega
    rw [b4] at hw
    clear b4 h
    go_enter Try.func21, Try.ntmps21
    go_wp2_with (go_at_call 28; ((with_reducible refine hw.mono ?_); rintro e w' ⟨rfl, rfl⟩))
    go_ret2
    exact ⟨rfl, rfl⟩
end Go.Proofs.Ytbkehlppngejnaa

