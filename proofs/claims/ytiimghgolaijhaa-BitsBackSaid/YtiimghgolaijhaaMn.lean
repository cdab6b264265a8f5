/-
  The walks of BitsMany: it returns true for every list of numbers.
-/
import Derived.Test.YtiimghgolaijhaaFi
namespace Go.Proofs.Ytiimghgolaijhaa
open Go.RowKit Mb Go.Lib
theorem many_big (p : Option Addr) (n cap : Nat) (hn : 100 < n) (hm : n ≤ maxLen) (w : World) :
    Calls Try.prog 6 #[.slice p n cap] w fun e w' => e = .returned (.bool true) ∧ Below w.heap.size w w' := by
  unfold maxLen at hm
  have h1 : 100 < (n : Int) := by omega
  go_enter Try.func6, Try.ntmps6
  go_wp2_with (first
    | (go_at_call 8; ((with_reducible refine (fixed_any w).mono ?_); rintro e w1 ⟨rfl, H1⟩; replace H1 := Lib.hid H1))
    | (go_at_call 8; ((with_reducible refine (fixed_any _).mono ?_); rintro e w2 ⟨rfl, H2⟩; replace H2 := Lib.hid H2)))
  go_ret
  exact ⟨rfl, H1.out.next H2.out⟩
/-- the bits of the first numbers -/
def cat (X Y : Nat → Int) (k : Nat) : List Bool := (List.range k).flatMap fun i => dig (X i).toNat (Y i).toNat
theorem cat_succ (X Y : Nat → Int) (k : Nat) : cat X Y (k + 1) = cat X Y k ++ dig (X k).toNat (Y k).toNat := by simp [cat, List.range_succ]
theorem cat_front (X Y : Nat → Int) (k n : Nat) (h : k ≤ n) : ∃ r, cat X Y n = cat X Y k ++ r := by
  induction n with
  | zero => exact ⟨[], by rw [show k = 0 by omega]; simp⟩
  | succ n ih =>
    by_cases e : k = n + 1
    · exact ⟨[], by rw [e]; simp⟩
    · obtain ⟨r, hr⟩ := ih (by omega)
      exact ⟨r ++ dig (X n).toNat (Y n).toNat, by rw [cat_succ, hr, List.append_assoc]⟩
theorem cat_part (X Y : Nat → Int) (k n : Nat) (h : k < n) : ((cat X Y n).drop (cat X Y k).length).take (Y k).toNat = dig (X k).toNat (Y k).toNat ∧ (cat X Y k).length + (Y k).toNat ≤ (cat X Y n).length := by
  obtain ⟨r, hr⟩ := cat_front X Y (k + 1) n h
  rw [cat_succ, List.append_assoc] at hr
  rw [hr]
  constructor
  · rw [List.drop_left, List.take_append_of_le_length (by rw [dig_length]; omega), List.take_of_length_le (by rw [dig_length]; omega)]
  · simp [dig_length]
theorem cat_length (X Y : Nat → Int) (k : Nat) (h : ∀ i, i < k → (Y i).toNat ≤ 30) : (cat X Y k).length ≤ 30 * k := by
  induction k with
  | zero => simp [cat]
  | succ k ih =>
    rw [cat_succ, List.length_append, dig_length]
    have := ih (fun i hi => h i (by omega))
    have := h k (by omega)
    omega
/-- numbers and widths that lie from a place on -/
structure NumsAt (w : World) (blk off n : Nat) (X Y : Nat → Int) : Prop where
  num : ∀ i, i < n → w.cell? ⟨blk, off + i * 3, Option.none⟩ = some (.int .i64 (X i))
  wide : ∀ i, i < n → w.cell? ⟨blk, off + i * 3 + 1, Option.none⟩ = some (.int .i64 (Y i))
theorem NumsAt.below {w w' : World} {blk off n : Nat} {X Y : Nat → Int} (h : NumsAt w blk off n X Y) (hb : Below w.heap.size w w') : NumsAt w' blk off n X Y :=
  ⟨fun i hi => by rw [hb.cell (p := ⟨blk, off + i * 3, Option.none⟩) (World.block_lt_of_cell? w _ (h.num i hi))]; exact h.num i hi,
   fun i hi => by rw [hb.cell (p := ⟨blk, off + i * 3 + 1, Option.none⟩) (World.block_lt_of_cell? w _ (h.wide i hi))]; exact h.wide i hi⟩
/-- the row, wherever it began -/
def Held (w : World) (g c : Nat) (l : List Bool) : Prop := ∃ base w0, RowB base w0 w g c l
theorem held_new (w : World) : Held (w.alloc (.cells #[] 4)) w.heap.size 0 [] :=
  ⟨w.heap.size, w, ⟨World.ownsRow_made w #[] 0 (Nat.le_refl _) (by decide) rfl, (Below.refl _ _).alloc (Nat.le_refl _) _, Nat.le_refl _⟩⟩
theorem put_held {w1 w2 : World} {g c : Nat} {l : List Bool} (h : Held w1 g c l) (hb : Below w1.heap.size w1 w2) (x y : Int) (hf : fits x y = true) (hl : l.length ≤ 100000) :
    Calls Try.prog 7 #[.slice (some ⟨g, 0, Option.none⟩) l.length c, .int .i64 x, .int .i64 y] w2 fun e w' => ∃ g' c', e = .returned (.tuple #[.slice (some ⟨g', 0, Option.none⟩) (l ++ dig x.toNat y.toNat).length c', .bool true]) ∧ Held w' g' c' (l ++ dig x.toNat y.toNat) ∧ Below w2.heap.size w2 w' := by
  obtain ⟨a, b, rfl, rfl, h1, h2, _⟩ := fits_nat hf
  obtain ⟨base, w0, hr⟩ := h
  exact (put_row hr hb a b h1 h2 hl).mono fun e w' ⟨g', c', k1, k2⟩ => ⟨g', c', k1, ⟨_, _, k2⟩, k2.below⟩
theorem take_held {w1 : World} {g c : Nat} {l : List Bool} (h : Held w1 g c l) (p : Nat) (x y : Int) (hf : fits x y = true) (hp : p + y.toNat ≤ l.length) (hb : (l.drop p).take y.toNat = dig x.toNat y.toNat) :
    Calls Try.prog 9 #[.slice (some ⟨g, 0, Option.none⟩) l.length c, .int .i64 p, .int .i64 y] w1 fun e w' => e = .returned (.tuple #[.int .i64 x, .int .i64 ((p + y.toNat : Nat) : Int), .bool true]) ∧ w' = w1 := by
  obtain ⟨a, b, rfl, rfl, h1, h2, _⟩ := fits_nat hf
  obtain ⟨base, w0, hr⟩ := h
  rw [Int.toNat_natCast] at hp hb
  rw [Int.toNat_natCast] at hb
  have := take_row hr (Below.refl _ _) p b h1 hp
  rw [hb, dig_of_lt _ _ h2] at this
  exact this
set_option maxHeartbeats 1000000 in
theorem many_in (blk off n cap : Nat) (X Y : Nat → Int) (hn : n ≤ 100) (w : World) (hc : NumsAt w blk off n X Y) :
    Calls Try.prog 6 #[.slice (some ⟨blk, off, Option.none⟩) n cap] w fun e w' => e = .returned (.bool true) ∧ Below w.heap.size w w' := by
  have HC := Lib.hid hc
  clear hc
  have zn : (n : Int) ≤ 100 := by omega
  go_enter Try.func6, Try.ntmps6
  go_wp2_with (first
    | (go_at_call 8; ((with_reducible refine (fixed_any w).mono ?_); rintro e w1 ⟨rfl, H1⟩; replace H1 := Lib.hid H1)))
  have HH := Lib.hid (held_new w1)
  have HB0 : Hid (Below w.heap.size w (w1.alloc (.cells #[] 4))) := belowNew H1.out _
  generalize hw1 : w1.alloc (.cells #[] 4) = w1' at *
  go_loopw [3, 4, 5, 6] (fun v i _ _ wr => ∃ (k g c L : Nat), k ≤ n ∧ i = .int .i64 k ∧ v = .slice (some ⟨g, 0, Option.none⟩) L c ∧ Hid (L = (cat X Y k).length) ∧ Hid (Held wr g c (cat X Y k)) ∧ Hid (Below w.heap.size w wr) ∧ Hid (∀ j, j < k → fits (X j) (Y j) = true)) (fun _ i _ _ _ => n - (RowKit.intOf i).toNat)
  case atStart => exact ⟨0, _, _, 0, by omega, rfl, rfl, Lib.hid rfl, HH, HB0, Lib.hid (fun j hj => by omega)⟩
  case round =>
    clear HH HB0
    obtain ⟨k, g, c, L, hk, rfl, rfl, HL, HS, HB, HF⟩ := hrel
    by_cases hlt : k < n
    · have ki : (k : Int) < n := by omega
      have c1 := (HC.out.below HB.out).num k hlt
      have c2 := (HC.out.below HB.out).wide k hlt
      have hy : ∀ j, j < k → (Y j).toNat ≤ 30 := fun j hj => by
        obtain ⟨a, b, e1, e2, e3, _, _⟩ := fits_nat (HF.out j hj); rw [e2]; omega
      have hcl := cat_length X Y k hy
      by_cases hf : fits (X k) (Y k) = true
      · have hp := put_held HS.out (Below.refl wr.heap.size wr).drew (X k) (Y k) hf (by omega)
        rw [← HL.out, ← cat_succ] at hp
        go_wp2_with fail
        go_region_with ((go_at_call 7; ((with_reducible refine hp.mono ?_); rintro e w2 ⟨g2, c2', rfl, HN, HB2⟩)))
        all_goals
          have HF2 : Hid (∀ j, j < k + 1 → fits (X j) (Y j) = true) := by
            show ∀ _, _
            intro j hj
            by_cases e : j = k
            · subst e; exact hf
            · exact HF.out j (by omega)
          have HL2 : Hid ((cat X Y (k + 1)).length = (cat X Y (k + 1)).length) := Lib.hid rfl
          have HB3 : Hid (Below w.heap.size w w2) := HB.out.drew.next HB2
          clear HS HB HF HL hf hp c1 c2 hcl hy
          generalize hL2 : (cat X Y (k + 1)).length = L2 at *
          replace HL2 : Hid (L2 = (cat X Y (k + 1)).length) := Lib.hid hL2.symm
          clear hL2
          replace HN := Lib.hid HN
          go_wp2_with fail
          go_roundw
          case rel => exact ⟨k + 1, g2, c2', L2, by omega, by go_num, rfl, HL2, HN, HB3, HF2⟩
          case measure => simp [RowKit.intOf]; omega
      · have hp := put_no (.slice (some ⟨g, 0, Option.none⟩) L c) (X k) (Y k) (by simpa using hf) wr.drew
        go_wp2_with fail
        go_region_with ((go_at_call 7; ((with_reducible refine hp.mono ?_); rintro e w2 ⟨rfl, h'⟩; cases h')))
        all_goals
          go_wp2_with fail
          go_ret
          exact ⟨rfl, HB.out.drew⟩
    · have e : k = n := by omega
      subst e
      have zl : (L : Int) ≤ 3000 := by
        have hy : ∀ j, j < k → (Y j).toNat ≤ 30 := fun j hj => by
          obtain ⟨a, b, e1, e2, e3, _, _⟩ := fits_nat (HF.out j hj); rw [e2]; omega
        have := cat_length X Y k hy
        have := HL.out
        omega
      have zk : (k : Int) ≤ 100 := by omega
      go_wp2
      go_loopw [7, 8, 9, 10, 11] (fun a i _ _ _ w2 => ∃ (m A : Nat), m ≤ k ∧ i = .int .i64 m ∧ a = .int .i64 A ∧ Hid (A = (cat X Y m).length) ∧ w2 = wr) (fun _ i _ _ _ _ => k - (RowKit.intOf i).toNat)
      case atStart => exact ⟨0, 0, by omega, rfl, rfl, Lib.hid rfl, rfl⟩
      case round =>
        obtain ⟨m, A, hm, rfl, rfl, HA, rfl⟩ := hrel
        by_cases hlt2 : m < k
        · have mi : (m : Int) < k := by omega
          obtain ⟨t1, t2⟩ := cat_part X Y m k hlt2
          have hp := take_held HS.out A (X m) (Y m) (HF.out m hlt2) (by rw [HA.out]; exact t2) (by rw [HA.out]; exact t1)
          rw [← HL.out] at hp
          have c1 := (HC.out.below HB.out).num m hlt2
          have c2 := (HC.out.below HB.out).wide m hlt2
          have HA2 : Hid (A + (Y m).toNat = (cat X Y (m + 1)).length) := by show _ = _; rw [cat_succ, List.length_append, dig_length, HA.out]
          clear t1 t2
          generalize A + (Y m).toNat = A2 at hp HA2
          go_wp2_with (go_at_call 9; ((with_reducible refine hp.mono ?_); rintro e w2 ⟨rfl, h'⟩; cases h'))
          go_roundw
          case rel => exact ⟨m + 1, A2, by omega, by go_num, rfl, HA2, trivial⟩
          case measure => simp [RowKit.intOf]; omega
        · have e : m = k := by omega
          subst e
          have HE : Hid (A = L) := by show _ = _; rw [HA.out, HL.out]
          have hE : (A : Int) = L := by have := HE.out; omega
          go_wp2
          go_ret
          exact ⟨rfl, HB.out⟩
set_option maxHeartbeats 1000000 in
theorem many_zero (p : Option Addr) (cap : Nat) (w : World) :
    Calls Try.prog 6 #[.slice p 0 cap] w fun e w' => e = .returned (.bool true) ∧ Below w.heap.size w w' := by
  go_enter Try.func6, Try.ntmps6
  go_wp2_with (first
    | (go_at_call 8; ((with_reducible refine (fixed_any w).mono ?_); rintro e w1 ⟨rfl, H1⟩; replace H1 := Lib.hid H1)))
  have HB0 : Hid (Below w.heap.size w (w1.alloc (.cells #[] 4))) := belowNew H1.out _
  generalize hw1 : w1.alloc (.cells #[] 4) = w1' at *
  go_loopw [3, 4, 5, 6] (fun v i _ _ wr => v = .slice (some ⟨w1.heap.size, 0, Option.none⟩) 0 0 ∧ i = .int .i64 0 ∧ wr = w1') (fun _ _ _ _ _ => 0)
  case atStart => exact ⟨rfl, rfl, by first | rfl | exact hw1 | exact hw1.symm⟩
  case round =>
    obtain ⟨rfl, rfl, rfl⟩ := hrel
    go_wp2
    go_loopw [7, 8, 9, 10, 11] (fun a i _ _ _ w2 => a = .int .i64 0 ∧ i = .int .i64 0 ∧ w2 = wr) (fun _ _ _ _ _ _ => 0)
    case atStart => exact ⟨rfl, rfl, rfl⟩
    case round =>
      obtain ⟨rfl, rfl, rfl⟩ := hrel
      go_wp2
      go_ret
      exact ⟨rfl, HB0.out⟩
end Go.Proofs.Ytiimghgolaijhaa
