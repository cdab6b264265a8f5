/-
  The walk of CrcTells: it returns true for every text, place and four bytes.
-/
import Derived.Test.YtckdkoakgnojbaaTu
namespace Go.Proofs.Ytckdkoakgnojbaa
open Go.RowKit Ma Go.Lib
def four (b : Nat → UInt8) : Array Value := #[.int .u8 ((b 0).toNat : Int), .int .u8 ((b 1).toNat : Int), .int .u8 ((b 2).toNat : Int), .int .u8 ((b 3).toNat : Int)]
theorem tells_out (s : ByteArray) (z : Int) (b : Nat → UInt8) (hs : s.size ≤ 140737488351232) (h : 100000 < s.size ∨ z < 0 ∨ (s.size : Int) ≤ z) (w : World) :
    Calls Try.prog 4 #[.string s, .int .i64 z, .agg (four b)] w fun e w' => e = .returned (.bool true) ∧ Below w.heap.size w w' := by
  have hb : ∀ o, Below w.heap.size w (w.alloc o) := fun o => (Below.refl _ _).alloc (Nat.le_refl _) o
  have kf := fun W h => fixed_at w W h
  unfold four
  have arms : (100000 : Int) < s.size ∨ ((s.size : Int) ≤ 100000 ∧ z < 0) ∨ ((s.size : Int) ≤ 100000 ∧ 0 ≤ z ∧ (s.size : Int) ≤ z) := by omega
  clear h
  rcases arms with h1 | ⟨h1, h2⟩ | ⟨h1, h2, h3⟩
  all_goals
    go_enter Try.func4, Try.ntmps4
    go_wp2_with (go_at_call 10; ((with_reducible refine (kf _ ?_).mono ?_); (first | assumption | exact hb _); rintro e w' ⟨rfl, hB⟩))
    go_ret
    exact ⟨rfl, by assumption⟩
/-- The world behind the box. -/
def boxed (b : Nat → UInt8) (w : World) : World := w.alloc (.cells (four b) 30)
theorem box_cell {b : Nat → UInt8} {w W : World} (h : Below (boxed b w).heap.size (boxed b w) W) (k : Nat) (hk : k < 4) : W.cell? ⟨w.heap.size, k, none⟩ = some (.int .u8 ((b k).toNat : Int)) := by
  rw [h.cell (p := ⟨w.heap.size, k, none⟩) (show w.heap.size < (w.heap.push _).size by simp)]
  unfold boxed
  rw [World.cell?_alloc_new]
  rcases (by omega : k = 0 ∨ k = 1 ∨ k = 2 ∨ k = 3) with rfl | rfl | rfl | rfl <;> rfl
theorem box_below {b : Nat → UInt8} {w W : World} (h : Below (boxed b w).heap.size (boxed b w) W) : Below w.heap.size w W :=
  ((Below.refl _ w).alloc (Nat.le_refl _) _).trans (h.mono (by show w.heap.size ≤ (w.heap.push _).size; simp))
theorem turn_at (s : ByteArray) (p k : Nat) (x : UInt8) (hp : p + k < s.size) (hs : s.size ≤ 200000) (w0 w : World) (h : Below w0.heap.size w0 w) :
    Calls Try.prog 17 #[.string s, .int .i64 ((p : Int) + (k : Int)), .int .u8 x.toNat] w fun e w' => e = .returned (.string (putB s (p + k) (s.data.toList.getD (p + k) 0 ^^^ x))) ∧ Below w0.heap.size w0 w' :=
  (turn_any s (p + k) x hp hs w).mono fun _ _ ⟨he, hb⟩ => ⟨he, h.next hb⟩
set_option maxHeartbeats 2000000 in
theorem tells_in (s : ByteArray) (p : Nat) (b : Nat → UInt8) (hp : p < s.size) (hs : s.size ≤ 100000) (w : World) :
    Calls Try.prog 4 #[.string s, .int .i64 p, .agg (four b)] w fun e w' => e = .returned (.bool true) ∧ Below w.heap.size w w' := by
  have kf := fun W h => fixed_at (boxed b w) W h
  have h1 : (s.size : Int) ≤ 100000 := by omega
  have h2 : (p : Int) < s.size := by omega
  have h3 : ¬ s.size ≤ p := by omega
  have h4 : ¬ (100000 : Int) < s.size := by omega
  have h5 : ¬ (p : Int) < 0 := by omega
  have hb := Below.refl (boxed b w).heap.size (boxed b w)
  go_enter Try.func4, Try.ntmps4
  have e4 : four b = #[.int .u8 ((b 0).toNat : Int), .int .u8 ((b 1).toNat : Int), .int .u8 ((b 2).toNat : Int), .int .u8 ((b 3).toNat : Int)] := rfl
  go_wp2_with (go_at_call 10; ((with_reducible refine (kf _ ?_).mono ?_); (first | assumption | exact hb); rintro e w' ⟨rfl, hB⟩))
  have HB := Lib.hid hB
  have HN := Lib.hid (near_refl p s.data.toList)
  clear hB hb kf
  go_loopw [7, 8] (fun t i wx => ∃ (k : Nat) (u : ByteArray), k ≤ 4 ∧ i = .int .i64 k ∧ t = .string u ∧ Hid (Near p u.data.toList s.data.toList) ∧ Hid (Below (boxed b w).heap.size (boxed b w) wx)) (fun _ i _ => 4 - (RowKit.intOf i).toNat)
  case atStart => exact ⟨0, s, by omega, rfl, rfl, HN, HB⟩
  case round =>
    clear HB HN
    obtain ⟨k, u, hk, rfl, rfl, HN, HB⟩ := hrel
    have hsz : u.size = s.size := by have := HN.out.1; rw [← Lib.size_eq, ← Lib.size_eq] at this; exact this
    have arms : (k < 4 ∧ p + k < s.size) ∨ (k = 4 ∨ (k < 4 ∧ s.size ≤ p + k)) := by omega
    rcases arms with ⟨a1, a2⟩ | arms
    · have zk : (k : Int) < 4 := by omega
      have zq : (p : Int) + k < s.size := by omega
      have c := box_cell HB.out k a1
      have HT := Lib.hid (turn_at u p k (b k) (by omega) (by omega) (boxed b w) wr HB.out)
      have HN2 : Hid (Near p (putB u (p + k) (u.data.toList.getD (p + k) 0 ^^^ b k)).data.toList s.data.toList) := put_near u p (p + k) _ _ HN.out (by omega)
      clear HN
      generalize putB u (p + k) (u.data.toList.getD (p + k) 0 ^^^ b k) = u2 at HT HN2
      clear hsz
      go_wp2_with (go_at_call 17; ((with_reducible refine HT.out.mono ?_); rintro e w' ⟨rfl, hB⟩))
      go_roundw
      case rel => exact ⟨k + 1, u2, by omega, by go_num, rfl, HN2, Lib.hid hB⟩
      case measure => simp [RowKit.intOf]; omega
    · have e1 := near_sums HN.out
      have e2 := same_list u s
      obtain ⟨β, hβ1, hβ2⟩ : ∃ β : Bool, ((sumN u.data.toList : Int) == (sumN s.data.toList : Int)) = β ∧ (u.toList == s.toList) = β := by
        refine ⟨decide (u = s), ?_, e2⟩
        rw [Bool.eq_iff_iff, beq_iff_eq, decide_eq_true_eq, ← e1]
        omega
      have s1 := fun W => sum_any u W (by omega)
      have s2 := fun W => sum_any s W (by omega)
      have sl := fun W h => seal_at s (by omega) (boxed b w) W h
      have HO : Hid (∀ u' : ByteArray, Near p u'.data.toList (sealB s).data.toList → opens u' = decide (u' = sealB s)) := fun u' h => near_opens h
      have HV := Lib.hid (near_refl p (sealB s).data.toList)
      have hvz := seal_size s
      generalize sealB s = v at *
      generalize sumN u.data.toList = x1 at *
      generalize sumN s.data.toList = x2 at *
      have hB := HB.out
      clear e1 e2 HB HN
      have guard : decide ((k : Int) < 4) = false ∨ ((k : Int) < 4 ∧ (s.size : Int) ≤ (p : Int) + k) := by
        rcases arms with a | a
        · left; rw [decide_eq_false_iff_not]; omega
        · right; omega
      clear arms
      rcases guard with g1 | ⟨g1, g2⟩
      all_goals
        go_wp2_with (first
          | (go_at_call 11; ((with_reducible refine (s1 _).mono ?_); rintro e w' ⟨rfl, rfl⟩))
          | (go_at_call 11; ((with_reducible refine (s2 _).mono ?_); rintro e w' ⟨rfl, rfl⟩))
          | (go_at_call 15; ((with_reducible refine (sl _ (by assumption)).mono ?_); rintro e w' ⟨rfl, hB2⟩)))
        clear hβ1 hβ2 s1 s2 hB
        have HB := Lib.hid hB2
        clear hB2
        go_loopw [9, 10] (fun t i wx => ∃ (k : Nat) (u : ByteArray), k ≤ 4 ∧ i = .int .i64 k ∧ t = .string u ∧ Hid (Near p u.data.toList v.data.toList) ∧ Hid (Below (boxed b w).heap.size (boxed b w) wx)) (fun _ i _ => 4 - (RowKit.intOf i).toNat)
        case atStart => exact ⟨0, v, by omega, rfl, rfl, HV, HB⟩
        case round =>
          clear HB HV
          obtain ⟨j, t, hj, rfl, rfl, HN, HB⟩ := hrel
          have hsz2 : t.size = s.size + 4 := by have := HN.out.1; rw [← Lib.size_eq, ← Lib.size_eq, hvz] at this; exact this
          have arms2 : (j < 4 ∧ p + j < t.size) ∨ j = 4 := by omega
          rcases arms2 with ⟨a1, a2⟩ | arms2
          · have zk : (j : Int) < 4 := by omega
            have zq : (p : Int) + j < t.size := by omega
            have c := box_cell HB.out j a1
            have HT := Lib.hid (turn_at t p j (b j) (by omega) (by omega) (boxed b w) wr HB.out)
            have HN2 : Hid (Near p (putB t (p + j) (t.data.toList.getD (p + j) 0 ^^^ b j)).data.toList v.data.toList) := put_near t p (p + j) _ _ HN.out (by omega)
            clear HN
            generalize putB t (p + j) (t.data.toList.getD (p + j) 0 ^^^ b j) = u2 at HT HN2
            clear hsz2
            go_wp2_with (go_at_call 17; ((with_reducible refine HT.out.mono ?_); rintro e w' ⟨rfl, hB⟩))
            go_roundw
            case rel => exact ⟨j + 1, u2, by omega, by go_num, rfl, HN2, Lib.hid hB⟩
            case measure => simp [RowKit.intOf]; omega
          · obtain ⟨γ, hγ1, hγ2⟩ : ∃ γ : Bool, opens t = γ ∧ (t.toList == v.toList) = γ := ⟨decide (t = v), HO.out t HN.out, same_list t v⟩
            have so := fun W h => open_at t (by omega) (boxed b w) W h
            rw [hγ1] at so
            generalize openB t = o at so
            have hB := HB.out
            clear HB HN HO hγ1
            have g3 : decide ((j : Int) < 4) = false := by rw [decide_eq_false_iff_not]; omega
            clear arms2
            go_wp2_with (first
                | (go_at_call 8; ((with_reducible refine (so _ (by assumption)).mono ?_); rintro e w' ⟨rfl, hB2⟩))
                | (go_at_call 15; ((with_reducible refine (sl _ (by assumption)).mono ?_); rintro e w' ⟨rfl, hB3⟩)))
            go_ret
            exact ⟨rfl, box_below hB3⟩
end Go.Proofs.Ytckdkoakgnojbaa
