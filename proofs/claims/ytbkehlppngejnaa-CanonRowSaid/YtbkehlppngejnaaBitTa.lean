/-
  Contract of Take, of a place and a width that go into the list, and of such as do not.
-/
import Derived.Test.YtbkehlppngejnaaBitTk
import Derived.OwnWalk
namespace Go.Proofs.Ytbkehlppngejnaa
open Go.RowKit Mb Go.Lib
theorem getD_part (l : List Bool) (p n i : Nat) (hi : i < n) : ((l.drop p).take n).getD i false = l.getD (p + i) false := by
  rw [List.getD_eq_getElem?_getD, List.getElem?_take, if_pos hi, List.getElem?_drop, List.getD_eq_getElem?_getD]
theorem BoolsAt.part {w : World} {blk off : Nat} {l : List Bool} (h : BoolsAt w blk off l) (p n : Nat) (hp : p + n ≤ l.length) : BoolsAt w blk (off + p) ((l.drop p).take n) :=
  ⟨fun i hi => by
    have hi' : i < n := by simp at hi; omega
    rw [getD_part l p n i hi', Nat.add_assoc]
    exact h.cell (p + i) (by omega)⟩
theorem BoolsAt.none (w : World) (blk off : Nat) : BoolsAt w blk off [] := ⟨fun i hi => by simp at hi⟩
theorem take_no (l : List Bool) (p n blk off cap : Nat) (hn : n ≤ 30) (hl : l.length ≤ maxLen) (hp : p ≤ l.length) (hno : l.length < p + n) (w : World) :
    Calls Try.prog 23 #[.slice (some ⟨blk, off, Option.none⟩) l.length cap, .int .i64 p, .int .i64 n] w fun e w' => e = .returned (.tuple #[.int .i64 0, .int .i64 0, .bool false]) ∧ w' = w := by
  unfold maxLen at hl
  have b1 : (p : Int) ≤ l.length := by omega
  have b2 : (l.length : Int) - p < n := by omega
  have b3 : (l.length : Int) ≤ 9223372036854775807 := by omega
  have b4 : (decide ((0 : Int) ≤ n) && decide ((n : Int) ≤ 30)) = true := by simp; omega
  have hw := width_any n w
  rw [b4] at hw
  clear b4
  go_enter Try.func23, Try.ntmps23
  go_wp2_with (go_at_call 28; ((with_reducible refine hw.mono ?_); rintro e w' ⟨rfl, rfl⟩))
  go_ret3
  exact ⟨rfl, rfl⟩
theorem take_in (l : List Bool) (p n blk off cap : Nat) (hn : n ≤ 30) (hl : l.length ≤ maxLen) (hp : p + n ≤ l.length) (hcap : l.length ≤ cap) (hcm : cap ≤ maxLen) (w : World) (hc : BoolsAt w blk off l) :
    Calls Try.prog 23 #[.slice (some ⟨blk, off, Option.none⟩) l.length cap, .int .i64 p, .int .i64 n] w fun e w' => e = .returned (.tuple #[.int .i64 (num ((l.drop p).take n) : Int), .int .i64 ((p + n : Nat) : Int), .bool true]) ∧ w' = w := by
  unfold maxLen at hl hcm
  have hlen : ((l.drop p).take n).length = n := by simp; omega
  have b0 : (n : Int) ≤ 30 := by omega
  have b1 : (p : Int) ≤ l.length := by omega
  have b2 : ¬ ((l.length : Int) - p < n) := by omega
  have b3 : (l.length : Int) ≤ 9223372036854775807 := by omega
  have b4 : (decide ((0 : Int) ≤ n) && decide ((n : Int) ≤ 30)) = true := by simp; omega
  have b5 : (p : Int) + n ≤ l.length := by omega
  have b6 : (l.length : Int) ≤ cap := by omega
  have b7 : (cap : Int) ≤ 9223372036854775807 := by omega
  have hw := width_any n w
  rw [b4] at hw
  clear b4
  rcases Nat.lt_or_eq_of_le (show p ≤ cap by omega) with hpc | hpc
  · have hpc' : (p : Int) < cap := by omega
    have hk := fun c => number_any ((l.drop p).take n) (by omega) blk (off + p) c w (hc.part p n hp)
    rw [hlen] at hk
    generalize num ((l.drop p).take n) = x at hk ⊢
    clear hc hlen hcap hcm hl hp hn
    go_enter Try.func23, Try.ntmps23
    go_wp2_with (first | (go_at_call 28; ((with_reducible refine hw.mono ?_); rintro e w' ⟨rfl, rfl⟩)) | (go_at_call 30; ((with_reducible refine (hk _).mono ?_); rintro e w' ⟨rfl, rfl⟩)))
    go_ret3
    exact ⟨rfl, rfl⟩
  · have hx : (l.drop p).take n = [] := by rw [show n = 0 by omega]; rfl
    have hk := fun c => number_any ((l.drop p).take n) (by omega) blk off c w (by rw [hx]; exact .none w blk off)
    rw [hlen] at hk
    have hli : (l.length : Int) = p := by omega
    generalize num ((l.drop p).take n) = x at hk ⊢
    subst hpc
    clear hc hlen hcap hcm hl hp hn hx
    go_enter Try.func23, Try.ntmps23
    go_wp2_with (first | (go_at_call 28; ((with_reducible refine hw.mono ?_); rintro e w' ⟨rfl, rfl⟩)) | (go_at_call 30; ((with_reducible refine (hk _).mono ?_); rintro e w' ⟨rfl, rfl⟩)))
    go_ret3
    exact ⟨rfl, rfl⟩
end Go.Proofs.Ytbkehlppngejnaa

