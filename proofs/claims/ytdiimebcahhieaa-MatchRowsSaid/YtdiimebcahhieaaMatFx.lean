/-
  Calls whose answers the document fixes, and the walks of MatchExpands: if the package's functions answer as they must, they answer true.
-/
import Derived.Test.YtdiimebcahhieaaMatSp
namespace Go.Proofs.Ytdiimebcahhieaa
open Go.RowKit Mt Go.Lib
def two : List Tok := [⟨97, 0, 0⟩, ⟨0, 1, 4⟩]
theorem two_lit (w : World) : ToksAt (w.alloc (.cells #[.int .i64 97, .int .i64 0, .int .i64 0, .int .i64 0, .int .i64 1, .int .i64 4] 28)) w.heap.size 0 two := by
  constructor
  all_goals
    intro i hi
    match i, hi with
    | 0, _ => simp [two]
    | 1, _ => simp [two]
theorem five_split : Mt.split [97, 97, 97, 97, 97] 5 0 = two := by
  rw [show ([97, 97, 97, 97, 97] : List UInt8) = List.replicate 5 97 from rfl, split_more _ 4 0 (by simp)]
  have e0 : next (List.replicate 5 97) 0 = 1 := by unfold next; rw [rep_first]; rfl
  rw [e0, split_more _ 3 1 (by simp)]
  have e1 : next (List.replicate 5 97) 1 = 5 := by unfold next; rw [rep_long 97 5 1 (by decide) (by decide)]; rfl
  rw [e1, split_done _ 3 5 (by simp)]
  unfold step1
  rw [rep_first, rep_long 97 5 1 (by decide) (by decide)]
  rfl
theorem abc_long : Mt.longest [97, 98, 99, 97, 98, 99] 3 = (3, 3) := by decide +kernel
theorem two_yes : Mt.expand 5 [] two = some [97, 97, 97, 97, 97] := by decide +kernel
theorem two_no : Mt.expand 4 [] two = none := by decide +kernel
theorem fx_split (S : Spec) (w : World) : Calls Try.prog 11 #[.string ⟨#[97, 97, 97, 97, 97]⟩] w fun e w' => ∃ blk off cap, e = .returned (.slice (some ⟨blk, off, Option.none⟩) 2 cap) ∧ ToksAt w' blk off two ∧ 2 ≤ cap ∧ cap ≤ maxLen ∧ Below w.heap.size w w' := by
  refine (S.split ⟨#[97, 97, 97, 97, 97]⟩ w (by decide)).mono fun e w' ⟨p, cap, h1, h2, h3⟩ => ?_
  have e5 : Mt.split (⟨#[97, 97, 97, 97, 97]⟩ : ByteArray).data.toList (⟨#[97, 97, 97, 97, 97]⟩ : ByteArray).size 0 = two := five_split
  rw [e5] at h1 h2
  rcases h2.2.2 with k | ⟨blk, off, rfl, k⟩
  · cases k
  · exact ⟨blk, off, cap, h1, k, h2.1, h2.2.1, h3⟩
theorem fx_yes (S : Spec) {w : World} {blk off cap : Nat} (h : ToksAt w blk off two) (h1 : 2 ≤ cap) (h2 : cap ≤ maxLen) :
    Calls Try.prog 7 #[.slice (some ⟨blk, off, Option.none⟩) 2 cap, .int .i64 5] w fun e w' => e = .returned (.tuple #[.string ⟨#[97, 97, 97, 97, 97]⟩, .bool true]) ∧ Below w.heap.size w w' := by
  have := S.expand two (some ⟨blk, off, Option.none⟩) cap 5 w (by decide) ⟨h1, h2, .inr ⟨blk, off, rfl, h⟩⟩
  rw [two_yes] at this
  exact this
theorem fx_no (S : Spec) {w : World} {blk off cap : Nat} (h : ToksAt w blk off two) (h1 : 2 ≤ cap) (h2 : cap ≤ maxLen) :
    Calls Try.prog 7 #[.slice (some ⟨blk, off, Option.none⟩) 2 cap, .int .i64 4] w fun e w' => e = .returned (.tuple #[.string ⟨#[]⟩, .bool false]) ∧ Below w.heap.size w w' := by
  have := S.expand two (some ⟨blk, off, Option.none⟩) cap 4 w (by decide) ⟨h1, h2, .inr ⟨blk, off, rfl, h⟩⟩
  rw [two_no] at this
  exact this
theorem fx_long (S : Spec) (w : World) : Calls Try.prog 12 #[.string ⟨#[97, 98, 99, 97, 98, 99]⟩, .int .i64 3] w fun e w' => e = .returned (.tuple #[.int .i64 3, .int .i64 3]) ∧ Below w.heap.size w w' := by
  have := S.longest ⟨#[97, 98, 99, 97, 98, 99]⟩ 3 w (by decide)
  have e : Mt.longest (⟨#[97, 98, 99, 97, 98, 99]⟩ : ByteArray).data.toList 3 = (3, 3) := abc_long
  rw [e] at this
  exact this
theorem fx_same {w w1 : World} {blk off cap : Nat} (h : ToksAt w blk off two) (hb : Below w.heap.size w w1) :
    Calls Try.prog 13 #[.slice (some ⟨blk, off, Option.none⟩) 2 cap, .slice (some ⟨w1.heap.size, 0, Option.none⟩) 2 2] (w1.alloc (.cells #[.int .i64 97, .int .i64 0, .int .i64 0, .int .i64 0, .int .i64 1, .int .i64 4] 28)) fun e w' => e = .returned (.bool true) ∧ Below w1.heap.size w1 w' :=
  (same_like two (by decide) blk off cap w1.heap.size 0 2 _ (h.below (belowNew hb _)) (two_lit w1)).mono fun e w' ⟨h1, h2⟩ => ⟨h1, ((Below.refl w1.heap.size w1).alloc (Nat.le_refl _) _).trans (h2.mono (by simp))⟩
theorem fx_may (S : Spec) (w : World) : Calls Try.prog 9 #[.agg #[.int .i64 0, .int .i64 1, .int .i64 4]] w fun e w' => e = .returned (.bool true) ∧ Below w.heap.size w w' := S.may ⟨0, 1, 4⟩ w
theorem fx_not (S : Spec) (w : World) : Calls Try.prog 9 #[.agg #[.int .i64 0, .int .i64 1, .int .i64 2]] w fun e w' => e = .returned (.bool false) ∧ Below w.heap.size w w' := S.may ⟨0, 1, 2⟩ w
theorem fx_cells {w w1 : World} {blk off : Nat} (h : ToksAt w blk off two) (hb : Below w.heap.size w w1) :
    w1.cell? ⟨blk, off + 3, Option.none⟩ = some (.int .i64 0) ∧ w1.cell? ⟨blk, off + 4, Option.none⟩ = some (.int .i64 1) ∧ w1.cell? ⟨blk, off + 5, Option.none⟩ = some (.int .i64 4) :=
  may_at h hb 1 (by decide)
set_option maxHeartbeats 1000000 in
theorem fixed_any (S : Spec) (w : World) : Calls Try.prog 6 #[] w fun e w' => e = .returned (.bool true) ∧ Below w.heap.size w w' := by
  go_enter Try.func6, Try.ntmps6
  go_wp2_with (first
    | (go_at_call 11; ((with_reducible refine (fx_split S _).mono ?_); rintro e w1 ⟨blk, off, cap, rfl, HT, g1, g2, H1⟩; replace HT := Lib.hid HT; replace H1 := Lib.hid H1; replace g2 := Lib.hid g2))
    | (go_at_call 7; ((with_reducible refine (fx_yes S HT.out g1 g2.out).mono ?_); rintro e w2 ⟨rfl, H2⟩; replace H2 := Lib.hid H2))
    | (go_at_call 7; ((with_reducible refine (fx_no S (HT.out.below H2.out) g1 g2.out).mono ?_); rintro e w3 ⟨rfl, H3⟩; replace H3 := Lib.hid H3))
    | (go_at_call 12; ((with_reducible refine (fx_long S _).mono ?_); rintro e w4 ⟨rfl, H4⟩; replace H4 := Lib.hid ((H2.out.next H3.out).next H4)))
    | (go_at_call 13; ((with_reducible refine (fx_same HT.out H4.out).mono ?_); rintro e w5 ⟨rfl, H5⟩; replace H5 := Lib.hid (H4.out.next H5); obtain ⟨q0, q1, q2⟩ := fx_cells HT.out H5.out))
    | (go_at_call 9; ((with_reducible refine (fx_may S _).mono ?_); rintro e w6 ⟨rfl, H6⟩; replace H6 := Lib.hid H6))
    | (go_at_call 9; ((with_reducible refine (fx_not S _).mono ?_); rintro e w7 ⟨rfl, H7⟩; replace H7 := Lib.hid H7)))
  go_ret
  exact ⟨rfl, ((H1.out.next H5.out).next H6.out).next H7.out⟩
end Go.Proofs.Ytdiimebcahhieaa

