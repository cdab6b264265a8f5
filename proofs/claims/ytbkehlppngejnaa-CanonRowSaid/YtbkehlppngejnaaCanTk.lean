/-
  Package bits' Take, at any place of any bits.
-/
import Derived.Test.YtbkehlppngejnaaBitTa
import Derived.Test.YtbkehlppngejnaaLstLi
namespace Go.Proofs.Ytbkehlppngejnaa
open Go.RowKit Mb Go.Lib
theorem number_none (q : Option Addr) (cap : Nat) (w : World) : Calls Try.prog 30 #[.slice q 0 cap] w fun e w' => e = .returned (.int .i64 0) ∧ w' = w := by
  go_enter Try.func30, Try.ntmps30
  go_wp2
  go_loop [3, 5, 8] (fun x _ i => i = .int .i64 0 ∧ x = .int .i64 0) (fun _ _ _ => 0)
  case atStart => exact ⟨rfl, rfl⟩
  case round =>
    obtain ⟨rfl, rfl⟩ := hrel
    go_wp2
    go_ret
    exact ⟨rfl, rfl⟩
/-- what Take answers -/
def tkV (b : List Bool) (x : Int) (n : Nat) : Value :=
  if 0 ≤ x ∧ x + n ≤ b.length then .tuple #[.int .i64 (num ((b.drop x.toNat).take n) : Int), .int .i64 ((x.toNat + n : Nat) : Int), .bool true] else .tuple #[.int .i64 0, .int .i64 0, .bool false]
theorem take_lies (b : List Bool) (m : Nat) (q : Option Addr) (d : Nat) (x : Int) (n : Nat) (w : World) (hq : FlagsLie w q b d) (hb : b.length = m) (hn : n ≤ 30) :
    Calls Try.prog 23 #[.slice q m d, .int .i64 x, .int .i64 n] w fun e w' => e = .returned (tkV b x n) ∧ w' = w := by
  have hml : m ≤ maxLen := by have := hq.len; have := hq.cap; omega
  have hmd : m ≤ d := by have := hq.len; omega
  have hdl := hq.cap
  by_cases hin : 0 ≤ x ∧ x + n ≤ m
  · have hV : tkV b x n = .tuple #[.int .i64 (num ((b.drop x.toNat).take n) : Int), .int .i64 ((x.toNat + n : Nat) : Int), .bool true] := by unfold tkV; rw [if_pos (by rw [hb]; exact hin)]
    rw [hV]
    obtain ⟨p, rfl⟩ := Int.eq_ofNat_of_zero_le hin.1
    simp only [Int.toNat_natCast]
    rcases hq.lies with rfl | ⟨blk, off, rfl, hc⟩
    · have hm0 : m = 0 := by rw [← hb]; rfl
      have hp0 : p = 0 := by omega
      have hn0 : n = 0 := by omega
      subst hm0; subst hp0; subst hn0
      have hw := width_any 0 w
      have hk := fun q c => number_none q c w
      have zd : (0 : Int) ≤ d := by omega
      clear hV hq hb hin hml hmd hn
      unfold maxLen at hdl
      have zd2 : (d : Int) ≤ 9223372036854775807 := by omega
      clear hdl
      rcases Nat.eq_zero_or_pos d with e | e
      · subst e
        cases q
        all_goals
          go_enter Try.func23, Try.ntmps23
          go_wp2_with (first | (go_at_call 28; ((with_reducible refine hw.mono ?_); rintro e w' ⟨rfl, rfl⟩)) | (go_at_call 30; ((with_reducible refine (hk _ _).mono ?_); rintro e w' ⟨rfl, rfl⟩)))
          go_ret3
          exact ⟨rfl, rfl⟩
      · have e1 : (0 : Int) < d := by omega
        cases q
        all_goals
          go_enter Try.func23, Try.ntmps23
          go_wp2_with (first | (go_at_call 28; ((with_reducible refine hw.mono ?_); rintro e w' ⟨rfl, rfl⟩)) | (go_at_call 30; ((with_reducible refine (hk _ _).mono ?_); rintro e w' ⟨rfl, rfl⟩)))
          go_ret3
          exact ⟨rfl, rfl⟩
    · have ht := take_in b p n blk off d hn (by omega) (by omega) (by omega) hdl w ⟨hc⟩
      rw [hb] at ht
      exact ht
  · have hV : tkV b x n = .tuple #[.int .i64 0, .int .i64 0, .bool false] := by unfold tkV; rw [if_neg (by rw [hb]; exact hin)]
    rw [hV]
    clear hV hq hb hdl hmd
    unfold maxLen at hml
    have b3 : (m : Int) ≤ 9223372036854775807 := by omega
    have b4 : (decide ((0 : Int) ≤ n) && decide ((n : Int) ≤ 30)) = true := by simp; omega
    have hw := width_any n w
    rw [b4] at hw
    have zn : (n : Int) ≤ 30 := by omega
    clear b4 hml hn
    by_cases h0 : x < 0
    · clear hin
      go_enter Try.func23, Try.ntmps23
      go_wp2_with (go_at_call 28; ((with_reducible refine hw.mono ?_); rintro e w' ⟨rfl, rfl⟩))
      go_ret3
      exact ⟨rfl, rfl⟩
    · obtain ⟨p, rfl⟩ := Int.eq_ofNat_of_zero_le (show 0 ≤ x by omega)
      by_cases h1 : (m : Int) < p
      · clear hin h0
        go_enter Try.func23, Try.ntmps23
        go_wp2_with (go_at_call 28; ((with_reducible refine hw.mono ?_); rintro e w' ⟨rfl, rfl⟩))
        go_ret3
        exact ⟨rfl, rfl⟩
      · have h2 : (p : Int) ≤ m := by omega
        have h3 : (m : Int) - p < n := by omega
        clear hin h0 h1
        go_enter Try.func23, Try.ntmps23
        go_wp2_with (go_at_call 28; ((with_reducible refine hw.mono ?_); rintro e w' ⟨rfl, rfl⟩))
        go_ret3
        exact ⟨rfl, rfl⟩
end Go.Proofs.Ytbkehlppngejnaa
