/-
  The walks of MatchExpands: if the package's functions answer as they must, it returns true.
-/
import Derived.Test.YtdiimebcahhieaaMatFx
namespace Go.Proofs.Ytdiimebcahhieaa
open Go.RowKit Mt Go.Lib
theorem expands_big (S : Spec) (p : Option Addr) (n cap : Nat) (most : Int) (hn : 1000 < n) (hm : n ≤ maxLen) (w : World) :
    Calls Try.prog 3 #[.slice p n cap, .int .i64 most] w fun e w' => e = .returned (.bool true) ∧ Below w.heap.size w w' := by
  unfold maxLen at hm
  have h1 : 1000 < (n : Int) := by omega
  go_enter Try.func3, Try.ntmps3
  go_wp2_with (go_at_call 6; ((with_reducible refine (fixed_any S w).mono ?_); rintro e w1 ⟨rfl, H1⟩; replace H1 := Lib.hid H1))
  go_ret
  exact ⟨rfl, H1.out⟩
set_option maxHeartbeats 2000000 in
theorem expands_in (S : Spec) (p : Option Addr) (T : List Tok) (cap : Nat) (most : Int) (hn : T.length ≤ 1000) (w : World) (hT : Lies w p T cap) :
    Calls Try.prog 3 #[.slice p T.length cap, .int .i64 most] w fun e w' => e = .returned (.bool true) ∧ Below w.heap.size w w' := by
  have zn : (T.length : Int) ≤ 1000 := by omega
  have k1 := S.expand T p cap most w (by omega) hT
  have k2 := fun w1 (hb : Below w.heap.size w w1) => expand_doc T p cap most w1 (by omega) (hT.below hb)
  generalize Mt.expand most [] T = R at k1 k2
  by_cases h0 : T = []
  · subst h0
    simp only [List.length_nil] at k1 k2
    clear hT hn zn
    cases R
    all_goals
      simp only [told] at k1 k2
      go_enter Try.func3, Try.ntmps3
      go_wp2_with (first
        | (go_at_call 7; ((with_reducible refine k1.mono ?_); rintro e w1 ⟨rfl, H1⟩; replace H1 := Lib.hid H1))
        | (go_at_call 8; ((with_reducible refine (k2 _ H1.out).mono ?_); rintro e w2 ⟨rfl, H2⟩; replace H2 := Lib.hid (H1.out.next H2))))
      refine wp_region_bw (by kernel_rfl) (by kernel_rfl) ?_
      repeat (first | go_big_quiet_step (fail) | quiet_step (fail))
      refine wpQuiet_nil ?_
      rintro _ ⟨i, rfl⟩
      have H3 : Hid (Below w.heap.size w i.val) := H2.out.next i.ok
      simp only [Exit.then]
      go_wp2_with (go_at_call 6; ((with_reducible refine (fixed_any S _).mono ?_); rintro e w4 ⟨rfl, H4⟩; replace H4 := Lib.hid H4))
      go_ret
      exact ⟨rfl, H3.out.next H4.out⟩
  · obtain ⟨blk, off, rfl, hc⟩ := hT.2.2.resolve_left h0
    have hpos : 0 < T.length := List.length_pos_iff.2 h0
    · have zp : (0 : Int) < T.length := by omega
      have hce := fun w1 (hb : Below w.heap.size w w1) => may_at hc hb 0 hpos
      simp only [Nat.zero_mul, Nat.add_zero] at hce
      have m1 := S.may T[0]
      have m2 : ∀ w, Calls Try.prog 10 #[.agg #[.int .i64 T[0].byte, .int .i64 T[0].dist, .int .i64 T[0].len]] w fun e w' => e = .returned (.bool (may T[0])) ∧ Below w.heap.size w w' := fun w => may_ref T[0] w
      generalize T[0] = t at hce m1 m2
      generalize may t = v at m1 m2
      clear hT hn hc
      cases R <;> cases v
      all_goals
        simp only [told] at k1 k2
        go_enter Try.func3, Try.ntmps3
        go_wp2_with (first
          | (go_at_call 7; ((with_reducible refine k1.mono ?_); rintro e w1 ⟨rfl, H1⟩; replace H1 := Lib.hid H1))
          | (go_at_call 8; ((with_reducible refine (k2 _ H1.out).mono ?_); rintro e w2 ⟨rfl, H2⟩; replace H2 := Lib.hid (H1.out.next H2))))
        have c1 : ∀ i : BW w2, i.val.cell? ⟨blk, off, Option.none⟩ = some (.int .i64 t.byte) := fun i => (hce _ (H2.out.next i.ok)).1
        have c2 : ∀ i : BW w2, i.val.cell? ⟨blk, off + 1, Option.none⟩ = some (.int .i64 t.dist) := fun i => (hce _ (H2.out.next i.ok)).2.1
        have c3 : ∀ i : BW w2, i.val.cell? ⟨blk, off + 2, Option.none⟩ = some (.int .i64 t.len) := fun i => (hce _ (H2.out.next i.ok)).2.2
        have n1 := fun i : BW w2 => BW.next i ((m1 i.val).mono fun _ _ ⟨h1, h2⟩ => ⟨h1, i.ok.next h2⟩)
        have n2 := fun i : BW w2 => BW.next i ((m2 i.val).mono fun _ _ ⟨h1, h2⟩ => ⟨h1, i.ok.next h2⟩)
        refine wp_region_bw (by kernel_rfl) (by kernel_rfl) ?_
        repeat (first
          | go_big_quiet_step (first | (go_at_call 9; with_reducible exact n1 _) | (go_at_call 10; with_reducible exact n2 _))
          | quiet_step (first | (go_at_call 9; with_reducible exact n1 _) | (go_at_call 10; with_reducible exact n2 _)))
        refine wpQuiet_nil ?_
        rintro _ ⟨i, rfl⟩
        have H3 : Hid (Below w.heap.size w i.val) := H2.out.next i.ok
        simp only [Exit.then]
        go_wp2_with (go_at_call 6; ((with_reducible refine (fixed_any S _).mono ?_); rintro e w4 ⟨rfl, H4⟩; replace H4 := Lib.hid H4))
        go_ret
        exact ⟨rfl, H3.out.next H4.out⟩
end Go.Proofs.Ytdiimebcahhieaa

