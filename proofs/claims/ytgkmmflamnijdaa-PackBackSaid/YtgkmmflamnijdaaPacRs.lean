/-
  The law PackReads, from what the package owes.
-/
import Derived.Test.YtgkmmflamnijdaaPacSp
namespace Go.Proofs.Ytgkmmflamnijdaa.Pk
set_option maxRecDepth 100000
open Go.RowKit Mt Ma Mb Cn Go.Lib
theorem none_toks {w : World} {q : Option Addr} {d : Nat} (h : d ≤ maxLen) : ToksLie w q [] d := ⟨Nat.zero_le _, h, .inl rfl⟩
/-- two answers of Read that agree -/
theorem reads_two {R : Option (List Tok × Nat)} {e1 e2 : Ending} {w1 w2 : World} (h1 : ReadB R e1 w1) (hb : Below w1.heap.size w1 w2) (h2 : ReadA R e2 w2) :
    ∃ (T : List Tok) (n x : Nat) (ok : Bool) (q1 q2 : Option Addr) (c1 c2 : Nat), T.length = n ∧ n ≤ maxLen ∧ e1 = .returned (.tuple #[.slice q1 n c1, .int .i64 x, .bool ok]) ∧ e2 = .returned (.tuple #[.slice q2 n c2, .int .i64 x, .bool ok]) ∧ ToksLie w2 q1 T c1 ∧ ToksLie w2 q2 T c2 := by
  cases R with
  | none =>
    obtain ⟨q, d, hd, rfl⟩ := h1
    have h2 : e2 = _ := h2
    subst h2
    exact ⟨[], 0, 0, false, q, none, d, 0, rfl, Nat.zero_le _, rfl, rfl, none_toks hd, none_toks (Nat.zero_le _)⟩
  | some r =>
    obtain ⟨T, x⟩ := r
    obtain ⟨q, c, rfl, hT⟩ := h1
    obtain ⟨q2, c2, rfl, hT2⟩ := h2
    exact ⟨T, T.length, x, true, q, q2, c, c2, rfl, Nat.le_trans hT.len hT.cap, rfl, rfl, hT.below hb, hT2⟩
set_option maxHeartbeats 4000000 in
theorem reads_any (S : SpecK) (b : List Bool) (k : Nat) (many : Int) (p : Option Addr) (d : Nat) (w : World) (hb : b.length = k) (hk : k ≤ 281474976710656) (h : FlagsLie w p b d) :
    Calls Try.prog 4 #[.slice p k d, .int .i64 many] w fun e w' => e = .returned (.bool true) ∧ Below w.heap.size w w' := by
  have kf := fun w => fixed_any S w
  by_cases h1 : 3000 < k
  · have z1 : (3000 : Int) < k := by omega
    clear h hb
    go_enter Try.func4, Try.ntmps4
    go_wp2_with fail
    go_at_call 9
    refine (kf _).mono ?_
    rintro e w1 ⟨rfl, hb1⟩
    replace hb1 := Lib.hid hb1
    clear kf
    go_wp2
    go_ret
    exact ⟨rfl, hb1.out⟩
  · have z1 : (k : Int) ≤ 3000 := by omega
    have z0 : (k : Int) ≤ d := by have := h.len; omega
    by_cases h2 : 150 < many
    · clear h hb
      go_enter Try.func4, Try.ntmps4
      go_wp2_with fail
      go_at_call 9
      refine (kf _).mono ?_
      rintro e w1 ⟨rfl, hb1⟩
      replace hb1 := Lib.hid hb1
      clear kf
      go_wp2
      go_ret
      exact ⟨rfl, hb1.out⟩
    · have z2 : many ≤ 150 := by omega
      have k1 := S.read b k many p d w hb hk h
      have HF := Lib.hid h
      have k2 := fun w1 (h1 : Below w.heap.size w w1) => readp_doc b k hb (by omega) many p d w1 (HF.out.below h1)
      clear h hb h1 h2
      generalize decodeI b many = R at *
      go_enter Try.func4, Try.ntmps4
      go_wp2_with fail
      go_at_call 15
      refine k1.mono ?_
      rintro e1 w1 ⟨hb1, ha1⟩
      have B1 := Lib.hid hb1
      have A1 := Lib.hid ha1
      have e1s : ∃ v x ok, e1 = .returned (.tuple #[v, x, ok]) := by
        cases R with
        | none => obtain ⟨q, d, _, rfl⟩ := ha1; exact ⟨_, _, _, rfl⟩
        | some r => obtain ⟨q, c, rfl, _⟩ := ha1; exact ⟨_, _, _, rfl⟩
      obtain ⟨v1, x1, ok1, rfl⟩ := e1s
      clear k1 hb1 ha1
      go_wp2_with fail
      go_at_call 16
      refine (k2 w1 B1.out).mono ?_
      rintro e2 w2 ⟨hb2, ha2⟩
      obtain ⟨T, n, x, ok, q1, q2, c1, c2, hn, hnm, he1, rfl, t1, t2⟩ := reads_two A1.out hb2 ha2
      cases he1
      have B2 := Lib.hid (B1.out.next hb2)
      replace t1 := Lib.hid t1
      replace t2 := Lib.hid t2
      clear k2 hb2 ha2 A1 B1
      go_wp2_with fail
      go_at_call 9
      refine (kf _).mono ?_
      rintro e w3 ⟨rfl, hb3⟩
      have B3 := Lib.hid (B2.out.next hb3)
      have t3 := Lib.hid (t1.out.below hb3)
      have t4 := Lib.hid (t2.out.below hb3)
      clear kf hb3 B2 t1 t2
      go_wp2_with fail
      go_at_call 17
      refine (toks_same T T n n hn hn (by unfold maxLen at hnm; omega) (by unfold maxLen at hnm; omega) _ _ _ _ _ t3.out t4.out).mono ?_
      rintro e w4 ⟨he, hb4⟩
      rw [decide_eq_true rfl] at he
      subst he
      have B4 := Lib.hid (B3.out.next hb4)
      clear hb4 B3 t3 t4
      cases ok
      all_goals
        go_wp2
        go_ret
        exact ⟨rfl, B4.out⟩
end Go.Proofs.Ytgkmmflamnijdaa.Pk
