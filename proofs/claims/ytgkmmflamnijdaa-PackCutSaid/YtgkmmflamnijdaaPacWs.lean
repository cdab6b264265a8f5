/-
  The law PackWrites, from what the package owes.
-/
import Derived.Test.YtgkmmflamnijdaaPacRs
namespace Go.Proofs.Ytgkmmflamnijdaa.Pk
set_option maxRecDepth 100000
open Go.RowKit Mt Ma Mb Cn Go.Lib
theorem none_flags {w : World} {q : Option Addr} {d : Nat} (h : d ≤ maxLen) : FlagsLie w q [] d := ⟨Nat.zero_le _, h, .inl rfl⟩
/-- two answers of Write that agree -/
theorem writes_two {T : List Tok} {e1 e2 : Ending} {w1 w2 : World} (h1 : WriteB T e1 w1) (hb : Below w1.heap.size w1 w2) (h2 : WriteA T e2 w2) :
    ∃ (m : List Bool) (n : Nat) (ok : Bool) (q1 q2 : Option Addr) (c1 c2 : Nat), m.length = n ∧ n ≤ maxLen ∧ (mayW T = true → n = (encode T).length) ∧ (mayW T = false → n = 0) ∧ e1 = .returned (.tuple #[.slice q1 n c1, .bool ok]) ∧ e2 = .returned (.tuple #[.slice q2 n c2, .bool ok]) ∧ FlagsLie w2 q1 m c1 ∧ FlagsLie w2 q2 m c2 := by
  rcases h1 with ⟨hm, q, d, rfl, hF⟩ | ⟨hm, q, d, hd, rfl⟩
  · rcases h2 with ⟨_, q2, d2, rfl, hF2⟩ | ⟨hm2, _⟩
    · exact ⟨encode T, _, true, q, q2, d, d2, rfl, Nat.le_trans hF.len hF.cap, fun _ => rfl, (fun h => by rw [hm] at h; cases h), rfl, rfl, hF.below hb, hF2⟩
    · rw [hm] at hm2; cases hm2
  · rcases h2 with ⟨hm2, _⟩ | ⟨_, rfl⟩
    · rw [hm] at hm2; cases hm2
    · exact ⟨[], 0, false, q, none, d, 0, rfl, Nat.zero_le _, (fun h => by rw [hm] at h; cases h), fun _ => rfl, rfl, rfl, none_flags hd, none_flags (Nat.zero_le _)⟩
set_option maxHeartbeats 2000000 in
theorem small_doc (n : Nat) (p : Option Addr) (c : Nat) (w : World) : Calls Try.prog 8 #[.slice p n c] w fun e w' => e = .returned (.bool (decide ((n : Int) ≤ 150))) ∧ w' = w := by
  go_enter Try.func8, Try.ntmps8
  go_wp2
  go_ret
  exact ⟨rfl, rfl⟩
set_option maxHeartbeats 4000000 in
theorem writes_any (S : SpecK) (T : List Tok) (n : Nat) (p : Option Addr) (c : Nat) (w : World) (hn : T.length = n) (hnl : n ≤ 281474976710656) (h : ToksLie w p T c) :
    Calls Try.prog 3 #[.slice p n c] w fun e w' => e = .returned (.bool true) ∧ Below w.heap.size w w' := by
  have kf := fun w => fixed_any S w
  have k0 := small_doc n p c w
  by_cases h1 : 150 < n
  · rw [decide_eq_false (by omega)] at k0
    have HB := Lib.hid (Below.refl w.heap.size w)
    clear h hn
    go_enter Try.func3, Try.ntmps3
    go_wp2_with fail
    go_at_call 8
    refine k0.mono ?_
    rintro e w1 ⟨rfl, rfl⟩
    clear k0
    go_wp2_with fail
    go_at_call 9
    refine (kf _).mono ?_
    rintro e w2 ⟨rfl, hb1⟩
    replace hb1 := Lib.hid hb1
    clear kf HB
    go_wp2
    go_ret
    exact ⟨rfl, hb1.out⟩
  · rw [decide_eq_true (by omega)] at k0
    have z1 : (n : Int) ≤ 150 := by omega
    have z2 : (n : Int) ≤ c := by have := h.len; omega
    have HL := Lib.hid h
    have Hn := Lib.hid hn
    have k1 := S.write T n p c w hn hnl h
    have k2 := fun w1 (h1 : Below w.heap.size w w1) => writeb_doc T n hn hnl p c w1 (HL.out.below h1)
    have ks := S.sym
    have hX : mayW T = true → (encode T).length ≤ 1000000 := fun _ => by
      show (dig (manyS (lensT T) 0 272) 9 ++ (headFrom (lensT T) 0 272 ++ body (lensT T) T)).length ≤ 1000000
      have h1 := head_le (lensT T) 272
      have h2 := body_le (lensT_ok T).2.1 T
      rw [List.length_append, List.length_append, dig_length]
      omega
    clear h hn h1
    go_enter Try.func3, Try.ntmps3
    go_wp2_with fail
    go_at_call 8
    refine k0.mono ?_
    rintro e w0 ⟨rfl, rfl⟩
    clear k0
    go_wp2_with fail
    go_at_call 10
    refine k1.mono ?_
    rintro e1 w1 ⟨hb1, ha1⟩
    have B1 := Lib.hid hb1
    have A1 := Lib.hid ha1
    have e1s : ∃ v ok, e1 = .returned (.tuple #[v, ok]) := by
      rcases ha1 with ⟨_, q, d, rfl, _⟩ | ⟨_, q, d, _, rfl⟩ <;> exact ⟨_, _, rfl⟩
    obtain ⟨v1, ok1, rfl⟩ := e1s
    clear k1 hb1 ha1
    go_wp2_with fail
    go_at_call 11
    refine (k2 w1 B1.out).mono ?_
    rintro e2 w2 ⟨hb2, ha2⟩
    obtain ⟨m, L, ok, q1, q2, c1, c2, hm, hLm, hy, hz, he1, rfl, t1, t2⟩ := writes_two A1.out hb2 ha2
    cases he1
    have hL : L ≤ 1000000 := by
      cases hmay : mayW T with
      | true => rw [hy hmay]; exact hX hmay
      | false => rw [hz hmay]; omega
    have B2 := Lib.hid (B1.out.next hb2)
    replace t1 := Lib.hid t1
    replace t2 := Lib.hid t2
    replace hm := Lib.hid hm
    clear k2 hb2 ha2 A1 B1 hX hy hz hLm
    go_wp2
    go_loopw [7] (fun i wr => ∃ k : Nat, i = .int .i64 k ∧ k ≤ n ∧ Hid (Below w0.heap.size w0 wr) ∧ Hid (FlagsLie wr q1 m c1) ∧ Hid (FlagsLie wr q2 m c2)) (fun i _ => n - (RowKit.intOf i).toNat)
    case atStart => exact ⟨0, rfl, Nat.zero_le _, B2, t1, t2⟩
    case round =>
      clear B2 t1 t2
      obtain ⟨k, rfl, hk, HW, t1, t2⟩ := hrel
      by_cases hlt : k < n
      · have hkT : k < T.length := by rw [Hn.out]; exact hlt
        obtain ⟨blk, off, rfl, hA⟩ := (HL.out.below HW.out).at hkT
        obtain ⟨a1, a2, a3⟩ := may_at hA (Below.refl _ _) k hkT
        generalize T[k] = t at *
        have zk : (k : Int) < n := by omega
        have p1 : Calls Try.prog 12 #[.agg #[.int .i64 t.byte, .int .i64 t.dist, .int .i64 t.len]] wr.drew fun e w' => e = .returned (.int .i64 (symA t)) ∧ Below wr.drew.heap.size wr.drew w' := ks t wr.drew
        have p2 : Hid (∀ w5, Calls Try.prog 13 #[.agg #[.int .i64 t.byte, .int .i64 t.dist, .int .i64 t.len]] w5 fun e w' => e = .returned (.int .i64 (symA t)) ∧ Below w5.heap.size w5 w') := Lib.hid fun w5 => sym_doc t w5
        have KW : Hid (∀ w5, Below wr.drew.heap.size wr.drew w5 → w5.cell? ⟨blk, off + k * 3, none⟩ = some (.int .i64 t.byte) ∧ w5.cell? ⟨blk, off + k * 3 + 1, none⟩ = some (.int .i64 t.dist) ∧ w5.cell? ⟨blk, off + k * 3 + 2, none⟩ = some (.int .i64 t.len)) := Lib.hid fun w5 h5 =>
          ⟨by rw [h5.cell (p := ⟨blk, off + k * 3, none⟩) (World.block_lt_of_cell? wr _ a1)]; exact a1, by rw [h5.cell (p := ⟨blk, off + k * 3 + 1, none⟩) (World.block_lt_of_cell? wr _ a2)]; exact a2, by rw [h5.cell (p := ⟨blk, off + k * 3 + 2, none⟩) (World.block_lt_of_cell? wr _ a3)]; exact a3⟩
        have HWd := Lib.hid HW.out.drew
        have t1d := Lib.hid (t1.out.below (Below.refl wr.heap.size wr).drew)
        have t2d := Lib.hid (t2.out.below (Below.refl wr.heap.size wr).drew)
        generalize symA t = sy at *
        clear hA hkT HW t1 t2
        go_wp2
        go_region_held3 (fun w' => w'.cell? ⟨blk, off + k * 3, none⟩ = some (.int .i64 t.byte) ∧ w'.cell? ⟨blk, off + k * 3 + 1, none⟩ = some (.int .i64 t.dist) ∧ w'.cell? ⟨blk, off + k * 3 + 2, none⟩ = some (.int .i64 t.len))
          (first | go_keep | exact KW.out _ hF5 | exact KW.out _ (hF5.next hF6))
          (first
            | (go_at_call 12; with_reducible refine p1.mono ?_; rintro e w5 ⟨rfl, hF5⟩)
            | (go_at_call 13; with_reducible refine (p2.out w5).mono ?_; rintro e w6 ⟨rfl, hF6⟩))
        have t16 := Lib.hid (t1d.out.below (hF5.next hF6))
        have t26 := Lib.hid (t2d.out.below (hF5.next hF6))
        have HW6 := Lib.hid (HWd.out.next (hF5.next hF6))
        clear p1 p2 KW hF5 hF6 a1 a2 a3 t1d t2d HWd
        go_wp2
        go_roundw
        case measure => simp [RowKit.intOf]; omega
        case rel => exact ⟨k + 1, by go_num, by omega, HW6, t16, t26⟩
      · have e : n = k := by omega
        subst e
        clear hlt hk ks
        go_wp2_with fail
        go_at_call 9
        refine (kf _).mono ?_
        rintro e w3 ⟨rfl, hb3⟩
        have B3 := Lib.hid (HW.out.next hb3)
        have t3 := Lib.hid (t1.out.below hb3)
        have t4 := Lib.hid (t2.out.below hb3)
        have k9 := flags_doc m m (by have := hm.out; omega) (by have := hm.out; omega) q1 q2 c1 c2 w3 t3.out t4.out
        rw [decide_eq_true rfl, hm.out] at k9
        clear kf hb3 HW t1 t2 t3 t4
        go_wp2_with fail
        go_at_call 14
        refine k9.mono ?_
        rintro e w4 ⟨rfl, hb4⟩
        have B4 := Lib.hid (B3.out.next hb4)
        clear hb4 B3 k9
        cases ok
        all_goals
          go_wp2
          go_ret
          exact ⟨rfl, B4.out⟩
end Go.Proofs.Ytgkmmflamnijdaa.Pk
