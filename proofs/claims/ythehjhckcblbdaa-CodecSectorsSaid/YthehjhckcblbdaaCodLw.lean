/-
  The six laws of blocks, from what package codec owes.
-/
import Derived.Test.YthehjhckcblbdaaCodSp
namespace Go.Proofs.Ythehjhckcblbdaa.Pk
set_option maxRecDepth 100000
open Go.RowKit Go.Lib Mt Ma Mb
theorem enc_two (s : ByteArray) : (s.size = 256 ∧ encV s = .tuple #[.string (encA s).1, .bool (encA s).2, .bool true]) ∨ (¬ s.size = 256 ∧ encV s = .tuple #[.string ⟨#[]⟩, .bool false, .bool false]) := by
  by_cases h : s.size = 256
  · exact .inl ⟨h, if_pos h⟩
  · exact .inr ⟨h, if_neg h⟩
theorem dec_two (s : ByteArray) (p : Bool) : (∃ q, decA s p = some q.data.toList ∧ q.size = 256 ∧ told (decA s p) = .tuple #[.string q, .bool true]) ∨ (decA s p = none ∧ told (decA s p) = .tuple #[.string ⟨#[]⟩, .bool false]) := by
  cases h : decA s p with
  | none => exact .inr ⟨rfl, rfl⟩
  | some l => exact .inl ⟨⟨l.toArray⟩, by simp, by rw [size_mk]; exact dec_length h, rfl⟩
set_option maxHeartbeats 2000000 in
theorem encodes_any (S : SpecE) (s : ByteArray) (n : Int) (h1 : -9223372036854775808 ≤ n) (h2 : n ≤ 9223372036854775807) (w : World) :
    Calls Try.prog 3 #[.string s, .int .i64 n] w fun e w' => e = .returned (.bool true) ∧ Below w.heap.size w w' := by
  have k1 := fun w => S.enc s w
  have k2 := fun w => enc_doc s w
  have k3 := fun w => S.sec n w h1 h2
  have k4 := fun w => sec_doc n h1 h2 w
  have kf := fun w => fixed_any S w
  generalize secI n = sn at *
  obtain ⟨t, p, o, hV⟩ : ∃ t p o, encV s = .tuple #[.string t, .bool p, .bool o] := by
    rcases enc_two s with ⟨_, h⟩ | ⟨_, h⟩
    · exact ⟨_, _, _, h⟩
    · exact ⟨_, _, _, h⟩
  rw [hV] at k1 k2
  clear hV h1 h2
  go_enter Try.func3, Try.ntmps3
  go_wp2_with fail
  go_at_call 9
  refine (k1 _).mono ?_
  rintro e w1 ⟨rfl, b1⟩
  have B1 := Lib.hid b1
  clear b1 k1
  go_wp2_with fail
  go_at_call 10
  refine (k2 _).mono ?_
  rintro e w2 ⟨rfl, b2⟩
  have B2 := Lib.hid (B1.out.next b2)
  clear b2 B1 k2
  go_wp2_with fail
  go_at_call 11
  refine (kf _).mono ?_
  rintro e w3 ⟨rfl, b3⟩
  have B3 := Lib.hid (B2.out.next b3)
  clear b3 B2 kf
  go_wp2_with fail
  go_at_call 12
  refine (k3 _).mono ?_
  rintro e w4 ⟨rfl, b4⟩
  have B4 := Lib.hid (B3.out.next b4)
  clear b4 B3 k3
  go_wp2_with fail
  go_at_call 13
  refine (k4 _).mono ?_
  rintro e w5 ⟨rfl, rfl⟩
  clear k4
  go_wp2
  go_ret
  exact ⟨rfl, B4.out⟩
set_option maxHeartbeats 2000000 in
theorem decodes_any (S : SpecE) (s : ByteArray) (hs : s.size ≤ 140737488351232) (p : Bool) (w : World) :
    Calls Try.prog 4 #[.string s, .bool p] w fun e w' => e = .returned (.bool true) ∧ Below w.heap.size w w' := by
  have kf := fun w => fixed_any S w
  by_cases h : 400 < s.size
  · have zs : (400 : Int) < s.size := by omega
    clear h
    go_enter Try.func4, Try.ntmps4
    go_wp2_with fail
    go_at_call 11
    refine (kf _).mono ?_
    rintro e w1 ⟨rfl, b1⟩
    have B1 := Lib.hid (b1)
    clear b1
    go_wp2
    go_ret
    exact ⟨rfl, B1.out⟩
  have zs : (s.size : Int) ≤ 400 := by omega
  have k1 := fun w => S.dec s p w (by omega)
  have k2 := fun w => dec_doc s (by omega) p w
  obtain ⟨t, o, hV⟩ : ∃ t o, told (decA s p) = .tuple #[.string t, .bool o] := by
    rcases dec_two s p with ⟨_, _, _, h⟩ | ⟨_, h⟩
    · exact ⟨_, _, h⟩
    · exact ⟨_, _, h⟩
  rw [hV] at k1 k2
  clear hV h hs
  go_enter Try.func4, Try.ntmps4
  go_wp2_with fail
  go_at_call 14
  refine (k1 _).mono ?_
  rintro e w1 ⟨rfl, b1⟩
  have B1 := Lib.hid (b1)
  clear b1 k1
  go_wp2_with fail
  go_at_call 15
  refine (k2 _).mono ?_
  rintro e w2 ⟨rfl, b2⟩
  have B2 := Lib.hid (B1.out.next b2)
  clear b2 B1 k2
  go_wp2_with fail
  go_at_call 11
  refine (kf _).mono ?_
  rintro e w3 ⟨rfl, b3⟩
  have B3 := Lib.hid (B2.out.next b3)
  clear b3 B2 kf
  go_wp2
  go_ret
  exact ⟨rfl, B3.out⟩
set_option maxHeartbeats 2000000 in
theorem back_any (S : SpecE) (s : ByteArray) (w : World) :
    Calls Try.prog 5 #[.string s] w fun e w' => e = .returned (.bool true) ∧ Below w.heap.size w w' := by
  have kf := fun w => fixed_any S w
  have k1 := fun w => S.enc s w
  rcases enc_two s with ⟨h, hV⟩ | ⟨h, hV⟩
  · rw [hV] at k1
    have hz := enc_size s h
    have hp := enc_pos s h
    have k2 := fun w => S.dec (encA s).1 (encA s).2 w (by omega)
    rw [dec_enc s h] at k2
    unfold told at k2
    simp only at k2
    rw [mk_toList] at k2
    have k3 := fun w => S.sec ((encA s).1.size : Nat) w (by omega) (by omega)
    obtain ⟨sn, hsn, hs1, hs8⟩ : ∃ sn : Int, secI ((encA s).1.size : Nat) = sn ∧ 1 ≤ sn ∧ sn ≤ 8 := ⟨_, rfl, by unfold secI; rw [if_neg (by omega)]; omega, by unfold secI; rw [if_neg (by omega)]; omega⟩
    rw [hsn] at k3
    have zs : ((s.size : Nat) : Int) = 256 := by omega
    have zt : (((encA s).1.size : Nat) : Int) ≤ 256 := by omega
    obtain ⟨pk, hpk⟩ : ∃ pk, pk = (encA s).2 := ⟨_, rfl⟩
    rw [← hpk] at k1 k2 hz
    have hpd : decide ((((encA s).1.size : Nat) : Int) < 256) = pk := by rw [hz.2]; apply decide_eq_decide.2; omega
    generalize (encA s).1 = t at *
    clear hV h hz hp hsn hpk
    go_enter Try.func5, Try.ntmps5
    go_wp2_with fail
    go_at_call 9
    refine (k1 _).mono ?_
    rintro e w1 ⟨rfl, b1⟩
    have B1 := Lib.hid (b1)
    clear b1 k1
    go_wp2_with fail
    go_at_call 11
    refine (kf _).mono ?_
    rintro e w2 ⟨rfl, b2⟩
    have B2 := Lib.hid (B1.out.next b2)
    clear b2 B1 kf
    go_wp2_with fail
    go_at_call 14
    refine (k2 _).mono ?_
    rintro e w3 ⟨rfl, b3⟩
    have B3 := Lib.hid (B2.out.next b3)
    clear b3 B2 k2
    go_wp2_with fail
    go_at_call 12
    refine (k3 _).mono ?_
    rintro e w4 ⟨rfl, b4⟩
    have B4 := Lib.hid (B3.out.next b4)
    clear b4 B3
    go_wp2_with fail
    go_at_call 12
    refine (k3 _).mono ?_
    rintro e w5 ⟨rfl, b5⟩
    have B5 := Lib.hid (B4.out.next b5)
    clear b5 B4 k3
    go_wp2
    go_ret
    exact ⟨rfl, B5.out⟩
  · rw [hV] at k1
    have zs : (((s.size : Nat) : Int) == 256) = false := by rw [beq_eq_false_iff_ne]; omega
    clear hV h
    go_enter Try.func5, Try.ntmps5
    go_wp2_with fail
    go_at_call 9
    refine (k1 _).mono ?_
    rintro e w1 ⟨rfl, b1⟩
    have B1 := Lib.hid (b1)
    clear b1 k1
    go_wp2_with fail
    go_at_call 11
    refine (kf _).mono ?_
    rintro e w2 ⟨rfl, b2⟩
    have B2 := Lib.hid (B1.out.next b2)
    clear b2 B1
    go_wp2_with fail
    go_at_call 11
    refine (kf _).mono ?_
    rintro e w3 ⟨rfl, b3⟩
    have B3 := Lib.hid (B2.out.next b3)
    clear b3 B2 kf
    go_wp2
    go_ret
    exact ⟨rfl, B3.out⟩
def lessS (s : ByteArray) : ByteArray := s.extract 0 (s.size - 1)
theorem lessS_list (s : ByteArray) : (lessS s).data.toList = s.data.toList.take (s.size - 1) := by
  unfold lessS
  rw [ByteArray.data_extract]
  simp [List.dropLast_eq_take]
set_option maxHeartbeats 2000000 in
theorem total_any (S : SpecE) (s : ByteArray) (hs : s.size ≤ 140737488351232) (p : Bool) (w : World) :
    Calls Try.prog 6 #[.string s, .bool p] w fun e w' => e = .returned (.bool true) ∧ Below w.heap.size w w' := by
  have kf := fun w => fixed_any S w
  by_cases h : 2000 < s.size
  · have zs : (2000 : Int) < s.size := by omega
    clear h
    go_enter Try.func6, Try.ntmps6
    go_wp2_with fail
    go_at_call 11
    refine (kf _).mono ?_
    rintro e w1 ⟨rfl, b1⟩
    have B1 := Lib.hid (b1)
    clear b1
    go_wp2_with fail
    go_at_call 11
    refine (kf _).mono ?_
    rintro e w2 ⟨rfl, b2⟩
    have B2 := Lib.hid (B1.out.next b2)
    clear b2 B1
    go_wp2
    go_ret
    exact ⟨rfl, B2.out⟩
  have zs : (s.size : Int) ≤ 2000 := by omega
  have k1 := fun w => S.dec s p w (by omega)
  rcases dec_two s p with ⟨q, hd, hq, hV⟩ | ⟨hd, hV⟩
  · rw [hV] at k1
    have hpos := dec_pos hd
    have hm := dec_more (t := s ++ ⟨#[120]⟩) hd (x := 120) (by simp)
    have hl := dec_less (t := lessS s) hd (lessS_list s)
    have k2 := fun w => S.dec (s ++ ⟨#[120]⟩) p w (by rw [ByteArray.size_append]; show s.size + 1 ≤ _; omega)
    have k3 := fun w => S.dec (lessS s) p w (by unfold lessS; rw [ByteArray.size_extract]; omega)
    rw [hm] at k2
    rw [hl] at k3
    unfold lessS at k3
    unfold told at k2 k3
    simp only at k2 k3
    have zq : ((q.size : Nat) : Int) = 256 := by omega
    have zp : (1 : Int) ≤ s.size := by omega
    clear hm hl hd hV hq h hs
    go_enter Try.func6, Try.ntmps6
    go_wp2_with fail
    go_at_call 11
    refine (kf _).mono ?_
    rintro e w1 ⟨rfl, b1⟩
    have B1 := Lib.hid (b1)
    clear b1 kf
    go_wp2_with fail
    go_at_call 14
    refine (k1 _).mono ?_
    rintro e w2 ⟨rfl, b2⟩
    have B2 := Lib.hid (B1.out.next b2)
    clear b2 B1 k1
    go_wp2_with fail
    go_at_call 14
    refine (k2 _).mono ?_
    rintro e w3 ⟨rfl, b3⟩
    have B3 := Lib.hid (B2.out.next b3)
    clear b3 B2 k2
    go_wp2_with fail
    go_at_call 14
    refine (k3 _).mono ?_
    rintro e w4 ⟨rfl, b4⟩
    have B4 := Lib.hid (B3.out.next b4)
    clear b4 B3 k3
    go_wp2
    go_ret
    exact ⟨rfl, B4.out⟩
  · rw [hV] at k1
    clear hd hV h hs
    go_enter Try.func6, Try.ntmps6
    go_wp2_with fail
    go_at_call 11
    refine (kf _).mono ?_
    rintro e w1 ⟨rfl, b1⟩
    have B1 := Lib.hid (b1)
    clear b1 kf
    go_wp2_with fail
    go_at_call 14
    refine (k1 _).mono ?_
    rintro e w2 ⟨rfl, b2⟩
    have B2 := Lib.hid (B1.out.next b2)
    clear b2 B1 k1
    go_wp2
    go_ret
    exact ⟨rfl, B2.out⟩
theorem sec_le {n m : Int} (h1 : 1 ≤ n) (h2 : n ≤ m) (h3 : m ≤ 1000000000) : secI n ≤ secI m ∧ 32 * secI n ≥ n ∧ 32 * (secI n - 1) < n ∧ 1 ≤ secI n ∧ secI n ≤ 1000000000 := by
  unfold secI
  rw [if_neg (by omega), if_neg (by omega)]
  omega
set_option maxHeartbeats 2000000 in
theorem sectors_any (S : SpecE) (n m : Int) (w : World) (h1 : -9223372036854775808 ≤ n) (h2 : n ≤ 9223372036854775807) (h3 : -9223372036854775808 ≤ m) (h4 : m ≤ 9223372036854775807) :
    Calls Try.prog 8 #[.int .i64 n, .int .i64 m] w fun e w' => e = .returned (.bool true) ∧ Below w.heap.size w w' := by
  have kf := fun w => fixed_any S w
  by_cases h : 1 ≤ n ∧ n ≤ m ∧ m ≤ 1000000000
  · obtain ⟨a1, a2, a3⟩ := h
    have k1 := fun w => S.sec n w h1 h2
    have k2 := fun w => S.sec m w h3 h4
    obtain ⟨b1, b2, b3, b4, b5⟩ := sec_le a1 a2 a3
    generalize secI n = x at *
    generalize secI m = y at *
    have c1 : decide (n ≤ 32 * x) = true := decide_eq_true b2
    have c2 : decide (32 * (x - 1) < n) = true := decide_eq_true b3
    have c3 : decide (x ≤ y) = true := decide_eq_true b1
    have b2' : n ≤ 32 * x := b2
    clear h1 h2 h3 h4
    go_enter Try.func8, Try.ntmps8
    go_wp2_with fail
    go_at_call 11
    refine (kf _).mono ?_
    rintro e w1 ⟨rfl, b1⟩
    have B1 := Lib.hid (b1)
    clear b1 kf
    go_wp2_with fail
    go_at_call 12
    refine (k1 _).mono ?_
    rintro e w2 ⟨rfl, b2⟩
    have B2 := Lib.hid (B1.out.next b2)
    clear b2 B1 k1
    go_wp2_with fail
    go_at_call 12
    refine (k2 _).mono ?_
    rintro e w3 ⟨rfl, b3⟩
    have B3 := Lib.hid (B2.out.next b3)
    clear b3 B2 k2
    go_wp2
    go_ret
    exact ⟨rfl, B3.out⟩
  · have k0 := fun w => S.sec 0 w (by decide) (by decide)
    rw [show secI 0 = 0 by decide] at k0
    have arm : n < 1 ∨ (¬ n < 1 ∧ m < n) ∨ (¬ n < 1 ∧ ¬ m < n ∧ 1000000000 < m) := by omega
    clear h h1 h2 h3 h4
    rcases arm with a | ⟨a, b⟩ | ⟨a, b, c⟩
    all_goals
      go_enter Try.func8, Try.ntmps8
      go_wp2_with fail
      go_at_call 11
      refine (kf _).mono ?_
      rintro e w1 ⟨rfl, b1⟩
      have B1 := Lib.hid (b1)
      clear b1
      go_wp2_with fail
      go_at_call 11
      refine (kf _).mono ?_
      rintro e w2 ⟨rfl, b2⟩
      have B2 := Lib.hid (B1.out.next b2)
      clear b2 B1 kf
      go_wp2_with fail
      go_at_call 12
      refine (k0 _).mono ?_
      rintro e w3 ⟨rfl, b3⟩
      have B3 := Lib.hid (B2.out.next b3)
      clear b3 B2 k0
      go_wp2
      go_ret
      exact ⟨rfl, B3.out⟩
set_option maxHeartbeats 2000000 in
theorem unlike_any (S : SpecE) (s t : ByteArray) (w : World) :
    Calls Try.prog 7 #[.string s, .string t] w fun e w' => e = .returned (.bool true) ∧ Below w.heap.size w w' := by
  have kf := fun w => fixed_any S w
  by_cases hs : s.size = 256
  · have zs : ((s.size : Nat) : Int) = 256 := by omega
    by_cases ht : t.size = 256
    · have zt : ((t.size : Nat) : Int) = 256 := by omega
      have k1 := fun w => S.enc s w
      have k2 := fun w => S.enc t w
      rw [show encV s = .tuple #[.string (encA s).1, .bool (encA s).2, .bool true] from if_pos hs] at k1
      rw [show encV t = .tuple #[.string (encA t).1, .bool (encA t).2, .bool true] from if_pos ht] at k2
      have HI := Lib.hid (fun (h : encA s = encA t) => enc_inj hs ht h)
      have HS := Lib.hid (fun (h : s = t) => show encA s = encA t by rw [h])
      generalize encA s = A at *
      generalize encA t = B at *
      obtain ⟨a, p⟩ := A
      obtain ⟨b, q⟩ := B
      dsimp only at k1 k2
      have hst := same_list s t
      have hab := same_list a b
      by_cases h : s = t
      · rw [decide_eq_true h] at hst
        obtain ⟨rfl, rfl⟩ := Prod.mk.inj (HS.out h)
        rw [decide_eq_true rfl] at hab
        clear hs ht h HI HS
        go_enter Try.func7, Try.ntmps7
        go_wp2_with fail
        go_at_call 11
        refine (kf _).mono ?_
        rintro e w1 ⟨rfl, b1⟩
        have B1 := Lib.hid (b1)
        clear b1 kf
        go_wp2_with fail
        go_at_call 9
        refine (k1 _).mono ?_
        rintro e w2 ⟨rfl, b2⟩
        have B2 := Lib.hid (B1.out.next b2)
        clear b2 B1 k1
        go_wp2_with fail
        go_at_call 9
        refine (k2 _).mono ?_
        rintro e w3 ⟨rfl, b3⟩
        have B3 := Lib.hid (B2.out.next b3)
        clear b3 B2 k2
        go_wp2
        go_ret
        exact ⟨rfl, B3.out⟩
      · rw [decide_eq_false h] at hst
        by_cases hab2 : a = b
        · rw [decide_eq_true hab2] at hab
          have hpq : (p == q) = false := by
            cases hc : (p == q) with
            | false => rfl
            | true => exact absurd (HI.out (by rw [hab2, show p = q by simpa using hc])) h
          clear hs ht h HI HS hab2
          go_enter Try.func7, Try.ntmps7
          go_wp2_with fail
          go_at_call 11
          refine (kf _).mono ?_
          rintro e w1 ⟨rfl, b1⟩
          have B1 := Lib.hid (b1)
          clear b1 kf
          go_wp2_with fail
          go_at_call 9
          refine (k1 _).mono ?_
          rintro e w2 ⟨rfl, b2⟩
          have B2 := Lib.hid (B1.out.next b2)
          clear b2 B1 k1
          go_wp2_with fail
          go_at_call 9
          refine (k2 _).mono ?_
          rintro e w3 ⟨rfl, b3⟩
          have B3 := Lib.hid (B2.out.next b3)
          clear b3 B2 k2
          go_wp2
          go_ret
          exact ⟨rfl, B3.out⟩
        · rw [decide_eq_false hab2] at hab
          clear hs ht h HI HS hab2
          go_enter Try.func7, Try.ntmps7
          go_wp2_with fail
          go_at_call 11
          refine (kf _).mono ?_
          rintro e w1 ⟨rfl, b1⟩
          have B1 := Lib.hid (b1)
          clear b1 kf
          go_wp2_with fail
          go_at_call 9
          refine (k1 _).mono ?_
          rintro e w2 ⟨rfl, b2⟩
          have B2 := Lib.hid (B1.out.next b2)
          clear b2 B1 k1
          go_wp2_with fail
          go_at_call 9
          refine (k2 _).mono ?_
          rintro e w3 ⟨rfl, b3⟩
          have B3 := Lib.hid (B2.out.next b3)
          clear b3 B2 k2
          go_wp2
          go_ret
          exact ⟨rfl, B3.out⟩
    · have zt : (((t.size : Nat) : Int) == 256) = false := by rw [beq_eq_false_iff_ne]; omega
      clear hs ht
      go_enter Try.func7, Try.ntmps7
      go_wp2_with fail
      go_at_call 11
      refine (kf _).mono ?_
      rintro e w1 ⟨rfl, b1⟩
      have B1 := Lib.hid (b1)
      clear b1
      go_wp2_with fail
      go_at_call 11
      refine (kf _).mono ?_
      rintro e w2 ⟨rfl, b2⟩
      have B2 := Lib.hid (B1.out.next b2)
      clear b2 B1 kf
      go_wp2
      go_ret
      exact ⟨rfl, B2.out⟩
  · have zs : (((s.size : Nat) : Int) == 256) = false := by rw [beq_eq_false_iff_ne]; omega
    clear hs
    go_enter Try.func7, Try.ntmps7
    go_wp2_with fail
    go_at_call 11
    refine (kf _).mono ?_
    rintro e w1 ⟨rfl, b1⟩
    have B1 := Lib.hid (b1)
    clear b1
    go_wp2_with fail
    go_at_call 11
    refine (kf _).mono ?_
    rintro e w2 ⟨rfl, b2⟩
    have B2 := Lib.hid (B1.out.next b2)
    clear b2 B1 kf
    go_wp2
    go_ret
    exact ⟨rfl, B2.out⟩
end Go.Proofs.Ythehjhckcblbdaa.Pk

