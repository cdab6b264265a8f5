/-
  codec.Decode of the developers: fillsUp, unpack, strings.Clone.
-/
import Derived.Test.YthehjhckcblbdaaCodDe
import Derived.Test.YthehjhckcblbdaaCodFar
import Derived.Test.YthehjhckcblbdaaShelf
namespace Go.Proofs.Ythehjhckcblbdaa.Pk
set_option maxRecDepth 100000
open Go.RowKit Go.Lib Mt Ma Mb
theorem none_true (l : List Bool) : (l.any fun y => true == y) = false ↔ l = List.replicate l.length false := by
  rw [List.eq_replicate_iff, List.any_eq_false]
  constructor
  · intro h
    refine ⟨rfl, fun y hy => ?_⟩
    have := h y hy
    cases y with
    | true => exact absurd rfl this
    | false => rfl
  · rintro ⟨_, h⟩ y hy
    rw [h y hy]; decide
theorem clone_any (s : ByteArray) (w : World) (hs : s.size ≤ 281474976710656) :
    Calls Try.prog 19 #[.string s] w fun e w' => e = .returned (.string s) ∧ Below w.heap.size w w' := by
  go_enter Try.func19, Try.ntmps19
  go_wp2_with (go_at_call 39; ((with_reducible refine (Try.stringslite_Clone s _ hs).mono ?_); rintro e w' ⟨rfl, hB⟩))
  go_ret
  exact ⟨rfl, hB⟩
/-- whether bits are such as fill up a byte -/
def fillsB (b : List Bool) : Bool := decide (b.length < 8) && !(b.any fun y => true == y)
theorem fillsB_iff (b : List Bool) : fillsB b = true ↔ b.length < 8 ∧ b = List.replicate b.length false := by
  unfold fillsB
  rw [Bool.and_eq_true, decide_eq_true_eq, Bool.not_eq_true', none_true]
theorem fills_code (b : List Bool) (n : Nat) (hn : b.length = n) (hl : n ≤ 281474976710656) (p : Option Addr) (cap : Nat) (w : World) (h : FlagsLie w p b cap) :
    Calls Try.prog 48 #[.slice p n cap] w fun e w' => e = .returned (.bool (fillsB b)) ∧ w' = w := by
  have hc := contains_bits b n hn hl true p cap w h
  by_cases h8 : n < 8
  · have hF : Hid (fillsB b = !(b.any fun y => true == y)) := by show _ = _; unfold fillsB; rw [decide_eq_true (by omega), Bool.true_and]
    have z8 : (n : Int) < 8 := by omega
    clear h h8 hn hl
    generalize (b.any fun y => true == y) = q at hc hF
    go_enter Try.func48, Try.ntmps48
    go_wp2_with (go_at_call 78; refine hc.mono ?_; rintro e w' ⟨rfl, rfl⟩)
    go_ret
    exact ⟨ret_bool hF.out.symm, rfl⟩
  · have hF : Hid (fillsB b = false) := by show _ = _; unfold fillsB; rw [decide_eq_false (by omega), Bool.false_and]
    have z8 : ¬ ((n : Int) < 8) := by omega
    clear h h8 hn hl hc
    go_enter Try.func48, Try.ntmps48
    go_wp2
    go_ret
    exact ⟨ret_bool hF.out.symm, rfl⟩
set_option maxHeartbeats 4000000 in
theorem unp_code (s : ByteArray) (w : World) (hs : s.size ≤ 3000) : Calls Try.prog 24 #[.string s] w fun e w' => e = .returned (told (decA s true)) ∧ Below w.heap.size w w' := by
  have HB0 := Lib.hid (Below.refl w.heap.size w)
  by_cases h924 : 924 < s.size
  · have hV : told (decA s true) = .tuple #[.string ⟨#[]⟩, .bool false] := by rw [dec_long h924]; rfl
    rw [hV]
    have zs : (924 : Int) < ((s.size : Nat) : Int) := by omega
    clear hV h924 hs
    go_enter Try.func24, Try.ntmps24
    go_wp2
    go_ret2
    exact ⟨rfl, HB0.out⟩
  have k1 := unpack_code s (by omega) w
  have hbl : (unpackL s.data.toList).length = 8 * s.size := by rw [unpackL_length, size_toList]
  have HK := Lib.hid (fun (q : Option Addr) (d : Nat) (w1 : World) (hl : FlagsLie w1 q (unpackL s.data.toList) d) => read_code (unpackL s.data.toList) (8 * s.size) 256 q d w1 hbl (by omega) hl)
  generalize hD : decA s true = D
  have HDn : Hid (decode (unpackL s.data.toList) 256 = none → D = none) := fun h => by
    rw [← hD]; unfold decA; rw [if_neg (by simp), h]
  have HDs := Lib.hid (fun (T : List Tok) (x : Nat) (h : decode (unpackL s.data.toList) 256 = some (T, x)) => show D = if fillsB ((unpackL s.data.toList).drop x) = true then Mt.expand 256 [] T else none by
    rw [← hD]; unfold decA; rw [if_neg (by simp), h]
    simp only
    have hi := fillsB_iff ((unpackL s.data.toList).drop x)
    rw [List.length_drop, hbl] at hi
    by_cases hf : fillsB ((unpackL s.data.toList).drop x) = true
    · rw [if_pos hf, if_pos (hi.1 hf)]
    · rw [if_neg hf, if_neg (fun h => hf (hi.2 h))])
  have HI : Hid (decodeI (unpackL s.data.toList) 256 = decode (unpackL s.data.toList) 256) := if_pos (by decide)
  obtain ⟨m, hm⟩ : ∃ m, m = 8 * s.size := ⟨_, rfl⟩
  rw [← hm] at HK
  rw [hbl, ← hm] at k1
  have Hbl : Hid ((unpackL s.data.toList).length = m) := by show _ = _; rw [hbl, hm]
  have zm : (m : Int) ≤ 24000 := by omega
  have zs : ((s.size : Nat) : Int) ≤ 924 := by omega
  clear hD hbl hm h924 hs
  generalize unpackL s.data.toList = b at *
  go_enter Try.func24, Try.ntmps24
  go_wp2_with fail
  go_at_call 46
  refine k1.mono ?_
  rintro e w1 ⟨q, d, rfl, hl, hb⟩
  have k2 := HK.out q d w1 hl
  rw [HI.out] at k2
  have HB1 := Lib.hid (HB0.out.next hb)
  have HL1 := Lib.hid hl
  clear k1 hl hb HK
  go_wp2_with fail
  go_at_call 47
  refine k2.mono ?_
  rintro e w2 ⟨hb2, hR⟩
  have HB2 := Lib.hid (HB1.out.next hb2)
  have HL2 := Lib.hid (HL1.out.below hb2)
  clear k2 hb2 HB1 HL1
  cases hd : decode b 256 with
  | none =>
    rw [hd] at hR
    obtain ⟨q2, c2, _, rfl⟩ := hR
    have HV := Lib.hid (HDn.out hd)
    clear hd
    go_wp2_with fail
    go_ret2
    exact ⟨by rw [HV.out]; rfl, HB2.out⟩
  | some r =>
    obtain ⟨T, x⟩ := r
    rw [hd] at hR
    obtain ⟨q2, c2, rfl, hT⟩ := hR
    have HD := Lib.hid (HDs.out T x hd)
    obtain ⟨_, hx9, hx, qq, hq1, hq2⟩ := decode_end hd
    have Hx9 := Lib.hid hx9
    rw [Hbl.out] at hx
    have hTl := expand_count hq1
    have HT := Lib.hid hT
    have zT : T.length ≤ 256 := by rw [hq2] at hTl; simpa using hTl
    have zx : (x : Int) ≤ m := by omega
    have Hx := Lib.hid hx
    have zd : (m : Int) ≤ d := by have := HL2.out.len; have := Hbl.out; omega
    have zdm : (d : Int) ≤ 9223372036854775807 := by have := HL2.out.cap; unfold maxLen at this; omega
    have k3 := fun w3 (hb3 : Below w2.heap.size w2 w3) => expand_code T T.length rfl (by omega) q2 c2 256 w3 (HT.out.below hb3)
    have K3 := Lib.hid k3
    clear hd hT hTl hq1 hq2 HDs HDn hx k3 hx9
    have k3 := K3.out w2 (Below.refl _ _)
    obtain ⟨blk, off, rfl, _⟩ := HL2.out.at (i := 0) (by rw [Hbl.out]; have := Hx9.out; omega)
    -- what b[end:] is, and what fillsUp tells of it
    obtain ⟨bx, hbx⟩ : ∃ z, z = b.drop x := ⟨_, rfl⟩
    rw [← hbx] at HD
    have hF : ∀ (p : Option Addr) (c : Nat), FlagsLie w2 p bx c → Calls Try.prog 48 #[.slice p (m - x) c] w2 fun e w' => e = .returned (.bool (fillsB bx)) ∧ w' = w2 := fun p c hc => fills_code bx (m - x) (by rw [hbx, List.length_drop, Hbl.out]) (by omega) p c w2 hc
    have Hbx := Lib.hid hbx
    clear hbx
    have HF := Lib.hid hF
    clear hF
    generalize fillsB bx = F at HD HF
    by_cases hdx : x < d
    · have hdrop : FlagsLie w2 (some ⟨blk, off + x, none⟩) bx (d - x) := by
        by_cases hxm : x < m
        · obtain ⟨blk2, off2, e2, hd2⟩ := FlagsLie.drop HL2.out (x := x) (by rw [Hbl.out]; exact hxm)
          cases e2
          rw [Hbx.out]; exact hd2
        · have e0 : bx = [] := by rw [Hbx.out]; exact List.drop_eq_nil_of_le (by rw [Hbl.out]; omega)
          rw [e0]
          exact ⟨Nat.zero_le _, by have := HL2.out.cap; omega, .inr ⟨blk, off + x, rfl, fun i hi => absurd hi (Nat.not_lt_zero i)⟩⟩
      have kf := HF.out _ _ hdrop
      have zdx : (x : Int) < d := by omega
      clear hdrop HF
      cases F with
      | false =>
        have HV : Hid (D = none) := HD.out.trans (if_neg (by decide))
        go_wp2_with fail
        go_at_call 48
        refine kf.mono ?_
        rintro e w3 ⟨rfl, rfl⟩
        go_wp2_with fail
        go_ret2
        exact ⟨by rw [HV.out]; rfl, HB2.out⟩
      | true =>
        have HV : Hid (D = Mt.expand 256 [] T) := HD.out.trans (if_pos rfl)
        rw [← HV.out] at k3
        go_wp2_with fail
        go_at_call 48
        refine kf.mono ?_
        rintro e w3 ⟨rfl, rfl⟩
        cases D with
        | none =>
          go_wp2_with fail
          go_at_call 49
          refine k3.mono ?_
          rintro e w4 ⟨rfl, hb3⟩
          have HB3 := Lib.hid (HB2.out.next hb3)
          clear k3 hb3
          unfold told
          go_wp2
          go_ret2
          exact ⟨rfl, HB3.out⟩
        | some r =>
          go_wp2_with fail
          go_at_call 49
          refine k3.mono ?_
          rintro e w4 ⟨rfl, hb3⟩
          have HB3 := Lib.hid (HB2.out.next hb3)
          clear k3 hb3
          unfold told
          go_wp2
          go_ret2
          exact ⟨rfl, HB3.out⟩
    · have e : x = d := by have := HL2.out.len; have := Hbl.out; have := Hx.out; omega
      have em : m = d := by have := HL2.out.len; have := Hbl.out; have := Hx.out; omega
      have e0 : bx = [] := by rw [Hbx.out]; exact List.drop_eq_nil_of_le (by rw [Hbl.out]; omega)
      have kf := HF.out (some ⟨blk, off, none⟩) 0 (by rw [e0]; exact ⟨Nat.zero_le _, Nat.zero_le _, .inr ⟨blk, off, rfl, fun i hi => absurd hi (Nat.not_lt_zero i)⟩⟩)
      rw [show m - x = 0 by omega] at kf
      clear e0 HF
      subst e
      subst em
      cases F with
      | false =>
        have HV : Hid (D = none) := HD.out.trans (if_neg (by decide))
        go_wp2_with fail
        go_at_call 48
        refine kf.mono ?_
        rintro e w3 ⟨rfl, rfl⟩
        go_wp2_with fail
        go_ret2
        exact ⟨by rw [HV.out]; rfl, HB2.out⟩
      | true =>
        have HV : Hid (D = Mt.expand 256 [] T) := HD.out.trans (if_pos rfl)
        rw [← HV.out] at k3
        go_wp2_with fail
        go_at_call 48
        refine kf.mono ?_
        rintro e w3 ⟨rfl, rfl⟩
        cases D with
        | none =>
          go_wp2_with fail
          go_at_call 49
          refine k3.mono ?_
          rintro e w4 ⟨rfl, hb3⟩
          have HB3 := Lib.hid (HB2.out.next hb3)
          clear k3 hb3
          unfold told
          go_wp2
          go_ret2
          exact ⟨rfl, HB3.out⟩
        | some r =>
          go_wp2_with fail
          go_at_call 49
          refine k3.mono ?_
          rintro e w4 ⟨rfl, hb3⟩
          have HB3 := Lib.hid (HB2.out.next hb3)
          clear k3 hb3
          unfold told
          go_wp2
          go_ret2
          exact ⟨rfl, HB3.out⟩
end Go.Proofs.Ythehjhckcblbdaa.Pk
