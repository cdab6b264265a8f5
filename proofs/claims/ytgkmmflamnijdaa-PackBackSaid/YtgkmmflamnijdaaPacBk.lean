/-
  The law PackBack, from what the package owes.
-/
import Derived.Test.YtgkmmflamnijdaaPacWs
namespace Go.Proofs.Ytgkmmflamnijdaa.Pk
set_option maxRecDepth 100000
open Go.RowKit Mt Ma Mb Cn Go.Lib
theorem told_le {T : List Tok} {q : List UInt8} (h : expand 1000 [] T = some q) : q.length ≤ 1000 := by
  by_cases e : T = []
  · subst e
    cases h
    exact Nat.zero_le _
  · have := Mt.expand_most 1000 T [] q h e
    omega
theorem enc_le {T : List Tok} {n : Nat} (hn : T.length = n) (h : n ≤ 300) : 9 ≤ (encode T).length ∧ (encode T).length ≤ 11000 := by
  have e : encode T = dig (manyS (lensT T) 0 272) 9 ++ (headFrom (lensT T) 0 272 ++ body (lensT T) T) := rfl
  have h1 := head_le (lensT T) 272
  have h2 := body_le (lensT_ok T).2.1 T
  rw [e, List.length_append, List.length_append, dig_length]
  omega
theorem may_told {T : List Tok} {n : Nat} (hn : T.length = n) (h : n ≤ 1000) {most : Int} {q : List UInt8} (he : expand most [] T = some q) : mayW T = true := by
  unfold mayW
  rw [hn, decide_eq_true h, Bool.true_and]
  exact List.all_eq_true.2 fun t ht => expand_may he t ht
set_option maxHeartbeats 8000000 in
theorem back_any (S : SpecK) (T : List Tok) (n : Nat) (p : Option Addr) (c : Nat) (w : World) (hn : T.length = n) (hnl : n ≤ 281474976710656) (h : ToksLie w p T c)
    (more : List Bool) (k : Nat) (hk : more.length = k) (hkl : k ≤ 281474976710656) (p2 : Option Addr) (c2 : Nat) (h2 : FlagsLie w p2 more c2) (hp2 : p2 = none → c2 = 0) :
    Calls Try.prog 5 #[.slice p n c, .slice p2 k c2] w fun e w' => e = .returned (.bool true) ∧ Below w.heap.size w w' := by
  have kf := fun w => fixed_any S w
  have k0 := expand_all T n hn p c 1000 (by decide) w hnl h
  have k1 := fun w1 (h1 : Below w.heap.size w w1) => S.write T n p c w1 hn hnl (h.below h1)
  have zc : (n : Int) ≤ c := by have := h.len; omega
  have zk : (k : Int) ≤ c2 := by have := h2.len; omega
  have zn : (n : Int) ≤ 281474976710656 := by omega
  have zkl : (k : Int) ≤ 281474976710656 := by omega
  have HL := Lib.hid h
  have H2 := Lib.hid h2
  have Hn := Lib.hid hn
  have Hk := Lib.hid hk
  replace hp2 := Lib.hid hp2
  clear h h2 hn hk
  generalize hR : expand 1000 [] T = R at k0
  have arm : R = none ∨ (∃ q, R = some q ∧ 300 < n) ∨ (∃ q, R = some q ∧ n ≤ 300 ∧ 1000 < k) ∨ (∃ q, R = some q ∧ n ≤ 300 ∧ k ≤ 1000) := by
    cases R with
    | none => exact .inl rfl
    | some q =>
      by_cases h1 : 300 < n
      · exact .inr (.inl ⟨q, rfl, h1⟩)
      · by_cases h2 : 1000 < k
        · exact .inr (.inr (.inl ⟨q, rfl, by omega, h2⟩))
        · exact .inr (.inr (.inr ⟨q, rfl, by omega, by omega⟩))
  have ws : ∀ {e : Ending} {w' : World}, WriteB T e w' → ∃ v ok, e = .returned (.tuple #[v, .bool ok]) := by
    intro e w' hh
    rcases hh with ⟨_, q, d, rfl, _⟩ | ⟨_, q, d, _, rfl⟩ <;> exact ⟨_, _, rfl⟩
  go_enter Try.func5, Try.ntmps5
  go_wp2_with fail
  go_at_call 18
  refine k0.mono ?_
  rintro e w1 ⟨rfl, hb1⟩
  have h4 := k1 w1 hb1
  have B1 := Lib.hid hb1
  clear k0 k1 hb1
  rcases arm with rfl | ⟨q, rfl, a1⟩ | ⟨q, rfl, a1, a2⟩ | ⟨q, rfl, a1, a2⟩
  case inr.inr.inr =>
    have hmay := may_told Hn.out (by omega) hR
    obtain ⟨hl9, hl11⟩ := enc_le Hn.out a1
    have hq := told_le hR
    have hdec : decodeI (encode T ++ more) (q.length : Int) = some (T, (encode T).length) := by
      unfold decodeI
      rw [if_pos (by omega), Int.toNat_natCast]
      exact decode_encode (Pk.expand_room hR) rfl hq more
    obtain ⟨s, hs⟩ : ∃ s : ByteArray, s = ⟨q.toArray⟩ := ⟨_, rfl⟩
    have hsz : s.size = q.length := by subst hs; simp [ByteArray.size]
    rw [show told (some q) = Value.tuple #[.string ⟨q.toArray⟩, .bool true] from rfl, ← hs]
    rw [← hsz] at hdec
    have zs : (s.size : Int) ≤ 1000 := by omega
    have z1 : (n : Int) ≤ 300 := by omega
    have z2 : (k : Int) ≤ 1000 := by omega
    obtain ⟨ib, hib, hy0, hy1, hy2⟩ := info_parts infoBool
    clear hs hsz hq hR
    go_wp2_with fail
    go_at_call 10
    refine h4.mono ?_
    rintro e w2 ⟨hb2, ha⟩
    obtain ⟨q1, d1, rfl, hF⟩ : ∃ q d, e = .returned (.tuple #[.slice q (encode T).length d, .bool true]) ∧ FlagsLie w2 q (encode T) d := by
      rcases ha with ⟨_, h⟩ | ⟨h, _⟩
      · exact h
      · rw [hmay] at h; cases h
    have B2 := Lib.hid (B1.out.next hb2)
    have HF := Lib.hid hF
    clear h4 ha hb2 B1 hF ws
    generalize hX : encode T = X at *
    generalize hLL : X.length = L at *
    go_wp2_with fail
    go_at_call 9
    refine (kf _).mono ?_
    rintro e w3 ⟨rfl, hb3⟩
    have B3 := Lib.hid (B2.out.next hb3)
    have HF3 := Lib.hid (HF.out.below hb3)
    clear kf hb3 B2 HF
    obtain ⟨b5, o5, rfl, _⟩ := HF3.out.at (i := 0) (by rw [hLL]; omega)
    have HR := Lib.hid (FRow.made w3)
    have o1 := HR.out.own
    have o2 := flags_news (HF3.out.below ((Below.refl w3.heap.size w3).alloc (Nat.le_refl _) (.cells #[] 4)))
    have o3 : w3.heap.size ≤ (w3.alloc (.cells #[] 4)).heap.size := by simp
    have o4 : (flv X).length = L * 1 := by rw [flv_length, hLL]; omega
    go_wp2_with (with_reducible refine stop_append ?_)
    unfold Stop
    refine wpList_append_own _ rfl _ _ 25 rfl w3.heap.size 4 ib (.bool false) 1 1 Try.underlying25 hib hy0 hy1 hy2 rfl (by decide) _ 0 [] rfl o1 ⟨b5, o5, none⟩ L d1 (flv X) rfl o4 o2 (flv_one _) (by unfold maxLen; omega) (by omega) o3 ?_
    intro v1 w4 own1 gr1 nn1
    obtain ⟨g1, c1, hv, R4⟩ := HR.out.more (m := X) (Below.refl _ _) (by rw [hLL]; simpa [flv] using own1) gr1 (fun e => by
      have h : Value.slice (some ⟨w3.heap.size, 0, none⟩) 0 0 = .slice none 0 0 := (nn1.1 e).1
      cases h)
    simp only [List.length_nil, Nat.zero_add, List.nil_append, hLL] at hv R4
    subst hv
    have ho := R4.own
    rw [hLL] at ho
    have o5 : w3.heap.size ≤ w4.heap.size := R4.size
    cases p2 with
    | none =>
      have hc0 := hp2.out rfl
      have hk0 : k = 0 := by omega
      have hm0 : more = [] := List.length_eq_zero_iff.1 (by rw [Hk.out]; exact hk0)
      subst hc0 hk0 hm0
      rw [List.append_nil] at hdec
      clear own1 gr1 nn1 o1 o2 o3 o4
      go_wp2_with (with_reducible refine stop_append ?_)
      unfold Stop
      refine wpList_append_own_none rfl _ _ 25 rfl w3.heap.size 4 ib 1 Try.underlying25 hib _ L (flv X) rfl ho rfl ?_
      obtain ⟨w5, rfl⟩ : ∃ w5, w5 = w4 := ⟨_, rfl⟩
      have R5 := R4
      clear R4 ho HR HF3
      replace R5 := Lib.hid R5
      have hr := S.read (X) L (s.size : Int) (some ⟨g1, 0, none⟩) c1 w5 (hLL) (by omega) R5.out.lies
      rw [hdec] at hr
      unfold ReadB at hr
      simp only [Hn.out] at hr
      have B5 := Lib.hid (B3.out.next R5.out.below)
      clear R5 B3 hdec
      go_wp2_with fail
      go_at_call 15
      refine hr.mono ?_
      rintro e w6 ⟨hb6, q6, c6, rfl, t2⟩
      have B6 := Lib.hid (B5.out.next hb6)
      have t1 := HL.out.below B6.out
      have ksm := toks_same T T n n Hn.out Hn.out (by omega) (by omega) p q6 c c6 w6 t1 t2
      rw [decide_eq_true rfl] at ksm
      clear hr hb6 B5 t1 t2
      go_wp2_with fail
      go_at_call 17
      refine ksm.mono ?_
      rintro e w7 ⟨rfl, hb7⟩
      have B7 := Lib.hid (B6.out.next hb7)
      clear hb7 B6 ksm
      go_wp2
      go_ret
      exact ⟨rfl, B7.out⟩
    | some a =>
      have H24 := H2.out.below (B3.out.next R4.below)
      have o6 := flags_news H24
      have o7 : (flv more).length = k * 1 := by rw [flv_length, Hk.out]; omega
      clear own1 gr1 nn1 o1 o2 o3 o4 H24
      go_wp2_with (with_reducible refine stop_append ?_)
      unfold Stop
      refine wpList_append_own _ rfl _ _ 25 rfl w3.heap.size 4 ib (.bool false) 1 1 Try.underlying25 hib hy0 hy1 hy2 rfl (by decide) _ L (flv X) rfl ho a k c2 (flv more) rfl o7 o6 (flv_one _) (by unfold maxLen; omega) (by omega) o5 ?_
      intro v2 w5 own2 gr2 nn2
      obtain ⟨g2, c3, hv, R5⟩ := R4.more (m := more) (Below.refl _ _) (by rw [hLL, Hk.out]; exact own2) (by rw [hLL]; exact gr2) (fun e => by
        have h : Value.slice (some ⟨g1, 0, none⟩) L c1 = .slice none 0 0 := (nn2.1 e).1
        cases h)
      rw [hLL, Hk.out] at hv
      subst hv
      clear own2 gr2 nn2 ho o5 o6 o7 R4 HR HF3
      replace R5 := Lib.hid R5
      have hr := S.read (X ++ more) (L + k) (s.size : Int) (some ⟨g2, 0, none⟩) c3 w5 (by rw [List.length_append, hLL, Hk.out]) (by omega) R5.out.lies
      rw [hdec] at hr
      unfold ReadB at hr
      simp only [Hn.out] at hr
      have B5 := Lib.hid (B3.out.next R5.out.below)
      clear R5 B3 hdec
      go_wp2_with fail
      go_at_call 15
      refine hr.mono ?_
      rintro e w6 ⟨hb6, q6, c6, rfl, t2⟩
      have B6 := Lib.hid (B5.out.next hb6)
      have t1 := HL.out.below B6.out
      have ksm := toks_same T T n n Hn.out Hn.out (by omega) (by omega) p q6 c c6 w6 t1 t2
      rw [decide_eq_true rfl] at ksm
      clear hr hb6 B5 t1 t2
      go_wp2_with fail
      go_at_call 17
      refine ksm.mono ?_
      rintro e w7 ⟨rfl, hb7⟩
      have B7 := Lib.hid (B6.out.next hb7)
      clear hb7 B6 ksm
      go_wp2
      go_ret
      exact ⟨rfl, B7.out⟩
  all_goals
    first
      | rw [show told none = Value.tuple #[.string ⟨#[]⟩, .bool false] from rfl]
      | (rw [show told (some q) = Value.tuple #[.string ⟨q.toArray⟩, .bool true] from rfl]; generalize (⟨q.toArray⟩ : ByteArray) = s)
    go_wp2_with fail
    go_at_call 10
    refine h4.mono ?_
    rintro e w2 ⟨hb2, ha⟩
    obtain ⟨v, ok, rfl⟩ := ws ha
    have B2 := Lib.hid (B1.out.next hb2)
    clear h4 ha hb2 B1 ws
    go_wp2_with fail
    go_at_call 9
    refine (kf _).mono ?_
    rintro e w3 ⟨rfl, hb3⟩
    have B3 := Lib.hid (B2.out.next hb3)
    clear hb3 B2
    go_wp2_with fail
    go_at_call 9
    refine (kf _).mono ?_
    rintro e w4 ⟨rfl, hb4⟩
    have B4 := Lib.hid (B3.out.next hb4)
    clear hb4 B3 kf
    go_wp2
    go_ret
    exact ⟨rfl, B4.out⟩
end Go.Proofs.Ytgkmmflamnijdaa.Pk
