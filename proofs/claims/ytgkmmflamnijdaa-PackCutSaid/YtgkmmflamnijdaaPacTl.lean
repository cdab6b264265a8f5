/-
  The law PackTells, from what the package owes.
-/
import Derived.Test.YtgkmmflamnijdaaPacBk
namespace Go.Proofs.Ytgkmmflamnijdaa.Pk
set_option maxRecDepth 100000
open Go.RowKit Mt Ma Mb Cn Go.Lib
theorem told_many {most : Int} : ∀ {T : List Tok} {o q : List UInt8}, expand most o T = some q → o.length + T.length ≤ q.length
  | [], o, q, h => by cases h; simp
  | t :: T, o, q, h => by
    unfold expand at h
    split at h
    · rename_i hc
      have h1 := told_many h
      rw [add_length] at h1
      have h2 : 1 ≤ many1 t := by
        rcases Pk.may_two hc.1 with ⟨x, hx, rfl⟩ | ⟨d, n, _, _, h3, _, rfl⟩
        · exact Nat.le_refl _
        · have : ¬ (n : Int) = 0 := by omega
          simp only [many1, if_neg this]; simp; omega
      rw [List.length_cons]; omega
    · cases h
theorem take_lie {w : World} {p : Option Addr} {b : List Bool} {d x : Nat} (h : FlagsLie w p b d) (hx : x ≤ b.length) : FlagsLie w p (b.take x) d := by
  refine ⟨by rw [List.length_take]; have := h.len; omega, h.cap, ?_⟩
  rcases h.lies with rfl | ⟨blk, off, e, k⟩
  · exact .inl (by simp)
  · refine .inr ⟨blk, off, e, fun i hi => ?_⟩
    rw [List.length_take] at hi
    rw [k i (by omega), List.getD_eq_getElem?_getD, List.getD_eq_getElem?_getD, List.getElem?_take, if_pos (by omega)]
theorem upto_take {b more : List Bool} {x : Nat} (hx : x ≤ b.length) : Upto b (b.take x ++ more) x := by
  refine ⟨hx, by rw [List.length_append, List.length_take]; omega, ?_⟩
  rw [List.take_append_of_le_length (by rw [List.length_take]; omega), List.take_take, Nat.min_self]
set_option maxHeartbeats 8000000 in
theorem tells_any (S : SpecK) (b : List Bool) (k : Nat) (many : Int) (p : Option Addr) (d : Nat) (w : World) (hb : b.length = k) (hk : k ≤ 281474976710656) (h : FlagsLie w p b d)
    (more : List Bool) (m : Nat) (hm : more.length = m) (hml : m ≤ 281474976710656) (p2 : Option Addr) (d2 : Nat) (h2 : FlagsLie w p2 more d2) (hp2 : p2 = none → d2 = 0) :
    Calls Try.prog 6 #[.slice p k d, .int .i64 many, .slice p2 m d2] w fun e w' => e = .returned (.bool true) ∧ Below w.heap.size w w' := by
  have kf := fun w => fixed_any S w
  have k1 := S.read b k many p d w hb hk h
  have zd : (k : Int) ≤ d := by have := h.len; omega
  have zm : (m : Int) ≤ d2 := by have := h2.len; omega
  have zk : (k : Int) ≤ 281474976710656 := by omega
  have zm2 : (m : Int) ≤ 281474976710656 := by omega
  have HF := Lib.hid h
  have H2 := Lib.hid h2
  have Hb := Lib.hid hb
  have Hm := Lib.hid hm
  replace hp2 := Lib.hid hp2
  clear h h2 hb hm
  generalize hR : decodeI b many = R at k1
  cases R with
  | none =>
    clear hR
    go_enter Try.func6, Try.ntmps6
    go_wp2_with fail
    go_at_call 15
    refine k1.mono ?_
    rintro e w1 ⟨hb1, q1, c1, _, rfl⟩
    have B1 := Lib.hid hb1
    clear k1 hb1
    go_wp2_with fail
    go_at_call 9
    refine (kf _).mono ?_
    rintro e w2 ⟨rfl, hb2⟩
    have B2 := Lib.hid (B1.out.next hb2)
    clear hb2 B1
    go_wp2_with fail
    go_at_call 9
    refine (kf _).mono ?_
    rintro e w3 ⟨rfl, hb3⟩
    have B3 := Lib.hid (B2.out.next hb3)
    clear hb3 B2 kf
    go_wp2
    go_ret
    exact ⟨rfl, B3.out⟩
  | some r =>
    obtain ⟨T, x⟩ := r
    have hmany : 0 ≤ many := by
      by_cases h0 : 0 ≤ many
      · exact h0
      · unfold decodeI at hR; rw [if_neg h0] at hR; cases hR
    obtain ⟨n, rfl⟩ : ∃ n : Nat, many = n := ⟨many.toNat, by omega⟩
    have hdc : decode b n = some (T, x) := by
      unfold decodeI at hR; rw [if_pos hmany, Int.toNat_natCast] at hR; exact hR
    obtain ⟨hn, hx9, hxb, q, hq, hqn⟩ := decode_end hdc
    have hTn := told_many hq
    simp only [List.length_nil, Nat.zero_add, hqn] at hTn
    rw [Hb.out] at hxb
    have hup : decodeI (b.take x ++ more) (n : Int) = some (T, x) := by
      unfold decodeI; rw [if_pos hmany, Int.toNat_natCast]
      exact decode_upto hdc (upto_take (by rw [Hb.out]; exact hxb))
    obtain ⟨t, ht⟩ : ∃ t, T.length = t := ⟨_, rfl⟩
    unfold ReadB at k1
    simp only [ht] at k1
    rw [ht] at hTn
    have zx : (x : Int) ≤ k := by omega
    have zx9 : (9 : Int) ≤ x := by omega
    have Ht := Lib.hid ht
    clear hR hdc ht hmany
    have arm : 5000 < k ∨ (k ≤ 5000 ∧ 1000 < m) ∨ (k ≤ 5000 ∧ m ≤ 1000) := by omega
    rcases arm with a1 | ⟨a1, a2⟩ | ⟨a1, a2⟩
    case inr.inr =>
      obtain ⟨s, hs⟩ : ∃ s : ByteArray, s = ⟨q.toArray⟩ := ⟨_, rfl⟩
      have hsz : s.size = n := by subst hs; rw [← hqn]; simp [ByteArray.size]
      obtain ⟨ib, hib, hy0, hy1, hy2⟩ := info_parts infoBool
      have z1 : (k : Int) ≤ 5000 := by omega
      have z2 : (m : Int) ≤ 1000 := by omega
      have zn : (n : Int) ≤ 1000 := by omega
      have zt : (t : Int) ≤ 1000 := by omega
      have hts : told (some q) = Value.tuple #[.string s, .bool true] := by rw [hs]; rfl
      have zsz : (s.size : Int) = n := by omega
      go_enter Try.func6, Try.ntmps6
      go_wp2_with fail
      go_at_call 15
      refine k1.mono ?_
      rintro e w1 ⟨hb1, q1, c1, rfl, hT1⟩
      have B1 := Lib.hid hb1
      have T1 := Lib.hid hT1
      clear k1 hb1 hT1 hs
      go_wp2_with fail
      go_at_call 9
      refine (kf _).mono ?_
      rintro e w2 ⟨rfl, hb2⟩
      have B2 := Lib.hid (B1.out.next hb2)
      have T2 := Lib.hid (T1.out.below hb2)
      have ke := expand_all T t Ht.out q1 c1 n (by omega) w2 (by omega) T2.out
      rw [hq, hts] at ke
      have ztc : (t : Int) ≤ c1 := by have := T1.out.len; rw [Ht.out] at this; omega
      clear hb2 B1 T1 kf hts
      go_wp2_with fail
      go_at_call 18
      refine ke.mono ?_
      rintro e w3 ⟨rfl, hb3⟩
      have B3 := Lib.hid (B2.out.next hb3)
      have T3 := Lib.hid (T2.out.below hb3)
      clear hb3 ke B2 T2
      have HF3 := Lib.hid (take_lie (HF.out.below B3.out) (by rw [Hb.out]; exact hxb))
      have hlx : (b.take x).length = x := by rw [List.length_take, Hb.out]; omega
      obtain ⟨b5, o5, rfl, _⟩ := HF3.out.at (i := 0) (by rw [hlx]; omega)
      generalize b.take x = X at *
      have HR := Lib.hid (FRow.made w3)
      have o1 := HR.out.own
      have o2 := flags_news (HF3.out.below ((Below.refl w3.heap.size w3).alloc (Nat.le_refl _) (.cells #[] 4)))
      have o3 : w3.heap.size ≤ (w3.alloc (.cells #[] 4)).heap.size := by simp
      have o4 : (flv X).length = x * 1 := by rw [flv_length, hlx]; omega
      go_wp2_with (with_reducible refine stop_append ?_)
      unfold Stop
      refine wpList_append_own _ rfl _ _ 25 rfl w3.heap.size 4 ib (.bool false) 1 1 Try.underlying25 hib hy0 hy1 hy2 rfl (by decide) _ 0 [] rfl o1 ⟨b5, o5, none⟩ x d (flv X) rfl o4 o2 (flv_one _) (by unfold maxLen; omega) (by omega) o3 ?_
      intro v1 w4 own1 gr1 nn1
      obtain ⟨g1, c4, hv, R4⟩ := HR.out.more (m := X) (Below.refl _ _) (by rw [hlx]; simpa [flv] using own1) gr1 (fun e => by
        have h : Value.slice (some ⟨w3.heap.size, 0, none⟩) 0 0 = .slice none 0 0 := (nn1.1 e).1
        cases h)
      simp only [List.length_nil, Nat.zero_add, List.nil_append, hlx] at hv R4
      subst hv
      have ho := R4.own
      rw [hlx] at ho
      have o5 : w3.heap.size ≤ w4.heap.size := R4.size
      cases p2 with
      | none =>
        have hc0 := hp2.out rfl
        have hm0 : m = 0 := by omega
        have hmm : more = [] := List.length_eq_zero_iff.1 (by rw [Hm.out]; exact hm0)
        subst hc0 hm0 hmm
        rw [List.append_nil] at hup
        clear own1 gr1 nn1 o1 o2 o3 o4
        go_wp2_with (with_reducible refine stop_append ?_)
        unfold Stop
        refine wpList_append_own_none rfl _ _ 25 rfl w3.heap.size 4 ib 1 Try.underlying25 hib _ x (flv X) rfl ho rfl ?_
        obtain ⟨w5, rfl⟩ : ∃ w5, w5 = w4 := ⟨_, rfl⟩
        have R5 := R4
        clear R4 ho HR HF3
        replace R5 := Lib.hid R5
        have hr := S.read (X) x (n : Int) (some ⟨g1, 0, none⟩) c4 w5 (hlx) (by omega) R5.out.lies
        rw [hup] at hr
        unfold ReadB at hr
        simp only [Ht.out] at hr
        have B5 := Lib.hid (B3.out.next R5.out.below)
        have T5 := Lib.hid (T3.out.below R5.out.below)
        clear R5 B3 hup
        go_wp2_with fail
        go_at_call 15
        refine hr.mono ?_
        rintro e w6 ⟨hb6, q6, c6, rfl, t2⟩
        have B6 := Lib.hid (B5.out.next hb6)
        have t1 := T5.out.below hb6
        have ksm := toks_same T T t t Ht.out Ht.out (by omega) (by omega) q1 q6 c1 c6 w6 t1 t2
        rw [decide_eq_true rfl] at ksm
        clear hr hb6 B5 t1 t2
        go_wp2_with fail
        go_at_call 17
        refine ksm.mono ?_
        rintro e w7 ⟨rfl, hb7⟩
        have B7 := Lib.hid (B6.out.next hb7)
        clear hb7 B6 ksm
        go_wp2
        go_ret
        exact ⟨rfl, B7.out⟩
      | some a =>
        have H24 := H2.out.below (B3.out.next R4.below)
        have o6 := flags_news H24
        have o7 : (flv more).length = m * 1 := by rw [flv_length, Hm.out]; omega
        clear own1 gr1 nn1 o1 o2 o3 o4 H24
        go_wp2_with (with_reducible refine stop_append ?_)
        unfold Stop
        refine wpList_append_own _ rfl _ _ 25 rfl w3.heap.size 4 ib (.bool false) 1 1 Try.underlying25 hib hy0 hy1 hy2 rfl (by decide) _ x (flv X) rfl ho a m d2 (flv more) rfl o7 o6 (flv_one _) (by unfold maxLen; omega) (by omega) o5 ?_
        intro v2 w5 own2 gr2 nn2
        obtain ⟨g2, c3, hv, R5⟩ := R4.more (m := more) (Below.refl _ _) (by rw [hlx, Hm.out]; exact own2) (by rw [hlx]; exact gr2) (fun e => by
          have h : Value.slice (some ⟨g1, 0, none⟩) x c4 = .slice none 0 0 := (nn2.1 e).1
          cases h)
        rw [hlx, Hm.out] at hv
        subst hv
        clear own2 gr2 nn2 ho o5 o6 o7 R4 HR HF3
        replace R5 := Lib.hid R5
        have hr := S.read (X ++ more) (x + m) (n : Int) (some ⟨g2, 0, none⟩) c3 w5 (by rw [List.length_append, hlx, Hm.out]) (by omega) R5.out.lies
        rw [hup] at hr
        unfold ReadB at hr
        simp only [Ht.out] at hr
        have B5 := Lib.hid (B3.out.next R5.out.below)
        have T5 := Lib.hid (T3.out.below R5.out.below)
        clear R5 B3 hup
        go_wp2_with fail
        go_at_call 15
        refine hr.mono ?_
        rintro e w6 ⟨hb6, q6, c6, rfl, t2⟩
        have B6 := Lib.hid (B5.out.next hb6)
        have t1 := T5.out.below hb6
        have ksm := toks_same T T t t Ht.out Ht.out (by omega) (by omega) q1 q6 c1 c6 w6 t1 t2
        rw [decide_eq_true rfl] at ksm
        clear hr hb6 B5 t1 t2
        go_wp2_with fail
        go_at_call 17
        refine ksm.mono ?_
        rintro e w7 ⟨rfl, hb7⟩
        have B7 := Lib.hid (B6.out.next hb7)
        clear hb7 B6 ksm
        go_wp2
        go_ret
        exact ⟨rfl, B7.out⟩
    all_goals
      go_enter Try.func6, Try.ntmps6
      go_wp2_with fail
      go_at_call 15
      refine k1.mono ?_
      rintro e w1 ⟨hb1, q1, c1, rfl, hT1⟩
      have B1 := Lib.hid hb1
      clear k1 hb1 hT1
      go_wp2_with fail
      go_at_call 9
      refine (kf _).mono ?_
      rintro e w2 ⟨rfl, hb2⟩
      have B2 := Lib.hid (B1.out.next hb2)
      clear hb2 B1
      go_wp2_with fail
      go_at_call 9
      refine (kf _).mono ?_
      rintro e w3 ⟨rfl, hb3⟩
      have B3 := Lib.hid (B2.out.next hb3)
      clear hb3 B2 kf
      go_wp2
      go_ret
      exact ⟨rfl, B3.out⟩
end Go.Proofs.Ytgkmmflamnijdaa.Pk
