/-
  The document's Encode, Decode, Sectors.
-/
import Derived.Test.YthehjhckcblbdaaCodM
import Derived.Test.YthehjhckcblbdaaCodSd
import Derived.Test.YthehjhckcblbdaaCodPk
import Derived.Test.YthehjhckcblbdaaCodUn
import Derived.Test.YthehjhckcblbdaaPacWr
namespace Go.Proofs.Ythehjhckcblbdaa.Pk
set_option maxRecDepth 100000
open Go.RowKit Go.Lib Mt Ma Mb
theorem sec_doc (n : Int) (_hn : -9223372036854775808 ≤ n) (hn2 : n ≤ 9223372036854775807) (w : World) : Calls Try.prog 13 #[.int .i64 n] w fun e w' => e = .returned (.int .i64 (secI n)) ∧ w' = w := by
  by_cases h : n ≤ 0
  · have hs : secI n = 0 := if_pos h
    rw [hs]
    clear hs
    go_enter Try.func13, Try.ntmps13
    go_wp2
    go_ret
    exact ⟨rfl, rfl⟩
  · have hs : secI n = (n - 1) / 32 + 1 := if_neg h
    rw [hs]
    have h1 : 1 ≤ n := by omega
    clear hs
    have e1 : wrap64 (n - 1) = n - 1 := by unfold wrap64; omega
    have e2 : (n - 1).tdiv 32 = (n - 1) / 32 := Int.tdiv_eq_ediv_of_nonneg (by omega)
    have e3 : wrap64 ((n - 1) / 32) = (n - 1) / 32 := by unfold wrap64; omega
    have e4 : wrap64 ((n - 1) / 32 + 1) = (n - 1) / 32 + 1 := by unfold wrap64; omega
    go_enter Try.func13, Try.ntmps13
    go_wp2
    go_ret
    exact ⟨rfl, rfl⟩
/-- what Encode answers -/
def encV (s : ByteArray) : Value := if s.size = 256 then .tuple #[.string (encA s).1, .bool (encA s).2, .bool true] else .tuple #[.string ⟨#[]⟩, .bool false, .bool false]
theorem mayW_split (s : ByteArray) (h : s.size = 256) : mayW (splitS s) = true := by
  unfold mayW
  rw [Bool.and_eq_true, decide_eq_true_eq, List.all_eq_true]
  exact ⟨by have := splitS_length s; omega, splitS_may s⟩
theorem encode_le (s : ByteArray) (h : s.size = 256) : (encode (splitS s)).length ≤ 1000000 := by
  have h1 := head_le (lensT (splitS s)) 272
  have h2 := body_le (l := lensT (splitS s)) (fun i => (lensT_ok (splitS s)).2.1 i) (splitS s)
  have h3 := splitS_length s
  unfold encode
  rw [List.length_append, List.length_append, dig_length]
  omega
set_option maxHeartbeats 2000000 in
theorem enc_doc (s : ByteArray) (w : World) : Calls Try.prog 10 #[.string s] w fun e w' => e = .returned (encV s) ∧ Below w.heap.size w w' := by
  by_cases h : s.size = 256
  · have hV : encV s = .tuple #[.string (encA s).1, .bool (encA s).2, .bool true] := if_pos h
    rw [hV]
    have k1 := split_doc s w (by omega)
    have HK := Lib.hid (fun (p : Option Addr) (c : Nat) (w1 : World) (hl : ToksLie w1 p (splitS s) c) => writeb_doc (splitS s) (splitS s).length rfl (by have := splitS_length s; omega) p c w1 hl)
    have HP := Lib.hid (fun (q : Option Addr) (d : Nat) (w1 : World) (hl : FlagsLie w1 q (encode (splitS s)) d) => pack_doc (encode (splitS s)) _ q d w1 rfl (encode_le s h) hl)
    have hm := mayW_split s h
    have HE : Hid (encT s = packL (encode (splitS s))) := rfl
    have HA : Hid (encA s = if (encT s).length < 256 then (⟨(encT s).toArray⟩, true) else (s, false)) := rfl
    have zs : ((s.size : Nat) : Int) = 256 := by omega
    change Calls Try.prog 21 #[.string s] w fun e w' => ∃ p cap, e = .returned (.slice p (splitS s).length cap) ∧ ToksLie w' p (splitS s) cap ∧ Below w.heap.size w w' at k1
    generalize encA s = an at *
    generalize encT s = tx at *
    have HM := Lib.hid hm
    generalize splitS s = T at *
    clear hV hm
    go_enter Try.func10, Try.ntmps10
    go_wp2_with fail
    go_at_call 21
    refine k1.mono ?_
    rintro e w1 ⟨p, c, rfl, hl, hb⟩
    have k2 := HK.out p c w1 hl
    have HB1 := Lib.hid hb
    clear k1 hl hb HK
    go_wp2_with fail
    go_at_call 20
    refine k2.mono ?_
    rintro e w2 ⟨hb2, hw⟩
    rcases hw with ⟨_, q, d, rfl, hf⟩ | ⟨hno, _⟩
    · have k3 := HP.out q d w2 hf
      have HB2 := Lib.hid (HB1.out.next hb2)
      rw [← HE.out] at k3
      obtain ⟨t, ht⟩ : ∃ t, t = (⟨tx.toArray⟩ : ByteArray) := ⟨_, rfl⟩
      have hz : t.size = tx.length := by rw [ht, size_mk]
      rw [← ht] at k3
      have HT := Lib.hid ht
      clear ht
      clear k2 hf hb2 HP HB1
      go_wp2_with fail
      go_at_call 22
      refine k3.mono ?_
      rintro e w3 ⟨rfl, hb3⟩
      have HB3 := Lib.hid (HB2.out.next hb3)
      clear k3 hb3 HB2
      by_cases hlt : tx.length < 256
      · have e1 : an = (t, true) := by rw [HA.out, if_pos hlt, HT.out]
        subst e1
        have zl : ((t.size : Nat) : Int) < 256 := by omega
        clear hlt hz HA HT
        go_wp2
        go_ret3
        exact ⟨rfl, HB3.out⟩
      · have e1 : an = (s, false) := HA.out.trans (if_neg hlt)
        subst e1
        have zl : ¬ ((t.size : Nat) : Int) < 256 := by omega
        clear hlt hz HA HT
        go_wp2
        go_ret3
        exact ⟨rfl, HB3.out⟩
    · rw [HM.out] at hno; cases hno
  · have hV : encV s = .tuple #[.string ⟨#[]⟩, .bool false, .bool false] := if_neg h
    rw [hV]
    have zs : (((s.size : Nat) : Int) == 256) = false := by rw [beq_eq_false_iff_ne]; omega
    clear hV h
    go_enter Try.func10, Try.ntmps10
    go_wp2
    go_ret3
    exact ⟨rfl, Below.refl _ _⟩
theorem expand_count {most : Int} : ∀ {T : List Tok} {o q : List UInt8}, Mt.expand most o T = some q → o.length + T.length ≤ q.length
  | [], o, q, h => by cases h; exact Nat.le_refl _
  | t :: T, o, q, h => by
    unfold Mt.expand at h
    split at h
    · have h1 := expand_count h
      have h2 := add_len o t
      have : 1 ≤ (add o t).length - o.length := by
        rw [h2]
        split
        · omega
        · rename_i hc h0
          rcases may_two hc.1 with ⟨x, _, rfl⟩ | ⟨d, n, _, _, h3, _, rfl⟩
          · exact absurd rfl h0
          · simp; omega
      rw [List.length_cons]
      omega
    · cases h
set_option maxHeartbeats 4000000 in
theorem dec_doc (s : ByteArray) (hs : s.size ≤ 3000) (pk : Bool) (w : World) : Calls Try.prog 15 #[.string s, .bool pk] w fun e w' => e = .returned (told (decA s pk)) ∧ Below w.heap.size w w' := by
  cases pk with
  | false =>
    by_cases h : s.size = 256
    · have hV : told (decA s false) = .tuple #[.string s, .bool true] := by
        unfold decA
        rw [if_pos rfl, if_pos h]
        show Value.tuple #[.string ⟨s.data.toList.toArray⟩, .bool true] = _
        rw [mk_toList]
      rw [hV]
      have zs : ((s.size : Nat) : Int) = 256 := by omega
      clear hV h hs
      go_enter Try.func15, Try.ntmps15
      go_wp2
      go_ret2
      exact ⟨rfl, Below.refl _ _⟩
    · have hV : told (decA s false) = .tuple #[.string ⟨#[]⟩, .bool false] := by
        unfold decA
        rw [if_pos rfl, if_neg h]; rfl
      rw [hV]
      have zs : (((s.size : Nat) : Int) == 256) = false := by rw [beq_eq_false_iff_ne]; omega
      clear hV h hs
      go_enter Try.func15, Try.ntmps15
      go_wp2
      go_ret2
      exact ⟨rfl, Below.refl _ _⟩
  | true =>
    have k1 := unpack_doc s (by omega) w
    have hbl : (unpackL s.data.toList).length = 8 * s.size := by rw [unpackL_length, size_toList]
    have HK := Lib.hid (fun (q : Option Addr) (d : Nat) (w1 : World) (hl : FlagsLie w1 q (unpackL s.data.toList) d) => readp_doc (unpackL s.data.toList) (8 * s.size) hbl (by omega) 256 q d w1 hl)
    generalize hD : decA s true = D
    have HDn : Hid (decode (unpackL s.data.toList) 256 = none → D = none) := fun h => by
      rw [← hD]; unfold decA; rw [if_neg (by simp), h]
    have HDs := Lib.hid (fun (T : List Tok) (x : Nat) (h : decode (unpackL s.data.toList) 256 = some (T, x)) => show D = if 8 * s.size - x < 8 ∧ (unpackL s.data.toList).drop x = List.replicate (8 * s.size - x) false then Mt.expand 256 [] T else none by
      rw [← hD]; unfold decA; rw [if_neg (by simp), h])
    have HI : Hid (decodeI (unpackL s.data.toList) 256 = decode (unpackL s.data.toList) 256) := if_pos (by decide)
    obtain ⟨m, hm⟩ : ∃ m, m = 8 * s.size := ⟨_, rfl⟩
    rw [← hm] at HK HDs
    rw [hbl, ← hm] at k1
    have Hbl : Hid ((unpackL s.data.toList).length = m) := by show _ = _; rw [hbl, hm]
    have zm : (m : Int) ≤ 24000 := by omega
    clear hD hbl hm
    generalize unpackL s.data.toList = b at *
    go_enter Try.func15, Try.ntmps15
    go_wp2_with fail
    go_at_call 25
    refine k1.mono ?_
    rintro e w1 ⟨q, d, rfl, hl, hb⟩
    have k2 := HK.out q d w1 hl
    rw [HI.out] at k2
    have HB1 := Lib.hid hb
    have HL1 := Lib.hid hl
    clear k1 hl hb HK
    go_wp2_with fail
    go_at_call 26
    refine k2.mono ?_
    rintro e w2 ⟨hb2, hR⟩
    have HB2 := Lib.hid (HB1.out.next hb2)
    have HL2 := Lib.hid (HL1.out.below hb2)
    clear k2 hb2 HB1 HL1
    cases hd : decode b 256 with
    | none =>
      rw [hd] at hR
      have e1 := hR
      unfold ReadA at e1
      simp only at e1
      subst e1
      have HV := Lib.hid (HDn.out hd)
      clear hR hd
      go_wp2
      go_ret2
      exact ⟨by rw [HV.out]; rfl, HB2.out⟩
    | some r =>
      obtain ⟨T, x⟩ := r
      rw [hd] at hR
      obtain ⟨q2, c2, rfl, hT⟩ := hR
      have HD := Lib.hid (HDs.out T x hd)
      obtain ⟨_, _, hx, qq, hq1, hq2⟩ := decode_end hd
      rw [Hbl.out] at hx
      have hTl := expand_count hq1
      have HT := Lib.hid hT
      have zT : T.length ≤ 256 := by rw [hq2] at hTl; simpa using hTl
      have zx : (x : Int) ≤ m := by omega
      have Hx := Lib.hid hx
      clear hd hT hTl hq1 hq2 HDs HDn hx
      by_cases h8 : 8 ≤ m - x
      · have HV : Hid (D = none) := by show _ = _; rw [HD.out, if_neg (by omega)]
        have z8 : (8 : Int) ≤ (m : Int) - x := by have := Hx.out; omega
        clear h8
        go_wp2
        go_ret2
        exact ⟨by rw [HV.out]; rfl, HB2.out⟩
      · have z8 : (m : Int) - x < 8 := by have := Hx.out; omega
        have H8 : Hid (m - x < 8) := by show _ < _; omega
        clear h8
        go_wp2
        go_loop [10] (fun v => ∃ i : Nat, v = .int .i64 i ∧ x ≤ i ∧ i ≤ m ∧ Hid (∀ j, x ≤ j → j < i → b.getD j false = false)) (fun v => m - (RowKit.intOf v).toNat)
        case atStart => exact ⟨x, rfl, Nat.le_refl _, Hx.out, Lib.hid fun j h1 h2 => by omega⟩
        case round =>
          obtain ⟨i, rfl, hi1, hi2, HN⟩ := hrel
          by_cases hlt : i < m
          · obtain ⟨blk, off, rfl, hc⟩ := HL2.out.at (i := i) (by rw [Hbl.out]; exact hlt)
            have cx := hc i (by rw [Hbl.out]; exact hlt)
            have zi : (i : Int) < m := by omega
            have zd : (m : Int) ≤ d := by have := HL2.out.len; have := Hbl.out; omega
            clear hc
            cases hbit : b.getD i false with
            | true =>
              rw [hbit] at cx
              have HV : Hid (D = none) := by
                show _ = _
                rw [HD.out, if_neg]
                rintro ⟨_, h2⟩
                have h3 := congrArg (fun l => l.getD (i - x) false) h2
                rw [List.getD_eq_getElem?_getD, List.getElem?_drop, show x + (i - x) = i by omega, ← List.getD_eq_getElem?_getD, hbit] at h3
                rw [List.getD_eq_getElem?_getD, List.getElem?_replicate] at h3
                split at h3 <;> cases h3
              clear hbit
              go_wp2
              go_ret2
              exact ⟨by rw [HV.out]; rfl, HB2.out⟩
            | false =>
              rw [hbit] at cx
              have HN2 : Hid (∀ j, x ≤ j → j < i + 1 → b.getD j false = false) := fun j h1 h2 => by
                by_cases e : j = i
                · subst e; exact hbit
                · exact HN.out j h1 (by omega)
              clear hbit
              go_wp2
              go_round
              case rel => exact ⟨i + 1, by go_num, by omega, by omega, HN2⟩
              case measure => simp [RowKit.intOf]; omega
          · have e : i = m := by omega
            have HV : Hid (D = Mt.expand 256 [] T) := by
              show _ = _
              rw [HD.out, if_pos]
              refine ⟨H8.out, List.ext_getElem (by rw [List.length_drop, List.length_replicate, Hbl.out]) fun j h1 h2 => ?_⟩
              rw [List.getElem_replicate, List.getElem_drop]
              have h3 := HN.out (x + j) (by omega) (by rw [List.length_replicate] at h2; omega)
              rw [List.length_drop] at h1
              rw [List.getD_eq_getElem?_getD, List.getElem?_eq_getElem (by omega)] at h3
              exact h3
            have k3 := expand_doc T T.length rfl q2 c2 256 w2 (by omega) HT.out
            rw [← HV.out] at k3
            have zi : ¬ (i : Int) < m := by omega
            clear hlt e
            cases D with
            | none =>
              go_wp2_with fail
              go_at_call 27
              refine k3.mono ?_
              rintro e w3 ⟨rfl, hb3⟩
              have HB3 := Lib.hid (HB2.out.next hb3)
              clear k3 hb3
              unfold told
              go_wp2
              go_ret2
              exact ⟨rfl, HB3.out⟩
            | some r =>
              go_wp2_with fail
              go_at_call 27
              refine k3.mono ?_
              rintro e w3 ⟨rfl, hb3⟩
              have HB3 := Lib.hid (HB2.out.next hb3)
              clear k3 hb3
              unfold told
              go_wp2
              go_ret2
              exact ⟨rfl, HB3.out⟩
end Go.Proofs.Ythehjhckcblbdaa.Pk

