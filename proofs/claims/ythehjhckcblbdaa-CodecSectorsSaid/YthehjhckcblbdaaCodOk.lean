/-
  Package codec's functions answer as SpecE tells.
-/
import Derived.Test.YthehjhckcblbdaaCodDf
namespace Go.Proofs.Ythehjhckcblbdaa.Pk
set_option maxRecDepth 100000
open Go.RowKit Go.Lib Mt Ma Mb
theorem sec_code (n : Int) (w : World) (_hn : -9223372036854775808 ≤ n) (hn2 : n ≤ 9223372036854775807) : Calls Try.prog 12 #[.int .i64 n] w fun e w' => e = .returned (.int .i64 (secI n)) ∧ Below w.heap.size w w' := by
  have HB := Lib.hid (Below.refl w.heap.size w)
  by_cases h : n ≤ 0
  · have hs : secI n = 0 := if_pos h
    rw [hs]
    clear hs
    go_enter Try.func12, Try.ntmps12
    go_wp2
    go_ret
    exact ⟨rfl, HB.out⟩
  · have hs : secI n = (n - 1) / 32 + 1 := if_neg h
    rw [hs]
    have h1 : 1 ≤ n := by omega
    clear hs
    have e1 : wrap64 (n - 1) = n - 1 := by unfold wrap64; omega
    have e2 : (n - 1).tdiv 32 = (n - 1) / 32 := Int.tdiv_eq_ediv_of_nonneg (by omega)
    have e3 : wrap64 ((n - 1) / 32) = (n - 1) / 32 := by unfold wrap64; omega
    have e4 : wrap64 ((n - 1) / 32 + 1) = (n - 1) / 32 + 1 := by unfold wrap64; omega
    go_enter Try.func12, Try.ntmps12
    go_wp2
    go_ret
    exact ⟨rfl, HB.out⟩
theorem dec_code (s : ByteArray) (pk : Bool) (w : World) (hs : s.size ≤ 3000) : Calls Try.prog 14 #[.string s, .bool pk] w fun e w' => e = .returned (told (decA s pk)) ∧ Below w.heap.size w w' := by
  have HB0 := Lib.hid (Below.refl w.heap.size w)
  cases pk with
  | false =>
    by_cases h : s.size = 256
    · have hV : told (decA s false) = .tuple #[.string s, .bool true] := by
        unfold decA
        rw [if_pos rfl, if_pos h]
        show Value.tuple #[.string ⟨s.data.toList.toArray⟩, .bool true] = _
        rw [mk_toList]
      rw [hV]
      have zs : ((s.size : Nat) : Int) = 256 := by omega
      have kc := clone_any s w (by omega)
      clear hV h hs
      go_enter Try.func14, Try.ntmps14
      go_wp2_with (go_at_call 19; refine kc.mono ?_; rintro e w' ⟨rfl, hb⟩)
      go_ret2
      exact ⟨rfl, hb⟩
    · have hV : told (decA s false) = .tuple #[.string ⟨#[]⟩, .bool false] := by
        unfold decA
        rw [if_pos rfl, if_neg h]; rfl
      rw [hV]
      have zs : (((s.size : Nat) : Int) == 256) = false := by rw [beq_eq_false_iff_ne]; omega
      clear hV h hs
      go_enter Try.func14, Try.ntmps14
      go_wp2
      go_ret2
      exact ⟨rfl, HB0.out⟩
  | true =>
    have ku := unp_code s w hs
    generalize decA s true = D at ku ⊢
    clear hs HB0
    cases D with
    | none =>
      unfold told at ku ⊢
      go_enter Try.func14, Try.ntmps14
      go_wp2_with (go_at_call 24; refine ku.mono ?_; rintro e w' ⟨rfl, hb⟩)
      go_ret2
      exact ⟨rfl, hb⟩
    | some r =>
      unfold told at ku ⊢
      go_enter Try.func14, Try.ntmps14
      go_wp2_with (go_at_call 24; refine ku.mono ?_; rintro e w' ⟨rfl, hb⟩)
      go_ret2
      exact ⟨rfl, hb⟩
theorem encode_le2 (s : ByteArray) (h : s.size = 256) : (encode (splitS s)).length ≤ 100000 := by
  have h1 := head_le (lensT (splitS s)) 272
  have h2 := body_le (l := lensT (splitS s)) (fun i => (lensT_ok (splitS s)).2.1 i) (splitS s)
  have h3 := splitS_length s
  unfold encode
  rw [List.length_append, List.length_append, dig_length]
  omega
set_option maxHeartbeats 2000000 in
theorem enc_code (s : ByteArray) (w : World) : Calls Try.prog 9 #[.string s] w fun e w' => e = .returned (encV s) ∧ Below w.heap.size w w' := by
  by_cases h : s.size = 256
  · have hV : encV s = .tuple #[.string (encA s).1, .bool (encA s).2, .bool true] := if_pos h
    rw [hV]
    have k1 := split_code s (by omega) w
    have HK := Lib.hid (fun (p : Option Addr) (c : Nat) (w1 : World) (hl : ToksLie w1 p (splitS s) c) => write_code (splitS s) (splitS s).length p c w1 rfl (by have := splitS_length s; omega) hl)
    have HP := Lib.hid (fun (q : Option Addr) (d : Nat) (w1 : World) (hl : FlagsLie w1 q (encode (splitS s)) d) => pack_code (encode (splitS s)) _ rfl (encode_le2 s h) q d w1 hl)
    have hm := mayW_split s h
    have HE : Hid (encT s = packL (encode (splitS s))) := rfl
    have HA : Hid (encA s = if (encT s).length < 256 then (⟨(encT s).toArray⟩, true) else (s, false)) := rfl
    have zs : ((s.size : Nat) : Int) = 256 := by omega
    generalize encA s = an at *
    generalize encT s = tx at *
    have HM := Lib.hid hm
    generalize splitS s = T at *
    clear hV hm
    go_enter Try.func9, Try.ntmps9
    go_wp2_with fail
    go_at_call 17
    refine k1.mono ?_
    rintro e w1 ⟨p, c, rfl, hl, hb⟩
    have k2 := HK.out p c w1 hl
    have HB1 := Lib.hid hb
    clear k1 hl hb HK
    go_wp2_with fail
    go_at_call 16
    refine k2.mono ?_
    rintro e w2 ⟨hb2, hw⟩
    rcases hw with ⟨_, q, d, rfl, hf⟩ | ⟨hno, _⟩
    · have k3 := HP.out q d w2 hf
      have HB2 := Lib.hid (HB1.out.next hb2)
      rw [← HE.out] at k3
      obtain ⟨t, ht⟩ : ∃ t, t = (⟨tx.toArray⟩ : ByteArray) := ⟨_, rfl⟩
      have hz : t.size = tx.length := by rw [ht, size_mk]
      rw [← ht] at k3
      have HT := Lib.hid ht
      clear ht
      clear k2 hf hb2 HP HB1
      go_wp2_with fail
      go_at_call 18
      refine k3.mono ?_
      rintro e w3 ⟨rfl, hb3⟩
      have HB3 := Lib.hid (HB2.out.next hb3)
      clear k3 hb3 HB2
      by_cases hlt : tx.length < 256
      · have e1 : an = (t, true) := by rw [HA.out, if_pos hlt, HT.out]
        subst e1
        have zl : ((t.size : Nat) : Int) < 256 := by omega
        clear hlt hz HA HT
        go_wp2
        go_ret3
        exact ⟨rfl, HB3.out⟩
      · have e1 : an = (s, false) := HA.out.trans (if_neg hlt)
        subst e1
        have zl : ¬ ((t.size : Nat) : Int) < 256 := by omega
        have kc := fun w => clone_any s w (by omega)
        clear hlt hz HA HT
        go_wp2_with (go_at_call 19; refine (kc _).mono ?_; rintro e w' ⟨rfl, hb⟩)
        go_ret3
        exact ⟨rfl, HB3.out.next hb⟩
    · rw [HM.out] at hno; cases hno
  · have hV : encV s = .tuple #[.string ⟨#[]⟩, .bool false, .bool false] := if_neg h
    rw [hV]
    have zs : (((s.size : Nat) : Int) == 256) = false := by rw [beq_eq_false_iff_ne]; omega
    have HB := Lib.hid (Below.refl w.heap.size w)
    clear hV h
    go_enter Try.func9, Try.ntmps9
    go_wp2
    go_ret3
    exact ⟨rfl, HB.out⟩
theorem spec_codec : SpecE := ⟨enc_code, dec_code, sec_code⟩
end Go.Proofs.Ythehjhckcblbdaa.Pk

