/-
  pack.putSymbols, Write.
-/
import Derived.Test.YthehjhckcblbdaaPacKw
import Derived.Test.YthehjhckcblbdaaCanX
import Derived.Test.YthehjhckcblbdaaPacSb
namespace Go.Proofs.Ythehjhckcblbdaa.Pk
set_option maxRecDepth 100000
open Go.RowKit Mt Ma Mb Cn Hf Go.Lib Cd
set_option maxHeartbeats 2000000 in
theorem symbols_code (l : List Nat) (hl : l.length = 272) (h15 : ∀ i, l.getD i 0 ≤ 15) (p : Option Addr) (c : Nat) (w : World) (h : IntsLie w p (nums l) c) :
    Calls Try.prog 33 #[.slice p 272 c] w fun e w' => ∃ v, e = .returned v ∧ RowV w.heap.size w w' v (dig (manyS l 0 272) 9 ++ headFrom l 0 272) := by
  have F0 : Hid (RowV w.heap.size w w (.slice none 0 0) (headFrom l 0 0)) := Lib.hid (RowV.none (Below.refl _ _) (Nat.le_refl _))
  have HI := Lib.hid h
  have HL := Lib.hid hl
  have H15 := Lib.hid h15
  have zc : (272 : Int) ≤ c := by have := h.len; rw [nums_len] at this; omega
  clear h hl h15
  go_enter Try.func33, Try.ntmps33
  go_wp2
  go_loopw [3, 4, 9] (fun a v i wr => ∃ (k m : Nat), i = .int .i64 k ∧ k ≤ 272 ∧ a = .int .i64 m ∧ m ≤ k ∧ Hid (m = manyS l 0 k) ∧ Hid (RowV w.heap.size w wr v (headFrom l 0 k))) (fun _ _ i _ => 272 - (RowKit.intOf i).toNat)
  case atStart => exact ⟨0, 0, rfl, Nat.zero_le _, rfl, Nat.le_refl _, Lib.hid rfl, F0⟩
  case round =>
    clear F0
    obtain ⟨k, m, rfl, hk, rfl, hm, HM, HF⟩ := hrel
    by_cases hlt : k < 272
    · have hkl : k < (nums l).length := by rw [nums_len, HL.out]; exact hlt
      obtain ⟨blk, off, rfl, hA⟩ := (HI.out.below HF.out.below).at hkl
      have cx := hA k hkl
      rw [nums_get] at cx
      have hx15 := H15.out k
      have HM2 := Lib.hid (many_succ l k)
      have HH2 := Lib.hid (head_succ l k)
      have hle := head_le l k
      rw [← HM.out] at HM2
      generalize headFrom l 0 k = hd at *
      generalize l.getD k 0 = x at *
      have zk : (k : Int) < 272 := by omega
      clear hA hkl
      by_cases hx : 0 < x
      · have zx : decide (0 < x) = true := decide_eq_true hx
        rw [if_pos hx] at HM2 HH2
        have hp1 := put_code w.heap.size w hd (by omega) k 9 (by decide) (by omega) _ _ HF.out
        have hp2 := Lib.hid (fun (v' : Value) (w' : World) h' => put_code w.heap.size w (hd ++ dig k 9) (by rw [List.length_append, dig_length]; omega) x 4 (by decide) (by omega) v' w' h')
        have e9 : ((9 : Nat) : Int) = 9 := rfl
        have e4 : ((4 : Nat) : Int) = 4 := rfl
        rw [e9] at hp1
        rw [e4] at hp2
        clear HF hle e9 e4
        go_wp2_with fail
        go_at_call 35
        refine hp1.mono ?_
        rintro e w1 ⟨v1, rfl, hr1, _⟩
        have hp3 := hp2.out v1 w1 hr1
        clear hp1 hp2 hr1 cx
        go_wp2_with fail
        go_at_call 35
        refine hp3.mono ?_
        rintro e w2 ⟨v2, rfl, hr2, _⟩
        rw [List.append_assoc, ← HH2.out] at hr2
        have HF2 := Lib.hid hr2
        clear hp3 hr2 HH2
        go_wp2
        go_roundw
        case measure => simp [RowKit.intOf]; omega
        case rel => exact ⟨k + 1, m + 1, by go_num, by omega, by go_num, by omega, Lib.hid HM2.out.symm, HF2⟩
      · have x0 : x = 0 := by omega
        subst x0
        rw [if_neg hx] at HM2 HH2
        rw [List.append_nil] at HH2
        rw [← HH2.out] at HF
        clear hx HH2 hle
        go_wp2
        go_roundw
        case measure => simp [RowKit.intOf]; omega
        case rel => exact ⟨k + 1, m, by go_num, by omega, rfl, by omega, Lib.hid HM2.out.symm, HF⟩
    · have e : k = 272 := by omega
      subst e
      obtain ⟨wz, rfl⟩ : ∃ wz, wz = wr := ⟨_, rfl⟩
      have hp : Calls Try.prog 35 #[.slice none 0 0, .int .i64 m, .int .i64 9] wz fun e w' => ∃ v', e = .returned v' ∧ RowV wz.heap.size wz w' v' (dig m 9) ∧ wz.grownBy w' (Value.slice none 0 0).ownBlock := put_code wz.heap.size wz [] (by decide) m 9 (by decide) (by omega) (.slice none 0 0) wz (RowV.none (Below.refl _ _) (Nat.le_refl _))
      have hle := head_le l 272
      clear hlt hk
      go_wp2_with fail
      go_at_call 35
      refine hp.mono ?_
      rintro e w1 ⟨v1, rfl, hr1, _⟩
      have HF1 := Lib.hid (HF.out.later hr1.below)
      have HR1 : Hid (RowV w.heap.size w w1 v1 (dig m 9)) := Lib.hid ⟨Go.Proofs.Ythehjhckcblbdaa.own_base hr1.own HF.out.size, HF1.out.below, Nat.le_refl _⟩
      have Hle : Hid ((dig m 9).length + (headFrom l 0 272).length ≤ 100000000) := Lib.hid (by rw [dig_length]; omega)
      clear hp hr1 HF hle
      go_wp2_with (with_reducible refine stop_append ?_)
      unfold Stop
      refine wpList_append_bits _ rfl _ _ rfl w.heap.size v1 (dig m 9) rfl HR1.out.own w.heap.size _ (headFrom l 0 272) rfl HF1.out.own Hle.out HR1.out.size ?_
      intro v' w2 own2 gr2
      have HR2 := Lib.hid (HR1.out.more own2 gr2)
      clear own2 gr2
      go_wp2
      go_ret
      exact ⟨_, rfl, by rw [← HM.out]; exact HR2.out⟩
set_option maxHeartbeats 8000000 in
theorem write_code (T : List Tok) (n : Nat) (p : Option Addr) (cp : Nat) (w : World) (hn : T.length = n) (hnl : n ≤ 281474976710656) (h : ToksLie w p T cp) :
    Calls Try.prog 16 #[.slice p n cp] w fun e w' => Below w.heap.size w w' ∧ WriteB T e w' := by
  have zn : (n : Int) ≤ 281474976710656 := by omega
  have zcp : (n : Int) ≤ cp := by have := h.len; omega
  have hc := contains_toks T n hn hnl p cp w h
  by_cases h1000 : n ≤ 1000
  · have z1000 : (n : Int) ≤ 1000 := by omega
    cases ha : (T.any fun t => !may t) with
    | true =>
      have HA : Hid (mayW T = false) := Lib.hid (by
        unfold mayW
        rw [Bool.and_eq_false_iff]
        refine .inr (Bool.eq_false_iff.2 fun h2 => ?_)
        obtain ⟨t, ht, h3⟩ := List.any_eq_true.1 ha
        rw [List.all_eq_true.1 h2 t ht] at h3
        cases h3)
      rw [ha] at hc
      clear ha h hn hnl
      go_enter Try.func16, Try.ntmps16
      go_wp2_with fail
      go_at_call 28
      refine hc.mono ?_
      rintro e w1 ⟨rfl, hb⟩
      go_wp2
      go_ret2
      exact ⟨hb, .inr ⟨HA.out, none, 0, Nat.zero_le _, rfl⟩⟩
    | false =>
      have hall : ∀ t, t ∈ T → may t = true := fun t ht => by
        cases hq : may t with
        | true => rfl
        | false =>
          have : (T.any fun t => !may t) = true := List.any_eq_true.2 ⟨t, ht, by rw [hq]; rfl⟩
          rw [ha] at this
          cases this
      have HA : Hid (mayW T = true) := Lib.hid (by
        unfold mayW
        rw [hn, decide_eq_true h1000, Bool.true_and]
        exact List.all_eq_true.2 hall)
      rw [ha] at hc
      have HL := Lib.hid h
      have Hn := Lib.hid hn
      have Hall := Lib.hid hall
      clear ha h hn hnl zn hall
      go_enter Try.func16, Try.ntmps16
      go_wp2_with fail
      go_at_call 28
      refine hc.mono ?_
      rintro e w1 ⟨rfl, hb⟩
      have HW1 := Lib.hid hb
      have ht := times_code T n Hn.out h1000 Hall.out p cp w1 (HL.out.below hb)
      clear hc hb
      go_wp2_with fail
      go_at_call 31
      refine ht.mono ?_
      rintro e w2 ⟨rfl, hown, hb⟩
      have HW2 := Lib.hid (HW1.out.next hb)
      have hl : Calls Try.prog 30 #[.slice (some ⟨w1.heap.size, 0, none⟩) 272 272] w2 fun e w' => ∃ q c, e = .returned (.slice q 272 c) ∧ IntsLie w' q (nums (lensT T)) c ∧ Below w2.heap.size w2 w' := by
        have := lens_at (freq T) (by rw [freq_length]; decide) (fun i => Nat.le_trans (freq_le T i) (by rw [Hn.out]; omega)) (some ⟨w1.heap.size, 0, none⟩) 272 w2 (lie_own hown (freq_length T))
        rw [freq_length] at this
        exact this
      clear ht hown hb HW1
      go_wp2_with fail
      go_at_call 30
      refine hl.mono ?_
      rintro e w3 ⟨q3, c3, rfl, hlie, hb⟩
      have HW3 := Lib.hid (HW2.out.next hb)
      have HM : Hid (MayC (lensT T)) := Lib.hid ⟨(lensT_ok T).1, (lensT_ok T).2.1, (lensT_ok T).2.2⟩
      have HCl := Lib.hid (lensT_length T)
      have hco := codes_is (lensT T) 272 q3 c3 w3 HM.out HCl.out hlie
      have HI := Lib.hid hlie
      clear hl hlie hb HW2
      go_wp2_with fail
      go_at_call 32
      refine hco.mono ?_
      rintro e w4 ⟨hb, q4, d4, rfl, hcl⟩
      have HW4 := Lib.hid (HW3.out.next hb)
      have hsy := symbols_code (lensT T) HCl.out HM.out.le q3 c3 w4 (HI.out.below hb)
      have HC := Lib.hid hcl
      clear hco hb hcl HI HW3
      go_wp2_with fail
      go_at_call 33
      refine hsy.mono ?_
      rintro e w5 ⟨v5, rfl, hr5⟩
      have HE : Hid (encode T = (dig (manyS (lensT T) 0 272) 9 ++ headFrom (lensT T) 0 272) ++ body (lensT T) T) := Lib.hid (by rw [List.append_assoc]; rfl)
      have HT : Hid (∀ t, t ∈ T → 1 ≤ (lensT T).getD (symT t) 0) := Lib.hid fun t ht => lensT_there ht (Hall.out t ht)
      have hhl : (dig (manyS (lensT T) 0 272) 9 ++ headFrom (lensT T) 0 272).length ≤ 10000 := by
        rw [List.length_append, dig_length]; have := head_le (lensT T) 272; omega
      have HHl := Lib.hid hhl
      have HB := Lib.hid (fun k (hk : k ≤ T.length) => body_le HM.out.le (T.take k))
      have HX := Lib.hid (body_succ (lensT T) T)
      generalize (dig (manyS (lensT T) 0 272) 9 ++ headFrom (lensT T) 0 272) = pre at *
      have F0 : Hid (RowV w4.heap.size w4 w5 v5 (pre ++ body (lensT T) (T.take 0))) := Lib.hid (by
        rw [List.take_zero, show pre ++ body (lensT T) [] = pre from List.append_nil _]; exact hr5)
      have KB : Hid (∀ w', Below w4.heap.size w4 w' → ToksLie w' p T cp ∧ CodesLie w' q4 (codesOf (lensT T)) d4) := Lib.hid fun w' h' => ⟨HL.out.below (HW4.out.next h'), HC.out.below h'⟩
      have hd4 : (272 : Int) ≤ d4 := by have := HC.out.len; rw [codesOf_length, HCl.out] at this; omega
      clear hsy hr5 hhl
      generalize lensT T = l at *
      go_wp2
      go_loopw [7, 30] (fun v i wr => ∃ k : Nat, i = .int .i64 k ∧ k ≤ n ∧ Hid (RowV w4.heap.size w4 wr v (pre ++ body l (T.take k)))) (fun _ i _ => n - (RowKit.intOf i).toNat)
      case atStart => exact ⟨0, rfl, Nat.zero_le _, F0⟩
      case round =>
        clear F0
        obtain ⟨k, rfl, hk, HF⟩ := hrel
        by_cases hlt : k < n
        · have hkT : k < T.length := by rw [Hn.out]; exact hlt
          have hmt := Hall.out T[k] (List.getElem_mem hkT)
          have hs1 := HT.out T[k] (List.getElem_mem hkT)
          have HX2 := Lib.hid (HX.out k hkT)
          have hbl := HB.out k (by omega)
          rw [List.length_take] at hbl
          obtain ⟨hKt, hKc⟩ := KB.out wr HF.out.below
          obtain ⟨blk, off, rfl, hA⟩ := hKt.at hkT
          obtain ⟨a1, a2, a3⟩ := Ma.may_at hA (Below.refl _ _) k hkT
          have ks : ∀ w, Calls Try.prog 34 #[.agg #[.int .i64 T[k].byte, .int .i64 T[k].dist, .int .i64 T[k].len]] w fun e w' => e = .returned (.int .i64 (symT T[k] : Nat)) ∧ Below w.heap.size w w' := fun w => by
            have := sym_code T[k] w
            rw [show symA T[k] = (symT T[k] : Int) by unfold symA; rw [if_pos hmt]] at this
            exact this
          have hs := symT_lt hmt
          have q := box_cells wr (T[k]'hkT)
          have htb : tokBits l T[k] = code l (symT T[k]) ++ if T[k].len = 0 then [] else dig T[k].dist.toNat 8 := rfl
          rw [htb] at HX2
          generalize T[k] = t at *
          clear htb hA hKt
          generalize symT t = s at *
          have hkl : s < (codesOf l).length := by rw [codesOf_length, HCl.out]; exact hs
          obtain ⟨bc, oc, rfl, hAc⟩ := hKc.at hkl
          have h15 := HM.out.le s
          have hbits := bits_lt HM.out.le HM.out.kraft hs1
          have hcode : code l s = dig (bitsOf l s) (l.getD s 0) := rfl
          have hget : (codesOf l).getD s (0, 0) = (l.getD s 0, bitsOf l s) := by rw [codesOf_get l (by rw [HCl.out]; exact hs), codeOf_one hs1]
          obtain ⟨b1, b2⟩ := hAc s hkl
          rw [hget] at b1 b2
          rw [hcode] at HX2
          have hbc : bc < wr.heap.size := World.block_lt_of_cell? wr _ b1
          have HBC : Hid (∀ w', Below wr.heap.size wr w' → w'.cell? ⟨bc, oc + s * 2, none⟩ = some (.int .i64 (l.getD s 0 : Nat)) ∧ w'.cell? ⟨bc, oc + s * 2 + 1, none⟩ = some (.int .i64 (bitsOf l s : Nat))) := Lib.hid fun w' h' => by
            rw [h'.cell (p := ⟨bc, oc + s * 2, none⟩) hbc, h'.cell (p := ⟨bc, oc + s * 2 + 1, none⟩) hbc]; exact ⟨b1, b2⟩
          generalize l.getD s 0 = ln at *
          generalize bitsOf l s = bt at *
          clear hcode hget hkl hAc b1 b2 hKc hs1 hbc
          have zs : (s : Int) < 272 := by omega
          have zk : (k : Int) < n := by omega
          have hown := HF.out.own.lt
          have HOwn := Lib.hid hown
          have HBx := Lib.hid ((Below.refl wr.heap.size wr).alloc (Nat.le_refl _) (.cells #[.int .i64 t.byte, .int .i64 t.dist, .int .i64 t.len] 48))
          clear hown
          go_wp2_with fail
          go_at_call 34
          refine (ks _).mono ?_
          rintro e w6 ⟨rfl, hb6⟩
          obtain ⟨q0, q1, q2, q3⟩ := q _ hb6
          have HW6 := Lib.hid (HBx.out.trans (hb6.mono HBx.out.size))
          obtain ⟨b1, b2⟩ := HBC.out w6 HW6.out
          have HF6 := Lib.hid (HF.out.later HW6.out)
          have hbig : (pre ++ body l (T.take k)).length ≤ 1000000 := by rw [List.length_append]; have := HHl.out; omega
          have hp := put_code w4.heap.size w4 (pre ++ body l (T.take k)) hbig bt ln (by omega) hbits _ (w6.alloc (.cells #[.int .i64 (ln : Nat), .int .i64 (bt : Nat)] 58)) (HF6.out.later ((Below.refl w6.heap.size w6).alloc (Nat.le_refl _) _))
          have hsz : wr.heap.size < w6.heap.size := (Array.getElem?_eq_some_iff.1 q0).1
          have hbx2 : ∀ w7 row, (w6.alloc (.cells #[.int .i64 (ln : Nat), .int .i64 (bt : Nat)] 58)).grownBy w7 row → (∀ k, row = some k → k < wr.heap.size) → w7.heap[wr.heap.size]? = some (.cells #[.int .i64 t.byte, .int .i64 t.dist, .int .i64 t.len] 48 (0, 0)) := fun w7 row hg hr => by
            rw [hg.block _ (by simp; omega) (fun e => absurd (hr _ e.symm) (Nat.lt_irrefl _)), Below.heap_alloc w6 _ _ hsz]; exact q0
          have HBX2 := Lib.hid hbx2
          have hbig2 : ∀ z, z ≤ 15 → (pre ++ body l (T.take k) ++ dig bt z).length ≤ 1000000 := fun z hz => by rw [List.length_append, List.length_append, dig_length]; have := HHl.out; omega
          have HBig := Lib.hid hbig2
          clear ks q hb6 HF HBC hbig hbits hbl hbx2 hbig2 a1 a2 a3 q1 q2 q3
          go_wp2_with fail
          go_at_call 35
          refine hp.mono ?_
          rintro e w7 ⟨v7, rfl, hr7, hg7⟩
          have hx7 := HBX2.out w7 _ hg7 (fun k h => (HOwn.out k h).2)
          have d0 := cell_of_row w7 wr.heap.size 0 _ 48 (0, 0) hx7
          have d1 := cell_of_row w7 wr.heap.size 1 _ 48 (0, 0) hx7
          have d2 := cell_of_row w7 wr.heap.size 2 _ 48 (0, 0) hx7
          simp at d0 d1 d2
          have HF7 := Lib.hid hr7
          clear hp hr7 hg7 hx7 HBX2 HOwn q0 b1 b2
          rcases Pk.may_two hmt with ⟨x, hx, rfl⟩ | ⟨dd, nn, hd1, hd2, hn1, hn2, rfl⟩
          · rw [if_pos rfl, List.append_nil] at HX2
            rw [List.append_assoc, ← HX2.out] at HF7
            clear HX2
            go_wp2
            go_roundw
            case measure => simp [RowKit.intOf]; omega
            case rel => exact ⟨k + 1, by go_num, by omega, HF7⟩
          · have zn1 : (0 : Int) < nn := by omega
            have zn2 : decide (0 < nn) = true := decide_eq_true (by omega)
            rw [if_neg (by show ¬ ((nn : Int) = 0); omega), Int.toNat_natCast] at HX2
            have hp := put_code w4.heap.size w4 (pre ++ body l (T.take k) ++ dig bt ln) (HBig.out ln h15) dd 8 (by decide) (by omega) v7 w7 HF7.out
            have e8 : ((8 : Nat) : Int) = 8 := rfl
            rw [e8] at hp
            clear e8 HF7
            go_wp2_with fail
            go_at_call 35
            refine hp.mono ?_
            rintro e w8 ⟨v8, rfl, hr8, _⟩
            rw [List.append_assoc, List.append_assoc, ← HX2.out] at hr8
            have HF8 := Lib.hid hr8
            clear hp hr8 HX2 d0 d1 d2
            go_wp2
            go_roundw
            case measure => simp [RowKit.intOf]; omega
            case rel => exact ⟨k + 1, by go_num, by omega, HF8⟩
        · have e : k = n := by omega
          subst e
          rw [List.take_of_length_le (by rw [Hn.out]; exact Nat.le_refl _), ← HE.out] at HF
          obtain ⟨g, c, e⟩ := own_form HF.out.own
          subst e
          clear hlt hk
          go_wp2
          go_ret2
          exact ⟨HW4.out.next HF.out.below, .inl ⟨HA.out, _, _, rfl, own_flags HF.out.own rfl⟩⟩
  · have z1000 : (1000 : Int) < n := by omega
    have HA : Hid (mayW T = false) := Lib.hid (by unfold mayW; rw [hn, decide_eq_false h1000]; rfl)
    have HB := Lib.hid (Below.refl w.heap.size w)
    clear hc h hn hnl h1000
    go_enter Try.func16, Try.ntmps16
    go_wp2_with fail
    go_ret2
    exact ⟨HB.out, .inr ⟨HA.out, none, 0, Nat.zero_le _, rfl⟩⟩
end Go.Proofs.Ythehjhckcblbdaa.Pk

