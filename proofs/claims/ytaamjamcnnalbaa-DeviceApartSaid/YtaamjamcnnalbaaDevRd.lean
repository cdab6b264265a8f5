/-
  The document's Read of a disk.
-/
import Derived.Test.YtaamjamcnnalbaaDevWi
namespace Go.Proofs.Ytaamjamcnnalbaa.Dv
set_option maxRecDepth 100000
open Go.RowKit Go.Lib
theorem lastAt_snoc (c : List (Int × ByteArray)) (p : Int × ByteArray) (a : Int) (s : ByteArray) : lastAt (c ++ [p]) a s = if p.1 = a then p.2 else lastAt c a s := by
  unfold lastAt
  rw [List.foldl_append]; rfl
theorem mayD_kept {d : Dsk} (h : mayD d = true) : 1 ≤ d.kept.length ∧ d.kept.length ≤ 5000 ∧ d.cache.length ≤ 20000 := by
  unfold mayD at h
  simp only [Bool.and_eq_true, decide_eq_true_eq] at h
  exact ⟨h.1.1, h.1.2.1, h.1.2.2.1⟩
set_option maxHeartbeats 4000000 in
theorem read_doc (d : Dsk) (hd : Sized d) (v : Value) (a : Int) (w : World) (h : DLie w v d) :
    Calls Try.prog 11 #[v, .int .i64 a] w fun x w' => x = .returned (.tuple #[.string (readD d a).1, .int .i64 (readD d a).2]) ∧ Below w.heap.size w w' := by
  obtain ⟨p0, c0, p1, c1, p3, c3, rfl, h0, h1, h3⟩ := h
  have hbx := box_new w p0 d.kept.length c0 p1 d.cache.length c1 d.fuse p3 d.keep.length c3 d.dead
  have B1 := (Below.refl w.heap.size w).alloc (Nat.le_refl _) (.cells #[.slice p0 d.kept.length c0, .slice p1 d.cache.length c1, .int .i64 d.fuse, .slice p3 d.keep.length c3, .bool d.dead] 26)
  generalize hw1 : w.alloc (.cells #[.slice p0 d.kept.length c0, .slice p1 d.cache.length c1, .int .i64 d.fuse, .slice p3 d.keep.length c3, .bool d.dead] 26) = w1 at *
  have km := may_doc d hd _ w1 ⟨p0, c0, p1, c1, p3, c3, rfl, h0.below B1, h1.below B1, h3.below B1⟩
  have b0 := hbx.kept
  have b1 := hbx.cache
  have b2 := hbx.fuse
  have b3 := hbx.keep
  have b4 := hbx.dead
  have HX := Lib.hid hbx
  have HB := Lib.hid B1
  have HK := Lib.hid (h0.below B1)
  have HC := Lib.hid (h1.below B1)
  have hr : readD d a = if mayD d then if d.dead then (empty0, 90) else if there d a then (lastAt d.cache a (d.kept.getD a.toNat empty0), 0) else (empty0, 1) else (empty0, 1) := rfl
  generalize readD d a = ans at *
  clear h0 h1 h3 hbx B1
  by_cases hm : mayD d = true
  · obtain ⟨m1, m2, m3⟩ := mayD_kept hm
    rw [hm] at km
    rw [if_pos hm] at hr
    have zn : (d.kept.length : Int) ≤ 5000 := by omega
    have zm : (d.cache.length : Int) ≤ 20000 := by omega
    have zc0 : (d.kept.length : Int) ≤ c0 := by have := HK.out.len; omega
    have zc1 : (d.cache.length : Int) ≤ c1 := by have := HC.out.len; omega
    obtain ⟨kept, cache, fuse, keep, dead⟩ := d
    dsimp only at *
    cases dead with
    | true =>
      have e : ans = (empty0, 90) := hr
      subst e
      clear hr hm m1 m2 m3
      go_enter Try.func11, Try.ntmps11
      go_wp2_with fail
      go_at_call 17
      refine km.mono ?_
      rintro x w2 ⟨rfl, hb2⟩
      have HB2 := Lib.hid (HB.out.next hb2)
      have d4 := (HX.out.below hb2).dead
      clear km hb2 b0 b1 b2 b3 b4
      go_wp2
      go_ret2
      exact ⟨rfl, HB2.out⟩
    | false =>
      have hr2 : ans = if there ⟨kept, cache, fuse, keep, false⟩ a then (lastAt cache a (kept.getD a.toNat empty0), 0) else (empty0, 1) := hr
      clear hr
      by_cases ht : 0 ≤ a ∧ a < kept.length
      · obtain ⟨i, rfl⟩ := Int.eq_ofNat_of_zero_le ht.1
        have hil : i < kept.length := by omega
        rw [if_pos (show there ⟨kept, cache, fuse, keep, false⟩ (i : Int) = true by unfold there; simp; omega)] at hr2
        subst hr2
        have zi : (i : Int) < kept.length := ht.2
        have q1 : decide ((i : Int) < 0) = false := decide_eq_false (by omega)
        have HG : Hid (kept.getD ((i : Int)).toNat empty0 = kept[i]) := by
          show _ = _; rw [Int.toNat_natCast, List.getD_eq_getElem?_getD, List.getElem?_eq_getElem hil]; rfl
        clear hm m1 m2 m3 ht
        go_enter Try.func11, Try.ntmps11
        go_wp2_with fail
        go_at_call 17
        refine km.mono ?_
        rintro x w2 ⟨rfl, hb2⟩
        have HB2 := Lib.hid (HB.out.next hb2)
        have bx := HX.out.below hb2
        have d0 := bx.kept
        have d1 := bx.cache
        have d4 := bx.dead
        obtain ⟨blk, off, rfl, hk⟩ := (HK.out.below hb2).at hil
        have cx := str_at hk hil
        have HC2 := Lib.hid (HC.out.below hb2)
        have HS0 : Hid (kept[i] = lastAt (cache.take 0) (i : Int) (kept.getD ((i : Int)).toNat empty0)) := by show _ = _; rw [HG.out]; rfl
        clear km hb2 b0 b1 b2 b3 b4 bx hk
        rw [HG.out] at HS0
        obtain ⟨sx, hsx⟩ : ∃ sx, sx = kept[i] := ⟨_, rfl⟩
        rw [← hsx] at HS0 cx
        have HSX := Lib.hid hsx
        clear hsx HG
        go_wp2
        go_loop [6, 7] (fun s v => ∃ (j : Nat) (sj : ByteArray), v = .int .i64 j ∧ j ≤ cache.length ∧ s = .string sj ∧ Hid (sj = lastAt (cache.take j) i sx)) (fun _ v => cache.length - (RowKit.intOf v).toNat)
        case atStart => exact ⟨0, sx, rfl, Nat.zero_le _, rfl, HS0⟩
        case round =>
          obtain ⟨j, sj, rfl, hj, rfl, HJ⟩ := hrel
          by_cases hlt : j < cache.length
          · obtain ⟨k1, o1, rfl, s1⟩ := HC2.out.at hlt
            obtain ⟨cx0, cx1⟩ := put_at s1 hlt
            have zj : (j : Int) < cache.length := by omega
            have HN : Hid (lastAt (cache.take (j + 1)) i sx = if cache[j].1 = (i : Int) then cache[j].2 else lastAt (cache.take j) i sx) := by
              show _ = _
              rw [List.take_succ_eq_append_getElem hlt, lastAt_snoc]
            clear s1
            generalize cache[j] = pj at *
            obtain ⟨x, t⟩ := pj
            dsimp only at cx0 cx1 HN
            by_cases hx : x = i
            · have HJ2 : Hid (t = lastAt (cache.take (j + 1)) i sx) := by show _ = _; rw [HN.out, if_pos hx]
              have z : (x == (i : Int)) = true := by rw [hx]; simp
              clear hx HN HJ
              go_wp2
              go_round
              case rel => exact ⟨j + 1, t, by go_num, by omega, rfl, HJ2⟩
              case measure => simp [RowKit.intOf]; omega
            · have HJ2 : Hid (sj = lastAt (cache.take (j + 1)) i sx) := by show _ = _; rw [HN.out, if_neg hx]; exact HJ.out
              have z : (x == (i : Int)) = false := by simpa using hx
              clear hx HN HJ
              go_wp2
              go_round
              case rel => exact ⟨j + 1, sj, by go_num, by omega, rfl, HJ2⟩
              case measure => simp [RowKit.intOf]; omega
          · have e : j = cache.length := by omega
            have HV : Hid (sj = lastAt cache i sx) := by show _ = _; rw [HJ.out, e, List.take_length]
            have zj : ¬ (j : Int) < cache.length := by omega
            clear hlt e
            go_wp2
            go_ret2
            exact ⟨by rw [← HSX.out, ← HV.out]; rfl, HB2.out⟩
      · rw [if_neg (show ¬ there ⟨kept, cache, fuse, keep, false⟩ a = true by unfold there; simp; omega)] at hr2
        subst hr2
        have arm : (a < 0 ∧ decide (a < 0) = true) ∨ (decide (a < 0) = false ∧ decide ((kept.length : Int) ≤ a) = true) := by
          by_cases h : a < 0
          · exact .inl ⟨h, decide_eq_true h⟩
          · exact .inr ⟨decide_eq_false h, decide_eq_true (by omega)⟩
        clear hm m1 m2 m3 ht
        rcases arm with ⟨q0, q1⟩ | ⟨q1, q2⟩
        all_goals
          go_enter Try.func11, Try.ntmps11
          go_wp2_with fail
          go_at_call 17
          refine km.mono ?_
          rintro x w2 ⟨rfl, hb2⟩
          have HB2 := Lib.hid (HB.out.next hb2)
          have bx := HX.out.below hb2
          have d0 := bx.kept
          have d4 := bx.dead
          clear km hb2 b0 b1 b2 b3 b4 bx
          go_wp2
          go_ret2
          exact ⟨rfl, HB2.out⟩
  · have hm2 : mayD d = false := by simpa using hm
    rw [hm2] at km
    rw [if_neg hm] at hr
    subst hr
    clear hm hm2
    go_enter Try.func11, Try.ntmps11
    go_wp2_with fail
    go_at_call 17
    refine km.mono ?_
    rintro x w2 ⟨rfl, hb2⟩
    have HB2 := Lib.hid (HB.out.next hb2)
    clear km hb2
    go_wp2
    go_ret2
    exact ⟨rfl, HB2.out⟩
end Go.Proofs.Ytaamjamcnnalbaa.Dv

