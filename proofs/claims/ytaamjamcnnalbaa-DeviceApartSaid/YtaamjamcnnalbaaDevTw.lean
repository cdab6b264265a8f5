/-
  The law DeviceWrites, from what package device owes.
-/
import Derived.Test.YtaamjamcnnalbaaDevTl
import Derived.Test.YtaamjamcnnalbaaDevMw
namespace Go.Proofs.Ytaamjamcnnalbaa.Dv
set_option maxRecDepth 100000
open Go.RowKit Go.Lib
set_option maxHeartbeats 8000000 in
theorem writes_any (S : SpecD) (d : Dsk) (v : Value) (hd : Sized d) (a : Int) (ha : -9223372036854775808 ≤ a ∧ a ≤ 9223372036854775807) (t : ByteArray) (f : Int) (K : List Bool) (pk : Option Addr) (ck : Nat) (o : Int) (ho : -9223372036854775808 ≤ o ∧ o ≤ 9223372036854775807) (w : World) (h : DLie w v d) (hK : FlagsLie w pk K ck) :
    Calls Try.prog 4 #[v, .agg #[.int .i64 a, .string t, .int .i64 f, .slice pk K.length ck], .int .i64 o] w fun x w' => x = .returned (.bool true) ∧ Below w.heap.size w w' := by
  have KF : Hid (∀ w, Calls Try.prog 9 #[] w fun x w' => x = .returned (.bool true) ∧ Below w.heap.size w w') := Lib.hid fun w => fixed_any S w
  have KS : Hid (∀ v w, DLie w v d → Calls Try.prog 8 #[v] w fun x w' => x = .returned (.bool (smallD d)) ∧ Below w.heap.size w w') := Lib.hid fun v w h => small_doc d v w h
  have KM : Hid (∀ v w, DLie w v d → Calls Try.prog 16 #[v] w fun x w' => x = .returned (.bool (mayD d)) ∧ Below w.heap.size w w') := Lib.hid fun v w h => S.may d v w hd h
  have KW : Hid (∀ v w, DLie w v d → Calls Try.prog 12 #[v, .int .i64 a, .string t] w fun x w' => ∃ u, x = .returned (.tuple #[u, .int .i64 (writeD d a t).2]) ∧ DLie w' u (writeD d a t).1 ∧ Below w.heap.size w w') := Lib.hid fun v w h => S.write d v a t w hd ha.1 ha.2 h
  have ZW := Lib.hid (sized_write hd a t)
  have hd2 := Lib.hid hd
  have ha2 := Lib.hid ha
  have ho2 := Lib.hid ho
  clear hd ha ho
  obtain ⟨p0, c0, p1, c1, p3, c3, rfl, hv⟩ := h.val
  have hV := Var.new hv
  have b1 := (Below.refl w.heap.size w).alloc (Nat.le_refl _) (.cells #[.slice p0 d.kept.length c0, .slice p1 d.cache.length c1, .int .i64 d.fuse, .slice p3 d.keep.length c3, .bool d.dead] 26)
  generalize hw1 : w.alloc (.cells #[.slice p0 d.kept.length c0, .slice p1 d.cache.length c1, .int .i64 d.fuse, .slice p3 d.keep.length c3, .bool d.dead] 26) = w1 at *
  obtain ⟨g0, hg0⟩ : ∃ g, g = w.heap.size := ⟨_, rfl⟩
  have VD := Lib.hid hV
  have HB := Lib.hid b1
  have HG0 := Lib.hid hg0
  clear hV b1 hv hg0
  have hX := PVar.new (a := a) (t := t) (f := f) (hK.below HB.out)
  have b2 := Lib.hid ((Below.refl w1.heap.size w1).alloc (Nat.le_refl _) (.cells #[.int .i64 a, .string t, .int .i64 f, .slice pk K.length ck] 28))
  generalize hw2 : w1.alloc (.cells #[.int .i64 a, .string t, .int .i64 f, .slice pk K.length ck] 28) = w2 at *
  obtain ⟨g1, hg⟩ : ∃ g, g = w1.heap.size := ⟨_, rfl⟩
  have VX := Lib.hid hX
  have HG1 := Lib.hid hg
  clear hX hg
  replace VD := Lib.hid (VD.out.below b2.out)
  replace HB := Lib.hid (HB.out.next b2.out)
  clear b2
  clear h hK
  go_enter Try.func4, Try.ntmps4
  go_wp2_with fail
  rw [← HG0.out] at VD ⊢
  rw [← HG1.out] at VX ⊢
  clear HG0 HG1 hw1 hw2
  go_at_call 9
  refine (KF.out _).mono ?_
  rintro x wk1 ⟨rfl, hb⟩
  replace VD := Lib.hid (VD.out.below hb)
  replace VX := Lib.hid (VX.out.below hb)
  replace HB := Lib.hid (HB.out.next hb)
  clear hb
  obtain ⟨dp0, dc0, dp1, dc1, dp3, dc3, ⟨du0, du1, du2, du3, du4⟩, dE⟩ := VD.out.opened
  have k1 := KS.out _ _ dE
  go_wp2_with fail
  clear dE du0 du1 du2 du3 du4
  go_at_call 8
  refine (k1).mono ?_
  rintro x wk2 ⟨rfl, hb⟩
  replace VD := Lib.hid (VD.out.below hb)
  replace VX := Lib.hid (VX.out.below hb)
  replace HB := Lib.hid (HB.out.next hb)
  clear hb
  clear k1 KS
  cases hs : smallD d with
  | false =>
    go_wp2_with fail
    go_at_call 9
    refine (KF.out _).mono ?_
    rintro x wz ⟨rfl, hb⟩
    go_wp2
    go_ret
    exact ⟨rfl, HB.out.next hb⟩
  | true =>
    obtain ⟨dp0, dc0, dp1, dc1, dp3, dc3, ⟨du0, du1, du2, du3, du4⟩, dE⟩ := VD.out.opened
    have k1 := KM.out _ _ dE
    go_wp2_with fail
    clear dE du0 du1 du2 du3 du4
    go_at_call 16
    refine (k1).mono ?_
    rintro x wk3 ⟨rfl, hb⟩
    replace VD := Lib.hid (VD.out.below hb)
    replace VX := Lib.hid (VX.out.below hb)
    replace HB := Lib.hid (HB.out.next hb)
    clear hb
    clear k1 KM hs
    cases hm : mayD d with
    | false =>
      clear hm
      go_wp2_with fail
      go_at_call 9
      refine (KF.out _).mono ?_
      rintro x wz ⟨rfl, hb⟩
      go_wp2
      go_ret
      exact ⟨rfl, HB.out.next hb⟩
    | true =>
      have HM := Lib.hid hm
      clear hm
      by_cases h1 : (writeD d a t).2 = 1
      · rw [h1, write_arg HM.out h1] at KW
        clear h1
        have KE : Hid (∀ u v w, DLie w u d → DLie w v d → Calls Try.prog 18 #[u, v] w fun x w' => x = .returned (.bool true) ∧ Below w.heap.size w w') := Lib.hid fun u v w h1 h2 => by
          have := same_doc d d hd2.out hd2.out u v w h1 h2
          rw [sameD_refl] at this
          exact this
        obtain ⟨⟨xu0, xu1, xu2, xu3⟩, _⟩ := VX.out.opened
        obtain ⟨dp0, dc0, dp1, dc1, dp3, dc3, ⟨du0, du1, du2, du3, du4⟩, dE⟩ := VD.out.opened
        have k1 := KW.out _ _ dE
        go_wp2_with fail
        clear xu0 xu1 xu2 xu3
        clear dE du0 du1 du2 du3 du4
        go_at_call 12
        refine (k1).mono ?_
        rintro x wk4 ⟨u, rfl, hd, hb⟩
        obtain ⟨p0, c0, p1, c1, p3, c3, rfl, hh⟩ := hd.val
        have VW := Lib.hid (Var.new hh)
        have HV := Lib.hid ((Below.refl wk4.heap.size wk4).alloc (Nat.le_refl _) (.cells #[.slice p0 (d).kept.length c0, .slice p1 (d).cache.length c1, .int .i64 (d).fuse, .slice p3 (d).keep.length c3, .bool (d).dead] 26))
        replace VD := Lib.hid ((VD.out.below hb).below HV.out)
        replace VX := Lib.hid ((VX.out.below hb).below HV.out)
        replace HB := Lib.hid ((HB.out.next hb).next HV.out)
        clear hb hd hh HV
        clear k1 KW
        obtain ⟨qp0, qc0, qp1, qc1, qp3, qc3, ⟨qu0, qu1, qu2, qu3, qu4⟩, qE⟩ := VW.out.opened
        obtain ⟨dp0, dc0, dp1, dc1, dp3, dc3, ⟨du0, du1, du2, du3, du4⟩, dE⟩ := VD.out.opened
        have k1 := KE.out _ _ _ qE dE
        go_wp2_with fail
        go_at_call 18
        refine k1.mono ?_
        rintro x wz ⟨rfl, hb⟩
        go_wp2
        go_ret
        exact ⟨rfl, HB.out.next hb⟩
      by_cases h2 : (writeD d a t).2 = 90
      · have hwd := write_dead HM.out h2
        rw [h2] at KW
        have KR : Hid (∀ v w, DLie w v (writeD d a t).1 → Calls Try.prog 10 #[v, .int .i64 a] w fun x w' => x = .returned (.tuple #[.string (readD (writeD d a t).1 a).1, .int .i64 90]) ∧ Below w.heap.size w w') := Lib.hid fun v w h => by
          have := S.read _ v a w ZW.out ha2.out.1 ha2.out.2 h
          rw [hwd.2.1] at this
          exact this
        have HL := Lib.hid hwd.2.2
        have HD := Lib.hid hwd.1
        generalize (readD (writeD d a t).1 a).1 = rs at *
        generalize (writeD d a t).1 = wd at *
        clear h1 h2 hwd
        obtain ⟨⟨xu0, xu1, xu2, xu3⟩, _⟩ := VX.out.opened
        obtain ⟨dp0, dc0, dp1, dc1, dp3, dc3, ⟨du0, du1, du2, du3, du4⟩, dE⟩ := VD.out.opened
        have k1 := KW.out _ _ dE
        go_wp2_with fail
        clear xu0 xu1 xu2 xu3
        clear dE du0 du1 du2 du3 du4
        go_at_call 12
        refine (k1).mono ?_
        rintro x wk4 ⟨u, rfl, hd, hb⟩
        obtain ⟨p0, c0, p1, c1, p3, c3, rfl, hh⟩ := hd.val
        have VW := Lib.hid (Var.new hh)
        have HV := Lib.hid ((Below.refl wk4.heap.size wk4).alloc (Nat.le_refl _) (.cells #[.slice p0 (wd).kept.length c0, .slice p1 (wd).cache.length c1, .int .i64 (wd).fuse, .slice p3 (wd).keep.length c3, .bool (wd).dead] 26))
        replace VD := Lib.hid ((VD.out.below hb).below HV.out)
        replace VX := Lib.hid ((VX.out.below hb).below HV.out)
        replace HB := Lib.hid ((HB.out.next hb).next HV.out)
        clear hb hd hh HV
        clear k1 KW
        obtain ⟨⟨xu0, xu1, xu2, xu3⟩, _⟩ := VX.out.opened
        obtain ⟨qp0, qc0, qp1, qc1, qp3, qc3, ⟨qu0, qu1, qu2, qu3, qu4⟩, qE⟩ := VW.out.opened
        have k1 := KR.out _ _ qE
        go_wp2_with fail
        obtain ⟨gw, hg⟩ : ∃ g, g = wk4.heap.size := ⟨_, rfl⟩
        rw [← hg] at VW ⊢
        generalize wk4.alloc (.cells #[.slice p0 (wd).kept.length c0, .slice p1 (wd).cache.length c1, .int .i64 (wd).fuse, .slice p3 (wd).keep.length c3, .bool (wd).dead] 26) = wk4a at *
        clear hg
        clear xu0 xu1 xu2 xu3
        clear qE qu0 qu1 qu2 qu3 qu4
        go_at_call 10
        refine (k1).mono ?_
        rintro x wk5 ⟨rfl, hb⟩
        replace VD := Lib.hid (VD.out.below hb)
        replace VX := Lib.hid (VX.out.below hb)
        replace VW := Lib.hid (VW.out.below hb)
        replace HB := Lib.hid (HB.out.next hb)
        clear hb
        clear k1
        obtain ⟨qp0, qc0, qp1, qc1, qp3, qc3, ⟨qu0, qu1, qu2, qu3, qu4⟩, qE⟩ := VW.out.opened
        obtain ⟨dp0, dc0, dp1, dc1, dp3, dc3, ⟨du0, du1, du2, du3, du4⟩, dE⟩ := VD.out.opened
        rw [HD.out] at qu4
        have zl : ((wd.kept.length : Nat) : Int) = (d.kept.length : Nat) := by rw [HL.out]
        go_wp2
        go_ret
        exact ⟨rfl, HB.out⟩
      obtain ⟨h0, hw⟩ := write_ok HM.out h1 h2
      rw [h0] at KW
      have KR1 : Hid (∀ v w, DLie w v (writeD d a t).1 → Calls Try.prog 10 #[v, .int .i64 a] w fun x w' => x = .returned (.tuple #[.string t, .int .i64 0]) ∧ Below w.heap.size w w') := Lib.hid fun v w h => by
        have := S.read _ v a w ZW.out ha2.out.1 ha2.out.2 h
        rw [hw.read] at this
        exact this
      have KR2 : Hid (∀ v w, DLie w v d → Calls Try.prog 10 #[v, .int .i64 o] w fun x w' => x = .returned (.tuple #[.string (readD d o).1, .int .i64 (readD d o).2]) ∧ Below w.heap.size w w') := Lib.hid fun v w h => S.read d v o w hd2.out ho2.out.1 ho2.out.2 h
      have KR3 : Hid (∀ v w, DLie w v (writeD d a t).1 → Calls Try.prog 10 #[v, .int .i64 o] w fun x w' => x = .returned (.tuple #[.string (readD (writeD d a t).1 o).1, .int .i64 (readD d o).2]) ∧ Below w.heap.size w w') := Lib.hid fun v w h => by
        have := S.read _ v o w ZW.out ho2.out.1 ho2.out.2 h
        rw [(hw.other o).1] at this
        exact this
      have KL : Hid (∀ v w, DLie w v (writeD d a t).1 → Calls Try.prog 14 #[v] w fun x w' => ∃ u, x = .returned (.tuple #[u, .int .i64 0]) ∧ DLie w' u (flushD (writeD d a t).1).1 ∧ Below w.heap.size w w') := Lib.hid fun v w h => by
        have := S.flush _ v w ZW.out h
        rw [hw.flush] at this
        exact this
      have ZL := Lib.hid (sized_flush ZW.out)
      have KD : Hid (∀ v w, DLie w v (flushD (writeD d a t).1).1 → Calls Try.prog 23 #[v, .slice none 0 0] w fun x w' => ∃ u, x = .returned u ∧ DLie w' u (dieD (flushD (writeD d a t).1).1 []) ∧ Below w.heap.size w w') := Lib.hid fun v w h => S.die _ v [] 0 none 0 w ZL.out rfl h (flagsNone w)
      have ZD := Lib.hid (sized_die ZL.out [])
      have KR4 : Hid (∀ v w, DLie w v (dieD (flushD (writeD d a t).1).1 []) → Calls Try.prog 10 #[v, .int .i64 a] w fun x w' => x = .returned (.tuple #[.string ⟨#[]⟩, .int .i64 90]) ∧ Below w.heap.size w w') := Lib.hid fun v w h => by
        have := S.read _ v a w ZD.out ha2.out.1 ha2.out.2 h
        rw [hw.dead] at this
        exact this
      have KV : Hid (∀ v w, DLie w v (dieD (flushD (writeD d a t).1).1 []) → Calls Try.prog 25 #[v] w fun x w' => ∃ u, x = .returned u ∧ DLie w' u (reviveD (dieD (flushD (writeD d a t).1).1 [])) ∧ Below w.heap.size w w') := Lib.hid fun v w h => S.revive _ v w ZD.out h
      have KR5 : Hid (∀ v w, DLie w v (reviveD (dieD (flushD (writeD d a t).1).1 [])) → Calls Try.prog 10 #[v, .int .i64 a] w fun x w' => x = .returned (.tuple #[.string t, .int .i64 (readD (reviveD (dieD (flushD (writeD d a t).1).1 [])) a).2]) ∧ Below w.heap.size w w') := Lib.hid fun v w h => by
        have := S.read _ v a w (sized_revive ZD.out) ha2.out.1 ha2.out.2 h
        rw [hw.kept] at this
        exact this
      have HO := Lib.hid (hw.other o).2
      generalize (readD (reviveD (dieD (flushD (writeD d a t).1).1 [])) a).2 = ce at *
      generalize reviveD (dieD (flushD (writeD d a t).1).1 []) = rd at *
      generalize dieD (flushD (writeD d a t).1).1 [] = dd at *
      generalize (flushD (writeD d a t).1).1 = fl at *
      generalize (readD (writeD d a t).1 o).1 = so2 at *
      generalize (readD d o).1 = so1 at *
      generalize (readD d o).2 = eo at *
      generalize (writeD d a t).1 = wd at *
      clear h1 h2 h0 hw
      obtain ⟨⟨xu0, xu1, xu2, xu3⟩, _⟩ := VX.out.opened
      obtain ⟨dp0, dc0, dp1, dc1, dp3, dc3, ⟨du0, du1, du2, du3, du4⟩, dE⟩ := VD.out.opened
      have k1 := KW.out _ _ dE
      go_wp2_with fail
      clear xu0 xu1 xu2 xu3
      clear dE du0 du1 du2 du3 du4
      go_at_call 12
      refine (k1).mono ?_
      rintro x wk4 ⟨u, rfl, hd, hb⟩
      obtain ⟨p0, c0, p1, c1, p3, c3, rfl, hh⟩ := hd.val
      have VW := Lib.hid (Var.new hh)
      have HV := Lib.hid ((Below.refl wk4.heap.size wk4).alloc (Nat.le_refl _) (.cells #[.slice p0 (wd).kept.length c0, .slice p1 (wd).cache.length c1, .int .i64 (wd).fuse, .slice p3 (wd).keep.length c3, .bool (wd).dead] 26))
      replace VD := Lib.hid ((VD.out.below hb).below HV.out)
      replace VX := Lib.hid ((VX.out.below hb).below HV.out)
      replace HB := Lib.hid ((HB.out.next hb).next HV.out)
      clear hb hd hh HV
      clear k1 KW
      obtain ⟨⟨xu0, xu1, xu2, xu3⟩, _⟩ := VX.out.opened
      obtain ⟨qp0, qc0, qp1, qc1, qp3, qc3, ⟨qu0, qu1, qu2, qu3, qu4⟩, qE⟩ := VW.out.opened
      have k1 := KR1.out _ _ qE
      go_wp2_with fail
      obtain ⟨gw, hg⟩ : ∃ g, g = wk4.heap.size := ⟨_, rfl⟩
      rw [← hg] at VW ⊢
      generalize wk4.alloc (.cells #[.slice p0 (wd).kept.length c0, .slice p1 (wd).cache.length c1, .int .i64 (wd).fuse, .slice p3 (wd).keep.length c3, .bool (wd).dead] 26) = wk4a at *
      clear hg
      clear xu0 xu1 xu2 xu3
      clear qE qu0 qu1 qu2 qu3 qu4
      go_at_call 10
      refine (k1).mono ?_
      rintro x wk5 ⟨rfl, hb⟩
      replace VD := Lib.hid (VD.out.below hb)
      replace VX := Lib.hid (VX.out.below hb)
      replace VW := Lib.hid (VW.out.below hb)
      replace HB := Lib.hid (HB.out.next hb)
      clear hb
      clear k1
      obtain ⟨dp0, dc0, dp1, dc1, dp3, dc3, ⟨du0, du1, du2, du3, du4⟩, dE⟩ := VD.out.opened
      have k1 := KR2.out _ _ dE
      go_wp2_with fail
      clear dE du0 du1 du2 du3 du4
      go_at_call 10
      refine (k1).mono ?_
      rintro x wk6 ⟨rfl, hb⟩
      replace VD := Lib.hid (VD.out.below hb)
      replace VX := Lib.hid (VX.out.below hb)
      replace VW := Lib.hid (VW.out.below hb)
      replace HB := Lib.hid (HB.out.next hb)
      clear hb
      clear k1
      obtain ⟨qp0, qc0, qp1, qc1, qp3, qc3, ⟨qu0, qu1, qu2, qu3, qu4⟩, qE⟩ := VW.out.opened
      have k1 := KR3.out _ _ qE
      go_wp2_with fail
      clear qE qu0 qu1 qu2 qu3 qu4
      go_at_call 10
      refine (k1).mono ?_
      rintro x wk7 ⟨rfl, hb⟩
      replace VD := Lib.hid (VD.out.below hb)
      replace VX := Lib.hid (VX.out.below hb)
      replace VW := Lib.hid (VW.out.below hb)
      replace HB := Lib.hid (HB.out.next hb)
      clear hb
      clear k1
      obtain ⟨qp0, qc0, qp1, qc1, qp3, qc3, ⟨qu0, qu1, qu2, qu3, qu4⟩, qE⟩ := VW.out.opened
      have k1 := KL.out _ _ qE
      go_wp2_with fail
      clear qE qu0 qu1 qu2 qu3 qu4
      go_at_call 14
      refine (k1).mono ?_
      rintro x wk8 ⟨u, rfl, hd, hb⟩
      obtain ⟨p0, c0, p1, c1, p3, c3, rfl, hh⟩ := hd.val
      have VL := Lib.hid (Var.new hh)
      have HV := Lib.hid ((Below.refl wk8.heap.size wk8).alloc (Nat.le_refl _) (.cells #[.slice p0 (fl).kept.length c0, .slice p1 (fl).cache.length c1, .int .i64 (fl).fuse, .slice p3 (fl).keep.length c3, .bool (fl).dead] 26))
      replace VD := Lib.hid ((VD.out.below hb).below HV.out)
      replace VX := Lib.hid ((VX.out.below hb).below HV.out)
      replace VW := Lib.hid ((VW.out.below hb).below HV.out)
      replace HB := Lib.hid ((HB.out.next hb).next HV.out)
      clear hb hd hh HV
      clear k1 KL
      go_wp2_with fail
      obtain ⟨gl, hg⟩ : ∃ g, g = wk8.heap.size := ⟨_, rfl⟩
      rw [← hg] at VL ⊢
      generalize wk8.alloc (.cells #[.slice p0 (fl).kept.length c0, .slice p1 (fl).cache.length c1, .int .i64 (fl).fuse, .slice p3 (fl).keep.length c3, .bool (fl).dead] 26) = wk8a at *
      clear hg
      have lL := VL.out.lt
      obtain ⟨lp0, lc0, lp1, lc1, lp3, lc3, ⟨lu0, lu1, lu2, lu3, lu4⟩, lE⟩ := VL.out.opened
      have xL := (Array.getElem?_eq_some_iff.1 VX.out.heap).1
      obtain ⟨⟨xu0, xu1, xu2, xu3⟩, xK⟩ := VX.out.opened
      have HKx := Lib.hid (fun (wy : World) (hb : Below wk8a.heap.size wk8a wy) => xK.below hb)
      have HC : Hid (∀ w', Below wk8a.heap.size wk8a w' → w'.cell? ⟨gl, 0, none⟩ = some (.slice lp0 fl.kept.length lc0) ∧ w'.cell? ⟨gl, 1, none⟩ = some (.slice lp1 fl.cache.length lc1) ∧ w'.cell? ⟨gl, 2, none⟩ = some (.int .i64 fl.fuse) ∧ w'.cell? ⟨gl, 3, none⟩ = some (.slice lp3 fl.keep.length lc3) ∧ w'.cell? ⟨gl, 4, none⟩ = some (.bool fl.dead) ∧ w'.cell? ⟨g1, 0, none⟩ = some (.int .i64 a) ∧ w'.cell? ⟨g1, 1, none⟩ = some (.string t) ∧ w'.cell? ⟨g1, 2, none⟩ = some (.int .i64 f) ∧ w'.cell? ⟨g1, 3, none⟩ = some (.slice pk K.length ck)) := Lib.hid fun w' hb => ⟨(hb.cell (p := ⟨gl, 0, none⟩) lL).trans lu0, (hb.cell (p := ⟨gl, 1, none⟩) lL).trans lu1, (hb.cell (p := ⟨gl, 2, none⟩) lL).trans lu2, (hb.cell (p := ⟨gl, 3, none⟩) lL).trans lu3, (hb.cell (p := ⟨gl, 4, none⟩) lL).trans lu4, (hb.cell (p := ⟨g1, 0, none⟩) xL).trans xu0, (hb.cell (p := ⟨g1, 1, none⟩) xL).trans xu1, (hb.cell (p := ⟨g1, 2, none⟩) xL).trans xu2, (hb.cell (p := ⟨g1, 3, none⟩) xL).trans xu3⟩
      have HDl := Lib.hid (fun (wy : World) (hb : Below wk8a.heap.size wk8a wy) => lE.below hb)
      clear lE lL lu0 lu1 lu2 lu3 lu4
      clear xK xL xu0 xu1 xu2 xu3
      have HR := Lib.hid ((Below.refl wk8a.heap.size wk8a).drew)
      refine wp_region_held_drew (S := (fun w' => w'.cell? ⟨gl, 0, none⟩ = some (.slice lp0 fl.kept.length lc0) ∧ w'.cell? ⟨gl, 1, none⟩ = some (.slice lp1 fl.cache.length lc1) ∧ w'.cell? ⟨gl, 2, none⟩ = some (.int .i64 fl.fuse) ∧ w'.cell? ⟨gl, 3, none⟩ = some (.slice lp3 fl.keep.length lc3) ∧ w'.cell? ⟨gl, 4, none⟩ = some (.bool fl.dead) ∧ w'.cell? ⟨g1, 0, none⟩ = some (.int .i64 a) ∧ w'.cell? ⟨g1, 1, none⟩ = some (.string t) ∧ w'.cell? ⟨g1, 2, none⟩ = some (.int .i64 f) ∧ w'.cell? ⟨g1, 3, none⟩ = some (.slice pk K.length ck))) (by kernel_rfl) (HC.out _ HR.out) (fun hh0 => ?_)
      refine wpAnyH_takeL (i := 0) (v := ?h1v0) rfl (by kernel_rfl) (by kernel_rfl) (by kernel_rfl) (fun _ _ _ h => h) (Or.inl ⟨by rfl, ?h1y0⟩) hh0 ?_
      case h1y0 => (intro w hSw; (try dsimp only at hSw); go_simp; try (with_reducible rfl))
      try simp only [Act.put, List.setIfInBounds_toArray, List.set_cons_zero, List.set_cons_succ]
      refine wpAnyH_takeL (i := 2) (v := ?h1v2) rfl (by kernel_rfl) (by kernel_rfl) (by kernel_rfl) (fun _ _ _ h => h) (Or.inl ⟨by rfl, ?h1y2⟩) hh0 ?_
      case h1y2 => (intro w hSw; (try dsimp only at hSw); go_simp; try (with_reducible rfl))
      try simp only [Act.put, List.setIfInBounds_toArray, List.set_cons_zero, List.set_cons_succ]
      refine wpAnyH_takeL (i := 3) (v := ?h1v3) rfl (by kernel_rfl) (by kernel_rfl) (by kernel_rfl) (fun _ _ _ h => h) (Or.inl ⟨by rfl, ?h1y3⟩) hh0 ?_
      case h1y3 => (intro w hSw; (try dsimp only at hSw); go_simp; try (with_reducible rfl))
      try simp only [Act.put, List.setIfInBounds_toArray, List.set_cons_zero, List.set_cons_succ]
      refine wpAnyH_ready (rs := [1]) (by kernel_rfl) (by simp) ?_
      refine AllReadyH.consL rfl (fun K hK => ?_) AllReadyH.nil
      go_simp
      go_at_call 23
      refine (KD.out _ _ (HDl.out _ HR.out)).mono ?_
      rintro x wx ⟨ud, rfl, hu, hb⟩
      have QQ := Lib.hid hu
      clear hu
      replace HR := Lib.hid (HR.out.next hb)
      clear hb
      refine hK.out _ _ (HC.out _ HR.out) (fun hh1 => ?_)
      clear hK K hh0
      try simp only [Act.put, List.setIfInBounds_toArray, List.set_cons_zero, List.set_cons_succ]
      refine wpAnyH_ready (rs := [4]) (by kernel_rfl) (by simp) ?_
      refine AllReadyH.consL rfl (fun K hK => ?_) AllReadyH.nil
      go_simp
      go_at_call 10
      refine (KR4.out _ _ QQ.out).mono ?_
      rintro x wx ⟨rfl, hb⟩
      clear QQ
      replace HR := Lib.hid (HR.out.next hb)
      clear hb
      refine hK.out _ _ (HC.out _ HR.out) (fun hh2 => ?_)
      clear hK K hh1
      try simp only [Act.put, List.setIfInBounds_toArray, List.set_cons_zero, List.set_cons_succ]
      refine wpAnyH_takeL (i := 5) (v := ?h1v5) rfl (by kernel_rfl) (by kernel_rfl) (by kernel_rfl) (fun _ _ _ h => h) (Or.inl ⟨by rfl, ?h1y5⟩) hh2 ?_
      case h1y5 => (intro w hSw; (try dsimp only at hSw); go_simp; try (with_reducible rfl))
      try simp only [Act.put, List.setIfInBounds_toArray, List.set_cons_zero, List.set_cons_succ]
      refine wpAnyH_takeL (i := 6) (v := ?h1v6) rfl (by kernel_rfl) (by kernel_rfl) (by kernel_rfl) (fun _ _ _ h => h) (Or.inl ⟨by rfl, ?h1y6⟩) hh2 ?_
      case h1y6 => (intro w hSw; (try dsimp only at hSw); go_simp; try (with_reducible rfl))
      try simp only [Act.put, List.setIfInBounds_toArray, List.set_cons_zero, List.set_cons_succ]
      refine wpAnyH_takeL (i := 7) (v := ?h1v7) rfl (by kernel_rfl) (by kernel_rfl) (by kernel_rfl) (fun _ _ _ h => h) (Or.inl ⟨by rfl, ?h1y7⟩) hh2 ?_
      case h1y7 => (intro w hSw; (try dsimp only at hSw); go_simp; try (with_reducible rfl))
      try simp only [Act.put, List.setIfInBounds_toArray, List.set_cons_zero, List.set_cons_succ]
      refine wpAnyH_takeL (i := 8) (v := ?h1v8) rfl (by kernel_rfl) (by kernel_rfl) (by kernel_rfl) (fun _ _ _ h => h) (Or.inl ⟨by rfl, ?h1y8⟩) hh2 ?_
      case h1y8 => (intro w hSw; (try dsimp only at hSw); go_simp; try (with_reducible rfl))
      try simp only [Act.put, List.setIfInBounds_toArray, List.set_cons_zero, List.set_cons_succ]
      refine wpAnyH_takeL (i := 9) (v := ?h1v9) rfl (by kernel_rfl) (by kernel_rfl) (by kernel_rfl) (fun _ _ _ h => h) (Or.inl ⟨by rfl, ?h1y9⟩) hh2 ?_
      case h1y9 => (intro w hSw; (try dsimp only at hSw); go_simp; try (with_reducible rfl))
      try simp only [Act.put, List.setIfInBounds_toArray, List.set_cons_zero, List.set_cons_succ]
      refine wpAnyH_done (by kernel_rfl) ?_ _
      clear hh2
      replace VD := Lib.hid (VD.out.below HR.out)
      replace VX := Lib.hid (VX.out.below HR.out)
      replace VW := Lib.hid (VW.out.below HR.out)
      replace VL := Lib.hid (VL.out.below HR.out)
      replace HB := Lib.hid (HB.out.next HR.out)
      clear HR HC HDl HKx 
      go_wp2_with fail
      have lL := VL.out.lt
      obtain ⟨lp0, lc0, lp1, lc1, lp3, lc3, ⟨lu0, lu1, lu2, lu3, lu4⟩, lE⟩ := VL.out.opened
      have xL := (Array.getElem?_eq_some_iff.1 VX.out.heap).1
      obtain ⟨⟨xu0, xu1, xu2, xu3⟩, xK⟩ := VX.out.opened
      have HKx := Lib.hid (fun (wy : World) (hb : Below wx.heap.size wx wy) => xK.below hb)
      have HC : Hid (∀ w', Below wx.heap.size wx w' → w'.cell? ⟨gl, 0, none⟩ = some (.slice lp0 fl.kept.length lc0) ∧ w'.cell? ⟨gl, 1, none⟩ = some (.slice lp1 fl.cache.length lc1) ∧ w'.cell? ⟨gl, 2, none⟩ = some (.int .i64 fl.fuse) ∧ w'.cell? ⟨gl, 3, none⟩ = some (.slice lp3 fl.keep.length lc3) ∧ w'.cell? ⟨gl, 4, none⟩ = some (.bool fl.dead) ∧ w'.cell? ⟨g1, 0, none⟩ = some (.int .i64 a) ∧ w'.cell? ⟨g1, 1, none⟩ = some (.string t) ∧ w'.cell? ⟨g1, 2, none⟩ = some (.int .i64 f) ∧ w'.cell? ⟨g1, 3, none⟩ = some (.slice pk K.length ck)) := Lib.hid fun w' hb => ⟨(hb.cell (p := ⟨gl, 0, none⟩) lL).trans lu0, (hb.cell (p := ⟨gl, 1, none⟩) lL).trans lu1, (hb.cell (p := ⟨gl, 2, none⟩) lL).trans lu2, (hb.cell (p := ⟨gl, 3, none⟩) lL).trans lu3, (hb.cell (p := ⟨gl, 4, none⟩) lL).trans lu4, (hb.cell (p := ⟨g1, 0, none⟩) xL).trans xu0, (hb.cell (p := ⟨g1, 1, none⟩) xL).trans xu1, (hb.cell (p := ⟨g1, 2, none⟩) xL).trans xu2, (hb.cell (p := ⟨g1, 3, none⟩) xL).trans xu3⟩
      have HDl := Lib.hid (fun (wy : World) (hb : Below wx.heap.size wx wy) => lE.below hb)
      clear lE lL lu0 lu1 lu2 lu3 lu4
      clear xK xL xu0 xu1 xu2 xu3
      have HR := Lib.hid ((Below.refl wx.heap.size wx).drew)
      refine wp_region_held_drew (S := (fun w' => w'.cell? ⟨gl, 0, none⟩ = some (.slice lp0 fl.kept.length lc0) ∧ w'.cell? ⟨gl, 1, none⟩ = some (.slice lp1 fl.cache.length lc1) ∧ w'.cell? ⟨gl, 2, none⟩ = some (.int .i64 fl.fuse) ∧ w'.cell? ⟨gl, 3, none⟩ = some (.slice lp3 fl.keep.length lc3) ∧ w'.cell? ⟨gl, 4, none⟩ = some (.bool fl.dead) ∧ w'.cell? ⟨g1, 0, none⟩ = some (.int .i64 a) ∧ w'.cell? ⟨g1, 1, none⟩ = some (.string t) ∧ w'.cell? ⟨g1, 2, none⟩ = some (.int .i64 f) ∧ w'.cell? ⟨g1, 3, none⟩ = some (.slice pk K.length ck))) (by kernel_rfl) (HC.out _ HR.out) (fun hh0 => ?_)
      refine wpAnyH_takeL (i := 0) (v := ?h2v0) rfl (by kernel_rfl) (by kernel_rfl) (by kernel_rfl) (fun _ _ _ h => h) (Or.inl ⟨by rfl, ?h2y0⟩) hh0 ?_
      case h2y0 => (intro w hSw; (try dsimp only at hSw); go_simp; try (with_reducible rfl))
      try simp only [Act.put, List.setIfInBounds_toArray, List.set_cons_zero, List.set_cons_succ]
      refine wpAnyH_takeL (i := 3) (v := ?h2v3) rfl (by kernel_rfl) (by kernel_rfl) (by kernel_rfl) (fun _ _ _ h => h) (Or.inl ⟨by rfl, ?h2y3⟩) hh0 ?_
      case h2y3 => (intro w hSw; (try dsimp only at hSw); go_simp; try (with_reducible rfl))
      try simp only [Act.put, List.setIfInBounds_toArray, List.set_cons_zero, List.set_cons_succ]
      refine wpAnyH_takeL (i := 4) (v := ?h2v4) rfl (by kernel_rfl) (by kernel_rfl) (by kernel_rfl) (fun _ _ _ h => h) (Or.inl ⟨by rfl, ?h2y4⟩) hh0 ?_
      case h2y4 => (intro w hSw; (try dsimp only at hSw); go_simp; try (with_reducible rfl))
      try simp only [Act.put, List.setIfInBounds_toArray, List.set_cons_zero, List.set_cons_succ]
      refine wpAnyH_ready (rs := [1]) (by kernel_rfl) (by simp) ?_
      refine AllReadyH.consL rfl (fun K hK => ?_) AllReadyH.nil
      go_simp
      go_at_call 23
      refine (KD.out _ _ (HDl.out _ HR.out)).mono ?_
      rintro x wx ⟨ud, rfl, hu, hb⟩
      have QQ := Lib.hid hu
      clear hu
      replace HR := Lib.hid (HR.out.next hb)
      clear hb
      refine hK.out _ _ (HC.out _ HR.out) (fun hh1 => ?_)
      clear hK K hh0
      try simp only [Act.put, List.setIfInBounds_toArray, List.set_cons_zero, List.set_cons_succ]
      refine wpAnyH_ready (rs := [2]) (by kernel_rfl) (by simp) ?_
      refine AllReadyH.consL rfl (fun K hK => ?_) AllReadyH.nil
      go_simp
      go_at_call 25
      refine (KV.out _ _ QQ.out).mono ?_
      rintro x wx ⟨ue, rfl, hu, hb⟩
      clear QQ
      have QQ := Lib.hid hu
      clear hu
      replace HR := Lib.hid (HR.out.next hb)
      clear hb
      refine hK.out _ _ (HC.out _ HR.out) (fun hh2 => ?_)
      clear hK K hh1
      try simp only [Act.put, List.setIfInBounds_toArray, List.set_cons_zero, List.set_cons_succ]
      refine wpAnyH_ready (rs := [5]) (by kernel_rfl) (by simp) ?_
      refine AllReadyH.consL rfl (fun K hK => ?_) AllReadyH.nil
      go_simp
      go_at_call 10
      refine (KR5.out _ _ QQ.out).mono ?_
      rintro x wx ⟨rfl, hb⟩
      clear QQ
      replace HR := Lib.hid (HR.out.next hb)
      clear hb
      refine hK.out _ _ (HC.out _ HR.out) (fun hh3 => ?_)
      clear hK K hh2
      try simp only [Act.put, List.setIfInBounds_toArray, List.set_cons_zero, List.set_cons_succ]
      refine wpAnyH_takeL (i := 6) (v := ?h2v6) rfl (by kernel_rfl) (by kernel_rfl) (by kernel_rfl) (fun _ _ _ h => h) (Or.inl ⟨by rfl, ?h2y6⟩) hh3 ?_
      case h2y6 => (intro w hSw; (try dsimp only at hSw); go_simp; try (with_reducible rfl))
      try simp only [Act.put, List.setIfInBounds_toArray, List.set_cons_zero, List.set_cons_succ]
      refine wpAnyH_takeL (i := 7) (v := ?h2v7) rfl (by kernel_rfl) (by kernel_rfl) (by kernel_rfl) (fun _ _ _ h => h) (Or.inl ⟨by rfl, ?h2y7⟩) hh3 ?_
      case h2y7 => (intro w hSw; (try dsimp only at hSw); go_simp; try (with_reducible rfl))
      try simp only [Act.put, List.setIfInBounds_toArray, List.set_cons_zero, List.set_cons_succ]
      refine wpAnyH_takeL (i := 8) (v := ?h2v8) rfl (by kernel_rfl) (by kernel_rfl) (by kernel_rfl) (fun _ _ _ h => h) (Or.inl ⟨by rfl, ?h2y8⟩) hh3 ?_
      case h2y8 => (intro w hSw; (try dsimp only at hSw); go_simp; try (with_reducible rfl))
      try simp only [Act.put, List.setIfInBounds_toArray, List.set_cons_zero, List.set_cons_succ]
      refine wpAnyH_takeL (i := 9) (v := ?h2v9) rfl (by kernel_rfl) (by kernel_rfl) (by kernel_rfl) (fun _ _ _ h => h) (Or.inl ⟨by rfl, ?h2y9⟩) hh3 ?_
      case h2y9 => (intro w hSw; (try dsimp only at hSw); go_simp; try (with_reducible rfl))
      try simp only [Act.put, List.setIfInBounds_toArray, List.set_cons_zero, List.set_cons_succ]
      refine wpAnyH_takeL (i := 10) (v := ?h2v10) rfl (by kernel_rfl) (by kernel_rfl) (by kernel_rfl) (fun _ _ _ h => h) (Or.inl ⟨by rfl, ?h2y10⟩) hh3 ?_
      case h2y10 => (intro w hSw; (try dsimp only at hSw); go_simp; try (with_reducible rfl))
      try simp only [Act.put, List.setIfInBounds_toArray, List.set_cons_zero, List.set_cons_succ]
      refine wpAnyH_done (by kernel_rfl) ?_ _
      clear hh3
      replace VD := Lib.hid (VD.out.below HR.out)
      replace VX := Lib.hid (VX.out.below HR.out)
      replace VW := Lib.hid (VW.out.below HR.out)
      replace VL := Lib.hid (VL.out.below HR.out)
      replace HB := Lib.hid (HB.out.next HR.out)
      clear HR HC HDl HKx 
      obtain ⟨⟨xu0, xu1, xu2, xu3⟩, _⟩ := VX.out.opened
      by_cases hoa : o = a
      · subst hoa
        go_wp2
        go_ret
        exact ⟨rfl, HB.out⟩
      · obtain rfl : so2 = so1 := HO.out.resolve_left hoa
        have z1 : (o == a) = false := by rw [beq_eq_false_iff_ne]; exact hoa
        go_wp2
        go_ret
        exact ⟨rfl, HB.out⟩
end Go.Proofs.Ytaamjamcnnalbaa.Dv

