/-
  The law DeviceApart, from what package device owes.
-/
import Derived.Test.YtaamjamcnnalbaaDevTl
import Derived.Test.YtaamjamcnnalbaaDevMw
namespace Go.Proofs.Ytaamjamcnnalbaa.Dv
set_option maxRecDepth 100000
open Go.RowKit Go.Lib
set_option maxHeartbeats 8000000 in
theorem apart_any (S : SpecD) (d : Dsk) (v : Value) (hd : Sized d) (a : Int) (ha : -9223372036854775808 ≤ a ∧ a ≤ 9223372036854775807) (s : ByteArray) (f : Int) (K : List Bool) (pk : Option Addr) (ck : Nat) (b : Int) (hb : -9223372036854775808 ≤ b ∧ b ≤ 9223372036854775807) (t : ByteArray) (f2 : Int) (K2 : List Bool) (pk2 : Option Addr) (ck2 : Nat) (w : World) (h : DLie w v d) (hK : FlagsLie w pk K ck) (hK2 : FlagsLie w pk2 K2 ck2) :
    Calls Try.prog 7 #[v, .agg #[.int .i64 a, .string s, .int .i64 f, .slice pk K.length ck], .agg #[.int .i64 b, .string t, .int .i64 f2, .slice pk2 K2.length ck2]] w fun x w' => x = .returned (.bool true) ∧ Below w.heap.size w w' := by
  have KF : Hid (∀ w, Calls Try.prog 9 #[] w fun x w' => x = .returned (.bool true) ∧ Below w.heap.size w w') := Lib.hid fun w => fixed_any S w
  have KS : Hid (∀ v w, DLie w v d → Calls Try.prog 8 #[v] w fun x w' => x = .returned (.bool (smallD d)) ∧ Below w.heap.size w w') := Lib.hid fun v w h => small_doc d v w h
  have KM : Hid (∀ v w, DLie w v d → Calls Try.prog 17 #[v] w fun x w' => x = .returned (.bool (mayD d)) ∧ Below w.heap.size w w') := Lib.hid fun v w h => may_doc d hd v w h
  have hd2 := Lib.hid hd
  have ha2 := Lib.hid ha
  have hb2 := Lib.hid hb
  clear hd ha hb
  obtain ⟨p0, c0, p1, c1, p3, c3, rfl, hv⟩ := h.val
  have hV := Var.new hv
  have b1 := (Below.refl w.heap.size w).alloc (Nat.le_refl _) (.cells #[.slice p0 d.kept.length c0, .slice p1 d.cache.length c1, .int .i64 d.fuse, .slice p3 d.keep.length c3, .bool d.dead] 26)
  generalize hw1 : w.alloc (.cells #[.slice p0 d.kept.length c0, .slice p1 d.cache.length c1, .int .i64 d.fuse, .slice p3 d.keep.length c3, .bool d.dead] 26) = w1 at *
  obtain ⟨g0, hg0⟩ : ∃ g, g = w.heap.size := ⟨_, rfl⟩
  have VD := Lib.hid hV
  have HB := Lib.hid b1
  have HG0 := Lib.hid hg0
  clear hV b1 hv hg0
  have hX := PVar.new (a := a) (t := s) (f := f) (hK.below HB.out)
  have b2 := Lib.hid ((Below.refl w1.heap.size w1).alloc (Nat.le_refl _) (.cells #[.int .i64 a, .string s, .int .i64 f, .slice pk K.length ck] 28))
  generalize hw2 : w1.alloc (.cells #[.int .i64 a, .string s, .int .i64 f, .slice pk K.length ck] 28) = w2 at *
  obtain ⟨g1, hg⟩ : ∃ g, g = w1.heap.size := ⟨_, rfl⟩
  have VX := Lib.hid hX
  have HG1 := Lib.hid hg
  clear hX hg
  replace VD := Lib.hid (VD.out.below b2.out)
  replace HB := Lib.hid (HB.out.next b2.out)
  clear b2
  have hX := PVar.new (a := b) (t := t) (f := f2) (hK2.below HB.out)
  have b2 := Lib.hid ((Below.refl w2.heap.size w2).alloc (Nat.le_refl _) (.cells #[.int .i64 b, .string t, .int .i64 f2, .slice pk2 K2.length ck2] 28))
  generalize hw3 : w2.alloc (.cells #[.int .i64 b, .string t, .int .i64 f2, .slice pk2 K2.length ck2] 28) = w3 at *
  obtain ⟨g2, hg⟩ : ∃ g, g = w2.heap.size := ⟨_, rfl⟩
  have VY := Lib.hid hX
  have HG2 := Lib.hid hg
  clear hX hg
  replace VD := Lib.hid (VD.out.below b2.out)
  replace VX := Lib.hid (VX.out.below b2.out)
  replace HB := Lib.hid (HB.out.next b2.out)
  clear b2
  clear h hK hK2
  go_enter Try.func7, Try.ntmps7
  go_wp2_with fail
  rw [← HG0.out] at VD ⊢
  rw [← HG1.out] at VX ⊢
  rw [← HG2.out] at VY ⊢
  clear HG0 HG1 HG2 hw1 hw2 hw3
  go_at_call 9
  refine (KF.out _).mono ?_
  rintro x wk1 ⟨rfl, hb⟩
  replace VD := Lib.hid (VD.out.below hb)
  replace VX := Lib.hid (VX.out.below hb)
  replace VY := Lib.hid (VY.out.below hb)
  replace HB := Lib.hid (HB.out.next hb)
  clear hb
  obtain ⟨dp0, dc0, dp1, dc1, dp3, dc3, ⟨du0, du1, du2, du3, du4⟩, dE⟩ := VD.out.opened
  have k1 := KS.out _ _ dE
  go_wp2_with fail
  clear dE du0 du1 du2 du3 du4
  go_at_call 8
  refine (k1).mono ?_
  rintro x wk2 ⟨rfl, hb⟩
  replace VD := Lib.hid (VD.out.below hb)
  replace VX := Lib.hid (VX.out.below hb)
  replace VY := Lib.hid (VY.out.below hb)
  replace HB := Lib.hid (HB.out.next hb)
  clear hb
  clear k1 KS
  cases hs : smallD d with
  | false =>
    go_wp2_with fail
    go_at_call 9
    refine (KF.out _).mono ?_
    rintro x wz ⟨rfl, hb⟩
    go_wp2
    go_ret
    exact ⟨rfl, HB.out.next hb⟩
  | true =>
    obtain ⟨dp0, dc0, dp1, dc1, dp3, dc3, ⟨du0, du1, du2, du3, du4⟩, dE⟩ := VD.out.opened
    have k1 := KM.out _ _ dE
    go_wp2_with fail
    clear dE du0 du1 du2 du3 du4
    go_at_call 17
    refine (k1).mono ?_
    rintro x wk3 ⟨rfl, hb⟩
    replace VD := Lib.hid (VD.out.below hb)
    replace VX := Lib.hid (VX.out.below hb)
    replace VY := Lib.hid (VY.out.below hb)
    replace HB := Lib.hid (HB.out.next hb)
    clear hb
    clear k1 KM
    cases hm : mayD d with
    | false =>
      clear hm hs
      go_wp2_with fail
      go_at_call 9
      refine (KF.out _).mono ?_
      rintro x wz ⟨rfl, hb⟩
      go_wp2
      go_ret
      exact ⟨rfl, HB.out.next hb⟩
    | true =>
      have HS := Lib.hid hs
      have HM := Lib.hid hm
      clear hm hs
      obtain ⟨dp0, dc0, dp1, dc1, dp3, dc3, ⟨du0, du1, du2, du3, du4⟩, dE⟩ := VD.out.opened
      cases hdd : d.dead with
      | true =>
        rw [hdd] at du4
        clear hdd
        go_wp2_with fail
        go_at_call 9
        refine (KF.out _).mono ?_
        rintro x wz ⟨rfl, hb⟩
        go_wp2
        go_ret
        exact ⟨rfl, HB.out.next hb⟩
      | false =>
        rw [hdd] at du4 dE
        have HDD := Lib.hid hdd
        clear hdd
        by_cases hf : 0 ≤ d.fuse
        · clear HS
          go_wp2_with fail
          go_at_call 9
          refine (KF.out _).mono ?_
          rintro x wz ⟨rfl, hb⟩
          go_wp2
          go_ret
          exact ⟨rfl, HB.out.next hb⟩
        obtain ⟨⟨xu0, xu1, xu2, xu3⟩, _⟩ := VX.out.opened
        obtain ⟨⟨yu0, yu1, yu2, yu3⟩, _⟩ := VY.out.opened
        have HF : Hid (d.fuse < 0) := Lib.hid (by omega)
        by_cases hab : a = b
        · subst hab
          clear HS
          go_wp2_with fail
          go_at_call 9
          refine (KF.out _).mono ?_
          rintro x wz ⟨rfl, hb⟩
          go_wp2
          go_ret
          exact ⟨rfl, HB.out.next hb⟩
        have HAB := Lib.hid hab
        have zab : (a == b) = false := by rw [beq_eq_false_iff_ne]; exact hab
        clear hab
        obtain ⟨m1, m2, m3, m4⟩ := writes_apart HM.out HDD.out HF.out (by have := HS.out; unfold smallD at this; simp at this; omega) HAB.out s t
        have Z1 := Lib.hid (sized_write hd2.out a s)
        have Z2 := Lib.hid (sized_write Z1.out b t)
        have Z3 := Lib.hid (sized_write hd2.out b t)
        have Z4 := Lib.hid (sized_write Z3.out a s)
        have Z5 := Lib.hid (sized_flush Z2.out)
        have Z6 := Lib.hid (sized_write Z2.out a t)
        have K1 : Hid (∀ v w, DLie w v d → Calls Try.prog 12 #[v, .int .i64 a, .string s] w fun x w' => ∃ u, x = .returned (.tuple #[u, .int .i64 (writeD d a s).2]) ∧ DLie w' u (writeD d a s).1 ∧ Below w.heap.size w w') := Lib.hid fun v w h => S.write d v a s w hd2.out ha2.out.1 ha2.out.2 h
        have K2w : Hid (∀ v w, DLie w v (writeD d a s).1 → Calls Try.prog 12 #[v, .int .i64 b, .string t] w fun x w' => ∃ u, x = .returned (.tuple #[u, .int .i64 (writeD (writeD d a s).1 b t).2]) ∧ DLie w' u (writeD (writeD d a s).1 b t).1 ∧ Below w.heap.size w w') := Lib.hid fun v w h => S.write _ v b t w Z1.out hb2.out.1 hb2.out.2 h
        have K3 : Hid (∀ v w, DLie w v d → Calls Try.prog 12 #[v, .int .i64 b, .string t] w fun x w' => ∃ u, x = .returned (.tuple #[u, .int .i64 (writeD (writeD d a s).1 b t).2]) ∧ DLie w' u (writeD d b t).1 ∧ Below w.heap.size w w') := Lib.hid fun v w h => by
          have := S.write d v b t w hd2.out hb2.out.1 hb2.out.2 h
          rw [← m2] at this
          exact this
        have K4 : Hid (∀ v w, DLie w v (writeD d b t).1 → Calls Try.prog 12 #[v, .int .i64 a, .string s] w fun x w' => ∃ u, x = .returned (.tuple #[u, .int .i64 (writeD d a s).2]) ∧ DLie w' u (writeD (writeD d b t).1 a s).1 ∧ Below w.heap.size w w') := Lib.hid fun v w h => by
          have := S.write _ v a s w Z3.out ha2.out.1 ha2.out.2 h
          rw [← m1] at this
          exact this
        have K5 : Hid (∀ v w, DLie w v (writeD (writeD d a s).1 b t).1 → Calls Try.prog 14 #[v] w fun x w' => ∃ u, x = .returned (.tuple #[u, .int .i64 (flushD (writeD (writeD d a s).1 b t).1).2]) ∧ DLie w' u (flushD (writeD (writeD d a s).1 b t).1).1 ∧ Below w.heap.size w w') := Lib.hid fun v w h => S.flush _ v w Z2.out h
        have K6 : Hid (∀ v w, DLie w v (writeD (writeD d b t).1 a s).1 → Calls Try.prog 14 #[v] w fun x w' => ∃ u, x = .returned (.tuple #[u, .int .i64 (flushD (writeD (writeD d b t).1 a s).1).2]) ∧ DLie w' u (flushD (writeD (writeD d a s).1 b t).1).1 ∧ Below w.heap.size w w') := Lib.hid fun v w h => by
          have := S.flush _ v w Z4.out h
          rw [← m3] at this
          exact this
        have K7 : Hid (∀ v w, DLie w v (writeD (writeD d a s).1 b t).1 → Calls Try.prog 12 #[v, .int .i64 a, .string t] w fun x w' => ∃ u, x = .returned (.tuple #[u, .int .i64 (writeD (writeD (writeD d a s).1 b t).1 a t).2]) ∧ DLie w' u (writeD (writeD (writeD d a s).1 b t).1 a t).1 ∧ Below w.heap.size w w') := Lib.hid fun v w h => S.write _ v a t w Z2.out ha2.out.1 ha2.out.2 h
        have K8 : Hid (∀ v w, DLie w v (writeD (writeD (writeD d a s).1 b t).1 a t).1 → Calls Try.prog 10 #[v, .int .i64 a] w fun x w' => x = .returned (.tuple #[.string (readD (writeD (writeD (writeD d a s).1 b t).1 a t).1 a).1, .int .i64 (readD (writeD (writeD (writeD d a s).1 b t).1 a t).1 a).2]) ∧ Below w.heap.size w w') := Lib.hid fun v w h => S.read _ v a w Z6.out ha2.out.1 ha2.out.2 h
        have KE : Hid (∀ u v w, DLie w u (flushD (writeD (writeD d a s).1 b t).1).1 → DLie w v (flushD (writeD (writeD d a s).1 b t).1).1 → Calls Try.prog 18 #[u, v] w fun x w' => x = .returned (.bool true) ∧ Below w.heap.size w w') := Lib.hid fun u v w h1 h2 => by
          have := same_doc _ _ Z5.out Z5.out u v w h1 h2
          rw [sameD_refl] at this
          exact this
        have M : Hid ((writeD d a s).2 ≠ 0 ∨ (writeD (writeD d a s).1 b t).2 ≠ 0 ∨ ((readD (writeD (writeD (writeD d a s).1 b t).1 a t).1 a).1 = t ∧ (readD (writeD (writeD (writeD d a s).1 b t).1 a t).1 a).2 = 0)) := m4.imp id fun h => h.imp id fun h => by rw [h]; exact ⟨rfl, rfl⟩
        generalize (readD (writeD (writeD (writeD d a s).1 b t).1 a t).1 a).1 = rs at *
        generalize (readD (writeD (writeD (writeD d a s).1 b t).1 a t).1 a).2 = re at *
        generalize (writeD (writeD (writeD d a s).1 b t).1 a t).2 = e7 at *
        generalize (writeD (writeD (writeD d a s).1 b t).1 a t).1 = d7 at *
        generalize (flushD (writeD (writeD d b t).1 a s).1).2 = e6 at *
        generalize (flushD (writeD (writeD d a s).1 b t).1).2 = e5 at *
        generalize (flushD (writeD (writeD d a s).1 b t).1).1 = d5 at *
        generalize (writeD (writeD d b t).1 a s).1 = d4 at *
        generalize (writeD d b t).1 = d3 at *
        generalize (writeD (writeD d a s).1 b t).2 = e2 at *
        generalize (writeD (writeD d a s).1 b t).1 = d2 at *
        generalize (writeD d a s).2 = e1 at *
        generalize (writeD d a s).1 = d1 at *
        clear m1 m2 m3 m4 HS HM
        have k1 := K1.out _ _ dE
        go_wp2_with fail
        clear dE du0 du1 du2 du3 du4
        clear xu0 xu1 xu2 xu3
        clear yu0 yu1 yu2 yu3
        clear zab hf
        go_at_call 12
        refine (k1).mono ?_
        rintro x wk4 ⟨u, rfl, hd, hb⟩
        obtain ⟨p0, c0, p1, c1, p3, c3, rfl, hh⟩ := hd.val
        have V1 := Lib.hid (Var.new hh)
        have HV := Lib.hid ((Below.refl wk4.heap.size wk4).alloc (Nat.le_refl _) (.cells #[.slice p0 (d1).kept.length c0, .slice p1 (d1).cache.length c1, .int .i64 (d1).fuse, .slice p3 (d1).keep.length c3, .bool (d1).dead] 26))
        replace VD := Lib.hid ((VD.out.below hb).below HV.out)
        replace VX := Lib.hid ((VX.out.below hb).below HV.out)
        replace VY := Lib.hid ((VY.out.below hb).below HV.out)
        replace HB := Lib.hid ((HB.out.next hb).next HV.out)
        clear hb hd hh HV
        clear k1 K1
        obtain ⟨⟨yu0, yu1, yu2, yu3⟩, _⟩ := VY.out.opened
        obtain ⟨qp0, qc0, qp1, qc1, qp3, qc3, ⟨qu0, qu1, qu2, qu3, qu4⟩, qE⟩ := V1.out.opened
        have k1 := K2w.out _ _ qE
        go_wp2_with fail
        obtain ⟨gv1, hg⟩ : ∃ g, g = wk4.heap.size := ⟨_, rfl⟩
        rw [← hg] at V1 ⊢
        generalize wk4.alloc (.cells #[.slice p0 (d1).kept.length c0, .slice p1 (d1).cache.length c1, .int .i64 (d1).fuse, .slice p3 (d1).keep.length c3, .bool (d1).dead] 26) = wk4a at *
        clear hg
        clear qE qu0 qu1 qu2 qu3 qu4
        clear yu0 yu1 yu2 yu3
        go_at_call 12
        refine (k1).mono ?_
        rintro x wk5 ⟨u, rfl, hd, hb⟩
        obtain ⟨p0, c0, p1, c1, p3, c3, rfl, hh⟩ := hd.val
        have V2 := Lib.hid (Var.new hh)
        have HV := Lib.hid ((Below.refl wk5.heap.size wk5).alloc (Nat.le_refl _) (.cells #[.slice p0 (d2).kept.length c0, .slice p1 (d2).cache.length c1, .int .i64 (d2).fuse, .slice p3 (d2).keep.length c3, .bool (d2).dead] 26))
        replace VD := Lib.hid ((VD.out.below hb).below HV.out)
        replace VX := Lib.hid ((VX.out.below hb).below HV.out)
        replace VY := Lib.hid ((VY.out.below hb).below HV.out)
        replace V1 := Lib.hid ((V1.out.below hb).below HV.out)
        replace HB := Lib.hid ((HB.out.next hb).next HV.out)
        clear hb hd hh HV
        clear k1 K2w
        obtain ⟨⟨yu0, yu1, yu2, yu3⟩, _⟩ := VY.out.opened
        obtain ⟨qp0, qc0, qp1, qc1, qp3, qc3, ⟨qu0, qu1, qu2, qu3, qu4⟩, qE⟩ := VD.out.opened
        have k1 := K3.out _ _ qE
        go_wp2_with fail
        obtain ⟨gv2, hg⟩ : ∃ g, g = wk5.heap.size := ⟨_, rfl⟩
        rw [← hg] at V2 ⊢
        generalize wk5.alloc (.cells #[.slice p0 (d2).kept.length c0, .slice p1 (d2).cache.length c1, .int .i64 (d2).fuse, .slice p3 (d2).keep.length c3, .bool (d2).dead] 26) = wk5a at *
        clear hg
        clear qE qu0 qu1 qu2 qu3 qu4
        clear yu0 yu1 yu2 yu3
        go_at_call 12
        refine (k1).mono ?_
        rintro x wk6 ⟨u, rfl, hd, hb⟩
        obtain ⟨p0, c0, p1, c1, p3, c3, rfl, hh⟩ := hd.val
        have V3 := Lib.hid (Var.new hh)
        have HV := Lib.hid ((Below.refl wk6.heap.size wk6).alloc (Nat.le_refl _) (.cells #[.slice p0 (d3).kept.length c0, .slice p1 (d3).cache.length c1, .int .i64 (d3).fuse, .slice p3 (d3).keep.length c3, .bool (d3).dead] 26))
        replace VD := Lib.hid ((VD.out.below hb).below HV.out)
        replace VX := Lib.hid ((VX.out.below hb).below HV.out)
        replace VY := Lib.hid ((VY.out.below hb).below HV.out)
        replace V1 := Lib.hid ((V1.out.below hb).below HV.out)
        replace V2 := Lib.hid ((V2.out.below hb).below HV.out)
        replace HB := Lib.hid ((HB.out.next hb).next HV.out)
        clear hb hd hh HV
        clear k1 K3
        obtain ⟨⟨xu0, xu1, xu2, xu3⟩, _⟩ := VX.out.opened
        obtain ⟨qp0, qc0, qp1, qc1, qp3, qc3, ⟨qu0, qu1, qu2, qu3, qu4⟩, qE⟩ := V3.out.opened
        have k1 := K4.out _ _ qE
        go_wp2_with fail
        obtain ⟨gv3, hg⟩ : ∃ g, g = wk6.heap.size := ⟨_, rfl⟩
        rw [← hg] at V3 ⊢
        generalize wk6.alloc (.cells #[.slice p0 (d3).kept.length c0, .slice p1 (d3).cache.length c1, .int .i64 (d3).fuse, .slice p3 (d3).keep.length c3, .bool (d3).dead] 26) = wk6a at *
        clear hg
        clear qE qu0 qu1 qu2 qu3 qu4
        clear xu0 xu1 xu2 xu3
        go_at_call 12
        refine (k1).mono ?_
        rintro x wk7 ⟨u, rfl, hd, hb⟩
        obtain ⟨p0, c0, p1, c1, p3, c3, rfl, hh⟩ := hd.val
        have V4 := Lib.hid (Var.new hh)
        have HV := Lib.hid ((Below.refl wk7.heap.size wk7).alloc (Nat.le_refl _) (.cells #[.slice p0 (d4).kept.length c0, .slice p1 (d4).cache.length c1, .int .i64 (d4).fuse, .slice p3 (d4).keep.length c3, .bool (d4).dead] 26))
        replace VD := Lib.hid ((VD.out.below hb).below HV.out)
        replace VX := Lib.hid ((VX.out.below hb).below HV.out)
        replace VY := Lib.hid ((VY.out.below hb).below HV.out)
        replace V1 := Lib.hid ((V1.out.below hb).below HV.out)
        replace V2 := Lib.hid ((V2.out.below hb).below HV.out)
        replace V3 := Lib.hid ((V3.out.below hb).below HV.out)
        replace HB := Lib.hid ((HB.out.next hb).next HV.out)
        clear hb hd hh HV
        clear k1 K4
        obtain ⟨qp0, qc0, qp1, qc1, qp3, qc3, ⟨qu0, qu1, qu2, qu3, qu4⟩, qE⟩ := V2.out.opened
        have k1 := K5.out _ _ qE
        go_wp2_with fail
        obtain ⟨gv4, hg⟩ : ∃ g, g = wk7.heap.size := ⟨_, rfl⟩
        rw [← hg] at V4 ⊢
        generalize wk7.alloc (.cells #[.slice p0 (d4).kept.length c0, .slice p1 (d4).cache.length c1, .int .i64 (d4).fuse, .slice p3 (d4).keep.length c3, .bool (d4).dead] 26) = wk7a at *
        clear hg
        clear qE qu0 qu1 qu2 qu3 qu4
        go_at_call 14
        refine (k1).mono ?_
        rintro x wk8 ⟨u, rfl, hd, hb⟩
        obtain ⟨p0, c0, p1, c1, p3, c3, rfl, hh⟩ := hd.val
        have V5 := Lib.hid (Var.new hh)
        have HV := Lib.hid ((Below.refl wk8.heap.size wk8).alloc (Nat.le_refl _) (.cells #[.slice p0 (d5).kept.length c0, .slice p1 (d5).cache.length c1, .int .i64 (d5).fuse, .slice p3 (d5).keep.length c3, .bool (d5).dead] 26))
        replace VD := Lib.hid ((VD.out.below hb).below HV.out)
        replace VX := Lib.hid ((VX.out.below hb).below HV.out)
        replace VY := Lib.hid ((VY.out.below hb).below HV.out)
        replace V1 := Lib.hid ((V1.out.below hb).below HV.out)
        replace V2 := Lib.hid ((V2.out.below hb).below HV.out)
        replace V3 := Lib.hid ((V3.out.below hb).below HV.out)
        replace V4 := Lib.hid ((V4.out.below hb).below HV.out)
        replace HB := Lib.hid ((HB.out.next hb).next HV.out)
        clear hb hd hh HV
        clear k1 K5
        obtain ⟨qp0, qc0, qp1, qc1, qp3, qc3, ⟨qu0, qu1, qu2, qu3, qu4⟩, qE⟩ := V4.out.opened
        have k1 := K6.out _ _ qE
        go_wp2_with fail
        obtain ⟨gv5, hg⟩ : ∃ g, g = wk8.heap.size := ⟨_, rfl⟩
        rw [← hg] at V5 ⊢
        generalize wk8.alloc (.cells #[.slice p0 (d5).kept.length c0, .slice p1 (d5).cache.length c1, .int .i64 (d5).fuse, .slice p3 (d5).keep.length c3, .bool (d5).dead] 26) = wk8a at *
        clear hg
        clear qE qu0 qu1 qu2 qu3 qu4
        go_at_call 14
        refine (k1).mono ?_
        rintro x wk9 ⟨u, rfl, hd, hb⟩
        obtain ⟨p0, c0, p1, c1, p3, c3, rfl, hh⟩ := hd.val
        have V6 := Lib.hid (Var.new hh)
        have HV := Lib.hid ((Below.refl wk9.heap.size wk9).alloc (Nat.le_refl _) (.cells #[.slice p0 (d5).kept.length c0, .slice p1 (d5).cache.length c1, .int .i64 (d5).fuse, .slice p3 (d5).keep.length c3, .bool (d5).dead] 26))
        replace VD := Lib.hid ((VD.out.below hb).below HV.out)
        replace VX := Lib.hid ((VX.out.below hb).below HV.out)
        replace VY := Lib.hid ((VY.out.below hb).below HV.out)
        replace V1 := Lib.hid ((V1.out.below hb).below HV.out)
        replace V2 := Lib.hid ((V2.out.below hb).below HV.out)
        replace V3 := Lib.hid ((V3.out.below hb).below HV.out)
        replace V4 := Lib.hid ((V4.out.below hb).below HV.out)
        replace V5 := Lib.hid ((V5.out.below hb).below HV.out)
        replace HB := Lib.hid ((HB.out.next hb).next HV.out)
        clear hb hd hh HV
        clear k1 K6
        obtain ⟨⟨xu0, xu1, xu2, xu3⟩, _⟩ := VX.out.opened
        obtain ⟨⟨yu0, yu1, yu2, yu3⟩, _⟩ := VY.out.opened
        obtain ⟨qp0, qc0, qp1, qc1, qp3, qc3, ⟨qu0, qu1, qu2, qu3, qu4⟩, qE⟩ := V2.out.opened
        have k1 := K7.out _ _ qE
        go_wp2_with fail
        obtain ⟨gv6, hg⟩ : ∃ g, g = wk9.heap.size := ⟨_, rfl⟩
        rw [← hg] at V6 ⊢
        generalize wk9.alloc (.cells #[.slice p0 (d5).kept.length c0, .slice p1 (d5).cache.length c1, .int .i64 (d5).fuse, .slice p3 (d5).keep.length c3, .bool (d5).dead] 26) = wk9a at *
        clear hg
        clear qE qu0 qu1 qu2 qu3 qu4
        clear xu0 xu1 xu2 xu3
        clear yu0 yu1 yu2 yu3
        go_at_call 12
        refine (k1).mono ?_
        rintro x wk10 ⟨u, rfl, hd, hb⟩
        obtain ⟨p0, c0, p1, c1, p3, c3, rfl, hh⟩ := hd.val
        have V7 := Lib.hid (Var.new hh)
        have HV := Lib.hid ((Below.refl wk10.heap.size wk10).alloc (Nat.le_refl _) (.cells #[.slice p0 (d7).kept.length c0, .slice p1 (d7).cache.length c1, .int .i64 (d7).fuse, .slice p3 (d7).keep.length c3, .bool (d7).dead] 26))
        replace VD := Lib.hid ((VD.out.below hb).below HV.out)
        replace VX := Lib.hid ((VX.out.below hb).below HV.out)
        replace VY := Lib.hid ((VY.out.below hb).below HV.out)
        replace V1 := Lib.hid ((V1.out.below hb).below HV.out)
        replace V2 := Lib.hid ((V2.out.below hb).below HV.out)
        replace V3 := Lib.hid ((V3.out.below hb).below HV.out)
        replace V4 := Lib.hid ((V4.out.below hb).below HV.out)
        replace V5 := Lib.hid ((V5.out.below hb).below HV.out)
        replace V6 := Lib.hid ((V6.out.below hb).below HV.out)
        replace HB := Lib.hid ((HB.out.next hb).next HV.out)
        clear hb hd hh HV
        clear k1 K7
        obtain ⟨⟨xu0, xu1, xu2, xu3⟩, _⟩ := VX.out.opened
        obtain ⟨qp0, qc0, qp1, qc1, qp3, qc3, ⟨qu0, qu1, qu2, qu3, qu4⟩, qE⟩ := V7.out.opened
        have k1 := K8.out _ _ qE
        go_wp2_with fail
        obtain ⟨gv7, hg⟩ : ∃ g, g = wk10.heap.size := ⟨_, rfl⟩
        rw [← hg] at V7 ⊢
        generalize wk10.alloc (.cells #[.slice p0 (d7).kept.length c0, .slice p1 (d7).cache.length c1, .int .i64 (d7).fuse, .slice p3 (d7).keep.length c3, .bool (d7).dead] 26) = wk10a at *
        clear hg
        clear qE qu0 qu1 qu2 qu3 qu4
        clear xu0 xu1 xu2 xu3
        go_at_call 10
        refine (k1).mono ?_
        rintro x wk11 ⟨rfl, hb⟩
        replace VD := Lib.hid (VD.out.below hb)
        replace VX := Lib.hid (VX.out.below hb)
        replace VY := Lib.hid (VY.out.below hb)
        replace V1 := Lib.hid (V1.out.below hb)
        replace V2 := Lib.hid (V2.out.below hb)
        replace V3 := Lib.hid (V3.out.below hb)
        replace V4 := Lib.hid (V4.out.below hb)
        replace V5 := Lib.hid (V5.out.below hb)
        replace V6 := Lib.hid (V6.out.below hb)
        replace V7 := Lib.hid (V7.out.below hb)
        replace HB := Lib.hid (HB.out.next hb)
        clear hb
        clear k1 K8
        obtain ⟨qp0, qc0, qp1, qc1, qp3, qc3, ⟨qu0, qu1, qu2, qu3, qu4⟩, qE⟩ := V5.out.opened
        obtain ⟨rp0, rc0, rp1, rc1, rp3, rc3, ⟨ru0, ru1, ru2, ru3, ru4⟩, rE⟩ := V6.out.opened
        obtain ⟨⟨yu0, yu1, yu2, yu3⟩, _⟩ := VY.out.opened
        have k1 := KE.out _ _ _ qE rE
        rcases M.out with h | h | ⟨rfl, rfl⟩
        · have _t := trivial
          have z1 : (e1 != 0) = true := by simpa using h
          clear h M
          go_wp2_with fail
          go_at_call 18
          refine k1.mono ?_
          rintro x wz ⟨rfl, hb⟩
          obtain ⟨⟨zu0, zu1, zu2, zu3⟩, _⟩ := (VY.out.below hb).opened
          go_wp2
          go_ret
          exact ⟨rfl, HB.out.next hb⟩
        · have _t := trivial
          have z2 : (e2 != 0) = true := by simpa using h
          clear h M
          by_cases z0 : e1 = 0
          · subst z0
            go_wp2_with fail
            go_at_call 18
            refine k1.mono ?_
            rintro x wz ⟨rfl, hb⟩
            obtain ⟨⟨zu0, zu1, zu2, zu3⟩, _⟩ := (VY.out.below hb).opened
            go_wp2
            go_ret
            exact ⟨rfl, HB.out.next hb⟩
          · have z1 : (e1 != 0) = true := by simpa using z0
            clear z0
            go_wp2_with fail
            go_at_call 18
            refine k1.mono ?_
            rintro x wz ⟨rfl, hb⟩
            obtain ⟨⟨zu0, zu1, zu2, zu3⟩, _⟩ := (VY.out.below hb).opened
            go_wp2
            go_ret
            exact ⟨rfl, HB.out.next hb⟩
        · have _t := trivial
          clear M
          by_cases z0 : e1 = 0
          · subst z0
            by_cases z3 : e2 = 0
            · subst z3
              go_wp2_with fail
              go_at_call 18
              refine k1.mono ?_
              rintro x wz ⟨rfl, hb⟩
              obtain ⟨⟨zu0, zu1, zu2, zu3⟩, _⟩ := (VY.out.below hb).opened
              go_wp2
              go_ret
              exact ⟨rfl, HB.out.next hb⟩
            · have z2 : (e2 != 0) = true := by simpa using z3
              clear z3
              go_wp2_with fail
              go_at_call 18
              refine k1.mono ?_
              rintro x wz ⟨rfl, hb⟩
              obtain ⟨⟨zu0, zu1, zu2, zu3⟩, _⟩ := (VY.out.below hb).opened
              go_wp2
              go_ret
              exact ⟨rfl, HB.out.next hb⟩
          · have z1 : (e1 != 0) = true := by simpa using z0
            clear z0
            go_wp2_with fail
            go_at_call 18
            refine k1.mono ?_
            rintro x wz ⟨rfl, hb⟩
            obtain ⟨⟨zu0, zu1, zu2, zu3⟩, _⟩ := (VY.out.below hb).opened
            go_wp2
            go_ret
            exact ⟨rfl, HB.out.next hb⟩
end Go.Proofs.Ytaamjamcnnalbaa.Dv

