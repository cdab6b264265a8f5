/-
  The document's Same of disks.
-/
import Derived.Test.YtaamjamcnnalbaaDevSa
namespace Go.Proofs.Ytaamjamcnnalbaa.Dv
set_option maxRecDepth 100000
open Go.RowKit Go.Lib
/-- sameness of disks -/
def sameD (d e : Dsk) : Bool := decide (d.kept = e.kept) && (decide (d.cache = e.cache) && (decide (d.fuse = e.fuse) && (decide (d.keep = e.keep) && (d.dead == e.dead))))
theorem sameD_refl (d : Dsk) : sameD d d = true := by simp [sameD]
set_option maxHeartbeats 4000000 in
theorem same_doc (d e : Dsk) (hd : Sized d) (he : Sized e) (v u : Value) (w : World) (h : DLie w v d) (g : DLie w u e) :
    Calls Try.prog 18 #[v, u] w fun x w' => x = .returned (.bool (sameD d e)) ∧ Below w.heap.size w w' := by
  obtain ⟨p0, c0, p1, c1, p3, c3, rfl, h0, h1, h3⟩ := h
  obtain ⟨q0, e0, q1, e1, q3, e3, rfl, g0, g1, g3⟩ := g
  have hbx := box_new w p0 d.kept.length c0 p1 d.cache.length c1 d.fuse p3 d.keep.length c3 d.dead
  have B1 := (Below.refl w.heap.size w).alloc (Nat.le_refl _) (.cells #[.slice p0 d.kept.length c0, .slice p1 d.cache.length c1, .int .i64 d.fuse, .slice p3 d.keep.length c3, .bool d.dead] 26)
  generalize hw1 : w.alloc (.cells #[.slice p0 d.kept.length c0, .slice p1 d.cache.length c1, .int .i64 d.fuse, .slice p3 d.keep.length c3, .bool d.dead] 26) = w1 at *
  have hby := box_new w1 q0 e.kept.length e0 q1 e.cache.length e1 e.fuse q3 e.keep.length e3 e.dead
  have hs1 : w1.heap.size = w.heap.size + 1 := by rw [← hw1]; simp
  have B2 := (Below.refl w1.heap.size w1).alloc (Nat.le_refl _) (.cells #[.slice q0 e.kept.length e0, .slice q1 e.cache.length e1, .int .i64 e.fuse, .slice q3 e.keep.length e3, .bool e.dead] 26)
  generalize hw2 : w1.alloc (.cells #[.slice q0 e.kept.length e0, .slice q1 e.cache.length e1, .int .i64 e.fuse, .slice q3 e.keep.length e3, .bool e.dead] 26) = w2 at *
  rw [hs1] at hby
  have HB := Lib.hid (B1.next B2)
  have HX := Lib.hid (hbx.below B2)
  have HY := Lib.hid hby
  have HC := Lib.hid (h1.below HB.out)
  have HD := Lib.hid (g1.below HB.out)
  have kt := texts_doc d.kept e.kept hd.kept p0 q0 c0 e0 w2 (h0.below HB.out) (g0.below HB.out)
  have HK := Lib.hid (fun (wx : World) (hb : Below w2.heap.size w2 wx) => flags_doc d.keep e.keep (by have := hd.keep; omega) (by have := he.keep; omega) p3 q3 c3 e3 wx ((h3.below HB.out).below hb) ((g3.below HB.out).below hb))
  generalize hv : sameD d e = ans
  have HV : Hid (ans = (decide (d.kept = e.kept) && (decide (d.cache = e.cache) && (decide (d.fuse = e.fuse) && (decide (d.keep = e.keep) && (d.dead == e.dead)))))) := hv.symm
  clear h0 h1 h3 g0 g1 g3 hbx hby B1 B2 hv
  have zl : d.cache.length ≤ 140737488351232 := hd.cache
  obtain ⟨n1, hn1⟩ : ∃ n, n = d.cache.length := ⟨_, rfl⟩
  obtain ⟨m1, hm1⟩ : ∃ n, n = e.cache.length := ⟨_, rfl⟩
  clear hd he
  by_cases t1 : d.kept = e.kept
  · rw [decide_eq_true t1] at kt HV
    have b0 := HX.out.kept
    have a0 := HY.out.kept
    by_cases t2 : d.cache.length = e.cache.length
    · by_cases t3 : d.fuse = e.fuse
      · by_cases t4 : d.dead = e.dead
        · have HV2 : Hid (ans = (decide (d.cache = e.cache) && decide (d.keep = e.keep))) := by
            show _ = _; rw [HV.out, decide_eq_true t3, t4]; simp
          have z2 : ((d.cache.length : Int) != (e.cache.length : Int)) = false := by rw [t2]; simp
          have z4 : (d.dead == e.dead) = true := by rw [t4]; simp
          have z3 : (d.fuse != e.fuse) = false := by rw [t3]; simp
          have HL := Lib.hid t2
          clear t1 t2 t3 t4 HV
          go_enter Try.func18, Try.ntmps18
          go_wp2_with fail
          go_at_call 27
          refine kt.mono ?_
          rintro x w3 ⟨rfl, hb3⟩
          have HB3 := Lib.hid (HB.out.next hb3)
          have bx := HX.out.below hb3
          have by3 := HY.out.below hb3
          have b1 := bx.cache
          have b2 := bx.fuse
          have b3 := bx.keep
          have b4 := bx.dead
          have a1 := by3.cache
          have a2 := by3.fuse
          have a3 := by3.keep
          have a4 := by3.dead
          have k2 := HK.out w3 hb3
          have HB3' := Lib.hid hb3
          clear kt bx by3 hb3 HK
          go_wp2_with fail
          go_at_call 41
          refine k2.mono ?_
          rintro x w4 ⟨rfl, hb4⟩
          have HB4 := Lib.hid (HB3.out.next hb4)
          have HB4' := Lib.hid (HB3'.out.next hb4)
          clear k2 hb4 b0 b1 b2 b3 b4 a0 a1 a2 a3 a4
          by_cases t5 : d.keep = e.keep
          · rw [decide_eq_true t5]
            have HV3 : Hid (ans = decide (d.cache = e.cache)) := by show _ = _; rw [HV2.out, decide_eq_true t5, Bool.and_true]
            clear t5 HV2
            have HCx := Lib.hid (HC.out.below HB4'.out)
            have HDx := Lib.hid (HD.out.below HB4'.out)
            have HXx := Lib.hid (HX.out.below HB4'.out)
            have HYx := Lib.hid (HY.out.below HB4'.out)
            have zc : (d.cache.length : Int) ≤ c1 := by have := HC.out.len; omega
            have ze : (d.cache.length : Int) ≤ e1 := by have := HD.out.len; have := HL.out; omega
            have zll : (d.cache.length : Int) ≤ 140737488351232 := by omega
            go_wp2
            go_loopw [5] (fun v wr => ∃ i : Nat, v = .int .i64 i ∧ i ≤ d.cache.length ∧ Hid (∀ j (h : j < d.cache.length) (h2 : j < e.cache.length), j < i → d.cache[j] = e.cache[j]) ∧ Hid (Below w4.heap.size w4 wr)) (fun v _ => d.cache.length - (RowKit.intOf v).toNat)
            case atStart => exact ⟨0, rfl, Nat.zero_le _, Lib.hid (fun j _ _ hj => by omega), Below.refl _ _⟩
            case round =>
              obtain ⟨i, rfl, hi, HE, HW⟩ := hrel
              have bx := HXx.out.below HW.out
              have by4 := HYx.out.below HW.out
              have b1 := bx.cache
              have a1 := by4.cache
              clear bx by4
              by_cases hlt : i < d.cache.length
              · have him : i < e.cache.length := by rw [← HL.out]; exact hlt
                obtain ⟨k1, o1, rfl, s1⟩ := (HCx.out.below HW.out).at hlt
                obtain ⟨k2, o2, rfl, s2⟩ := (HDx.out.below HW.out).at him
                obtain ⟨cx0, cx1⟩ := put_at s1 hlt
                obtain ⟨cy0, cy1⟩ := put_at s2 him
                have zi : (i : Int) < d.cache.length := by omega
                have zi2 : (i : Int) < e.cache.length := by omega
                have HE2 := Lib.hid (fun (hx : d.cache[i] = e.cache[i]) => show ∀ j (h : j < d.cache.length) (h2 : j < e.cache.length), j < i + 1 → d.cache[j] = e.cache[j] from fun j h h2 hj => by
                  by_cases e : j = i
                  · subst e; exact hx
                  · exact HE.out j h h2 (by omega))
                have HN := Lib.hid (fun (hx : ¬ d.cache[i] = e.cache[i]) => show ans = false by
                  rw [HV3.out]; exact decide_eq_false fun e => hx (by simp only [e]))
                clear s1 s2
                generalize d.cache[i] = x at *
                generalize e.cache[i] = y at *
                obtain ⟨x1, x2⟩ := x
                obtain ⟨y1, y2⟩ := y
                dsimp only at cx0 cx1 cy0 cy1
                have hxy := same_list x2 y2
                by_cases h : x1 = y1 ∧ x2 = y2
                · obtain ⟨rfl, rfl⟩ := h
                  have HE3 := Lib.hid (HE2.out rfl)
                  clear HE2 HN hxy
                  go_wp2
                  go_quiet (fail)
                  go_wp2
                  go_roundw
                  case rel => exact ⟨i + 1, by go_num, by omega, HE3, drawn_below HW.out _⟩
                  case measure => simp [RowKit.intOf]; omega
                · have HE3 := Lib.hid (HN.out fun k => h ⟨congrArg Prod.fst k, congrArg Prod.snd k⟩)
                  have hb : (x1 == y1 && x2.toList == y2.toList) = false := by
                    rw [hxy]
                    cases hc : (x1 == y1 && decide (x2 = y2)) with
                    | false => rfl
                    | true =>
                      simp at hc
                      exact absurd hc h
                  by_cases h1 : x1 = y1
                  · have q1 : (x1 == y1) = true := by rw [h1]; simp
                    have q2 : (x2.toList == y2.toList) = false := by rw [hxy]; exact decide_eq_false fun k => h ⟨h1, k⟩
                    clear HE2 HN h hxy h1 hb
                    go_wp2
                    go_quiet (fail)
                    go_wp2
                    go_ret
                    exact ⟨ret_bool HE3.out.symm, HB4.out.next (drawn_below HW.out _)⟩
                  · have q1 : (x1 == y1) = false := by simpa using h1
                    clear HE2 HN h hxy h1 hb
                    go_wp2
                    go_quiet (fail)
                    go_wp2
                    go_ret
                    exact ⟨ret_bool HE3.out.symm, HB4.out.next (drawn_below HW.out _)⟩
              · have e2 : i = d.cache.length := by omega
                have HE3 : Hid (ans = true) := by
                  show _ = _; rw [HV3.out]
                  exact decide_eq_true (List.ext_getElem HL.out fun j h h2 => HE.out j h h2 (by rw [e2]; exact h))
                have zi : ¬ (i : Int) < d.cache.length := by omega
                clear hlt e2
                go_wp2
                go_ret
                exact ⟨ret_bool HE3.out.symm, HB4.out.next HW.out⟩
          · rw [decide_eq_false t5]
            have HA : Hid (ans = false) := by show _ = _; rw [HV2.out, decide_eq_false t5, Bool.and_false]
            clear t5 HV2
            go_wp2
            go_ret
            exact ⟨ret_bool HA.out.symm, HB4.out⟩
        · have HA : Hid (ans = false) := by
            show _ = _; rw [HV.out, show (d.dead == e.dead) = false by simpa using t4]; simp
          have z2 : ((d.cache.length : Int) != (e.cache.length : Int)) = false := by rw [t2]; simp
          have z4 : (d.dead == e.dead) = false := by simpa using t4
          have z3 : (d.fuse != e.fuse) = false := by rw [t3]; simp
          clear t1 t2 t3 t4 HV
          go_enter Try.func18, Try.ntmps18
          go_wp2_with fail
          go_at_call 27
          refine kt.mono ?_
          rintro x w3 ⟨rfl, hb3⟩
          have HB3 := Lib.hid (HB.out.next hb3)
          have bx := HX.out.below hb3
          have by3 := HY.out.below hb3
          have b1 := bx.cache
          have b2 := bx.fuse
          have b3 := bx.keep
          have b4 := bx.dead
          have a1 := by3.cache
          have a2 := by3.fuse
          have a3 := by3.keep
          have a4 := by3.dead
          clear kt bx by3 hb3 HK
          go_wp2
          go_ret
          exact ⟨ret_bool HA.out.symm, HB3.out⟩
      · have HA : Hid (ans = false) := by show _ = _; rw [HV.out, decide_eq_false t3]; simp
        have z2 : ((d.cache.length : Int) != (e.cache.length : Int)) = false := by rw [t2]; simp
        have z3 : (d.fuse != e.fuse) = true := by simpa using t3
        clear t1 t2 t3 HV
        go_enter Try.func18, Try.ntmps18
        go_wp2_with fail
        go_at_call 27
        refine kt.mono ?_
        rintro x w3 ⟨rfl, hb3⟩
        have HB3 := Lib.hid (HB.out.next hb3)
        have bx := HX.out.below hb3
        have by3 := HY.out.below hb3
        have b1 := bx.cache
        have b2 := bx.fuse
        have b3 := bx.keep
        have b4 := bx.dead
        have a1 := by3.cache
        have a2 := by3.fuse
        have a3 := by3.keep
        have a4 := by3.dead
        clear kt bx by3 hb3 HK
        go_wp2
        go_ret
        exact ⟨ret_bool HA.out.symm, HB3.out⟩
    · have HA : Hid (ans = false) := by show _ = _; rw [HV.out, decide_eq_false (fun h => t2 (by rw [h]))]; simp
      have z2 : ((d.cache.length : Int) != (e.cache.length : Int)) = true := by rw [bne_iff_ne]; omega
      clear t1 t2 HV
      go_enter Try.func18, Try.ntmps18
      go_wp2_with fail
      go_at_call 27
      refine kt.mono ?_
      rintro x w3 ⟨rfl, hb3⟩
      have HB3 := Lib.hid (HB.out.next hb3)
      have bx := HX.out.below hb3
      have by3 := HY.out.below hb3
      have b1 := bx.cache
      have b2 := bx.fuse
      have b3 := bx.keep
      have b4 := bx.dead
      have a1 := by3.cache
      have a2 := by3.fuse
      have a3 := by3.keep
      have a4 := by3.dead
      clear kt bx by3 hb3 HK
      go_wp2
      go_ret
      exact ⟨ret_bool HA.out.symm, HB3.out⟩
  · rw [decide_eq_false t1] at kt HV
    have HA : Hid (ans = false) := by show _ = _; rw [HV.out]; rfl
    have b0 := HX.out.kept
    have a0 := HY.out.kept
    clear t1
    go_enter Try.func18, Try.ntmps18
    go_wp2_with fail
    go_at_call 27
    refine kt.mono ?_
    rintro x w3 ⟨rfl, hb3⟩
    have HB3 := Lib.hid (HB.out.next hb3)
    clear kt hb3
    go_wp2
    go_ret
    exact ⟨ret_bool HA.out.symm, HB3.out⟩
end Go.Proofs.Ytaamjamcnnalbaa.Dv

