/-
  The law DeviceKeeps, from what package device owes.
-/
import Derived.Test.YtaamjamcnnalbaaDevTl
import Derived.Test.YtaamjamcnnalbaaDevMk
import Derived.Laws.AppendOwn
import Derived.Deep.DeepCutAuto
namespace Go.Proofs.Ytaamjamcnnalbaa.Dv
set_option maxRecDepth 100000
open Go.RowKit Go.Lib
theorem infoFlag : (Try.prog.info? 4).map (fun i => (i.zero, i.size, i.bytes)) = some (some (.bool false), 1, 1) := by kernel_rfl
def dlv (l : List Bool) : List Value := l.map Value.bool
theorem dlv_one (l : List Bool) : ∀ u ∈ dlv l, u.oneCell' = true := fun u hu => by
  obtain ⟨j, _, rfl⟩ := List.mem_map.1 hu
  rfl
theorem dlv_length (l : List Bool) : (dlv l).length = l.length := by simp [dlv]
/-- a row of bools of the call's own; all that was there is as it was -/
structure DRow (base : Nat) (w0 w : World) (g cap : Nat) (l : List Bool) : Prop where
  own : w.ownsRow base 4 1 (.slice (some ⟨g, 0, Option.none⟩) l.length cap) l.length (dlv l)
  below : Below base w0 w
  room : base ≤ w0.heap.size
theorem DRow.size {base : Nat} {w0 w : World} {g cap : Nat} {l : List Bool} (h : DRow base w0 w g cap l) : base ≤ w.heap.size := Nat.le_trans h.room h.below.size
theorem DRow.lies {base : Nat} {w0 w : World} {g cap : Nat} {l : List Bool} (h : DRow base w0 w g cap l) : FlagsLie w (some ⟨g, 0, none⟩) l cap := by
  rcases h.own.2 with ⟨h1, _⟩ | ⟨g', cap', cur, h1, _, _, h2, h3, _⟩
  · cases h1
  · cases h1
    refine ⟨h2, h3, .inr ⟨g, 0, rfl, fun i hi => ?_⟩⟩
    have := h.own.cells (g := g) rfl i (.bool (l.getD i false)) (by unfold dlv; rw [List.getElem?_map, List.getElem?_eq_getElem hi]; simp [hi])
    rwa [Addr.add_lit] at this
theorem DRow.more {base : Nat} {w0 wr w2 w3 : World} {g cap : Nat} {l : List Bool} {m : List Bool} {v : Value} (h : DRow base w0 wr g cap l) (hb : Below wr.heap.size wr w2)
    (own1 : w3.ownsRow base 4 1 v (l.length + m.length) (dlv l ++ dlv m)) (gr : w2.grownBy w3 (Value.slice (some ⟨g, 0, Option.none⟩) l.length cap).ownBlock)
    (nn : ¬ v = .slice Option.none 0 0) : ∃ g1 c1, v = .slice (some ⟨g1, 0, Option.none⟩) (l.length + m.length) c1 ∧ DRow base w0 w3 g1 c1 (l ++ m) := by
  obtain ⟨g1, c1, rfl⟩ := own_some own1 nn
  refine ⟨g1, c1, rfl, by simpa [dlv] using own1, ?_, h.room⟩
  have hb2 : Below base w0 w2 := h.below.trans (hb.mono h.size)
  exact hb2.grown gr (Nat.le_trans h.room hb2.size) (fun b hb => (h.own.lt b hb).1)
theorem one_dlv (wr : World) (x : Bool) : ∀ j u, (dlv [x])[j]? = some u → (wr.alloc (.cells #[.bool x] 4)).cell? ((⟨wr.heap.size, 0, Option.none⟩ : Addr).add j) = some u := fun j u hj => by
  match j, hj with
  | 0, hj => simp [dlv] at hj; subst hj; simp [Addr.add]
  | j + 1, hj => simp [dlv] at hj
theorem DRow.made (w : World) : DRow w.heap.size w (w.alloc (.cells #[] 4)) w.heap.size 0 [] :=
  ⟨World.ownsRow_made w _ 0 (Nat.le_refl _) (by decide) rfl, (Below.refl _ _).alloc (Nat.le_refl _) _, Nat.le_refl _⟩
/-- the sectors of a value -/
theorem DLie.sectors {w : World} {v : Value} {d : Dsk} (h : DLie w v d) : ∃ p0 c0 p1 n1 c1 f p3 n3 c3 b, v = .agg #[.slice p0 d.kept.length c0, .slice p1 n1 c1, .int .i64 f, .slice p3 n3 c3, .bool b] ∧ SLie strS w p0 d.kept c0 := by
  obtain ⟨p0, c0, p1, c1, p3, c3, e, h0, _⟩ := h
  exact ⟨_, _, _, _, _, _, _, _, _, _, e, h0⟩
theorem DLie.rows {w : World} {p0 p1 p3 : Option Addr} {c0 c1 c3 : Nat} {d : Dsk} (h : DLie w (.agg #[.slice p0 d.kept.length c0, .slice p1 d.cache.length c1, .int .i64 d.fuse, .slice p3 d.keep.length c3, .bool d.dead]) d) : SLie strS w p0 d.kept c0 ∧ SLie putS w p1 d.cache c1 := by
  obtain ⟨q0, e0, q1, e1, q3, e3, e, h0, h1, h3⟩ := h
  simp only [Value.agg.injEq, Array.mk.injEq, List.cons.injEq, Value.slice.injEq, true_and, and_true] at e
  obtain ⟨⟨rfl, rfl⟩, ⟨rfl, rfl⟩, rfl, rfl⟩ := e
  exact ⟨h0, h1⟩
theorem text_at {w : World} {p : Option Addr} {L : List ByteArray} {c : Nat} (h : SLie strS w p L c) (hl : 0 < L.length) : ∃ blk off, p = some ⟨blk, off, none⟩ ∧ ∀ i, i < L.length → ∀ wy, Below w.heap.size w wy → wy.cell? ⟨blk, off + i, none⟩ = some (.string (L.getD i empty0)) := by
  obtain ⟨blk, off, e, hat⟩ := h.at hl
  refine ⟨blk, off, e, fun i hi wy hb => ?_⟩
  have h1 := str_at hat hi
  rw [(hb.cell (p := ⟨blk, off + i, none⟩) (World.block_lt_of_cell? w _ h1)).trans h1, List.getD_eq_getElem?_getD, List.getElem?_eq_getElem hi]
  rfl
theorem puts_at {w : World} {p : Option Addr} {L : List (Int × ByteArray)} {c : Nat} (h : SLie putS w p L c) (hl : 0 < L.length) : ∃ blk off, p = some ⟨blk, off, none⟩ ∧ ∀ i, i < L.length → ∀ wy, Below w.heap.size w wy → wy.cell? ⟨blk, off + i * 2, none⟩ = some (.int .i64 (L.getD i (0, empty0)).1) ∧ wy.cell? ⟨blk, off + i * 2 + 1, none⟩ = some (.string (L.getD i (0, empty0)).2) := by
  obtain ⟨blk, off, e, hat⟩ := h.at hl
  refine ⟨blk, off, e, fun i hi wy hb => ?_⟩
  have h1 := put_at hat hi
  rw [(hb.cell (p := ⟨blk, off + i * 2, none⟩) (World.block_lt_of_cell? w _ h1.1)).trans h1.1, (hb.cell (p := ⟨blk, off + i * 2 + 1, none⟩) (World.block_lt_of_cell? w _ h1.2)).trans h1.2, List.getD_eq_getElem?_getD, List.getElem?_eq_getElem hi]
  exact ⟨rfl, rfl⟩
theorem field0 (p0 : Option Addr) (n0 c0 : Nat) (p1 : Option Addr) (n1 c1 : Nat) (f : Int) (p3 : Option Addr) (n3 c3 : Nat) (b : Bool) (w : World) :
    (Instr.field 26 (.agg #[.slice p0 n0 c0, .slice p1 n1 c1, .int .i64 f, .slice p3 n3 c3, .bool b]) 0).run Try.prog w = .ok (.slice p0 n0 c0) w := by kernel_rfl
theorem die_all_code (S : SpecD) (d : Dsk) (hd : Sized d) (L : List ByteArray) (K : List Bool) (m : Nat) (hm : K.length = m) (hL : (dieD d K).kept = L) (v : Value) (p : Option Addr) (c : Nat) (w : World) (h : DLie w v d) (hK : FlagsLie w p K c) :
    Calls Try.prog 23 #[v, .slice p m c] w fun x w' => (∃ p0 c0 p1 n1 c1 f p3 n3 c3 b, x = .returned (.agg #[.slice p0 L.length c0, .slice p1 n1 c1, .int .i64 f, .slice p3 n3 c3, .bool b]) ∧ SLie strS w' p0 L c0) ∧ Below w.heap.size w w' := by
  subst hL
  exact (S.die d v K m p c w hd hm h hK).mono fun x w' ⟨u, e, k, b⟩ => by
    obtain ⟨p0, c0, p1, n1, c1, f, p3, n3, c3, y, rfl, hs⟩ := k.sectors
    exact ⟨⟨p0, c0, p1, n1, c1, f, p3, n3, c3, y, e, hs⟩, b⟩
theorem revive_code (S : SpecD) (d : Dsk) (hd : Sized d) (L : List ByteArray) (hL : (reviveD d).kept = L) (v : Value) (w : World) (h : DLie w v d) :
    Calls Try.prog 25 #[v] w fun x w' => (∃ p0 c0 p1 n1 c1 f p3 n3 c3 b, x = .returned (.agg #[.slice p0 L.length c0, .slice p1 n1 c1, .int .i64 f, .slice p3 n3 c3, .bool b]) ∧ SLie strS w' p0 L c0) ∧ Below w.heap.size w w' := by
  subst hL
  exact (S.revive d v w hd h).mono fun x w' ⟨u, e, k, b⟩ => by
    obtain ⟨p0, c0, p1, n1, c1, f, p3, n3, c3, y, rfl, hs⟩ := k.sectors
    exact ⟨⟨p0, c0, p1, n1, c1, f, p3, n3, c3, y, e, hs⟩, b⟩
set_option maxHeartbeats 8000000 in
theorem keeps_any (S : SpecD) (d : Dsk) (v : Value) (hd : Sized d) (K : List Bool) (pk : Option Addr) (ck : Nat) (w : World) (h : DLie w v d) (hK : FlagsLie w pk K ck) :
    Calls Try.prog 5 #[v, .slice pk K.length ck] w fun x w' => x = .returned (.bool true) ∧ Below w.heap.size w w' := by
  have KF : Hid (∀ w, Calls Try.prog 9 #[] w fun x w' => x = .returned (.bool true) ∧ Below w.heap.size w w') := Lib.hid fun w => fixed_any S w
  have KS : Hid (∀ v w, DLie w v d → Calls Try.prog 8 #[v] w fun x w' => x = .returned (.bool (smallD d)) ∧ Below w.heap.size w w') := Lib.hid fun v w h => small_doc d v w h
  have KM : Hid (∀ v w, DLie w v d → Calls Try.prog 16 #[v] w fun x w' => x = .returned (.bool (mayD d)) ∧ Below w.heap.size w w') := Lib.hid fun v w h => S.may d v w hd h
  have KD : Hid (∀ v pk ck w, DLie w v d → FlagsLie w pk K ck → Calls Try.prog 23 #[v, .slice pk K.length ck] w fun x w' => ∃ u, x = .returned u ∧ DLie w' u (dieD d K) ∧ Below w.heap.size w w') := Lib.hid fun v pk ck w h hk => S.die d v K K.length pk ck w hd rfl h hk
  have hd2 := Lib.hid hd
  have zk : (K.length : Int) ≤ 9223372036854775807 := by have := hK.cap; have := hK.len; unfold maxLen at *; omega
  have zkc : (K.length : Int) ≤ ck := by have := hK.len; omega
  clear hd
  obtain ⟨p0, c0, p1, c1, p3, c3, rfl, hv⟩ := h.val
  have hV := Var.new hv
  have b1 := (Below.refl w.heap.size w).alloc (Nat.le_refl _) (.cells #[.slice p0 d.kept.length c0, .slice p1 d.cache.length c1, .int .i64 d.fuse, .slice p3 d.keep.length c3, .bool d.dead] 26)
  generalize hw1 : w.alloc (.cells #[.slice p0 d.kept.length c0, .slice p1 d.cache.length c1, .int .i64 d.fuse, .slice p3 d.keep.length c3, .bool d.dead] 26) = w1 at *
  obtain ⟨g0, hg0⟩ : ∃ g, g = w.heap.size := ⟨_, rfl⟩
  have VD := Lib.hid hV
  have HB := Lib.hid b1
  have HG0 := Lib.hid hg0
  clear hV b1 hv hg0
  clear h
  have HK := Lib.hid (hK.below HB.out)
  obtain ⟨i0, hi0, hz0, hz1, hz2⟩ := info_parts infoFlag
  clear hK
  go_enter Try.func5, Try.ntmps5
  go_wp2_with fail
  rw [← HG0.out] at VD ⊢
  clear HG0 hw1
  go_at_call 9
  refine (KF.out _).mono ?_
  rintro x wk1 ⟨rfl, hb⟩
  replace VD := Lib.hid (VD.out.below hb)
  replace HK := Lib.hid (HK.out.below hb)
  replace HB := Lib.hid (HB.out.next hb)
  clear hb
  obtain ⟨dp0, dc0, dp1, dc1, dp3, dc3, ⟨du0, du1, du2, du3, du4⟩, dE⟩ := VD.out.opened
  have k1 := KS.out _ _ dE
  go_wp2_with fail
  clear dE du0 du1 du2 du3 du4
  go_at_call 8
  refine (k1).mono ?_
  rintro x wk2 ⟨rfl, hb⟩
  replace VD := Lib.hid (VD.out.below hb)
  replace HK := Lib.hid (HK.out.below hb)
  replace HB := Lib.hid (HB.out.next hb)
  clear hb
  clear k1 KS
  cases hs : smallD d with
  | false =>
    go_wp2_with fail
    go_at_call 9
    refine (KF.out _).mono ?_
    rintro x wz ⟨rfl, hb⟩
    go_wp2
    go_ret
    exact ⟨rfl, HB.out.next hb⟩
  | true =>
    obtain ⟨dp0, dc0, dp1, dc1, dp3, dc3, ⟨du0, du1, du2, du3, du4⟩, dE⟩ := VD.out.opened
    have k1 := KM.out _ _ dE
    go_wp2_with fail
    clear dE du0 du1 du2 du3 du4
    go_at_call 16
    refine (k1).mono ?_
    rintro x wk3 ⟨rfl, hb⟩
    replace VD := Lib.hid (VD.out.below hb)
    replace HK := Lib.hid (HK.out.below hb)
    replace HB := Lib.hid (HB.out.next hb)
    clear hb
    clear k1 KM
    cases hm : mayD d with
    | false =>
      clear hm hs
      go_wp2_with fail
      go_at_call 9
      refine (KF.out _).mono ?_
      rintro x wz ⟨rfl, hb⟩
      go_wp2
      go_ret
      exact ⟨rfl, HB.out.next hb⟩
    | true =>
      have HM := Lib.hid hm
      have HSm : Hid (d.kept.length ≤ 200 ∧ d.cache.length ≤ 200) := Lib.hid (by unfold smallD at hs; simp at hs; exact ⟨hs.1, hs.2.1⟩)
      clear hm hs
      obtain ⟨dp0, dc0, dp1, dc1, dp3, dc3, ⟨du0, du1, du2, du3, du4⟩, dE⟩ := VD.out.opened
      cases hdd : d.dead with
      | true =>
        rw [hdd] at du4
        clear hdd
        go_wp2_with fail
        go_at_call 9
        refine (KF.out _).mono ?_
        rintro x wz ⟨rfl, hb⟩
        go_wp2
        go_ret
        exact ⟨rfl, HB.out.next hb⟩
      | false =>
        rw [hdd] at du4 dE
        have HDD := Lib.hid hdd
        clear hdd
        by_cases hk4 : 400 < K.length
        · have z4 : (400 : Int) < (K.length : Int) := by omega
          clear hk4
          go_wp2_with fail
          go_at_call 9
          refine (KF.out _).mono ?_
          rintro x wz ⟨rfl, hb⟩
          go_wp2
          go_ret
          exact ⟨rfl, HB.out.next hb⟩
        have z4 : ¬ (400 : Int) < (K.length : Int) := by omega
        clear hk4
        have hn1 := (mayD_iff.1 HM.out).1
        have hxl := die_length HM.out K
        have hxm := mayD_die HM.out K
        have hxe := dieD_eq HM.out K
        have HXD : Hid ((dieD d K).dead = true) := Lib.hid (by rw [hxe])
        have HXC : Hid ((dieD d K).cache.length = 0) := Lib.hid (by rw [hxe]; rfl)
        have HXL := Lib.hid hxl
        have HFA := Lib.hid (fun a ha => found_all HM.out K a ha)
        have ZX := Lib.hid (sized_die hd2.out K)
        have KM2 : Hid (∀ v w, DLie w v (dieD d K) → Calls Try.prog 16 #[v] w fun x w' => x = .returned (.bool true) ∧ Below w.heap.size w w') := Lib.hid fun v w h => by
          have := S.may _ v w ZX.out h
          rw [hxm] at this
          exact this
        generalize dieD d K = x at *
        clear hxl hxm hxe
        have k1 := KD.out _ _ _ _ dE HK.out
        go_wp2_with fail
        clear dE du0 du1 du2 du3 du4
        clear z4 KD
        go_at_call 23
        refine (k1).mono ?_
        rintro x wk4 ⟨u, rfl, hd, hb⟩
        obtain ⟨p0, c0, p1, c1, p3, c3, rfl, hh⟩ := hd.val
        have VX := Lib.hid (Var.new hh)
        have HV := Lib.hid ((Below.refl wk4.heap.size wk4).alloc (Nat.le_refl _) (.cells #[.slice p0 (x).kept.length c0, .slice p1 (x).cache.length c1, .int .i64 (x).fuse, .slice p3 (x).keep.length c3, .bool (x).dead] 26))
        replace VD := Lib.hid ((VD.out.below hb).below HV.out)
        replace HK := Lib.hid ((HK.out.below hb).below HV.out)
        replace HB := Lib.hid ((HB.out.next hb).next HV.out)
        clear hb hd hh HV
        clear k1
        go_upto_region 4 with fail
        obtain ⟨gx, hg⟩ : ∃ g, g = wk4.heap.size := ⟨_, rfl⟩
        rw [← hg] at VX ⊢
        generalize wk4.alloc (.cells #[.slice p0 (x).kept.length c0, .slice p1 (x).cache.length c1, .int .i64 (x).fuse, .slice p3 (x).keep.length c3, .bool (x).dead] 26) = wk4a at *
        clear hg
        obtain ⟨xp0, xc0, xp1, xc1, xp3, xc3, ⟨xu0, xu1, xu2, xu3, xu4⟩, xE⟩ := VX.out.opened
        obtain ⟨dp0, dc0, dp1, dc1, dp3, dc3, ⟨du0, du1, du2, du3, du4⟩, dE⟩ := VD.out.opened
        rw [HXL.out] at xu0
        rw [HXD.out] at xu4
        rw [HXC.out] at xu1
        rw [HXL.out, HXD.out, HXC.out] at xE
        have k1 := KM2.out _ _ xE
        go_wp2_with fail
        clear xu0 xu1 xu2 xu3 xu4
        clear dE du0 du1 du2 du3 du4
        clear xE
        go_at_call 16
        refine (k1).mono ?_
        rintro x wk5 ⟨rfl, hb⟩
        replace VD := Lib.hid (VD.out.below hb)
        replace HK := Lib.hid (HK.out.below hb)
        replace VX := Lib.hid (VX.out.below hb)
        replace HB := Lib.hid (HB.out.next hb)
        clear hb
        clear k1 KM2
        obtain ⟨xp0, xc0, xp1, xc1, xp3, xc3, ⟨xu0, _, _, _, _⟩, xE⟩ := VX.out.opened
        obtain ⟨dp0, dc0, dp1, dc1, dp3, dc3, ⟨du0, du1, _, _, _⟩, dE⟩ := VD.out.opened
        obtain ⟨xS, _⟩ := xE.rows
        obtain ⟨dS, dP⟩ := dE.rows
        obtain ⟨xb, xo, rfl, xT⟩ := text_at xS (by rw [HXL.out]; omega)
        obtain ⟨db, dof, rfl, dT⟩ := text_at dS (by omega)
        rw [HXL.out] at xu0 xT
        have zn : (d.kept.length : Int) ≤ 200 := by have := HSm.out.1; omega
        have zm : (d.cache.length : Int) ≤ 200 := by have := HSm.out.2; omega
        have zxc : (d.kept.length : Int) ≤ xc0 := by have := xS.len; rw [HXL.out] at this; omega
        have zxm : (xc0 : Int) ≤ 9223372036854775807 := by have := xS.cap; unfold maxLen at this; omega
        have zdc : (d.kept.length : Int) ≤ dc0 := by have := dS.len; omega
        have zdm : (dc0 : Int) ≤ 9223372036854775807 := by have := dS.cap; unfold maxLen at this; omega
        have zpc : (d.cache.length : Int) ≤ dc1 := by have := dP.len; omega
        have zpm : (dc1 : Int) ≤ 9223372036854775807 := by have := dP.cap; unfold maxLen at this; omega
        have hgx := VX.out.lt
        have hgd := VD.out.lt
        have C1 : Hid (∀ wy, Below wk5.heap.size wk5 wy → wy.cell? ⟨gx, 0, none⟩ = some (.slice (some ⟨xb, xo, none⟩) d.kept.length xc0)) := Lib.hid fun wy hb => (hb.cell (p := ⟨gx, 0, none⟩) hgx).trans xu0
        have C2 : Hid (∀ wy, Below wk5.heap.size wk5 wy → wy.cell? ⟨g0, 0, none⟩ = some (.slice (some ⟨db, dof, none⟩) d.kept.length dc0)) := Lib.hid fun wy hb => (hb.cell (p := ⟨g0, 0, none⟩) hgd).trans du0
        have C3 : Hid (∀ wy, Below wk5.heap.size wk5 wy → wy.cell? ⟨g0, 1, none⟩ = some (.slice dp1 d.cache.length dc1)) := Lib.hid fun wy hb => (hb.cell (p := ⟨g0, 1, none⟩) hgd).trans du1
        have XT := Lib.hid xT
        have DT := Lib.hid dT
        have DP := Lib.hid dP
        clear xu0 du0 du1 xE dE xS dS xT dT dP hgx hgd hn1
        go_wp2_with fail
        go_loopw [6] (fun i wr => ∃ a : Nat, a ≤ d.kept.length ∧ i = .int .i64 a ∧ Hid (Below wk5.heap.size wk5 wr)) (fun i _ => d.kept.length - (RowKit.intOf i).toNat)
        case atStart => exact ⟨0, Nat.zero_le _, rfl, Lib.hid (Below.refl _ _)⟩
        case round =>
          obtain ⟨a, ha, rfl, HW⟩ := hrel
          have u0 := C1.out _ HW.out
          by_cases han : a < d.kept.length
          case pos =>
            have za : (a : Int) < (d.kept.length : Int) := by omega
            have XA := Lib.hid (fun wy (hb : Below wk5.heap.size wk5 wy) => XT.out a han wy hb)
            have DA := Lib.hid (fun wy (hb : Below wk5.heap.size wk5 wy) => DT.out a han wy hb)
            have HF := Lib.hid (HFA.out a han)
            generalize x.kept.getD a empty0 = xa at *
            generalize d.kept.getD a empty0 = da at *
            obtain ⟨ok, hok⟩ : ∃ b, b = (xa.toList == da.toList) := ⟨_, rfl⟩
            rw [← hok] at HF
            go_wp2_with fail
            clear u0
            have HC : Hid (∀ w', Below wr.heap.size wr w' → w'.cell? ⟨gx, 0, none⟩ = some (.slice (some ⟨xb, xo, none⟩) d.kept.length xc0) ∧ w'.cell? ⟨g0, 0, none⟩ = some (.slice (some ⟨db, dof, none⟩) d.kept.length dc0) ∧ w'.cell? ⟨xb, xo + a, none⟩ = some (.string xa) ∧ w'.cell? ⟨db, dof + a, none⟩ = some (.string da)) := Lib.hid fun w' hb => ⟨C1.out _ (HW.out.next hb), C2.out _ (HW.out.next hb), XA.out _ (HW.out.next hb), DA.out _ (HW.out.next hb)⟩
            have HR := Lib.hid ((Below.refl wr.heap.size wr).drew)
            refine wp_region_held_drew (S := (fun w' => w'.cell? ⟨gx, 0, none⟩ = some (.slice (some ⟨xb, xo, none⟩) d.kept.length xc0) ∧ w'.cell? ⟨g0, 0, none⟩ = some (.slice (some ⟨db, dof, none⟩) d.kept.length dc0) ∧ w'.cell? ⟨xb, xo + a, none⟩ = some (.string xa) ∧ w'.cell? ⟨db, dof + a, none⟩ = some (.string da))) (by kernel_rfl) (HC.out _ HR.out) (fun hh0 => ?_)
            refine wpAnyH_takeL (i := 0) (v := ?n9v0) rfl (by kernel_rfl) (by kernel_rfl) (by kernel_rfl) (fun _ _ _ h => h) (Or.inl ⟨by rfl, ?n9y0⟩) hh0 ?_
            case n9y0 => (intro w hSw; (try dsimp only at hSw); go_simp; try (with_reducible rfl))
            try simp only [Act.put, List.setIfInBounds_toArray, List.set_cons_zero, List.set_cons_succ]
            refine wpAnyH_takeL (i := 1) (v := ?n9v1) rfl (by kernel_rfl) (by kernel_rfl) (by kernel_rfl) (fun _ _ _ h => h) (Or.inl ⟨by rfl, ?n9y1⟩) hh0 ?_
            case n9y1 => (intro w hSw; (try dsimp only at hSw); go_simp; try (with_reducible rfl))
            try simp only [Act.put, List.setIfInBounds_toArray, List.set_cons_zero, List.set_cons_succ]
            refine wpAnyH_takeL (i := 2) (v := ?n9v2) rfl (by kernel_rfl) (by kernel_rfl) (by kernel_rfl) (fun _ _ _ h => h) (Or.inl ⟨by rfl, ?n9y2⟩) hh0 ?_
            case n9y2 => (intro w hSw; (try dsimp only at hSw); go_simp; try (with_reducible rfl))
            try simp only [Act.put, List.setIfInBounds_toArray, List.set_cons_zero, List.set_cons_succ]
            refine wpAnyH_takeL (i := 3) (v := ?n9v3) rfl (by kernel_rfl) (by kernel_rfl) (by kernel_rfl) (fun _ _ _ h => h) (Or.inl ⟨by rfl, ?n9y3⟩) hh0 ?_
            case n9y3 => (intro w hSw; (try dsimp only at hSw); go_simp; try (with_reducible rfl))
            try simp only [Act.put, List.setIfInBounds_toArray, List.set_cons_zero, List.set_cons_succ]
            refine wpAnyH_takeL (i := 4) (v := ?n9v4) rfl (by kernel_rfl) (by kernel_rfl) (by kernel_rfl) (fun _ _ _ h => h) (Or.inl ⟨by rfl, ?n9y4⟩) hh0 ?_
            case n9y4 => (intro w hSw; (try dsimp only at hSw); go_simp; try (with_reducible rfl))
            try simp only [Act.put, List.setIfInBounds_toArray, List.set_cons_zero, List.set_cons_succ]
            refine wpAnyH_takeL (i := 5) (v := ?n9v5) rfl (by kernel_rfl) (by kernel_rfl) (by kernel_rfl) (fun _ _ _ h => h) (Or.inl ⟨by rfl, ?n9y5⟩) hh0 ?_
            case n9y5 => (intro w hSw; (try dsimp only at hSw); go_simp; try (with_reducible rfl))
            try simp only [Act.put, List.setIfInBounds_toArray, List.set_cons_zero, List.set_cons_succ]
            refine wpAnyH_takeL (i := 6) (v := ?n9v6) rfl (by kernel_rfl) (by kernel_rfl) (by kernel_rfl) (fun _ _ _ h => h) (Or.inl ⟨by rfl, ?n9y6⟩) hh0 ?_
            case n9y6 => (intro w hSw; (try dsimp only at hSw); go_simp; try (with_reducible rfl))
            try simp only [Act.put, List.setIfInBounds_toArray, List.set_cons_zero, List.set_cons_succ]
            refine wpAnyH_takeL (i := 7) (v := ?n9v7) rfl (by kernel_rfl) (by kernel_rfl) (by kernel_rfl) (fun _ _ _ h => h) (Or.inl ⟨by rfl, ?n9y7⟩) hh0 ?_
            case n9y7 => (intro w hSw; (try dsimp only at hSw); go_simp; try (with_reducible rfl))
            try simp only [Act.put, List.setIfInBounds_toArray, List.set_cons_zero, List.set_cons_succ]
            refine wpAnyH_takeL (i := 8) (v := ?n9v8) rfl (by kernel_rfl) (by kernel_rfl) (by kernel_rfl) (fun _ _ _ h => h) (Or.inl ⟨by rfl, ?n9y8⟩) hh0 ?_
            case n9y8 => (intro w hSw; (try dsimp only at hSw); go_simp; try (with_reducible rfl))
            try simp only [Act.put, List.setIfInBounds_toArray, List.set_cons_zero, List.set_cons_succ]
            refine wpAnyH_takeL (i := 9) (v := ?n9v9) rfl (by kernel_rfl) (by kernel_rfl) (by kernel_rfl) (fun _ _ _ h => h) (Or.inl ⟨by rfl, ?n9y9⟩) hh0 ?_
            case n9y9 => (intro w hSw; (try dsimp only at hSw); go_simp; try (with_reducible rfl))
            try simp only [Act.put, List.setIfInBounds_toArray, List.set_cons_zero, List.set_cons_succ]
            refine wpAnyH_takeL (i := 10) (v := ?n9v10) rfl (by kernel_rfl) (by kernel_rfl) (by kernel_rfl) (fun _ _ _ h => h) (Or.inl ⟨by rfl, ?n9y10⟩) hh0 ?_
            case n9y10 => (intro w hSw; (try dsimp only at hSw); go_simp; try (with_reducible rfl))
            try simp only [Act.put, List.setIfInBounds_toArray, List.set_cons_zero, List.set_cons_succ]
            refine wpAnyH_takeL (i := 11) (v := ?n9v11) rfl (by kernel_rfl) (by kernel_rfl) (by kernel_rfl) (fun _ _ _ h => h) (Or.inl ⟨by rfl, ?n9y11⟩) hh0 ?_
            case n9y11 => (intro w hSw; (try dsimp only at hSw); go_simp; try (with_reducible rfl))
            try simp only [Act.put, List.setIfInBounds_toArray, List.set_cons_zero, List.set_cons_succ]
            refine wpAnyH_done (by kernel_rfl) ?_ _
            clear hh0
            rw [← hok]
            clear hok HC
            replace HW := Lib.hid (HW.out.next HR.out)
            clear HR DA
            go_wp2_with fail
            go_loopw [7, 8] (fun b i wr => ∃ n : Nat, n ≤ d.cache.length ∧ b = .bool (found d K xa a ok n) ∧ i = .int .i64 n ∧ Hid (Below wk5.heap.size wk5 wr)) (fun _ i _ => d.cache.length - (RowKit.intOf i).toNat)
            case atStart => exact ⟨0, Nat.zero_le _, by rw [found_zero], rfl, HW⟩
            case round =>
              clear HW
              obtain ⟨n, hn, rfl, rfl, HW⟩ := hrel
              have u1 := C3.out _ HW.out
              by_cases hnm : n < d.cache.length
              case pos =>
                have zn2 : (n : Int) < (d.cache.length : Int) := by omega
                have HS := Lib.hid (found_succ d K xa a ok n)
                obtain ⟨cb, co, e1, hat⟩ := puts_at DP.out (by omega)
                subst e1
                have PA := Lib.hid (fun wy (hb : Below wk5.heap.size wk5 wy) => hat n hnm wy hb)
                have HFit : Hid (fits d K xa a n = (((d.cache.getD n (0, empty0)).1 == (a : Int)) && (((d.cache.getD n (0, empty0)).2.toList == xa.toList) && (decide ((n : Int) < (K.length : Int)) && K.getD n false)))) := Lib.hid rfl
                generalize (d.cache.getD n (0, empty0)).1 = c1 at *
                generalize (d.cache.getD n (0, empty0)).2 = c2 at *
                generalize fits d K xa a n = ft at *
                have HFo := Lib.hid (show ∃ q, q = found d K xa a ok n from ⟨_, rfl⟩)
                generalize found d K xa a ok n = fo at *
                clear hat HFo
                go_wp2_with fail
                clear u1
                cases fo with
                | true =>
                  have HC : Hid (∀ w', Below wr.heap.size wr w' → w'.cell? ⟨gx, 0, none⟩ = some (.slice (some ⟨xb, xo, none⟩) d.kept.length xc0) ∧ w'.cell? ⟨g0, 1, none⟩ = some (.slice (some ⟨cb, co, none⟩) d.cache.length dc1) ∧ w'.cell? ⟨xb, xo + a, none⟩ = some (.string xa) ∧ w'.cell? ⟨cb, co + n * 2, none⟩ = some (.int .i64 c1) ∧ w'.cell? ⟨cb, co + n * 2 + 1, none⟩ = some (.string c2)) := Lib.hid fun w' hb => ⟨C1.out _ (HW.out.next hb), C3.out _ (HW.out.next hb), XA.out _ (HW.out.next hb), (PA.out _ (HW.out.next hb)).1, (PA.out _ (HW.out.next hb)).2⟩
                  have HR := Lib.hid ((Below.refl wr.heap.size wr).drew)
                  refine wp_region_held_drew (S := (fun w' => w'.cell? ⟨gx, 0, none⟩ = some (.slice (some ⟨xb, xo, none⟩) d.kept.length xc0) ∧ w'.cell? ⟨g0, 1, none⟩ = some (.slice (some ⟨cb, co, none⟩) d.cache.length dc1) ∧ w'.cell? ⟨xb, xo + a, none⟩ = some (.string xa) ∧ w'.cell? ⟨cb, co + n * 2, none⟩ = some (.int .i64 c1) ∧ w'.cell? ⟨cb, co + n * 2 + 1, none⟩ = some (.string c2))) (by kernel_rfl) (HC.out _ HR.out) (fun hh0 => ?_)
                  refine wpAnyH_takeL (i := 0) (v := ?k1v0) rfl (by kernel_rfl) (by kernel_rfl) (by kernel_rfl) (fun _ _ _ h => h) (Or.inl ⟨by rfl, ?k1y0⟩) hh0 ?_
                  case k1y0 => (intro w hSw; (try dsimp only at hSw); go_simp; try (with_reducible rfl))
                  try simp only [Act.put, List.setIfInBounds_toArray, List.set_cons_zero, List.set_cons_succ]
                  refine wpAnyH_takeL (i := 1) (v := ?k1v1) rfl (by kernel_rfl) (by kernel_rfl) (by kernel_rfl) (fun _ _ _ h => h) (Or.inl ⟨by rfl, ?k1y1⟩) hh0 ?_
                  case k1y1 => (intro w hSw; (try dsimp only at hSw); go_simp; try (with_reducible rfl))
                  try simp only [Act.put, List.setIfInBounds_toArray, List.set_cons_zero, List.set_cons_succ]
                  refine wpAnyH_takeL (i := 2) (v := undef) rfl (by kernel_rfl) (by kernel_rfl) (by kernel_rfl) (fun _ _ _ h => h) (Or.inr ⟨by rfl, rfl⟩) hh0 ?_
                  try simp only [Act.put, List.setIfInBounds_toArray, List.set_cons_zero, List.set_cons_succ]
                  refine wpAnyH_takeL (i := 3) (v := undef) rfl (by kernel_rfl) (by kernel_rfl) (by kernel_rfl) (fun _ _ _ h => h) (Or.inr ⟨by rfl, rfl⟩) hh0 ?_
                  try simp only [Act.put, List.setIfInBounds_toArray, List.set_cons_zero, List.set_cons_succ]
                  refine wpAnyH_takeL (i := 4) (v := undef) rfl (by kernel_rfl) (by kernel_rfl) (by kernel_rfl) (fun _ _ _ h => h) (Or.inr ⟨by rfl, rfl⟩) hh0 ?_
                  try simp only [Act.put, List.setIfInBounds_toArray, List.set_cons_zero, List.set_cons_succ]
                  refine wpAnyH_takeL (i := 5) (v := undef) rfl (by kernel_rfl) (by kernel_rfl) (by kernel_rfl) (fun _ _ _ h => h) (Or.inr ⟨by rfl, rfl⟩) hh0 ?_
                  try simp only [Act.put, List.setIfInBounds_toArray, List.set_cons_zero, List.set_cons_succ]
                  refine wpAnyH_takeL (i := 6) (v := undef) rfl (by kernel_rfl) (by kernel_rfl) (by kernel_rfl) (fun _ _ _ h => h) (Or.inr ⟨by rfl, rfl⟩) hh0 ?_
                  try simp only [Act.put, List.setIfInBounds_toArray, List.set_cons_zero, List.set_cons_succ]
                  refine wpAnyH_takeL (i := 7) (v := undef) rfl (by kernel_rfl) (by kernel_rfl) (by kernel_rfl) (fun _ _ _ h => h) (Or.inr ⟨by rfl, rfl⟩) hh0 ?_
                  try simp only [Act.put, List.setIfInBounds_toArray, List.set_cons_zero, List.set_cons_succ]
                  refine wpAnyH_takeL (i := 8) (v := undef) rfl (by kernel_rfl) (by kernel_rfl) (by kernel_rfl) (fun _ _ _ h => h) (Or.inr ⟨by rfl, rfl⟩) hh0 ?_
                  try simp only [Act.put, List.setIfInBounds_toArray, List.set_cons_zero, List.set_cons_succ]
                  refine wpAnyH_takeL (i := 9) (v := undef) rfl (by kernel_rfl) (by kernel_rfl) (by kernel_rfl) (fun _ _ _ h => h) (Or.inr ⟨by rfl, rfl⟩) hh0 ?_
                  try simp only [Act.put, List.setIfInBounds_toArray, List.set_cons_zero, List.set_cons_succ]
                  refine wpAnyH_takeL (i := 10) (v := undef) rfl (by kernel_rfl) (by kernel_rfl) (by kernel_rfl) (fun _ _ _ h => h) (Or.inr ⟨by rfl, rfl⟩) hh0 ?_
                  try simp only [Act.put, List.setIfInBounds_toArray, List.set_cons_zero, List.set_cons_succ]
                  refine wpAnyH_takeL (i := 11) (v := undef) rfl (by kernel_rfl) (by kernel_rfl) (by kernel_rfl) (fun _ _ _ h => h) (Or.inr ⟨by rfl, rfl⟩) hh0 ?_
                  try simp only [Act.put, List.setIfInBounds_toArray, List.set_cons_zero, List.set_cons_succ]
                  refine wpAnyH_takeL (i := 12) (v := undef) rfl (by kernel_rfl) (by kernel_rfl) (by kernel_rfl) (fun _ _ _ h => h) (Or.inr ⟨by rfl, rfl⟩) hh0 ?_
                  try simp only [Act.put, List.setIfInBounds_toArray, List.set_cons_zero, List.set_cons_succ]
                  refine wpAnyH_takeL (i := 13) (v := undef) rfl (by kernel_rfl) (by kernel_rfl) (by kernel_rfl) (fun _ _ _ h => h) (Or.inr ⟨by rfl, rfl⟩) hh0 ?_
                  try simp only [Act.put, List.setIfInBounds_toArray, List.set_cons_zero, List.set_cons_succ]
                  refine wpAnyH_takeL (i := 14) (v := undef) rfl (by kernel_rfl) (by kernel_rfl) (by kernel_rfl) (fun _ _ _ h => h) (Or.inr ⟨by rfl, rfl⟩) hh0 ?_
                  try simp only [Act.put, List.setIfInBounds_toArray, List.set_cons_zero, List.set_cons_succ]
                  refine wpAnyH_takeL (i := 15) (v := undef) rfl (by kernel_rfl) (by kernel_rfl) (by kernel_rfl) (fun _ _ _ h => h) (Or.inr ⟨by rfl, rfl⟩) hh0 ?_
                  try simp only [Act.put, List.setIfInBounds_toArray, List.set_cons_zero, List.set_cons_succ]
                  refine wpAnyH_takeL (i := 16) (v := undef) rfl (by kernel_rfl) (by kernel_rfl) (by kernel_rfl) (fun _ _ _ h => h) (Or.inr ⟨by rfl, rfl⟩) hh0 ?_
                  try simp only [Act.put, List.setIfInBounds_toArray, List.set_cons_zero, List.set_cons_succ]
                  refine wpAnyH_takeL (i := 17) (v := undef) rfl (by kernel_rfl) (by kernel_rfl) (by kernel_rfl) (fun _ _ _ h => h) (Or.inr ⟨by rfl, rfl⟩) hh0 ?_
                  try simp only [Act.put, List.setIfInBounds_toArray, List.set_cons_zero, List.set_cons_succ]
                  refine wpAnyH_takeL (i := 18) (v := undef) rfl (by kernel_rfl) (by kernel_rfl) (by kernel_rfl) (fun _ _ _ h => h) (Or.inr ⟨by rfl, rfl⟩) hh0 ?_
                  try simp only [Act.put, List.setIfInBounds_toArray, List.set_cons_zero, List.set_cons_succ]
                  refine wpAnyH_takeL (i := 19) (v := undef) rfl (by kernel_rfl) (by kernel_rfl) (by kernel_rfl) (fun _ _ _ h => h) (Or.inr ⟨by rfl, rfl⟩) hh0 ?_
                  try simp only [Act.put, List.setIfInBounds_toArray, List.set_cons_zero, List.set_cons_succ]
                  refine wpAnyH_takeL (i := 20) (v := undef) rfl (by kernel_rfl) (by kernel_rfl) (by kernel_rfl) (fun _ _ _ h => h) (Or.inr ⟨by rfl, rfl⟩) hh0 ?_
                  try simp only [Act.put, List.setIfInBounds_toArray, List.set_cons_zero, List.set_cons_succ]
                  refine wpAnyH_takeL (i := 21) (v := undef) rfl (by kernel_rfl) (by kernel_rfl) (by kernel_rfl) (fun _ _ _ h => h) (Or.inr ⟨by rfl, rfl⟩) hh0 ?_
                  try simp only [Act.put, List.setIfInBounds_toArray, List.set_cons_zero, List.set_cons_succ]
                  refine wpAnyH_takeL (i := 22) (v := undef) rfl (by kernel_rfl) (by kernel_rfl) (by kernel_rfl) (fun _ _ _ h => h) (Or.inr ⟨by rfl, rfl⟩) hh0 ?_
                  try simp only [Act.put, List.setIfInBounds_toArray, List.set_cons_zero, List.set_cons_succ]
                  refine wpAnyH_takeL (i := 23) (v := undef) rfl (by kernel_rfl) (by kernel_rfl) (by kernel_rfl) (fun _ _ _ h => h) (Or.inr ⟨by rfl, rfl⟩) hh0 ?_
                  try simp only [Act.put, List.setIfInBounds_toArray, List.set_cons_zero, List.set_cons_succ]
                  refine wpAnyH_takeL (i := 24) (v := undef) rfl (by kernel_rfl) (by kernel_rfl) (by kernel_rfl) (fun _ _ _ h => h) (Or.inr ⟨by rfl, rfl⟩) hh0 ?_
                  try simp only [Act.put, List.setIfInBounds_toArray, List.set_cons_zero, List.set_cons_succ]
                  refine wpAnyH_takeL (i := 25) (v := undef) rfl (by kernel_rfl) (by kernel_rfl) (by kernel_rfl) (fun _ _ _ h => h) (Or.inr ⟨by rfl, rfl⟩) hh0 ?_
                  try simp only [Act.put, List.setIfInBounds_toArray, List.set_cons_zero, List.set_cons_succ]
                  refine wpAnyH_takeL (i := 26) (v := undef) rfl (by kernel_rfl) (by kernel_rfl) (by kernel_rfl) (fun _ _ _ h => h) (Or.inr ⟨by rfl, rfl⟩) hh0 ?_
                  try simp only [Act.put, List.setIfInBounds_toArray, List.set_cons_zero, List.set_cons_succ]
                  refine wpAnyH_takeL (i := 27) (v := undef) rfl (by kernel_rfl) (by kernel_rfl) (by kernel_rfl) (fun _ _ _ h => h) (Or.inr ⟨by rfl, rfl⟩) hh0 ?_
                  try simp only [Act.put, List.setIfInBounds_toArray, List.set_cons_zero, List.set_cons_succ]
                  refine wpAnyH_takeL (i := 28) (v := undef) rfl (by kernel_rfl) (by kernel_rfl) (by kernel_rfl) (fun _ _ _ h => h) (Or.inr ⟨by rfl, rfl⟩) hh0 ?_
                  try simp only [Act.put, List.setIfInBounds_toArray, List.set_cons_zero, List.set_cons_succ]
                  refine wpAnyH_takeL (i := 29) (v := undef) rfl (by kernel_rfl) (by kernel_rfl) (by kernel_rfl) (fun _ _ _ h => h) (Or.inr ⟨by rfl, rfl⟩) hh0 ?_
                  try simp only [Act.put, List.setIfInBounds_toArray, List.set_cons_zero, List.set_cons_succ]
                  refine wpAnyH_takeL (i := 30) (v := undef) rfl (by kernel_rfl) (by kernel_rfl) (by kernel_rfl) (fun _ _ _ h => h) (Or.inr ⟨by rfl, rfl⟩) hh0 ?_
                  try simp only [Act.put, List.setIfInBounds_toArray, List.set_cons_zero, List.set_cons_succ]
                  refine wpAnyH_takeL (i := 31) (v := undef) rfl (by kernel_rfl) (by kernel_rfl) (by kernel_rfl) (fun _ _ _ h => h) (Or.inr ⟨by rfl, rfl⟩) hh0 ?_
                  try simp only [Act.put, List.setIfInBounds_toArray, List.set_cons_zero, List.set_cons_succ]
                  refine wpAnyH_takeL (i := 32) (v := undef) rfl (by kernel_rfl) (by kernel_rfl) (by kernel_rfl) (fun _ _ _ h => h) (Or.inr ⟨by rfl, rfl⟩) hh0 ?_
                  try simp only [Act.put, List.setIfInBounds_toArray, List.set_cons_zero, List.set_cons_succ]
                  refine wpAnyH_takeL (i := 33) (v := undef) rfl (by kernel_rfl) (by kernel_rfl) (by kernel_rfl) (fun _ _ _ h => h) (Or.inr ⟨by rfl, rfl⟩) hh0 ?_
                  try simp only [Act.put, List.setIfInBounds_toArray, List.set_cons_zero, List.set_cons_succ]
                  refine wpAnyH_takeL (i := 34) (v := undef) rfl (by kernel_rfl) (by kernel_rfl) (by kernel_rfl) (fun _ _ _ h => h) (Or.inr ⟨by rfl, rfl⟩) hh0 ?_
                  try simp only [Act.put, List.setIfInBounds_toArray, List.set_cons_zero, List.set_cons_succ]
                  refine wpAnyH_takeL (i := 35) (v := undef) rfl (by kernel_rfl) (by kernel_rfl) (by kernel_rfl) (fun _ _ _ h => h) (Or.inr ⟨by rfl, rfl⟩) hh0 ?_
                  try simp only [Act.put, List.setIfInBounds_toArray, List.set_cons_zero, List.set_cons_succ]
                  refine wpAnyH_takeL (i := 36) (v := ?k1v36) rfl (by kernel_rfl) (by kernel_rfl) (by kernel_rfl) (fun _ _ _ h => h) (Or.inl ⟨by rfl, ?k1y36⟩) hh0 ?_
                  case k1y36 => (intro w hSw; (try dsimp only at hSw); go_simp; try (with_reducible rfl))
                  try simp only [Act.put, List.setIfInBounds_toArray, List.set_cons_zero, List.set_cons_succ]
                  refine wpAnyH_takeL (i := 37) (v := ?k1v37) rfl (by kernel_rfl) (by kernel_rfl) (by kernel_rfl) (fun _ _ _ h => h) (Or.inl ⟨by rfl, ?k1y37⟩) hh0 ?_
                  case k1y37 => (intro w hSw; (try dsimp only at hSw); go_simp; try (with_reducible rfl))
                  try simp only [Act.put, List.setIfInBounds_toArray, List.set_cons_zero, List.set_cons_succ]
                  refine wpAnyH_done (by kernel_rfl) ?_ _
                  clear hh0
                  go_wp2
                  go_roundw
                  case rel => exact ⟨n + 1, by omega, by rw [HS.out]; exact congrArg Value.bool (by rfl), by go_num, Lib.hid (HW.out.next HR.out)⟩
                  case measure => simp [RowKit.intOf]; omega
                | false =>
                  cases zA : (c1 == (a : Int)) with
                  | false =>
                    have HC : Hid (∀ w', Below wr.heap.size wr w' → w'.cell? ⟨gx, 0, none⟩ = some (.slice (some ⟨xb, xo, none⟩) d.kept.length xc0) ∧ w'.cell? ⟨g0, 1, none⟩ = some (.slice (some ⟨cb, co, none⟩) d.cache.length dc1) ∧ w'.cell? ⟨xb, xo + a, none⟩ = some (.string xa) ∧ w'.cell? ⟨cb, co + n * 2, none⟩ = some (.int .i64 c1) ∧ w'.cell? ⟨cb, co + n * 2 + 1, none⟩ = some (.string c2)) := Lib.hid fun w' hb => ⟨C1.out _ (HW.out.next hb), C3.out _ (HW.out.next hb), XA.out _ (HW.out.next hb), (PA.out _ (HW.out.next hb)).1, (PA.out _ (HW.out.next hb)).2⟩
                    have HR := Lib.hid ((Below.refl wr.heap.size wr).drew)
                    refine wp_region_held_drew (S := (fun w' => w'.cell? ⟨gx, 0, none⟩ = some (.slice (some ⟨xb, xo, none⟩) d.kept.length xc0) ∧ w'.cell? ⟨g0, 1, none⟩ = some (.slice (some ⟨cb, co, none⟩) d.cache.length dc1) ∧ w'.cell? ⟨xb, xo + a, none⟩ = some (.string xa) ∧ w'.cell? ⟨cb, co + n * 2, none⟩ = some (.int .i64 c1) ∧ w'.cell? ⟨cb, co + n * 2 + 1, none⟩ = some (.string c2))) (by kernel_rfl) (HC.out _ HR.out) (fun hh0 => ?_)
                    refine wpAnyH_takeL (i := 0) (v := ?k2v0) rfl (by kernel_rfl) (by kernel_rfl) (by kernel_rfl) (fun _ _ _ h => h) (Or.inl ⟨by rfl, ?k2y0⟩) hh0 ?_
                    case k2y0 => (intro w hSw; (try dsimp only at hSw); go_simp; try (with_reducible rfl))
                    try simp only [Act.put, List.setIfInBounds_toArray, List.set_cons_zero, List.set_cons_succ]
                    refine wpAnyH_takeL (i := 1) (v := ?k2v1) rfl (by kernel_rfl) (by kernel_rfl) (by kernel_rfl) (fun _ _ _ h => h) (Or.inl ⟨by rfl, ?k2y1⟩) hh0 ?_
                    case k2y1 => (intro w hSw; (try dsimp only at hSw); go_simp; try (with_reducible rfl))
                    try simp only [Act.put, List.setIfInBounds_toArray, List.set_cons_zero, List.set_cons_succ]
                    refine wpAnyH_takeL (i := 2) (v := ?k2v2) rfl (by kernel_rfl) (by kernel_rfl) (by kernel_rfl) (fun _ _ _ h => h) (Or.inl ⟨by rfl, ?k2y2⟩) hh0 ?_
                    case k2y2 => (intro w hSw; (try dsimp only at hSw); go_simp; try (with_reducible rfl))
                    try simp only [Act.put, List.setIfInBounds_toArray, List.set_cons_zero, List.set_cons_succ]
                    refine wpAnyH_takeL (i := 3) (v := ?k2v3) rfl (by kernel_rfl) (by kernel_rfl) (by kernel_rfl) (fun _ _ _ h => h) (Or.inl ⟨by rfl, ?k2y3⟩) hh0 ?_
                    case k2y3 => (intro w hSw; (try dsimp only at hSw); go_simp; try (with_reducible rfl))
                    try simp only [Act.put, List.setIfInBounds_toArray, List.set_cons_zero, List.set_cons_succ]
                    refine wpAnyH_takeL (i := 4) (v := ?k2v4) rfl (by kernel_rfl) (by kernel_rfl) (by kernel_rfl) (fun _ _ _ h => h) (Or.inl ⟨by rfl, ?k2y4⟩) hh0 ?_
                    case k2y4 => (intro w hSw; (try dsimp only at hSw); go_simp; try (with_reducible rfl))
                    try simp only [Act.put, List.setIfInBounds_toArray, List.set_cons_zero, List.set_cons_succ]
                    refine wpAnyH_takeL (i := 5) (v := ?k2v5) rfl (by kernel_rfl) (by kernel_rfl) (by kernel_rfl) (fun _ _ _ h => h) (Or.inl ⟨by rfl, ?k2y5⟩) hh0 ?_
                    case k2y5 => (intro w hSw; (try dsimp only at hSw); go_simp; try (with_reducible rfl))
                    try simp only [Act.put, List.setIfInBounds_toArray, List.set_cons_zero, List.set_cons_succ]
                    refine wpAnyH_takeL (i := 6) (v := ?k2v6) rfl (by kernel_rfl) (by kernel_rfl) (by kernel_rfl) (fun _ _ _ h => h) (Or.inl ⟨by rfl, ?k2y6⟩) hh0 ?_
                    case k2y6 => (intro w hSw; (try dsimp only at hSw); go_simp; try (with_reducible rfl))
                    try simp only [Act.put, List.setIfInBounds_toArray, List.set_cons_zero, List.set_cons_succ]
                    refine wpAnyH_takeL (i := 7) (v := ?k2v7) rfl (by kernel_rfl) (by kernel_rfl) (by kernel_rfl) (fun _ _ _ h => h) (Or.inl ⟨by rfl, ?k2y7⟩) hh0 ?_
                    case k2y7 => (intro w hSw; (try dsimp only at hSw); go_simp; try (with_reducible rfl))
                    try simp only [Act.put, List.setIfInBounds_toArray, List.set_cons_zero, List.set_cons_succ]
                    refine wpAnyH_takeL (i := 8) (v := ?k2v8) rfl (by kernel_rfl) (by kernel_rfl) (by kernel_rfl) (fun _ _ _ h => h) (Or.inl ⟨by rfl, ?k2y8⟩) hh0 ?_
                    case k2y8 => (intro w hSw; (try dsimp only at hSw); go_simp; try (with_reducible rfl))
                    try simp only [Act.put, List.setIfInBounds_toArray, List.set_cons_zero, List.set_cons_succ]
                    refine wpAnyH_takeL (i := 9) (v := ?k2v9) rfl (by kernel_rfl) (by kernel_rfl) (by kernel_rfl) (fun _ _ _ h => h) (Or.inl ⟨by rfl, ?k2y9⟩) hh0 ?_
                    case k2y9 => (intro w hSw; (try dsimp only at hSw); go_simp; try (with_reducible rfl))
                    try simp only [Act.put, List.setIfInBounds_toArray, List.set_cons_zero, List.set_cons_succ]
                    refine wpAnyH_takeL (i := 10) (v := ?k2v10) rfl (by kernel_rfl) (by kernel_rfl) (by kernel_rfl) (fun _ _ _ h => h) (Or.inl ⟨by rfl, ?k2y10⟩) hh0 ?_
                    case k2y10 => (intro w hSw; (try dsimp only at hSw); go_simp; try (with_reducible rfl))
                    try simp only [Act.put, List.setIfInBounds_toArray, List.set_cons_zero, List.set_cons_succ]
                    refine wpAnyH_takeL (i := 11) (v := undef) rfl (by kernel_rfl) (by kernel_rfl) (by kernel_rfl) (fun _ _ _ h => h) (Or.inr ⟨by rfl, rfl⟩) hh0 ?_
                    try simp only [Act.put, List.setIfInBounds_toArray, List.set_cons_zero, List.set_cons_succ]
                    refine wpAnyH_takeL (i := 12) (v := undef) rfl (by kernel_rfl) (by kernel_rfl) (by kernel_rfl) (fun _ _ _ h => h) (Or.inr ⟨by rfl, rfl⟩) hh0 ?_
                    try simp only [Act.put, List.setIfInBounds_toArray, List.set_cons_zero, List.set_cons_succ]
                    refine wpAnyH_takeL (i := 13) (v := undef) rfl (by kernel_rfl) (by kernel_rfl) (by kernel_rfl) (fun _ _ _ h => h) (Or.inr ⟨by rfl, rfl⟩) hh0 ?_
                    try simp only [Act.put, List.setIfInBounds_toArray, List.set_cons_zero, List.set_cons_succ]
                    refine wpAnyH_takeL (i := 14) (v := undef) rfl (by kernel_rfl) (by kernel_rfl) (by kernel_rfl) (fun _ _ _ h => h) (Or.inr ⟨by rfl, rfl⟩) hh0 ?_
                    try simp only [Act.put, List.setIfInBounds_toArray, List.set_cons_zero, List.set_cons_succ]
                    refine wpAnyH_takeL (i := 15) (v := undef) rfl (by kernel_rfl) (by kernel_rfl) (by kernel_rfl) (fun _ _ _ h => h) (Or.inr ⟨by rfl, rfl⟩) hh0 ?_
                    try simp only [Act.put, List.setIfInBounds_toArray, List.set_cons_zero, List.set_cons_succ]
                    refine wpAnyH_takeL (i := 16) (v := undef) rfl (by kernel_rfl) (by kernel_rfl) (by kernel_rfl) (fun _ _ _ h => h) (Or.inr ⟨by rfl, rfl⟩) hh0 ?_
                    try simp only [Act.put, List.setIfInBounds_toArray, List.set_cons_zero, List.set_cons_succ]
                    refine wpAnyH_takeL (i := 17) (v := undef) rfl (by kernel_rfl) (by kernel_rfl) (by kernel_rfl) (fun _ _ _ h => h) (Or.inr ⟨by rfl, rfl⟩) hh0 ?_
                    try simp only [Act.put, List.setIfInBounds_toArray, List.set_cons_zero, List.set_cons_succ]
                    refine wpAnyH_takeL (i := 18) (v := undef) rfl (by kernel_rfl) (by kernel_rfl) (by kernel_rfl) (fun _ _ _ h => h) (Or.inr ⟨by rfl, rfl⟩) hh0 ?_
                    try simp only [Act.put, List.setIfInBounds_toArray, List.set_cons_zero, List.set_cons_succ]
                    refine wpAnyH_takeL (i := 19) (v := undef) rfl (by kernel_rfl) (by kernel_rfl) (by kernel_rfl) (fun _ _ _ h => h) (Or.inr ⟨by rfl, rfl⟩) hh0 ?_
                    try simp only [Act.put, List.setIfInBounds_toArray, List.set_cons_zero, List.set_cons_succ]
                    refine wpAnyH_takeL (i := 20) (v := undef) rfl (by kernel_rfl) (by kernel_rfl) (by kernel_rfl) (fun _ _ _ h => h) (Or.inr ⟨by rfl, rfl⟩) hh0 ?_
                    try simp only [Act.put, List.setIfInBounds_toArray, List.set_cons_zero, List.set_cons_succ]
                    refine wpAnyH_takeL (i := 21) (v := undef) rfl (by kernel_rfl) (by kernel_rfl) (by kernel_rfl) (fun _ _ _ h => h) (Or.inr ⟨by rfl, rfl⟩) hh0 ?_
                    try simp only [Act.put, List.setIfInBounds_toArray, List.set_cons_zero, List.set_cons_succ]
                    refine wpAnyH_takeL (i := 22) (v := undef) rfl (by kernel_rfl) (by kernel_rfl) (by kernel_rfl) (fun _ _ _ h => h) (Or.inr ⟨by rfl, rfl⟩) hh0 ?_
                    try simp only [Act.put, List.setIfInBounds_toArray, List.set_cons_zero, List.set_cons_succ]
                    refine wpAnyH_takeL (i := 23) (v := ?k2v23) rfl (by kernel_rfl) (by kernel_rfl) (by kernel_rfl) (fun _ _ _ h => h) (Or.inl ⟨by rfl, ?k2y23⟩) hh0 ?_
                    case k2y23 => (intro w hSw; (try dsimp only at hSw); go_simp; try (with_reducible rfl))
                    try simp only [Act.put, List.setIfInBounds_toArray, List.set_cons_zero, List.set_cons_succ]
                    refine wpAnyH_takeL (i := 24) (v := ?k2v24) rfl (by kernel_rfl) (by kernel_rfl) (by kernel_rfl) (fun _ _ _ h => h) (Or.inl ⟨by rfl, ?k2y24⟩) hh0 ?_
                    case k2y24 => (intro w hSw; (try dsimp only at hSw); go_simp; try (with_reducible rfl))
                    try simp only [Act.put, List.setIfInBounds_toArray, List.set_cons_zero, List.set_cons_succ]
                    refine wpAnyH_takeL (i := 25) (v := undef) rfl (by kernel_rfl) (by kernel_rfl) (by kernel_rfl) (fun _ _ _ h => h) (Or.inr ⟨by rfl, rfl⟩) hh0 ?_
                    try simp only [Act.put, List.setIfInBounds_toArray, List.set_cons_zero, List.set_cons_succ]
                    refine wpAnyH_takeL (i := 26) (v := undef) rfl (by kernel_rfl) (by kernel_rfl) (by kernel_rfl) (fun _ _ _ h => h) (Or.inr ⟨by rfl, rfl⟩) hh0 ?_
                    try simp only [Act.put, List.setIfInBounds_toArray, List.set_cons_zero, List.set_cons_succ]
                    refine wpAnyH_takeL (i := 27) (v := undef) rfl (by kernel_rfl) (by kernel_rfl) (by kernel_rfl) (fun _ _ _ h => h) (Or.inr ⟨by rfl, rfl⟩) hh0 ?_
                    try simp only [Act.put, List.setIfInBounds_toArray, List.set_cons_zero, List.set_cons_succ]
                    refine wpAnyH_takeL (i := 28) (v := undef) rfl (by kernel_rfl) (by kernel_rfl) (by kernel_rfl) (fun _ _ _ h => h) (Or.inr ⟨by rfl, rfl⟩) hh0 ?_
                    try simp only [Act.put, List.setIfInBounds_toArray, List.set_cons_zero, List.set_cons_succ]
                    refine wpAnyH_takeL (i := 29) (v := ?k2v29) rfl (by kernel_rfl) (by kernel_rfl) (by kernel_rfl) (fun _ _ _ h => h) (Or.inl ⟨by rfl, ?k2y29⟩) hh0 ?_
                    case k2y29 => (intro w hSw; (try dsimp only at hSw); go_simp; try (with_reducible rfl))
                    try simp only [Act.put, List.setIfInBounds_toArray, List.set_cons_zero, List.set_cons_succ]
                    refine wpAnyH_takeL (i := 30) (v := ?k2v30) rfl (by kernel_rfl) (by kernel_rfl) (by kernel_rfl) (fun _ _ _ h => h) (Or.inl ⟨by rfl, ?k2y30⟩) hh0 ?_
                    case k2y30 => (intro w hSw; (try dsimp only at hSw); go_simp; try (with_reducible rfl))
                    try simp only [Act.put, List.setIfInBounds_toArray, List.set_cons_zero, List.set_cons_succ]
                    refine wpAnyH_takeL (i := 31) (v := undef) rfl (by kernel_rfl) (by kernel_rfl) (by kernel_rfl) (fun _ _ _ h => h) (Or.inr ⟨by rfl, rfl⟩) hh0 ?_
                    try simp only [Act.put, List.setIfInBounds_toArray, List.set_cons_zero, List.set_cons_succ]
                    refine wpAnyH_takeL (i := 32) (v := undef) rfl (by kernel_rfl) (by kernel_rfl) (by kernel_rfl) (fun _ _ _ h => h) (Or.inr ⟨by rfl, rfl⟩) hh0 ?_
                    try simp only [Act.put, List.setIfInBounds_toArray, List.set_cons_zero, List.set_cons_succ]
                    refine wpAnyH_takeL (i := 33) (v := undef) rfl (by kernel_rfl) (by kernel_rfl) (by kernel_rfl) (fun _ _ _ h => h) (Or.inr ⟨by rfl, rfl⟩) hh0 ?_
                    try simp only [Act.put, List.setIfInBounds_toArray, List.set_cons_zero, List.set_cons_succ]
                    refine wpAnyH_takeL (i := 34) (v := undef) rfl (by kernel_rfl) (by kernel_rfl) (by kernel_rfl) (fun _ _ _ h => h) (Or.inr ⟨by rfl, rfl⟩) hh0 ?_
                    try simp only [Act.put, List.setIfInBounds_toArray, List.set_cons_zero, List.set_cons_succ]
                    refine wpAnyH_takeL (i := 35) (v := ?k2v35) rfl (by kernel_rfl) (by kernel_rfl) (by kernel_rfl) (fun _ _ _ h => h) (Or.inl ⟨by rfl, ?k2y35⟩) hh0 ?_
                    case k2y35 => (intro w hSw; (try dsimp only at hSw); go_simp; try (with_reducible rfl))
                    try simp only [Act.put, List.setIfInBounds_toArray, List.set_cons_zero, List.set_cons_succ]
                    refine wpAnyH_takeL (i := 36) (v := ?k2v36) rfl (by kernel_rfl) (by kernel_rfl) (by kernel_rfl) (fun _ _ _ h => h) (Or.inl ⟨by rfl, ?k2y36⟩) hh0 ?_
                    case k2y36 => (intro w hSw; (try dsimp only at hSw); go_simp; try (with_reducible rfl))
                    try simp only [Act.put, List.setIfInBounds_toArray, List.set_cons_zero, List.set_cons_succ]
                    refine wpAnyH_takeL (i := 37) (v := ?k2v37) rfl (by kernel_rfl) (by kernel_rfl) (by kernel_rfl) (fun _ _ _ h => h) (Or.inl ⟨by rfl, ?k2y37⟩) hh0 ?_
                    case k2y37 => (intro w hSw; (try dsimp only at hSw); go_simp; try (with_reducible rfl))
                    try simp only [Act.put, List.setIfInBounds_toArray, List.set_cons_zero, List.set_cons_succ]
                    refine wpAnyH_done (by kernel_rfl) ?_ _
                    clear hh0
                    go_wp2
                    go_roundw
                    case rel => exact ⟨n + 1, by omega, by rw [HS.out]; exact congrArg Value.bool (by rw [HFit.out, zA]; rfl), by go_num, Lib.hid (HW.out.next HR.out)⟩
                    case measure => simp [RowKit.intOf]; omega
                  | true =>
                    cases zB : (c2.toList == xa.toList) with
                    | false =>
                      have HC : Hid (∀ w', Below wr.heap.size wr w' → w'.cell? ⟨gx, 0, none⟩ = some (.slice (some ⟨xb, xo, none⟩) d.kept.length xc0) ∧ w'.cell? ⟨g0, 1, none⟩ = some (.slice (some ⟨cb, co, none⟩) d.cache.length dc1) ∧ w'.cell? ⟨xb, xo + a, none⟩ = some (.string xa) ∧ w'.cell? ⟨cb, co + n * 2, none⟩ = some (.int .i64 c1) ∧ w'.cell? ⟨cb, co + n * 2 + 1, none⟩ = some (.string c2)) := Lib.hid fun w' hb => ⟨C1.out _ (HW.out.next hb), C3.out _ (HW.out.next hb), XA.out _ (HW.out.next hb), (PA.out _ (HW.out.next hb)).1, (PA.out _ (HW.out.next hb)).2⟩
                      have HR := Lib.hid ((Below.refl wr.heap.size wr).drew)
                      refine wp_region_held_drew (S := (fun w' => w'.cell? ⟨gx, 0, none⟩ = some (.slice (some ⟨xb, xo, none⟩) d.kept.length xc0) ∧ w'.cell? ⟨g0, 1, none⟩ = some (.slice (some ⟨cb, co, none⟩) d.cache.length dc1) ∧ w'.cell? ⟨xb, xo + a, none⟩ = some (.string xa) ∧ w'.cell? ⟨cb, co + n * 2, none⟩ = some (.int .i64 c1) ∧ w'.cell? ⟨cb, co + n * 2 + 1, none⟩ = some (.string c2))) (by kernel_rfl) (HC.out _ HR.out) (fun hh0 => ?_)
                      refine wpAnyH_takeL (i := 0) (v := ?k3v0) rfl (by kernel_rfl) (by kernel_rfl) (by kernel_rfl) (fun _ _ _ h => h) (Or.inl ⟨by rfl, ?k3y0⟩) hh0 ?_
                      case k3y0 => (intro w hSw; (try dsimp only at hSw); go_simp; try (with_reducible rfl))
                      try simp only [Act.put, List.setIfInBounds_toArray, List.set_cons_zero, List.set_cons_succ]
                      refine wpAnyH_takeL (i := 1) (v := ?k3v1) rfl (by kernel_rfl) (by kernel_rfl) (by kernel_rfl) (fun _ _ _ h => h) (Or.inl ⟨by rfl, ?k3y1⟩) hh0 ?_
                      case k3y1 => (intro w hSw; (try dsimp only at hSw); go_simp; try (with_reducible rfl))
                      try simp only [Act.put, List.setIfInBounds_toArray, List.set_cons_zero, List.set_cons_succ]
                      refine wpAnyH_takeL (i := 2) (v := ?k3v2) rfl (by kernel_rfl) (by kernel_rfl) (by kernel_rfl) (fun _ _ _ h => h) (Or.inl ⟨by rfl, ?k3y2⟩) hh0 ?_
                      case k3y2 => (intro w hSw; (try dsimp only at hSw); go_simp; try (with_reducible rfl))
                      try simp only [Act.put, List.setIfInBounds_toArray, List.set_cons_zero, List.set_cons_succ]
                      refine wpAnyH_takeL (i := 3) (v := ?k3v3) rfl (by kernel_rfl) (by kernel_rfl) (by kernel_rfl) (fun _ _ _ h => h) (Or.inl ⟨by rfl, ?k3y3⟩) hh0 ?_
                      case k3y3 => (intro w hSw; (try dsimp only at hSw); go_simp; try (with_reducible rfl))
                      try simp only [Act.put, List.setIfInBounds_toArray, List.set_cons_zero, List.set_cons_succ]
                      refine wpAnyH_takeL (i := 4) (v := ?k3v4) rfl (by kernel_rfl) (by kernel_rfl) (by kernel_rfl) (fun _ _ _ h => h) (Or.inl ⟨by rfl, ?k3y4⟩) hh0 ?_
                      case k3y4 => (intro w hSw; (try dsimp only at hSw); go_simp; try (with_reducible rfl))
                      try simp only [Act.put, List.setIfInBounds_toArray, List.set_cons_zero, List.set_cons_succ]
                      refine wpAnyH_takeL (i := 5) (v := ?k3v5) rfl (by kernel_rfl) (by kernel_rfl) (by kernel_rfl) (fun _ _ _ h => h) (Or.inl ⟨by rfl, ?k3y5⟩) hh0 ?_
                      case k3y5 => (intro w hSw; (try dsimp only at hSw); go_simp; try (with_reducible rfl))
                      try simp only [Act.put, List.setIfInBounds_toArray, List.set_cons_zero, List.set_cons_succ]
                      refine wpAnyH_takeL (i := 6) (v := ?k3v6) rfl (by kernel_rfl) (by kernel_rfl) (by kernel_rfl) (fun _ _ _ h => h) (Or.inl ⟨by rfl, ?k3y6⟩) hh0 ?_
                      case k3y6 => (intro w hSw; (try dsimp only at hSw); go_simp; try (with_reducible rfl))
                      try simp only [Act.put, List.setIfInBounds_toArray, List.set_cons_zero, List.set_cons_succ]
                      refine wpAnyH_takeL (i := 7) (v := ?k3v7) rfl (by kernel_rfl) (by kernel_rfl) (by kernel_rfl) (fun _ _ _ h => h) (Or.inl ⟨by rfl, ?k3y7⟩) hh0 ?_
                      case k3y7 => (intro w hSw; (try dsimp only at hSw); go_simp; try (with_reducible rfl))
                      try simp only [Act.put, List.setIfInBounds_toArray, List.set_cons_zero, List.set_cons_succ]
                      refine wpAnyH_takeL (i := 8) (v := ?k3v8) rfl (by kernel_rfl) (by kernel_rfl) (by kernel_rfl) (fun _ _ _ h => h) (Or.inl ⟨by rfl, ?k3y8⟩) hh0 ?_
                      case k3y8 => (intro w hSw; (try dsimp only at hSw); go_simp; try (with_reducible rfl))
                      try simp only [Act.put, List.setIfInBounds_toArray, List.set_cons_zero, List.set_cons_succ]
                      refine wpAnyH_takeL (i := 9) (v := ?k3v9) rfl (by kernel_rfl) (by kernel_rfl) (by kernel_rfl) (fun _ _ _ h => h) (Or.inl ⟨by rfl, ?k3y9⟩) hh0 ?_
                      case k3y9 => (intro w hSw; (try dsimp only at hSw); go_simp; try (with_reducible rfl))
                      try simp only [Act.put, List.setIfInBounds_toArray, List.set_cons_zero, List.set_cons_succ]
                      refine wpAnyH_takeL (i := 10) (v := ?k3v10) rfl (by kernel_rfl) (by kernel_rfl) (by kernel_rfl) (fun _ _ _ h => h) (Or.inl ⟨by rfl, ?k3y10⟩) hh0 ?_
                      case k3y10 => (intro w hSw; (try dsimp only at hSw); go_simp; try (with_reducible rfl))
                      try simp only [Act.put, List.setIfInBounds_toArray, List.set_cons_zero, List.set_cons_succ]
                      refine wpAnyH_takeL (i := 11) (v := ?k3v11) rfl (by kernel_rfl) (by kernel_rfl) (by kernel_rfl) (fun _ _ _ h => h) (Or.inl ⟨by rfl, ?k3y11⟩) hh0 ?_
                      case k3y11 => (intro w hSw; (try dsimp only at hSw); go_simp; try (with_reducible rfl))
                      try simp only [Act.put, List.setIfInBounds_toArray, List.set_cons_zero, List.set_cons_succ]
                      refine wpAnyH_takeL (i := 12) (v := ?k3v12) rfl (by kernel_rfl) (by kernel_rfl) (by kernel_rfl) (fun _ _ _ h => h) (Or.inl ⟨by rfl, ?k3y12⟩) hh0 ?_
                      case k3y12 => (intro w hSw; (try dsimp only at hSw); go_simp; try (with_reducible rfl))
                      try simp only [Act.put, List.setIfInBounds_toArray, List.set_cons_zero, List.set_cons_succ]
                      refine wpAnyH_takeL (i := 13) (v := ?k3v13) rfl (by kernel_rfl) (by kernel_rfl) (by kernel_rfl) (fun _ _ _ h => h) (Or.inl ⟨by rfl, ?k3y13⟩) hh0 ?_
                      case k3y13 => (intro w hSw; (try dsimp only at hSw); go_simp; try (with_reducible rfl))
                      try simp only [Act.put, List.setIfInBounds_toArray, List.set_cons_zero, List.set_cons_succ]
                      refine wpAnyH_takeL (i := 14) (v := ?k3v14) rfl (by kernel_rfl) (by kernel_rfl) (by kernel_rfl) (fun _ _ _ h => h) (Or.inl ⟨by rfl, ?k3y14⟩) hh0 ?_
                      case k3y14 => (intro w hSw; (try dsimp only at hSw); go_simp; try (with_reducible rfl))
                      try simp only [Act.put, List.setIfInBounds_toArray, List.set_cons_zero, List.set_cons_succ]
                      refine wpAnyH_takeL (i := 15) (v := ?k3v15) rfl (by kernel_rfl) (by kernel_rfl) (by kernel_rfl) (fun _ _ _ h => h) (Or.inl ⟨by rfl, ?k3y15⟩) hh0 ?_
                      case k3y15 => (intro w hSw; (try dsimp only at hSw); go_simp; try (with_reducible rfl))
                      try simp only [Act.put, List.setIfInBounds_toArray, List.set_cons_zero, List.set_cons_succ]
                      refine wpAnyH_takeL (i := 16) (v := ?k3v16) rfl (by kernel_rfl) (by kernel_rfl) (by kernel_rfl) (fun _ _ _ h => h) (Or.inl ⟨by rfl, ?k3y16⟩) hh0 ?_
                      case k3y16 => (intro w hSw; (try dsimp only at hSw); go_simp; try (with_reducible rfl))
                      try simp only [Act.put, List.setIfInBounds_toArray, List.set_cons_zero, List.set_cons_succ]
                      refine wpAnyH_takeL (i := 17) (v := ?k3v17) rfl (by kernel_rfl) (by kernel_rfl) (by kernel_rfl) (fun _ _ _ h => h) (Or.inl ⟨by rfl, ?k3y17⟩) hh0 ?_
                      case k3y17 => (intro w hSw; (try dsimp only at hSw); go_simp; try (with_reducible rfl))
                      try simp only [Act.put, List.setIfInBounds_toArray, List.set_cons_zero, List.set_cons_succ]
                      refine wpAnyH_takeL (i := 18) (v := ?k3v18) rfl (by kernel_rfl) (by kernel_rfl) (by kernel_rfl) (fun _ _ _ h => h) (Or.inl ⟨by rfl, ?k3y18⟩) hh0 ?_
                      case k3y18 => (intro w hSw; (try dsimp only at hSw); go_simp; try (with_reducible rfl))
                      try simp only [Act.put, List.setIfInBounds_toArray, List.set_cons_zero, List.set_cons_succ]
                      refine wpAnyH_takeL (i := 19) (v := ?k3v19) rfl (by kernel_rfl) (by kernel_rfl) (by kernel_rfl) (fun _ _ _ h => h) (Or.inl ⟨by rfl, ?k3y19⟩) hh0 ?_
                      case k3y19 => (intro w hSw; (try dsimp only at hSw); go_simp; try (with_reducible rfl))
                      try simp only [Act.put, List.setIfInBounds_toArray, List.set_cons_zero, List.set_cons_succ]
                      refine wpAnyH_takeL (i := 20) (v := ?k3v20) rfl (by kernel_rfl) (by kernel_rfl) (by kernel_rfl) (fun _ _ _ h => h) (Or.inl ⟨by rfl, ?k3y20⟩) hh0 ?_
                      case k3y20 => (intro w hSw; (try dsimp only at hSw); go_simp; try (with_reducible rfl))
                      try simp only [Act.put, List.setIfInBounds_toArray, List.set_cons_zero, List.set_cons_succ]
                      refine wpAnyH_takeL (i := 21) (v := ?k3v21) rfl (by kernel_rfl) (by kernel_rfl) (by kernel_rfl) (fun _ _ _ h => h) (Or.inl ⟨by rfl, ?k3y21⟩) hh0 ?_
                      case k3y21 => (intro w hSw; (try dsimp only at hSw); go_simp; try (with_reducible rfl))
                      try simp only [Act.put, List.setIfInBounds_toArray, List.set_cons_zero, List.set_cons_succ]
                      refine wpAnyH_takeL (i := 22) (v := ?k3v22) rfl (by kernel_rfl) (by kernel_rfl) (by kernel_rfl) (fun _ _ _ h => h) (Or.inl ⟨by rfl, ?k3y22⟩) hh0 ?_
                      case k3y22 => (intro w hSw; (try dsimp only at hSw); go_simp; try (with_reducible rfl))
                      try simp only [Act.put, List.setIfInBounds_toArray, List.set_cons_zero, List.set_cons_succ]
                      refine wpAnyH_takeL (i := 23) (v := ?k3v23) rfl (by kernel_rfl) (by kernel_rfl) (by kernel_rfl) (fun _ _ _ h => h) (Or.inl ⟨by rfl, ?k3y23⟩) hh0 ?_
                      case k3y23 => (intro w hSw; (try dsimp only at hSw); go_simp; try (with_reducible rfl))
                      try simp only [Act.put, List.setIfInBounds_toArray, List.set_cons_zero, List.set_cons_succ]
                      refine wpAnyH_takeL (i := 24) (v := ?k3v24) rfl (by kernel_rfl) (by kernel_rfl) (by kernel_rfl) (fun _ _ _ h => h) (Or.inl ⟨by rfl, ?k3y24⟩) hh0 ?_
                      case k3y24 => (intro w hSw; (try dsimp only at hSw); go_simp; try (with_reducible rfl))
                      try simp only [Act.put, List.setIfInBounds_toArray, List.set_cons_zero, List.set_cons_succ]
                      refine wpAnyH_takeL (i := 25) (v := undef) rfl (by kernel_rfl) (by kernel_rfl) (by kernel_rfl) (fun _ _ _ h => h) (Or.inr ⟨by rfl, rfl⟩) hh0 ?_
                      try simp only [Act.put, List.setIfInBounds_toArray, List.set_cons_zero, List.set_cons_succ]
                      refine wpAnyH_takeL (i := 26) (v := undef) rfl (by kernel_rfl) (by kernel_rfl) (by kernel_rfl) (fun _ _ _ h => h) (Or.inr ⟨by rfl, rfl⟩) hh0 ?_
                      try simp only [Act.put, List.setIfInBounds_toArray, List.set_cons_zero, List.set_cons_succ]
                      refine wpAnyH_takeL (i := 27) (v := undef) rfl (by kernel_rfl) (by kernel_rfl) (by kernel_rfl) (fun _ _ _ h => h) (Or.inr ⟨by rfl, rfl⟩) hh0 ?_
                      try simp only [Act.put, List.setIfInBounds_toArray, List.set_cons_zero, List.set_cons_succ]
                      refine wpAnyH_takeL (i := 28) (v := undef) rfl (by kernel_rfl) (by kernel_rfl) (by kernel_rfl) (fun _ _ _ h => h) (Or.inr ⟨by rfl, rfl⟩) hh0 ?_
                      try simp only [Act.put, List.setIfInBounds_toArray, List.set_cons_zero, List.set_cons_succ]
                      refine wpAnyH_takeL (i := 29) (v := ?k3v29) rfl (by kernel_rfl) (by kernel_rfl) (by kernel_rfl) (fun _ _ _ h => h) (Or.inl ⟨by rfl, ?k3y29⟩) hh0 ?_
                      case k3y29 => (intro w hSw; (try dsimp only at hSw); go_simp; try (with_reducible rfl))
                      try simp only [Act.put, List.setIfInBounds_toArray, List.set_cons_zero, List.set_cons_succ]
                      refine wpAnyH_takeL (i := 30) (v := ?k3v30) rfl (by kernel_rfl) (by kernel_rfl) (by kernel_rfl) (fun _ _ _ h => h) (Or.inl ⟨by rfl, ?k3y30⟩) hh0 ?_
                      case k3y30 => (intro w hSw; (try dsimp only at hSw); go_simp; try (with_reducible rfl))
                      try simp only [Act.put, List.setIfInBounds_toArray, List.set_cons_zero, List.set_cons_succ]
                      refine wpAnyH_takeL (i := 31) (v := undef) rfl (by kernel_rfl) (by kernel_rfl) (by kernel_rfl) (fun _ _ _ h => h) (Or.inr ⟨by rfl, rfl⟩) hh0 ?_
                      try simp only [Act.put, List.setIfInBounds_toArray, List.set_cons_zero, List.set_cons_succ]
                      refine wpAnyH_takeL (i := 32) (v := undef) rfl (by kernel_rfl) (by kernel_rfl) (by kernel_rfl) (fun _ _ _ h => h) (Or.inr ⟨by rfl, rfl⟩) hh0 ?_
                      try simp only [Act.put, List.setIfInBounds_toArray, List.set_cons_zero, List.set_cons_succ]
                      refine wpAnyH_takeL (i := 33) (v := undef) rfl (by kernel_rfl) (by kernel_rfl) (by kernel_rfl) (fun _ _ _ h => h) (Or.inr ⟨by rfl, rfl⟩) hh0 ?_
                      try simp only [Act.put, List.setIfInBounds_toArray, List.set_cons_zero, List.set_cons_succ]
                      refine wpAnyH_takeL (i := 34) (v := undef) rfl (by kernel_rfl) (by kernel_rfl) (by kernel_rfl) (fun _ _ _ h => h) (Or.inr ⟨by rfl, rfl⟩) hh0 ?_
                      try simp only [Act.put, List.setIfInBounds_toArray, List.set_cons_zero, List.set_cons_succ]
                      refine wpAnyH_takeL (i := 35) (v := ?k3v35) rfl (by kernel_rfl) (by kernel_rfl) (by kernel_rfl) (fun _ _ _ h => h) (Or.inl ⟨by rfl, ?k3y35⟩) hh0 ?_
                      case k3y35 => (intro w hSw; (try dsimp only at hSw); go_simp; try (with_reducible rfl))
                      try simp only [Act.put, List.setIfInBounds_toArray, List.set_cons_zero, List.set_cons_succ]
                      refine wpAnyH_takeL (i := 36) (v := ?k3v36) rfl (by kernel_rfl) (by kernel_rfl) (by kernel_rfl) (fun _ _ _ h => h) (Or.inl ⟨by rfl, ?k3y36⟩) hh0 ?_
                      case k3y36 => (intro w hSw; (try dsimp only at hSw); go_simp; try (with_reducible rfl))
                      try simp only [Act.put, List.setIfInBounds_toArray, List.set_cons_zero, List.set_cons_succ]
                      refine wpAnyH_takeL (i := 37) (v := ?k3v37) rfl (by kernel_rfl) (by kernel_rfl) (by kernel_rfl) (fun _ _ _ h => h) (Or.inl ⟨by rfl, ?k3y37⟩) hh0 ?_
                      case k3y37 => (intro w hSw; (try dsimp only at hSw); go_simp; try (with_reducible rfl))
                      try simp only [Act.put, List.setIfInBounds_toArray, List.set_cons_zero, List.set_cons_succ]
                      refine wpAnyH_done (by kernel_rfl) ?_ _
                      clear hh0
                      go_wp2
                      go_roundw
                      case rel => exact ⟨n + 1, by omega, by rw [HS.out]; exact congrArg Value.bool (by rw [HFit.out, zA, zB]; rfl), by go_num, Lib.hid (HW.out.next HR.out)⟩
                      case measure => simp [RowKit.intOf]; omega
                    | true =>
                      by_cases hnk : n < K.length
                      case neg =>
                        have zC : decide ((n : Int) < (K.length : Int)) = false := decide_eq_false (by omega)
                        have zC3 : decide (n < K.length) = false := decide_eq_false hnk
                        clear hnk
                        have HC : Hid (∀ w', Below wr.heap.size wr w' → w'.cell? ⟨gx, 0, none⟩ = some (.slice (some ⟨xb, xo, none⟩) d.kept.length xc0) ∧ w'.cell? ⟨g0, 1, none⟩ = some (.slice (some ⟨cb, co, none⟩) d.cache.length dc1) ∧ w'.cell? ⟨xb, xo + a, none⟩ = some (.string xa) ∧ w'.cell? ⟨cb, co + n * 2, none⟩ = some (.int .i64 c1) ∧ w'.cell? ⟨cb, co + n * 2 + 1, none⟩ = some (.string c2)) := Lib.hid fun w' hb => ⟨C1.out _ (HW.out.next hb), C3.out _ (HW.out.next hb), XA.out _ (HW.out.next hb), (PA.out _ (HW.out.next hb)).1, (PA.out _ (HW.out.next hb)).2⟩
                        have HR := Lib.hid ((Below.refl wr.heap.size wr).drew)
                        refine wp_region_held_drew (S := (fun w' => w'.cell? ⟨gx, 0, none⟩ = some (.slice (some ⟨xb, xo, none⟩) d.kept.length xc0) ∧ w'.cell? ⟨g0, 1, none⟩ = some (.slice (some ⟨cb, co, none⟩) d.cache.length dc1) ∧ w'.cell? ⟨xb, xo + a, none⟩ = some (.string xa) ∧ w'.cell? ⟨cb, co + n * 2, none⟩ = some (.int .i64 c1) ∧ w'.cell? ⟨cb, co + n * 2 + 1, none⟩ = some (.string c2))) (by kernel_rfl) (HC.out _ HR.out) (fun hh0 => ?_)
                        refine wpAnyH_takeL (i := 0) (v := ?k4v0) rfl (by kernel_rfl) (by kernel_rfl) (by kernel_rfl) (fun _ _ _ h => h) (Or.inl ⟨by rfl, ?k4y0⟩) hh0 ?_
                        case k4y0 => (intro w hSw; (try dsimp only at hSw); go_simp; try (with_reducible rfl))
                        try simp only [Act.put, List.setIfInBounds_toArray, List.set_cons_zero, List.set_cons_succ]
                        refine wpAnyH_takeL (i := 1) (v := ?k4v1) rfl (by kernel_rfl) (by kernel_rfl) (by kernel_rfl) (fun _ _ _ h => h) (Or.inl ⟨by rfl, ?k4y1⟩) hh0 ?_
                        case k4y1 => (intro w hSw; (try dsimp only at hSw); go_simp; try (with_reducible rfl))
                        try simp only [Act.put, List.setIfInBounds_toArray, List.set_cons_zero, List.set_cons_succ]
                        refine wpAnyH_takeL (i := 2) (v := ?k4v2) rfl (by kernel_rfl) (by kernel_rfl) (by kernel_rfl) (fun _ _ _ h => h) (Or.inl ⟨by rfl, ?k4y2⟩) hh0 ?_
                        case k4y2 => (intro w hSw; (try dsimp only at hSw); go_simp; try (with_reducible rfl))
                        try simp only [Act.put, List.setIfInBounds_toArray, List.set_cons_zero, List.set_cons_succ]
                        refine wpAnyH_takeL (i := 3) (v := ?k4v3) rfl (by kernel_rfl) (by kernel_rfl) (by kernel_rfl) (fun _ _ _ h => h) (Or.inl ⟨by rfl, ?k4y3⟩) hh0 ?_
                        case k4y3 => (intro w hSw; (try dsimp only at hSw); go_simp; try (with_reducible rfl))
                        try simp only [Act.put, List.setIfInBounds_toArray, List.set_cons_zero, List.set_cons_succ]
                        refine wpAnyH_takeL (i := 4) (v := ?k4v4) rfl (by kernel_rfl) (by kernel_rfl) (by kernel_rfl) (fun _ _ _ h => h) (Or.inl ⟨by rfl, ?k4y4⟩) hh0 ?_
                        case k4y4 => (intro w hSw; (try dsimp only at hSw); go_simp; try (with_reducible rfl))
                        try simp only [Act.put, List.setIfInBounds_toArray, List.set_cons_zero, List.set_cons_succ]
                        refine wpAnyH_takeL (i := 5) (v := ?k4v5) rfl (by kernel_rfl) (by kernel_rfl) (by kernel_rfl) (fun _ _ _ h => h) (Or.inl ⟨by rfl, ?k4y5⟩) hh0 ?_
                        case k4y5 => (intro w hSw; (try dsimp only at hSw); go_simp; try (with_reducible rfl))
                        try simp only [Act.put, List.setIfInBounds_toArray, List.set_cons_zero, List.set_cons_succ]
                        refine wpAnyH_takeL (i := 6) (v := ?k4v6) rfl (by kernel_rfl) (by kernel_rfl) (by kernel_rfl) (fun _ _ _ h => h) (Or.inl ⟨by rfl, ?k4y6⟩) hh0 ?_
                        case k4y6 => (intro w hSw; (try dsimp only at hSw); go_simp; try (with_reducible rfl))
                        try simp only [Act.put, List.setIfInBounds_toArray, List.set_cons_zero, List.set_cons_succ]
                        refine wpAnyH_takeL (i := 7) (v := ?k4v7) rfl (by kernel_rfl) (by kernel_rfl) (by kernel_rfl) (fun _ _ _ h => h) (Or.inl ⟨by rfl, ?k4y7⟩) hh0 ?_
                        case k4y7 => (intro w hSw; (try dsimp only at hSw); go_simp; try (with_reducible rfl))
                        try simp only [Act.put, List.setIfInBounds_toArray, List.set_cons_zero, List.set_cons_succ]
                        refine wpAnyH_takeL (i := 8) (v := ?k4v8) rfl (by kernel_rfl) (by kernel_rfl) (by kernel_rfl) (fun _ _ _ h => h) (Or.inl ⟨by rfl, ?k4y8⟩) hh0 ?_
                        case k4y8 => (intro w hSw; (try dsimp only at hSw); go_simp; try (with_reducible rfl))
                        try simp only [Act.put, List.setIfInBounds_toArray, List.set_cons_zero, List.set_cons_succ]
                        refine wpAnyH_takeL (i := 9) (v := ?k4v9) rfl (by kernel_rfl) (by kernel_rfl) (by kernel_rfl) (fun _ _ _ h => h) (Or.inl ⟨by rfl, ?k4y9⟩) hh0 ?_
                        case k4y9 => (intro w hSw; (try dsimp only at hSw); go_simp; try (with_reducible rfl))
                        try simp only [Act.put, List.setIfInBounds_toArray, List.set_cons_zero, List.set_cons_succ]
                        refine wpAnyH_takeL (i := 10) (v := ?k4v10) rfl (by kernel_rfl) (by kernel_rfl) (by kernel_rfl) (fun _ _ _ h => h) (Or.inl ⟨by rfl, ?k4y10⟩) hh0 ?_
                        case k4y10 => (intro w hSw; (try dsimp only at hSw); go_simp; try (with_reducible rfl))
                        try simp only [Act.put, List.setIfInBounds_toArray, List.set_cons_zero, List.set_cons_succ]
                        refine wpAnyH_takeL (i := 11) (v := ?k4v11) rfl (by kernel_rfl) (by kernel_rfl) (by kernel_rfl) (fun _ _ _ h => h) (Or.inl ⟨by rfl, ?k4y11⟩) hh0 ?_
                        case k4y11 => (intro w hSw; (try dsimp only at hSw); go_simp; try (with_reducible rfl))
                        try simp only [Act.put, List.setIfInBounds_toArray, List.set_cons_zero, List.set_cons_succ]
                        refine wpAnyH_takeL (i := 12) (v := ?k4v12) rfl (by kernel_rfl) (by kernel_rfl) (by kernel_rfl) (fun _ _ _ h => h) (Or.inl ⟨by rfl, ?k4y12⟩) hh0 ?_
                        case k4y12 => (intro w hSw; (try dsimp only at hSw); go_simp; try (with_reducible rfl))
                        try simp only [Act.put, List.setIfInBounds_toArray, List.set_cons_zero, List.set_cons_succ]
                        refine wpAnyH_takeL (i := 13) (v := ?k4v13) rfl (by kernel_rfl) (by kernel_rfl) (by kernel_rfl) (fun _ _ _ h => h) (Or.inl ⟨by rfl, ?k4y13⟩) hh0 ?_
                        case k4y13 => (intro w hSw; (try dsimp only at hSw); go_simp; try (with_reducible rfl))
                        try simp only [Act.put, List.setIfInBounds_toArray, List.set_cons_zero, List.set_cons_succ]
                        refine wpAnyH_takeL (i := 14) (v := ?k4v14) rfl (by kernel_rfl) (by kernel_rfl) (by kernel_rfl) (fun _ _ _ h => h) (Or.inl ⟨by rfl, ?k4y14⟩) hh0 ?_
                        case k4y14 => (intro w hSw; (try dsimp only at hSw); go_simp; try (with_reducible rfl))
                        try simp only [Act.put, List.setIfInBounds_toArray, List.set_cons_zero, List.set_cons_succ]
                        refine wpAnyH_takeL (i := 15) (v := ?k4v15) rfl (by kernel_rfl) (by kernel_rfl) (by kernel_rfl) (fun _ _ _ h => h) (Or.inl ⟨by rfl, ?k4y15⟩) hh0 ?_
                        case k4y15 => (intro w hSw; (try dsimp only at hSw); go_simp; try (with_reducible rfl))
                        try simp only [Act.put, List.setIfInBounds_toArray, List.set_cons_zero, List.set_cons_succ]
                        refine wpAnyH_takeL (i := 16) (v := ?k4v16) rfl (by kernel_rfl) (by kernel_rfl) (by kernel_rfl) (fun _ _ _ h => h) (Or.inl ⟨by rfl, ?k4y16⟩) hh0 ?_
                        case k4y16 => (intro w hSw; (try dsimp only at hSw); go_simp; try (with_reducible rfl))
                        try simp only [Act.put, List.setIfInBounds_toArray, List.set_cons_zero, List.set_cons_succ]
                        refine wpAnyH_takeL (i := 17) (v := ?k4v17) rfl (by kernel_rfl) (by kernel_rfl) (by kernel_rfl) (fun _ _ _ h => h) (Or.inl ⟨by rfl, ?k4y17⟩) hh0 ?_
                        case k4y17 => (intro w hSw; (try dsimp only at hSw); go_simp; try (with_reducible rfl))
                        try simp only [Act.put, List.setIfInBounds_toArray, List.set_cons_zero, List.set_cons_succ]
                        refine wpAnyH_takeL (i := 18) (v := ?k4v18) rfl (by kernel_rfl) (by kernel_rfl) (by kernel_rfl) (fun _ _ _ h => h) (Or.inl ⟨by rfl, ?k4y18⟩) hh0 ?_
                        case k4y18 => (intro w hSw; (try dsimp only at hSw); go_simp; try (with_reducible rfl))
                        try simp only [Act.put, List.setIfInBounds_toArray, List.set_cons_zero, List.set_cons_succ]
                        refine wpAnyH_takeL (i := 19) (v := ?k4v19) rfl (by kernel_rfl) (by kernel_rfl) (by kernel_rfl) (fun _ _ _ h => h) (Or.inl ⟨by rfl, ?k4y19⟩) hh0 ?_
                        case k4y19 => (intro w hSw; (try dsimp only at hSw); go_simp; try (with_reducible rfl))
                        try simp only [Act.put, List.setIfInBounds_toArray, List.set_cons_zero, List.set_cons_succ]
                        refine wpAnyH_takeL (i := 20) (v := ?k4v20) rfl (by kernel_rfl) (by kernel_rfl) (by kernel_rfl) (fun _ _ _ h => h) (Or.inl ⟨by rfl, ?k4y20⟩) hh0 ?_
                        case k4y20 => (intro w hSw; (try dsimp only at hSw); go_simp; try (with_reducible rfl))
                        try simp only [Act.put, List.setIfInBounds_toArray, List.set_cons_zero, List.set_cons_succ]
                        refine wpAnyH_takeL (i := 21) (v := ?k4v21) rfl (by kernel_rfl) (by kernel_rfl) (by kernel_rfl) (fun _ _ _ h => h) (Or.inl ⟨by rfl, ?k4y21⟩) hh0 ?_
                        case k4y21 => (intro w hSw; (try dsimp only at hSw); go_simp; try (with_reducible rfl))
                        try simp only [Act.put, List.setIfInBounds_toArray, List.set_cons_zero, List.set_cons_succ]
                        refine wpAnyH_takeL (i := 22) (v := ?k4v22) rfl (by kernel_rfl) (by kernel_rfl) (by kernel_rfl) (fun _ _ _ h => h) (Or.inl ⟨by rfl, ?k4y22⟩) hh0 ?_
                        case k4y22 => (intro w hSw; (try dsimp only at hSw); go_simp; try (with_reducible rfl))
                        try simp only [Act.put, List.setIfInBounds_toArray, List.set_cons_zero, List.set_cons_succ]
                        refine wpAnyH_takeL (i := 23) (v := ?k4v23) rfl (by kernel_rfl) (by kernel_rfl) (by kernel_rfl) (fun _ _ _ h => h) (Or.inl ⟨by rfl, ?k4y23⟩) hh0 ?_
                        case k4y23 => (intro w hSw; (try dsimp only at hSw); go_simp; try (with_reducible rfl))
                        try simp only [Act.put, List.setIfInBounds_toArray, List.set_cons_zero, List.set_cons_succ]
                        refine wpAnyH_takeL (i := 24) (v := ?k4v24) rfl (by kernel_rfl) (by kernel_rfl) (by kernel_rfl) (fun _ _ _ h => h) (Or.inl ⟨by rfl, ?k4y24⟩) hh0 ?_
                        case k4y24 => (intro w hSw; (try dsimp only at hSw); go_simp; try (with_reducible rfl))
                        try simp only [Act.put, List.setIfInBounds_toArray, List.set_cons_zero, List.set_cons_succ]
                        refine wpAnyH_takeL (i := 25) (v := ?k4v25) rfl (by kernel_rfl) (by kernel_rfl) (by kernel_rfl) (fun _ _ _ h => h) (Or.inl ⟨by rfl, ?k4y25⟩) hh0 ?_
                        case k4y25 => (intro w hSw; (try dsimp only at hSw); go_simp; try (with_reducible rfl))
                        try simp only [Act.put, List.setIfInBounds_toArray, List.set_cons_zero, List.set_cons_succ]
                        refine wpAnyH_takeL (i := 26) (v := ?k4v26) rfl (by kernel_rfl) (by kernel_rfl) (by kernel_rfl) (fun _ _ _ h => h) (Or.inl ⟨by rfl, ?k4y26⟩) hh0 ?_
                        case k4y26 => (intro w hSw; (try dsimp only at hSw); go_simp; try (with_reducible rfl))
                        try simp only [Act.put, List.setIfInBounds_toArray, List.set_cons_zero, List.set_cons_succ]
                        refine wpAnyH_takeL (i := 27) (v := ?k4v27) rfl (by kernel_rfl) (by kernel_rfl) (by kernel_rfl) (fun _ _ _ h => h) (Or.inl ⟨by rfl, ?k4y27⟩) hh0 ?_
                        case k4y27 => (intro w hSw; (try dsimp only at hSw); go_simp; try (with_reducible rfl))
                        try simp only [Act.put, List.setIfInBounds_toArray, List.set_cons_zero, List.set_cons_succ]
                        refine wpAnyH_takeL (i := 28) (v := ?k4v28) rfl (by kernel_rfl) (by kernel_rfl) (by kernel_rfl) (fun _ _ _ h => h) (Or.inl ⟨by rfl, ?k4y28⟩) hh0 ?_
                        case k4y28 => (intro w hSw; (try dsimp only at hSw); go_simp; try (with_reducible rfl))
                        try simp only [Act.put, List.setIfInBounds_toArray, List.set_cons_zero, List.set_cons_succ]
                        refine wpAnyH_takeL (i := 29) (v := ?k4v29) rfl (by kernel_rfl) (by kernel_rfl) (by kernel_rfl) (fun _ _ _ h => h) (Or.inl ⟨by rfl, ?k4y29⟩) hh0 ?_
                        case k4y29 => (intro w hSw; (try dsimp only at hSw); go_simp; try (with_reducible rfl))
                        try simp only [Act.put, List.setIfInBounds_toArray, List.set_cons_zero, List.set_cons_succ]
                        refine wpAnyH_takeL (i := 30) (v := ?k4v30) rfl (by kernel_rfl) (by kernel_rfl) (by kernel_rfl) (fun _ _ _ h => h) (Or.inl ⟨by rfl, ?k4y30⟩) hh0 ?_
                        case k4y30 => (intro w hSw; (try dsimp only at hSw); go_simp; try (with_reducible rfl))
                        try simp only [Act.put, List.setIfInBounds_toArray, List.set_cons_zero, List.set_cons_succ]
                        refine wpAnyH_takeL (i := 31) (v := undef) rfl (by kernel_rfl) (by kernel_rfl) (by kernel_rfl) (fun _ _ _ h => h) (Or.inr ⟨by rfl, rfl⟩) hh0 ?_
                        try simp only [Act.put, List.setIfInBounds_toArray, List.set_cons_zero, List.set_cons_succ]
                        refine wpAnyH_takeL (i := 32) (v := undef) rfl (by kernel_rfl) (by kernel_rfl) (by kernel_rfl) (fun _ _ _ h => h) (Or.inr ⟨by rfl, rfl⟩) hh0 ?_
                        try simp only [Act.put, List.setIfInBounds_toArray, List.set_cons_zero, List.set_cons_succ]
                        refine wpAnyH_takeL (i := 33) (v := undef) rfl (by kernel_rfl) (by kernel_rfl) (by kernel_rfl) (fun _ _ _ h => h) (Or.inr ⟨by rfl, rfl⟩) hh0 ?_
                        try simp only [Act.put, List.setIfInBounds_toArray, List.set_cons_zero, List.set_cons_succ]
                        refine wpAnyH_takeL (i := 34) (v := undef) rfl (by kernel_rfl) (by kernel_rfl) (by kernel_rfl) (fun _ _ _ h => h) (Or.inr ⟨by rfl, rfl⟩) hh0 ?_
                        try simp only [Act.put, List.setIfInBounds_toArray, List.set_cons_zero, List.set_cons_succ]
                        refine wpAnyH_takeL (i := 35) (v := ?k4v35) rfl (by kernel_rfl) (by kernel_rfl) (by kernel_rfl) (fun _ _ _ h => h) (Or.inl ⟨by rfl, ?k4y35⟩) hh0 ?_
                        case k4y35 => (intro w hSw; (try dsimp only at hSw); go_simp; try (with_reducible rfl))
                        try simp only [Act.put, List.setIfInBounds_toArray, List.set_cons_zero, List.set_cons_succ]
                        refine wpAnyH_takeL (i := 36) (v := ?k4v36) rfl (by kernel_rfl) (by kernel_rfl) (by kernel_rfl) (fun _ _ _ h => h) (Or.inl ⟨by rfl, ?k4y36⟩) hh0 ?_
                        case k4y36 => (intro w hSw; (try dsimp only at hSw); go_simp; try (with_reducible rfl))
                        try simp only [Act.put, List.setIfInBounds_toArray, List.set_cons_zero, List.set_cons_succ]
                        refine wpAnyH_takeL (i := 37) (v := ?k4v37) rfl (by kernel_rfl) (by kernel_rfl) (by kernel_rfl) (fun _ _ _ h => h) (Or.inl ⟨by rfl, ?k4y37⟩) hh0 ?_
                        case k4y37 => (intro w hSw; (try dsimp only at hSw); go_simp; try (with_reducible rfl))
                        try simp only [Act.put, List.setIfInBounds_toArray, List.set_cons_zero, List.set_cons_succ]
                        refine wpAnyH_done (by kernel_rfl) ?_ _
                        clear hh0
                        go_wp2
                        go_roundw
                        case rel => exact ⟨n + 1, by omega, by rw [HS.out]; exact congrArg Value.bool (by rw [HFit.out, zA, zB, zC]; rfl), by go_num, Lib.hid (HW.out.next HR.out)⟩
                        case measure => simp [RowKit.intOf]; omega
                      case pos =>
                        have zC : decide ((n : Int) < (K.length : Int)) = true := decide_eq_true (by omega)
                        have zC3 : decide (n < K.length) = true := decide_eq_true hnk
                        obtain ⟨kb, ko, rfl, hc⟩ := HK.out.at hnk
                        have KC := Lib.hid (fun wy (hb : Below wk5.heap.size wk5 wy) => (hb.cell (p := ⟨kb, ko + n, none⟩) (World.block_lt_of_cell? wk5 _ (hc n hnk))).trans (hc n hnk))
                        clear hc hnk
                        generalize K.getD n false = kn at *
                        have HC : Hid (∀ w', Below wr.heap.size wr w' → w'.cell? ⟨gx, 0, none⟩ = some (.slice (some ⟨xb, xo, none⟩) d.kept.length xc0) ∧ w'.cell? ⟨g0, 1, none⟩ = some (.slice (some ⟨cb, co, none⟩) d.cache.length dc1) ∧ w'.cell? ⟨xb, xo + a, none⟩ = some (.string xa) ∧ w'.cell? ⟨cb, co + n * 2, none⟩ = some (.int .i64 c1) ∧ w'.cell? ⟨cb, co + n * 2 + 1, none⟩ = some (.string c2) ∧ w'.cell? ⟨kb, ko + n, none⟩ = some (.bool kn)) := Lib.hid fun w' hb => ⟨C1.out _ (HW.out.next hb), C3.out _ (HW.out.next hb), XA.out _ (HW.out.next hb), (PA.out _ (HW.out.next hb)).1, (PA.out _ (HW.out.next hb)).2, KC.out _ (HW.out.next hb)⟩
                        have HR := Lib.hid ((Below.refl wr.heap.size wr).drew)
                        refine wp_region_held_drew (S := (fun w' => w'.cell? ⟨gx, 0, none⟩ = some (.slice (some ⟨xb, xo, none⟩) d.kept.length xc0) ∧ w'.cell? ⟨g0, 1, none⟩ = some (.slice (some ⟨cb, co, none⟩) d.cache.length dc1) ∧ w'.cell? ⟨xb, xo + a, none⟩ = some (.string xa) ∧ w'.cell? ⟨cb, co + n * 2, none⟩ = some (.int .i64 c1) ∧ w'.cell? ⟨cb, co + n * 2 + 1, none⟩ = some (.string c2) ∧ w'.cell? ⟨kb, ko + n, none⟩ = some (.bool kn))) (by kernel_rfl) (HC.out _ HR.out) (fun hh0 => ?_)
                        refine wpAnyH_takeL (i := 0) (v := ?k5v0) rfl (by kernel_rfl) (by kernel_rfl) (by kernel_rfl) (fun _ _ _ h => h) (Or.inl ⟨by rfl, ?k5y0⟩) hh0 ?_
                        case k5y0 => (intro w hSw; (try dsimp only at hSw); go_simp; try (with_reducible rfl))
                        try simp only [Act.put, List.setIfInBounds_toArray, List.set_cons_zero, List.set_cons_succ]
                        refine wpAnyH_takeL (i := 1) (v := ?k5v1) rfl (by kernel_rfl) (by kernel_rfl) (by kernel_rfl) (fun _ _ _ h => h) (Or.inl ⟨by rfl, ?k5y1⟩) hh0 ?_
                        case k5y1 => (intro w hSw; (try dsimp only at hSw); go_simp; try (with_reducible rfl))
                        try simp only [Act.put, List.setIfInBounds_toArray, List.set_cons_zero, List.set_cons_succ]
                        refine wpAnyH_takeL (i := 2) (v := ?k5v2) rfl (by kernel_rfl) (by kernel_rfl) (by kernel_rfl) (fun _ _ _ h => h) (Or.inl ⟨by rfl, ?k5y2⟩) hh0 ?_
                        case k5y2 => (intro w hSw; (try dsimp only at hSw); go_simp; try (with_reducible rfl))
                        try simp only [Act.put, List.setIfInBounds_toArray, List.set_cons_zero, List.set_cons_succ]
                        refine wpAnyH_takeL (i := 3) (v := ?k5v3) rfl (by kernel_rfl) (by kernel_rfl) (by kernel_rfl) (fun _ _ _ h => h) (Or.inl ⟨by rfl, ?k5y3⟩) hh0 ?_
                        case k5y3 => (intro w hSw; (try dsimp only at hSw); go_simp; try (with_reducible rfl))
                        try simp only [Act.put, List.setIfInBounds_toArray, List.set_cons_zero, List.set_cons_succ]
                        refine wpAnyH_takeL (i := 4) (v := ?k5v4) rfl (by kernel_rfl) (by kernel_rfl) (by kernel_rfl) (fun _ _ _ h => h) (Or.inl ⟨by rfl, ?k5y4⟩) hh0 ?_
                        case k5y4 => (intro w hSw; (try dsimp only at hSw); go_simp; try (with_reducible rfl))
                        try simp only [Act.put, List.setIfInBounds_toArray, List.set_cons_zero, List.set_cons_succ]
                        refine wpAnyH_takeL (i := 5) (v := ?k5v5) rfl (by kernel_rfl) (by kernel_rfl) (by kernel_rfl) (fun _ _ _ h => h) (Or.inl ⟨by rfl, ?k5y5⟩) hh0 ?_
                        case k5y5 => (intro w hSw; (try dsimp only at hSw); go_simp; try (with_reducible rfl))
                        try simp only [Act.put, List.setIfInBounds_toArray, List.set_cons_zero, List.set_cons_succ]
                        refine wpAnyH_takeL (i := 6) (v := ?k5v6) rfl (by kernel_rfl) (by kernel_rfl) (by kernel_rfl) (fun _ _ _ h => h) (Or.inl ⟨by rfl, ?k5y6⟩) hh0 ?_
                        case k5y6 => (intro w hSw; (try dsimp only at hSw); go_simp; try (with_reducible rfl))
                        try simp only [Act.put, List.setIfInBounds_toArray, List.set_cons_zero, List.set_cons_succ]
                        refine wpAnyH_takeL (i := 7) (v := ?k5v7) rfl (by kernel_rfl) (by kernel_rfl) (by kernel_rfl) (fun _ _ _ h => h) (Or.inl ⟨by rfl, ?k5y7⟩) hh0 ?_
                        case k5y7 => (intro w hSw; (try dsimp only at hSw); go_simp; try (with_reducible rfl))
                        try simp only [Act.put, List.setIfInBounds_toArray, List.set_cons_zero, List.set_cons_succ]
                        refine wpAnyH_takeL (i := 8) (v := ?k5v8) rfl (by kernel_rfl) (by kernel_rfl) (by kernel_rfl) (fun _ _ _ h => h) (Or.inl ⟨by rfl, ?k5y8⟩) hh0 ?_
                        case k5y8 => (intro w hSw; (try dsimp only at hSw); go_simp; try (with_reducible rfl))
                        try simp only [Act.put, List.setIfInBounds_toArray, List.set_cons_zero, List.set_cons_succ]
                        refine wpAnyH_takeL (i := 9) (v := ?k5v9) rfl (by kernel_rfl) (by kernel_rfl) (by kernel_rfl) (fun _ _ _ h => h) (Or.inl ⟨by rfl, ?k5y9⟩) hh0 ?_
                        case k5y9 => (intro w hSw; (try dsimp only at hSw); go_simp; try (with_reducible rfl))
                        try simp only [Act.put, List.setIfInBounds_toArray, List.set_cons_zero, List.set_cons_succ]
                        refine wpAnyH_takeL (i := 10) (v := ?k5v10) rfl (by kernel_rfl) (by kernel_rfl) (by kernel_rfl) (fun _ _ _ h => h) (Or.inl ⟨by rfl, ?k5y10⟩) hh0 ?_
                        case k5y10 => (intro w hSw; (try dsimp only at hSw); go_simp; try (with_reducible rfl))
                        try simp only [Act.put, List.setIfInBounds_toArray, List.set_cons_zero, List.set_cons_succ]
                        refine wpAnyH_takeL (i := 11) (v := ?k5v11) rfl (by kernel_rfl) (by kernel_rfl) (by kernel_rfl) (fun _ _ _ h => h) (Or.inl ⟨by rfl, ?k5y11⟩) hh0 ?_
                        case k5y11 => (intro w hSw; (try dsimp only at hSw); go_simp; try (with_reducible rfl))
                        try simp only [Act.put, List.setIfInBounds_toArray, List.set_cons_zero, List.set_cons_succ]
                        refine wpAnyH_takeL (i := 12) (v := ?k5v12) rfl (by kernel_rfl) (by kernel_rfl) (by kernel_rfl) (fun _ _ _ h => h) (Or.inl ⟨by rfl, ?k5y12⟩) hh0 ?_
                        case k5y12 => (intro w hSw; (try dsimp only at hSw); go_simp; try (with_reducible rfl))
                        try simp only [Act.put, List.setIfInBounds_toArray, List.set_cons_zero, List.set_cons_succ]
                        refine wpAnyH_takeL (i := 13) (v := ?k5v13) rfl (by kernel_rfl) (by kernel_rfl) (by kernel_rfl) (fun _ _ _ h => h) (Or.inl ⟨by rfl, ?k5y13⟩) hh0 ?_
                        case k5y13 => (intro w hSw; (try dsimp only at hSw); go_simp; try (with_reducible rfl))
                        try simp only [Act.put, List.setIfInBounds_toArray, List.set_cons_zero, List.set_cons_succ]
                        refine wpAnyH_takeL (i := 14) (v := ?k5v14) rfl (by kernel_rfl) (by kernel_rfl) (by kernel_rfl) (fun _ _ _ h => h) (Or.inl ⟨by rfl, ?k5y14⟩) hh0 ?_
                        case k5y14 => (intro w hSw; (try dsimp only at hSw); go_simp; try (with_reducible rfl))
                        try simp only [Act.put, List.setIfInBounds_toArray, List.set_cons_zero, List.set_cons_succ]
                        refine wpAnyH_takeL (i := 15) (v := ?k5v15) rfl (by kernel_rfl) (by kernel_rfl) (by kernel_rfl) (fun _ _ _ h => h) (Or.inl ⟨by rfl, ?k5y15⟩) hh0 ?_
                        case k5y15 => (intro w hSw; (try dsimp only at hSw); go_simp; try (with_reducible rfl))
                        try simp only [Act.put, List.setIfInBounds_toArray, List.set_cons_zero, List.set_cons_succ]
                        refine wpAnyH_takeL (i := 16) (v := ?k5v16) rfl (by kernel_rfl) (by kernel_rfl) (by kernel_rfl) (fun _ _ _ h => h) (Or.inl ⟨by rfl, ?k5y16⟩) hh0 ?_
                        case k5y16 => (intro w hSw; (try dsimp only at hSw); go_simp; try (with_reducible rfl))
                        try simp only [Act.put, List.setIfInBounds_toArray, List.set_cons_zero, List.set_cons_succ]
                        refine wpAnyH_takeL (i := 17) (v := ?k5v17) rfl (by kernel_rfl) (by kernel_rfl) (by kernel_rfl) (fun _ _ _ h => h) (Or.inl ⟨by rfl, ?k5y17⟩) hh0 ?_
                        case k5y17 => (intro w hSw; (try dsimp only at hSw); go_simp; try (with_reducible rfl))
                        try simp only [Act.put, List.setIfInBounds_toArray, List.set_cons_zero, List.set_cons_succ]
                        refine wpAnyH_takeL (i := 18) (v := ?k5v18) rfl (by kernel_rfl) (by kernel_rfl) (by kernel_rfl) (fun _ _ _ h => h) (Or.inl ⟨by rfl, ?k5y18⟩) hh0 ?_
                        case k5y18 => (intro w hSw; (try dsimp only at hSw); go_simp; try (with_reducible rfl))
                        try simp only [Act.put, List.setIfInBounds_toArray, List.set_cons_zero, List.set_cons_succ]
                        refine wpAnyH_takeL (i := 19) (v := ?k5v19) rfl (by kernel_rfl) (by kernel_rfl) (by kernel_rfl) (fun _ _ _ h => h) (Or.inl ⟨by rfl, ?k5y19⟩) hh0 ?_
                        case k5y19 => (intro w hSw; (try dsimp only at hSw); go_simp; try (with_reducible rfl))
                        try simp only [Act.put, List.setIfInBounds_toArray, List.set_cons_zero, List.set_cons_succ]
                        refine wpAnyH_takeL (i := 20) (v := ?k5v20) rfl (by kernel_rfl) (by kernel_rfl) (by kernel_rfl) (fun _ _ _ h => h) (Or.inl ⟨by rfl, ?k5y20⟩) hh0 ?_
                        case k5y20 => (intro w hSw; (try dsimp only at hSw); go_simp; try (with_reducible rfl))
                        try simp only [Act.put, List.setIfInBounds_toArray, List.set_cons_zero, List.set_cons_succ]
                        refine wpAnyH_takeL (i := 21) (v := ?k5v21) rfl (by kernel_rfl) (by kernel_rfl) (by kernel_rfl) (fun _ _ _ h => h) (Or.inl ⟨by rfl, ?k5y21⟩) hh0 ?_
                        case k5y21 => (intro w hSw; (try dsimp only at hSw); go_simp; try (with_reducible rfl))
                        try simp only [Act.put, List.setIfInBounds_toArray, List.set_cons_zero, List.set_cons_succ]
                        refine wpAnyH_takeL (i := 22) (v := ?k5v22) rfl (by kernel_rfl) (by kernel_rfl) (by kernel_rfl) (fun _ _ _ h => h) (Or.inl ⟨by rfl, ?k5y22⟩) hh0 ?_
                        case k5y22 => (intro w hSw; (try dsimp only at hSw); go_simp; try (with_reducible rfl))
                        try simp only [Act.put, List.setIfInBounds_toArray, List.set_cons_zero, List.set_cons_succ]
                        refine wpAnyH_takeL (i := 23) (v := ?k5v23) rfl (by kernel_rfl) (by kernel_rfl) (by kernel_rfl) (fun _ _ _ h => h) (Or.inl ⟨by rfl, ?k5y23⟩) hh0 ?_
                        case k5y23 => (intro w hSw; (try dsimp only at hSw); go_simp; try (with_reducible rfl))
                        try simp only [Act.put, List.setIfInBounds_toArray, List.set_cons_zero, List.set_cons_succ]
                        refine wpAnyH_takeL (i := 24) (v := ?k5v24) rfl (by kernel_rfl) (by kernel_rfl) (by kernel_rfl) (fun _ _ _ h => h) (Or.inl ⟨by rfl, ?k5y24⟩) hh0 ?_
                        case k5y24 => (intro w hSw; (try dsimp only at hSw); go_simp; try (with_reducible rfl))
                        try simp only [Act.put, List.setIfInBounds_toArray, List.set_cons_zero, List.set_cons_succ]
                        refine wpAnyH_takeL (i := 25) (v := ?k5v25) rfl (by kernel_rfl) (by kernel_rfl) (by kernel_rfl) (fun _ _ _ h => h) (Or.inl ⟨by rfl, ?k5y25⟩) hh0 ?_
                        case k5y25 => (intro w hSw; (try dsimp only at hSw); go_simp; try (with_reducible rfl))
                        try simp only [Act.put, List.setIfInBounds_toArray, List.set_cons_zero, List.set_cons_succ]
                        refine wpAnyH_takeL (i := 26) (v := ?k5v26) rfl (by kernel_rfl) (by kernel_rfl) (by kernel_rfl) (fun _ _ _ h => h) (Or.inl ⟨by rfl, ?k5y26⟩) hh0 ?_
                        case k5y26 => (intro w hSw; (try dsimp only at hSw); go_simp; try (with_reducible rfl))
                        try simp only [Act.put, List.setIfInBounds_toArray, List.set_cons_zero, List.set_cons_succ]
                        refine wpAnyH_takeL (i := 27) (v := ?k5v27) rfl (by kernel_rfl) (by kernel_rfl) (by kernel_rfl) (fun _ _ _ h => h) (Or.inl ⟨by rfl, ?k5y27⟩) hh0 ?_
                        case k5y27 => (intro w hSw; (try dsimp only at hSw); go_simp; try (with_reducible rfl))
                        try simp only [Act.put, List.setIfInBounds_toArray, List.set_cons_zero, List.set_cons_succ]
                        refine wpAnyH_takeL (i := 28) (v := ?k5v28) rfl (by kernel_rfl) (by kernel_rfl) (by kernel_rfl) (fun _ _ _ h => h) (Or.inl ⟨by rfl, ?k5y28⟩) hh0 ?_
                        case k5y28 => (intro w hSw; (try dsimp only at hSw); go_simp; try (with_reducible rfl))
                        try simp only [Act.put, List.setIfInBounds_toArray, List.set_cons_zero, List.set_cons_succ]
                        refine wpAnyH_takeL (i := 29) (v := ?k5v29) rfl (by kernel_rfl) (by kernel_rfl) (by kernel_rfl) (fun _ _ _ h => h) (Or.inl ⟨by rfl, ?k5y29⟩) hh0 ?_
                        case k5y29 => (intro w hSw; (try dsimp only at hSw); go_simp; try (with_reducible rfl))
                        try simp only [Act.put, List.setIfInBounds_toArray, List.set_cons_zero, List.set_cons_succ]
                        refine wpAnyH_takeL (i := 30) (v := ?k5v30) rfl (by kernel_rfl) (by kernel_rfl) (by kernel_rfl) (fun _ _ _ h => h) (Or.inl ⟨by rfl, ?k5y30⟩) hh0 ?_
                        case k5y30 => (intro w hSw; (try dsimp only at hSw); go_simp; try (with_reducible rfl))
                        try simp only [Act.put, List.setIfInBounds_toArray, List.set_cons_zero, List.set_cons_succ]
                        refine wpAnyH_takeL (i := 31) (v := ?k5v31) rfl (by kernel_rfl) (by kernel_rfl) (by kernel_rfl) (fun _ _ _ h => h) (Or.inl ⟨by rfl, ?k5y31⟩) hh0 ?_
                        case k5y31 => (intro w hSw; (try dsimp only at hSw); go_simp; try (with_reducible rfl))
                        try simp only [Act.put, List.setIfInBounds_toArray, List.set_cons_zero, List.set_cons_succ]
                        refine wpAnyH_takeL (i := 32) (v := ?k5v32) rfl (by kernel_rfl) (by kernel_rfl) (by kernel_rfl) (fun _ _ _ h => h) (Or.inl ⟨by rfl, ?k5y32⟩) hh0 ?_
                        case k5y32 => (intro w hSw; (try dsimp only at hSw); go_simp; try (with_reducible rfl))
                        try simp only [Act.put, List.setIfInBounds_toArray, List.set_cons_zero, List.set_cons_succ]
                        have zC2 : (n : Int) < (K.length : Int) := of_decide_eq_true zC
                        refine wpAnyH_takeL (i := 33) (v := ?k5v33) rfl (by kernel_rfl) (by kernel_rfl) (by kernel_rfl) (fun _ _ _ h => h) (Or.inl ⟨by rfl, ?k5y33⟩) hh0 ?_
                        case k5y33 => (intro w hSw; (try dsimp only at hSw); go_simp; try (with_reducible rfl))
                        try simp only [Act.put, List.setIfInBounds_toArray, List.set_cons_zero, List.set_cons_succ]
                        refine wpAnyH_takeL (i := 34) (v := ?k5v34) rfl (by kernel_rfl) (by kernel_rfl) (by kernel_rfl) (fun _ _ _ h => h) (Or.inl ⟨by rfl, ?k5y34⟩) hh0 ?_
                        case k5y34 => (intro w hSw; (try dsimp only at hSw); go_simp; try (with_reducible rfl))
                        try simp only [Act.put, List.setIfInBounds_toArray, List.set_cons_zero, List.set_cons_succ]
                        refine wpAnyH_takeL (i := 35) (v := ?k5v35) rfl (by kernel_rfl) (by kernel_rfl) (by kernel_rfl) (fun _ _ _ h => h) (Or.inl ⟨by rfl, ?k5y35⟩) hh0 ?_
                        case k5y35 => (intro w hSw; (try dsimp only at hSw); go_simp; try (with_reducible rfl))
                        try simp only [Act.put, List.setIfInBounds_toArray, List.set_cons_zero, List.set_cons_succ]
                        refine wpAnyH_takeL (i := 36) (v := ?k5v36) rfl (by kernel_rfl) (by kernel_rfl) (by kernel_rfl) (fun _ _ _ h => h) (Or.inl ⟨by rfl, ?k5y36⟩) hh0 ?_
                        case k5y36 => (intro w hSw; (try dsimp only at hSw); go_simp; try (with_reducible rfl))
                        try simp only [Act.put, List.setIfInBounds_toArray, List.set_cons_zero, List.set_cons_succ]
                        refine wpAnyH_takeL (i := 37) (v := ?k5v37) rfl (by kernel_rfl) (by kernel_rfl) (by kernel_rfl) (fun _ _ _ h => h) (Or.inl ⟨by rfl, ?k5y37⟩) hh0 ?_
                        case k5y37 => (intro w hSw; (try dsimp only at hSw); go_simp; try (with_reducible rfl))
                        try simp only [Act.put, List.setIfInBounds_toArray, List.set_cons_zero, List.set_cons_succ]
                        refine wpAnyH_done (by kernel_rfl) ?_ _
                        clear hh0
                        go_wp2
                        go_roundw
                        case rel => exact ⟨n + 1, by omega, by rw [HS.out]; exact congrArg Value.bool (by rw [HFit.out, zA, zB, zC]; simp), by go_num, Lib.hid (HW.out.next HR.out)⟩
                        case measure => simp [RowKit.intOf]; omega
              case neg =>
                obtain rfl : n = d.cache.length := by omega
                have zz : ¬ (d.cache.length : Int) < (d.cache.length : Int) := by omega
                rw [HF.out]
                clear hnm
                go_wp2
                go_roundw
                case rel => exact ⟨a + 1, by omega, by go_num, HW⟩
                case measure => simp [RowKit.intOf]; omega
          case neg =>
            obtain rfl : a = d.kept.length := by omega
            have zz : ¬ (d.kept.length : Int) < (d.kept.length : Int) := by omega
            clear han
            obtain ⟨wo, hwo⟩ : ∃ q, q = wr := ⟨_, rfl⟩
            subst hwo
            have H0 := Lib.hid (DRow.made wo)
            clear C1 XT DT DP HFA HSm
            go_wp2_with fail
            go_loopw [9, 10] (fun v i wz => ∃ (n g c : Nat), n ≤ d.cache.length ∧ v = .slice (some ⟨g, 0, none⟩) (n : Nat) c ∧ i = .int .i64 n ∧ Hid (DRow wo.heap.size wo wz g c (List.replicate n true))) (fun _ i _ => d.cache.length - (RowKit.intOf i).toNat)
            case atStart => exact ⟨0, _, _, Nat.zero_le _, rfl, rfl, H0⟩
            case round =>
              clear H0
              obtain ⟨n, g, c, hn, rfl, rfl, HS⟩ := hrel
              have u1 := C3.out _ (HW.out.next HS.out.below)
              by_cases hnm : n < d.cache.length
              case pos =>
                have zn2 : (n : Int) < (d.cache.length : Int) := by omega
                have o1 := fun O => (HS.out.own).alloc (w := wr) O
                rw [List.length_replicate] at o1
                have o2 := one_dlv wr true
                have o3 : wo.heap.size ≤ (wr.alloc (.cells #[.bool true] 4)).heap.size := by have := HS.out.size; simp; omega
                go_wp2_with (first
                  | (at_builtin; refine wpList_append_own _ rfl _ _ 24 rfl wo.heap.size 4 i0 (.bool false) 1 1 Try.underlying24 hi0 hz0 hz1 hz2 rfl (by decide) _ n (dlv (List.replicate n true)) rfl (o1 _) ⟨wr.heap.size, 0, Option.none⟩ 1 1 (dlv [true]) rfl rfl o2 (dlv_one _) (by unfold maxLen; omega) (by omega) o3 ?_)
                  | go_in)
                intro v1 w3 own1 gr1 nn1
                obtain ⟨g2, c2, rfl, HN⟩ := HS.out.more (m := [true]) ((Below.refl wr.heap.size wr).alloc (Nat.le_refl _) (.cells #[.bool true] 4)) (by rw [List.length_replicate]; exact own1) (by rw [List.length_replicate]; exact gr1) nn1
                replace HN := Lib.hid HN
                rw [show List.replicate n true ++ [true] = List.replicate (n + 1) true from by rw [List.replicate_succ']] at HN
                rw [List.length_replicate]
                clear own1 gr1 nn1 o1 o2 o3 HS u1
                go_wp2
                go_roundw
                case rel => exact ⟨n + 1, g2, c2, by omega, rfl, by go_num, HN⟩
                case measure => simp [RowKit.intOf]; omega
              case neg =>
                obtain rfl : n = d.cache.length := by omega
                have zz : ¬ (d.cache.length : Int) < (d.cache.length : Int) := by omega
                have HQ := HW.out.next HS.out.below
                replace VD := Lib.hid (VD.out.below HQ)
                replace HB := Lib.hid (HB.out.next HQ)
                have HAL := Lib.hid HS.out.lies
                clear hnm HQ HS HW C3 VX HK u1
                have ZL := Lib.hid (sized_flush hd2.out)
                have KL : Hid (∀ v w, DLie w v d → Calls Try.prog 14 #[v] w fun x w' => ∃ u, x = .returned (.tuple #[u, .int .i64 (flushD d).2]) ∧ DLie w' u (flushD d).1 ∧ Below w.heap.size w w') := Lib.hid fun v w h => S.flush d v w hd2.out h
                have KDa : Hid (∀ v p c w, DLie w v d → FlagsLie w p (List.replicate d.cache.length true) c → Calls Try.prog 23 #[v, .slice p d.cache.length c] w fun x w' => (∃ p0 c0 p1 n1 c1 f p3 n3 c3 b, x = .returned (.agg #[.slice p0 (flushD d).1.kept.length c0, .slice p1 n1 c1, .int .i64 f, .slice p3 n3 c3, .bool b]) ∧ SLie strS w' p0 (flushD d).1.kept c0) ∧ Below w.heap.size w w') := Lib.hid fun v p c w h hk => die_all_code S d hd2.out _ _ _ (by rw [List.length_replicate]) (die_flush HM.out HDD.out) v p c w h hk
                have KDn : Hid (∀ v w, DLie w v d → Calls Try.prog 23 #[v, .slice none 0 0] w fun x w' => (∃ p0 c0 p1 n1 c1 f p3 n3 c3 b, x = .returned (.agg #[.slice p0 d.kept.length c0, .slice p1 n1 c1, .int .i64 f, .slice p3 n3 c3, .bool b]) ∧ SLie strS w' p0 d.kept c0) ∧ Below w.heap.size w w') := Lib.hid fun v w h => die_all_code S d hd2.out _ [] 0 rfl (die_nil HM.out) v none 0 w h (flagsNone w)
                have KRv : Hid (∀ v w, DLie w v d → Calls Try.prog 25 #[v] w fun x w' => (∃ p0 c0 p1 n1 c1 f p3 n3 c3 b, x = .returned (.agg #[.slice p0 d.kept.length c0, .slice p1 n1 c1, .int .i64 f, .slice p3 n3 c3, .bool b]) ∧ SLie strS w' p0 d.kept c0) ∧ Below w.heap.size w w') := Lib.hid fun v w h => revive_code S d hd2.out _ (revive_kept HM.out) v w h
                have KT : Hid (∀ (L : List ByteArray) p q c e w, L.length ≤ 140737488351232 → SLie strS w p L c → SLie strS w q L e → Calls Try.prog 27 #[.slice p L.length c, .slice q L.length e] w fun x w' => x = .returned (.bool true) ∧ Below w.heap.size w w') := Lib.hid fun L p q c e w hl h1 h2 => by
                  have := texts_doc L L hl p q c e w h1 h2
                  rw [decide_eq_true rfl] at this
                  exact this
                have ZD := Lib.hid hd2.out.kept
                have ZL := Lib.hid ZL.out.kept
                generalize (flushD d).1 = fl at *
                generalize (flushD d).2 = fe at *
                clear HM HDD
                obtain ⟨dp0, dc0, dp1, dc1, dp3, dc3, ⟨du0, du1, du2, du3, du4⟩, dE⟩ := VD.out.opened
                have k1 := KL.out _ _ dE
                go_wp2_with fail
                clear dE du0 du1 du2 du3 du4
                go_at_call 14
                refine (k1).mono ?_
                rintro x wk6 ⟨u, rfl, hd, hb⟩
                obtain ⟨p0, c0, p1, c1, p3, c3, rfl, hh⟩ := hd.val
                have VL := Lib.hid (Var.new hh)
                have HV := Lib.hid ((Below.refl wk6.heap.size wk6).alloc (Nat.le_refl _) (.cells #[.slice p0 (fl).kept.length c0, .slice p1 (fl).cache.length c1, .int .i64 (fl).fuse, .slice p3 (fl).keep.length c3, .bool (fl).dead] 26))
                replace VD := Lib.hid ((VD.out.below hb).below HV.out)
                replace HAL := Lib.hid ((HAL.out.below hb).below HV.out)
                replace HB := Lib.hid ((HB.out.next hb).next HV.out)
                clear hb hd hh HV
                clear k1 KL
                go_wp2_with fail
                obtain ⟨gl, hg⟩ : ∃ g, g = wk6.heap.size := ⟨_, rfl⟩
                rw [← hg] at VL ⊢
                generalize wk6.alloc (.cells #[.slice p0 (fl).kept.length c0, .slice p1 (fl).cache.length c1, .int .i64 (fl).fuse, .slice p3 (fl).keep.length c3, .bool (fl).dead] 26) = wk6a at *
                clear hg
                have hfd := field0
                have HALf := Lib.hid (fun (wy : World) (hb : Below wk6a.heap.size wk6a wy) => HAL.out.below hb)
                have dL := VD.out.lt
                obtain ⟨dp0, dc0, dp1, dc1, dp3, dc3, ⟨du0, du1, du2, du3, du4⟩, dE⟩ := VD.out.opened
                have lL := VL.out.lt
                obtain ⟨lp0, lc0, lp1, lc1, lp3, lc3, ⟨lu0, lu1, lu2, lu3, lu4⟩, lE⟩ := VL.out.opened
                have HC : Hid (∀ w', Below wk6a.heap.size wk6a w' → w'.cell? ⟨g0, 0, none⟩ = some (.slice dp0 d.kept.length dc0) ∧ w'.cell? ⟨g0, 1, none⟩ = some (.slice dp1 d.cache.length dc1) ∧ w'.cell? ⟨g0, 2, none⟩ = some (.int .i64 d.fuse) ∧ w'.cell? ⟨g0, 3, none⟩ = some (.slice dp3 d.keep.length dc3) ∧ w'.cell? ⟨g0, 4, none⟩ = some (.bool d.dead) ∧ w'.cell? ⟨gl, 0, none⟩ = some (.slice lp0 fl.kept.length lc0) ∧ w'.cell? ⟨gl, 1, none⟩ = some (.slice lp1 fl.cache.length lc1) ∧ w'.cell? ⟨gl, 2, none⟩ = some (.int .i64 fl.fuse) ∧ w'.cell? ⟨gl, 3, none⟩ = some (.slice lp3 fl.keep.length lc3) ∧ w'.cell? ⟨gl, 4, none⟩ = some (.bool fl.dead)) := Lib.hid fun w' hb => ⟨(hb.cell (p := ⟨g0, 0, none⟩) dL).trans du0, (hb.cell (p := ⟨g0, 1, none⟩) dL).trans du1, (hb.cell (p := ⟨g0, 2, none⟩) dL).trans du2, (hb.cell (p := ⟨g0, 3, none⟩) dL).trans du3, (hb.cell (p := ⟨g0, 4, none⟩) dL).trans du4, (hb.cell (p := ⟨gl, 0, none⟩) lL).trans lu0, (hb.cell (p := ⟨gl, 1, none⟩) lL).trans lu1, (hb.cell (p := ⟨gl, 2, none⟩) lL).trans lu2, (hb.cell (p := ⟨gl, 3, none⟩) lL).trans lu3, (hb.cell (p := ⟨gl, 4, none⟩) lL).trans lu4⟩
                have HDd := Lib.hid (fun (wy : World) (hb : Below wk6a.heap.size wk6a wy) => dE.below hb)
                have HDl := Lib.hid (fun (wy : World) (hb : Below wk6a.heap.size wk6a wy) => lE.below hb)
                clear dE dL du0 du1 du2 du3 du4
                clear lE lL lu0 lu1 lu2 lu3 lu4
                have HR := Lib.hid ((Below.refl wk6a.heap.size wk6a).drew)
                refine wp_region_held_drew (S := (fun w' => w'.cell? ⟨g0, 0, none⟩ = some (.slice dp0 d.kept.length dc0) ∧ w'.cell? ⟨g0, 1, none⟩ = some (.slice dp1 d.cache.length dc1) ∧ w'.cell? ⟨g0, 2, none⟩ = some (.int .i64 d.fuse) ∧ w'.cell? ⟨g0, 3, none⟩ = some (.slice dp3 d.keep.length dc3) ∧ w'.cell? ⟨g0, 4, none⟩ = some (.bool d.dead) ∧ w'.cell? ⟨gl, 0, none⟩ = some (.slice lp0 fl.kept.length lc0) ∧ w'.cell? ⟨gl, 1, none⟩ = some (.slice lp1 fl.cache.length lc1) ∧ w'.cell? ⟨gl, 2, none⟩ = some (.int .i64 fl.fuse) ∧ w'.cell? ⟨gl, 3, none⟩ = some (.slice lp3 fl.keep.length lc3) ∧ w'.cell? ⟨gl, 4, none⟩ = some (.bool fl.dead))) (by kernel_rfl) (HC.out _ HR.out) (fun hh0 => ?_)
                refine wpAnyH_takeL (i := 0) (v := ?h1v0) rfl (by kernel_rfl) (by kernel_rfl) (by kernel_rfl) (fun _ _ _ h => h) (Or.inl ⟨by rfl, ?h1y0⟩) hh0 ?_
                case h1y0 => (intro w hSw; (try dsimp only at hSw); go_simp; try (with_reducible rfl))
                try simp only [Act.put, List.setIfInBounds_toArray, List.set_cons_zero, List.set_cons_succ]
                refine wpAnyH_takeL (i := 1) (v := ?h1v1) rfl (by kernel_rfl) (by kernel_rfl) (by kernel_rfl) (fun _ _ _ h => h) (Or.inl ⟨by rfl, ?h1y1⟩) hh0 ?_
                case h1y1 => (intro w hSw; (try dsimp only at hSw); go_simp; try (with_reducible rfl))
                try simp only [Act.put, List.setIfInBounds_toArray, List.set_cons_zero, List.set_cons_succ]
                refine wpAnyH_takeL (i := 4) (v := ?h1v4) rfl (by kernel_rfl) (by kernel_rfl) (by kernel_rfl) (fun _ _ _ h => h) (Or.inl ⟨by rfl, ?h1y4⟩) hh0 ?_
                case h1y4 => (intro w hSw; (try dsimp only at hSw); go_simp; try (with_reducible rfl))
                try simp only [Act.put, List.setIfInBounds_toArray, List.set_cons_zero, List.set_cons_succ]
                refine wpAnyH_takeL (i := 5) (v := ?h1v5) rfl (by kernel_rfl) (by kernel_rfl) (by kernel_rfl) (fun _ _ _ h => h) (Or.inl ⟨by rfl, ?h1y5⟩) hh0 ?_
                case h1y5 => (intro w hSw; (try dsimp only at hSw); go_simp; try (with_reducible rfl))
                try simp only [Act.put, List.setIfInBounds_toArray, List.set_cons_zero, List.set_cons_succ]
                refine wpAnyH_ready (rs := [2]) (by kernel_rfl) (by simp) ?_
                refine AllReadyH.consL rfl (fun Kn hK => ?_) AllReadyH.nil
                go_simp
                go_at_call 23
                refine (KDa.out _ _ _ _ (HDd.out _ HR.out) (HALf.out _ HR.out)).mono ?_
                rintro x wx ⟨hu, hb⟩
                obtain ⟨sp1, sc1, s1, s2, s3, s4, s5, s6, s7, s8, he, hsl⟩ := hu
                subst he
                have QQ := Lib.hid hsl
                clear hsl
                replace HR := Lib.hid (HR.out.next hb)
                clear hb
                refine hK.out _ _ (HC.out _ HR.out) (fun hh1 => ?_)
                clear hK Kn hh0
                try simp only [Act.put, List.setIfInBounds_toArray, List.set_cons_zero, List.set_cons_succ]
                refine wpAnyH_takeL (i := 3) (v := ?h1v3) rfl (by kernel_rfl) (by kernel_rfl) (by kernel_rfl) (fun _ _ _ h => h) (Or.inl ⟨by rfl, ?h1y3⟩) hh1 ?_
                case h1y3 => (intro w hSw; (try dsimp only at hSw); go_simp; try (with_reducible rfl))
                try simp only [Act.put, List.setIfInBounds_toArray, List.set_cons_zero, List.set_cons_succ]
                refine wpAnyH_ready (rs := [6]) (by kernel_rfl) (by simp) ?_
                refine AllReadyH.consL rfl (fun Kn hK => ?_) AllReadyH.nil
                go_simp
                go_at_call 27
                refine (KT.out fl.kept _ _ _ _ _ ZL.out QQ.out (HDl.out _ HR.out).rows.1).mono ?_
                rintro x wx ⟨rfl, hb⟩
                clear QQ
                replace HR := Lib.hid (HR.out.next hb)
                clear hb
                refine hK.out _ _ (HC.out _ HR.out) (fun hh2 => ?_)
                clear hK Kn hh1
                try simp only [Act.put, List.setIfInBounds_toArray, List.set_cons_zero, List.set_cons_succ]
                refine wpAnyH_takeL (i := 7) (v := ?h1v7) rfl (by kernel_rfl) (by kernel_rfl) (by kernel_rfl) (fun _ _ _ h => h) (Or.inl ⟨by rfl, ?h1y7⟩) hh2 ?_
                case h1y7 => (intro w hSw; (try dsimp only at hSw); go_simp; try (with_reducible rfl))
                try simp only [Act.put, List.setIfInBounds_toArray, List.set_cons_zero, List.set_cons_succ]
                refine wpAnyH_takeL (i := 8) (v := ?h1v8) rfl (by kernel_rfl) (by kernel_rfl) (by kernel_rfl) (fun _ _ _ h => h) (Or.inl ⟨by rfl, ?h1y8⟩) hh2 ?_
                case h1y8 => (intro w hSw; (try dsimp only at hSw); go_simp; try (with_reducible rfl))
                try simp only [Act.put, List.setIfInBounds_toArray, List.set_cons_zero, List.set_cons_succ]
                refine wpAnyH_takeL (i := 11) (v := ?h1v11) rfl (by kernel_rfl) (by kernel_rfl) (by kernel_rfl) (fun _ _ _ h => h) (Or.inl ⟨by rfl, ?h1y11⟩) hh2 ?_
                case h1y11 => (intro w hSw; (try dsimp only at hSw); go_simp; try (with_reducible rfl))
                try simp only [Act.put, List.setIfInBounds_toArray, List.set_cons_zero, List.set_cons_succ]
                refine wpAnyH_takeL (i := 12) (v := ?h1v12) rfl (by kernel_rfl) (by kernel_rfl) (by kernel_rfl) (fun _ _ _ h => h) (Or.inl ⟨by rfl, ?h1y12⟩) hh2 ?_
                case h1y12 => (intro w hSw; (try dsimp only at hSw); go_simp; try (with_reducible rfl))
                try simp only [Act.put, List.setIfInBounds_toArray, List.set_cons_zero, List.set_cons_succ]
                refine wpAnyH_ready (rs := [9]) (by kernel_rfl) (by simp) ?_
                refine AllReadyH.consL rfl (fun Kn hK => ?_) AllReadyH.nil
                go_simp
                go_at_call 23
                refine (KDn.out _ _ (HDd.out _ HR.out)).mono ?_
                rintro x wx ⟨hu, hb⟩
                obtain ⟨sp2, sc2, s1, s2, s3, s4, s5, s6, s7, s8, he, hsl⟩ := hu
                subst he
                have QQ := Lib.hid hsl
                clear hsl
                replace HR := Lib.hid (HR.out.next hb)
                clear hb
                refine hK.out _ _ (HC.out _ HR.out) (fun hh3 => ?_)
                clear hK Kn hh2
                try simp only [Act.put, List.setIfInBounds_toArray, List.set_cons_zero, List.set_cons_succ]
                refine wpAnyH_takeL (i := 10) (v := ?h1v10) rfl (by kernel_rfl) (by kernel_rfl) (by kernel_rfl) (fun _ _ _ h => h) (Or.inl ⟨by rfl, ?h1y10⟩) hh3 ?_
                case h1y10 => (intro w hSw; (try dsimp only at hSw); go_simp; try (with_reducible rfl))
                try simp only [Act.put, List.setIfInBounds_toArray, List.set_cons_zero, List.set_cons_succ]
                refine wpAnyH_ready (rs := [13]) (by kernel_rfl) (by simp) ?_
                refine AllReadyH.consL rfl (fun Kn hK => ?_) AllReadyH.nil
                go_simp
                go_at_call 27
                refine (KT.out d.kept _ _ _ _ _ ZD.out QQ.out (HDd.out _ HR.out).rows.1).mono ?_
                rintro x wx ⟨rfl, hb⟩
                clear QQ
                replace HR := Lib.hid (HR.out.next hb)
                clear hb
                refine hK.out _ _ (HC.out _ HR.out) (fun hh4 => ?_)
                clear hK Kn hh3
                try simp only [Act.put, List.setIfInBounds_toArray, List.set_cons_zero, List.set_cons_succ]
                refine wpAnyH_takeL (i := 14) (v := ?h1v14) rfl (by kernel_rfl) (by kernel_rfl) (by kernel_rfl) (fun _ _ _ h => h) (Or.inl ⟨by rfl, ?h1y14⟩) hh4 ?_
                case h1y14 => (intro w hSw; (try dsimp only at hSw); go_simp; try (with_reducible rfl))
                try simp only [Act.put, List.setIfInBounds_toArray, List.set_cons_zero, List.set_cons_succ]
                refine wpAnyH_takeL (i := 15) (v := ?h1v15) rfl (by kernel_rfl) (by kernel_rfl) (by kernel_rfl) (fun _ _ _ h => h) (Or.inl ⟨by rfl, ?h1y15⟩) hh4 ?_
                case h1y15 => (intro w hSw; (try dsimp only at hSw); go_simp; try (with_reducible rfl))
                try simp only [Act.put, List.setIfInBounds_toArray, List.set_cons_zero, List.set_cons_succ]
                refine wpAnyH_takeL (i := 16) (v := ?h1v16) rfl (by kernel_rfl) (by kernel_rfl) (by kernel_rfl) (fun _ _ _ h => h) (Or.inl ⟨by rfl, ?h1y16⟩) hh4 ?_
                case h1y16 => (intro w hSw; (try dsimp only at hSw); go_simp; try (with_reducible rfl))
                try simp only [Act.put, List.setIfInBounds_toArray, List.set_cons_zero, List.set_cons_succ]
                refine wpAnyH_takeL (i := 19) (v := ?h1v19) rfl (by kernel_rfl) (by kernel_rfl) (by kernel_rfl) (fun _ _ _ h => h) (Or.inl ⟨by rfl, ?h1y19⟩) hh4 ?_
                case h1y19 => (intro w hSw; (try dsimp only at hSw); go_simp; try (with_reducible rfl))
                try simp only [Act.put, List.setIfInBounds_toArray, List.set_cons_zero, List.set_cons_succ]
                refine wpAnyH_takeL (i := 20) (v := ?h1v20) rfl (by kernel_rfl) (by kernel_rfl) (by kernel_rfl) (fun _ _ _ h => h) (Or.inl ⟨by rfl, ?h1y20⟩) hh4 ?_
                case h1y20 => (intro w hSw; (try dsimp only at hSw); go_simp; try (with_reducible rfl))
                try simp only [Act.put, List.setIfInBounds_toArray, List.set_cons_zero, List.set_cons_succ]
                refine wpAnyH_ready (rs := [17]) (by kernel_rfl) (by simp) ?_
                refine AllReadyH.consL rfl (fun Kn hK => ?_) AllReadyH.nil
                go_simp
                go_at_call 25
                refine (KRv.out _ _ (HDd.out _ HR.out)).mono ?_
                rintro x wx ⟨hu, hb⟩
                obtain ⟨sp3, sc3, s1, s2, s3, s4, s5, s6, s7, s8, he, hsl⟩ := hu
                subst he
                have QQ := Lib.hid hsl
                clear hsl
                replace HR := Lib.hid (HR.out.next hb)
                clear hb
                refine hK.out _ _ (HC.out _ HR.out) (fun hh5 => ?_)
                clear hK Kn hh4
                try simp only [Act.put, List.setIfInBounds_toArray, List.set_cons_zero, List.set_cons_succ]
                refine wpAnyH_takeL (i := 18) (v := ?h1v18) rfl (by kernel_rfl) (by kernel_rfl) (by kernel_rfl) (fun _ _ _ h => h) (Or.inl ⟨by rfl, ?h1y18⟩) hh5 ?_
                case h1y18 => (intro w hSw; (try dsimp only at hSw); go_simp; try (with_reducible rfl))
                try simp only [Act.put, List.setIfInBounds_toArray, List.set_cons_zero, List.set_cons_succ]
                refine wpAnyH_ready (rs := [21]) (by kernel_rfl) (by simp) ?_
                refine AllReadyH.consL rfl (fun Kn hK => ?_) AllReadyH.nil
                go_simp
                go_at_call 27
                refine (KT.out d.kept _ _ _ _ _ ZD.out QQ.out (HDd.out _ HR.out).rows.1).mono ?_
                rintro x wx ⟨rfl, hb⟩
                clear QQ
                replace HR := Lib.hid (HR.out.next hb)
                clear hb
                refine hK.out _ _ (HC.out _ HR.out) (fun hh6 => ?_)
                clear hK Kn hh5
                try simp only [Act.put, List.setIfInBounds_toArray, List.set_cons_zero, List.set_cons_succ]
                refine wpAnyH_takeL (i := 22) (v := ?h1v22) rfl (by kernel_rfl) (by kernel_rfl) (by kernel_rfl) (fun _ _ _ h => h) (Or.inl ⟨by rfl, ?h1y22⟩) hh6 ?_
                case h1y22 => (intro w hSw; (try dsimp only at hSw); go_simp; try (with_reducible rfl))
                try simp only [Act.put, List.setIfInBounds_toArray, List.set_cons_zero, List.set_cons_succ]
                refine wpAnyH_takeL (i := 23) (v := ?h1v23) rfl (by kernel_rfl) (by kernel_rfl) (by kernel_rfl) (fun _ _ _ h => h) (Or.inl ⟨by rfl, ?h1y23⟩) hh6 ?_
                case h1y23 => (intro w hSw; (try dsimp only at hSw); go_simp; try (with_reducible rfl))
                try simp only [Act.put, List.setIfInBounds_toArray, List.set_cons_zero, List.set_cons_succ]
                refine wpAnyH_done (by kernel_rfl) ?_ _
                clear hh6
                go_wp2
                go_ret
                exact ⟨rfl, HB.out.next HR.out⟩
end Go.Proofs.Ytaamjamcnnalbaa.Dv

