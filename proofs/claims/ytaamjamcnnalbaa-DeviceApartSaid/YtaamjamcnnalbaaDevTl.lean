/-
  The law DeviceTells, from what package device owes.
-/
import Derived.Test.YtaamjamcnnalbaaDevFx
import Derived.Test.YtaamjamcnnalbaaDevSa
import Derived.Test.YtaamjamcnnalbaaDevSb
import Derived.Test.YtaamjamcnnalbaaDevWr
import Derived.Test.YtaamjamcnnalbaaDevNe
import Derived.Test.YtaamjamcnnalbaaDevFl
import Derived.Test.YtaamjamcnnalbaaDevAr
namespace Go.Proofs.Ytaamjamcnnalbaa.Dv
set_option maxRecDepth 100000
open Go.RowKit Go.Lib
/-- the law's second argument, in its box -/
structure PVar (w : World) (g : Nat) (a : Int) (t : ByteArray) (f : Int) (pk : Option Addr) (K : List Bool) (ck : Nat) : Prop where
  heap : w.heap[g]? = some (.cells #[.int .i64 a, .string t, .int .i64 f, .slice pk K.length ck] 28 (0, 0))
  keep : FlagsLie w pk K ck
theorem PVar.below {w w' : World} {g : Nat} {a : Int} {t : ByteArray} {f : Int} {pk : Option Addr} {K : List Bool} {ck : Nat} (h : PVar w g a t f pk K ck) (hb : Below w.heap.size w w') : PVar w' g a t f pk K ck :=
  ⟨(hb.block _ (Array.getElem?_eq_some_iff.1 h.heap).1).trans h.heap, h.keep.below hb⟩
theorem PVar.opened {w : World} {g : Nat} {a : Int} {t : ByteArray} {f : Int} {pk : Option Addr} {K : List Bool} {ck : Nat} (h : PVar w g a t f pk K ck) :
    (w.cell? ⟨g, 0, none⟩ = some (.int .i64 a) ∧ w.cell? ⟨g, 1, none⟩ = some (.string t) ∧ w.cell? ⟨g, 2, none⟩ = some (.int .i64 f) ∧ w.cell? ⟨g, 3, none⟩ = some (.slice pk K.length ck)) ∧ FlagsLie w pk K ck :=
  ⟨⟨cell_of_row w g 0 _ 28 (0, 0) h.heap, cell_of_row w g 1 _ 28 (0, 0) h.heap, cell_of_row w g 2 _ 28 (0, 0) h.heap, cell_of_row w g 3 _ 28 (0, 0) h.heap⟩, h.keep⟩
theorem PVar.new {w : World} {a : Int} {t : ByteArray} {f : Int} {pk : Option Addr} {K : List Bool} {ck : Nat} (h : FlagsLie w pk K ck) :
    PVar (w.alloc (.cells #[.int .i64 a, .string t, .int .i64 f, .slice pk K.length ck] 28)) w.heap.size a t f pk K ck :=
  ⟨heap_alloc_new w _, h.below ((Below.refl _ _).alloc (Nat.le_refl _) _)⟩
/-! ### steps of a region, the operations as a list -/
theorem wpAnyH_takeL {P : Program} {l : List Oper} {Q : Exit → Act → World → Prop} {md : Region.Mode} {S : World → Prop} {i : Nat} {oi : Oper} {v : Value} {fuel : Nat} {listed : Array Bool} {a : Act} {w : World} (hi : l[i]? = some oi)
    (hs : Region.noSelect l.toArray = true) (hf : Region.free md l.toArray listed i = true) (hr : (Region.ready md l.toArray listed).contains i = true)
    (hQ : ∀ c a w, Q (.panic c) (a.put oi.dst v) w → Q (.panic c) a w) (hy : YieldsIf P l.toArray S oi v a) (hS : S w)
    (h : wpAnyH P md l.toArray Q S fuel (listed.setIfInBounds i true) (a.put oi.dst v) w) : wpAnyH P md l.toArray Q S (fuel + 1) listed a w :=
  wpAnyH_take (by simpa using hi) hs hf hr hQ hy hS h
theorem AllReadyH.consL {P : Program} {l : List Oper} {Q : Exit → Act → World → Prop} {md : Region.Mode} {S : World → Prop} {fuel : Nat} {listed : Array Bool} {a : Act} {w : World} {i : Nat} {o : Oper} {rs : List Nat} (ho : l[i]? = some o)
    (h : ∀ K' : Act → World → Prop, Shut (∀ a w, S w → (S w → wpAnyH P md l.toArray Q S fuel (listed.setIfInBounds i true) a w) → K' a w) → if Region.wanted o (yielded l.toArray a.tmps) = true then Oper.wp P o a w K' Q else K' (a.put o.dst undef) w)
    (hs : AllReadyH P md l.toArray Q S fuel listed a w rs) : AllReadyH P md l.toArray Q S fuel listed a w (i :: rs) :=
  AllReadyH.cons (by simpa using ho) h hs
set_option maxHeartbeats 8000000 in
theorem tells_any (S : SpecD) (d : Dsk) (v : Value) (hd : Sized d) (a : Int) (ha : -9223372036854775808 ≤ a ∧ a ≤ 9223372036854775807) (t : ByteArray) (f : Int) (hf : -9223372036854775808 ≤ f ∧ f ≤ 9223372036854775807) (K : List Bool) (pk : Option Addr) (ck : Nat) (w : World) (h : DLie w v d) (hK : FlagsLie w pk K ck) :
    Calls Try.prog 3 #[v, .agg #[.int .i64 a, .string t, .int .i64 f, .slice pk K.length ck]] w fun x w' => x = .returned (.bool true) ∧ Below w.heap.size w w' := by
  have KS : Hid (∀ v w, DLie w v d → Calls Try.prog 8 #[v] w fun e w' => e = .returned (.bool (smallD d)) ∧ Below w.heap.size w w') := Lib.hid fun v w h => small_doc d v w h
  have KF : Hid (∀ w, Calls Try.prog 9 #[] w fun e w' => e = .returned (.bool true) ∧ Below w.heap.size w w') := Lib.hid fun w => fixed_any S w
  have KR1 : Hid (∀ v w, DLie w v d → Calls Try.prog 10 #[v, .int .i64 a] w fun x w' => x = .returned (.tuple #[.string (readD d a).1, .int .i64 (readD d a).2]) ∧ Below w.heap.size w w') := Lib.hid fun v w h => S.read d v a w hd ha.1 ha.2 h
  have KR2 : Hid (∀ v w, DLie w v d → Calls Try.prog 11 #[v, .int .i64 a] w fun x w' => x = .returned (.tuple #[.string (readD d a).1, .int .i64 (readD d a).2]) ∧ Below w.heap.size w w') := Lib.hid fun v w h => read_doc d hd v a w h
  have KW1 : Hid (∀ v w, DLie w v d → Calls Try.prog 12 #[v, .int .i64 a, .string t] w fun x w' => ∃ u, x = .returned (.tuple #[u, .int .i64 (writeD d a t).2]) ∧ DLie w' u (writeD d a t).1 ∧ Below w.heap.size w w') := Lib.hid fun v w h => S.write d v a t w hd ha.1 ha.2 h
  have KW2 : Hid (∀ v w, DLie w v d → Calls Try.prog 13 #[v, .int .i64 a, .string t] w fun x w' => ∃ u, x = .returned (.tuple #[u, .int .i64 (writeD d a t).2]) ∧ DLie w' u (writeD d a t).1 ∧ Below w.heap.size w w') := Lib.hid fun v w h => write_doc d hd v a t w h
  have KL1 : Hid (∀ v w, DLie w v d → Calls Try.prog 14 #[v] w fun x w' => ∃ u, x = .returned (.tuple #[u, .int .i64 (flushD d).2]) ∧ DLie w' u (flushD d).1 ∧ Below w.heap.size w w') := Lib.hid fun v w h => S.flush d v w hd h
  have KL2 : Hid (∀ v w, DLie w v d → Calls Try.prog 15 #[v] w fun x w' => ∃ u, x = .returned (.tuple #[u, .int .i64 (flushD d).2]) ∧ DLie w' u (flushD d).1 ∧ Below w.heap.size w w') := Lib.hid fun v w h => flush_doc d hd v w h
  have KM1 : Hid (∀ v w, DLie w v d → Calls Try.prog 16 #[v] w fun e w' => e = .returned (.bool (mayD d)) ∧ Below w.heap.size w w') := Lib.hid fun v w h => S.may d v w hd h
  have KM2 : Hid (∀ v w, DLie w v d → Calls Try.prog 17 #[v] w fun e w' => e = .returned (.bool (mayD d)) ∧ Below w.heap.size w w') := Lib.hid fun v w h => may_doc d hd v w h
  have KE : Hid (∀ (x : Dsk) (u v : Value) w, Sized x → DLie w u x → DLie w v x → Calls Try.prog 18 #[u, v] w fun e w' => e = .returned (.bool true) ∧ Below w.heap.size w w') := Lib.hid fun x u v w hx h1 h2 => by
    have := same_doc x x hx hx u v w h1 h2
    rw [sameD_refl] at this
    exact this
  have KN1 : Hid (∀ w, Calls Try.prog 19 #[.int .i64 f] w fun x w' => ∃ u, x = .returned (.tuple #[u, .int .i64 (newD f).2]) ∧ DLie w' u (newD f).1 ∧ Below w.heap.size w w') := Lib.hid fun w => S.new f w hf.1 hf.2
  have KN2 : Hid (∀ w, Calls Try.prog 20 #[.int .i64 f] w fun x w' => ∃ u, x = .returned (.tuple #[u, .int .i64 (newD f).2]) ∧ DLie w' u (newD f).1 ∧ Below w.heap.size w w') := Lib.hid fun w => new_doc f w
  have KA1 : Hid (∀ v pk ck w, K.length ≤ 400 → DLie w v d → FlagsLie w pk K ck → Calls Try.prog 21 #[v, .int .i64 f, .slice pk K.length ck] w fun x w' => ∃ u, x = .returned u ∧ DLie w' u (armD d f K) ∧ Below w.heap.size w w') := Lib.hid fun v pk ck w h4 h hk => S.arm d v f K K.length pk ck w hd hf.1 hf.2 rfl (by omega) h hk
  have KA2 : Hid (∀ v pk ck w, DLie w v d → FlagsLie w pk K ck → Calls Try.prog 22 #[v, .int .i64 f, .slice pk K.length ck] w fun x w' => ∃ u, x = .returned u ∧ DLie w' u (armD d f K) ∧ Below w.heap.size w w') := Lib.hid fun v pk ck w h hk => arm_doc d hd v f K K.length rfl pk ck w h hk
  have KD1 : Hid (∀ v pk ck w, DLie w v d → FlagsLie w pk K ck → Calls Try.prog 23 #[v, .slice pk K.length ck] w fun x w' => ∃ u, x = .returned u ∧ DLie w' u (dieD d K) ∧ Below w.heap.size w w') := Lib.hid fun v pk ck w h hk => S.die d v K K.length pk ck w hd rfl h hk
  have KD2 : Hid (∀ v pk ck w, DLie w v d → FlagsLie w pk K ck → Calls Try.prog 24 #[v, .slice pk K.length ck] w fun x w' => ∃ u, x = .returned u ∧ DLie w' u (dieD d K) ∧ Below w.heap.size w w') := Lib.hid fun v pk ck w h hk => die_doc d hd v K K.length rfl pk ck w h hk
  have KV1 : Hid (∀ v w, DLie w v d → Calls Try.prog 25 #[v] w fun x w' => ∃ u, x = .returned u ∧ DLie w' u (reviveD d) ∧ Below w.heap.size w w') := Lib.hid fun v w h => S.revive d v w hd h
  have KV2 : Hid (∀ v w, DLie w v d → Calls Try.prog 26 #[v] w fun x w' => ∃ u, x = .returned u ∧ DLie w' u (reviveD d) ∧ Below w.heap.size w w') := Lib.hid fun v w h => revive_doc d hd v w h
  have ZW := Lib.hid (sized_write hd a t)
  have ZL := Lib.hid (sized_flush hd)
  have ZN := Lib.hid (sized_new f)
  have ZA := Lib.hid (fun (h : K.length ≤ 140737488351232) => sized_arm hd (f := f) hf.2 h)
  have ZD := Lib.hid (sized_die hd K)
  have ZV := Lib.hid (sized_revive hd)
  generalize (readD d a).1 = rs at *
  generalize (readD d a).2 = re at *
  generalize (writeD d a t).1 = wd at *
  generalize (writeD d a t).2 = we at *
  generalize (flushD d).1 = fd1 at *
  generalize (flushD d).2 = fe at *
  generalize mayD d = md at *
  generalize (newD f).1 = nd at *
  generalize (newD f).2 = ne at *
  generalize armD d f K = ad at *
  generalize dieD d K = dd at *
  generalize reviveD d = rd at *
  obtain ⟨p0, c0, p1, c1, p3, c3, rfl, hv⟩ := h.val
  have hV := Var.new hv
  have b1 := (Below.refl w.heap.size w).alloc (Nat.le_refl _) (.cells #[.slice p0 d.kept.length c0, .slice p1 d.cache.length c1, .int .i64 d.fuse, .slice p3 d.keep.length c3, .bool d.dead] 26)
  have hK1 := hK.below b1
  have zk : (K.length : Int) ≤ 9223372036854775807 := by have := hK.cap; have := hK.len; unfold maxLen at *; omega
  generalize hw1 : w.alloc (.cells #[.slice p0 d.kept.length c0, .slice p1 d.cache.length c1, .int .i64 d.fuse, .slice p3 d.keep.length c3, .bool d.dead] 26) = w1 at *
  have hX := PVar.new (a := a) (t := t) (f := f) hK1
  have b2 := (Below.refl w1.heap.size w1).alloc (Nat.le_refl _) (.cells #[.int .i64 a, .string t, .int .i64 f, .slice pk K.length ck] 28)
  have hV2 := hV.below b2
  generalize hw2 : w1.alloc (.cells #[.int .i64 a, .string t, .int .i64 f, .slice pk K.length ck] 28) = w2 at *
  obtain ⟨g0, hg0⟩ : ∃ g, g = w.heap.size := ⟨_, rfl⟩
  obtain ⟨g1, hg1⟩ : ∃ g, g = w1.heap.size := ⟨_, rfl⟩
  have VD := Lib.hid hV2
  have VX := Lib.hid hX
  have HB := Lib.hid (b1.next b2)
  have HG0 := Lib.hid hg0
  have HG1 := Lib.hid hg1
  clear b1 b2 hV hV2 hX hv h hK hK1 hd ha hf hg0 hg1
  go_enter Try.func3, Try.ntmps3
  obtain ⟨dp0, dc0, dp1, dc1, dp3, dc3, ⟨du0, du1, du2, du3, du4⟩, dE⟩ := VD.out.opened
  obtain ⟨⟨xu0, xu1, xu2, xu3⟩, _⟩ := VX.out.opened
  have ks := KS.out _ _ dE
  go_wp2_with fail
  rw [← HG0.out] at VD ⊢
  rw [← HG1.out] at VX ⊢
  clear HG0 HG1 hw1 hw2 dE du0 du1 du2 du3 du4 xu0 xu1 xu2 xu3
  have hret : ∀ b : Bool, True := fun _ => trivial
  go_at_call 8
  refine ks.mono ?_
  rintro x wk0 ⟨rfl, hb⟩
  replace VD := Lib.hid (VD.out.below hb)
  replace VX := Lib.hid (VX.out.below hb)
  replace HB := Lib.hid (HB.out.next hb)
  clear hb
  clear ks hret
  by_cases hsm : smallD d = true ∧ K.length ≤ 400
  case neg =>
    by_cases hs : smallD d = true
    · have z4 : (400 : Int) < (K.length : Int) := by have : ¬ K.length ≤ 400 := fun h => hsm ⟨hs, h⟩; omega
      rw [hs]
      obtain ⟨⟨xu0, xu1, xu2, xu3⟩, _⟩ := VX.out.opened
      clear hs hsm
      go_wp2_with fail
      go_at_call 9
      refine (KF.out _).mono ?_
      rintro x wz ⟨rfl, hb⟩
      go_wp2
      go_ret
      exact ⟨rfl, HB.out.next hb⟩
    · have hs2 : smallD d = false := by simpa using hs
      rw [hs2]
      clear hs hs2 hsm
      go_wp2_with fail
      go_at_call 9
      refine (KF.out _).mono ?_
      rintro x wz ⟨rfl, hb⟩
      go_wp2
      go_ret
      exact ⟨rfl, HB.out.next hb⟩
  obtain ⟨hs, hk⟩ := hsm
  rw [hs]
  have z4 : ¬ (400 : Int) < (K.length : Int) := by omega
  have ZA := Lib.hid (ZA.out (by omega))
  have HK4 := Lib.hid hk
  clear hs hk
  obtain ⟨⟨xu0, xu1, xu2, xu3⟩, _⟩ := VX.out.opened
  obtain ⟨dp0, dc0, dp1, dc1, dp3, dc3, ⟨du0, du1, du2, du3, du4⟩, dE⟩ := VD.out.opened
  have k1 := KR1.out _ _ dE
  go_wp2_with fail
  clear z4 dE du0 du1 du2 du3 du4 xu0 xu1 xu2 xu3
  go_at_call 10
  refine (k1).mono ?_
  rintro x wk1 ⟨rfl, hb⟩
  replace VD := Lib.hid (VD.out.below hb)
  replace VX := Lib.hid (VX.out.below hb)
  replace HB := Lib.hid (HB.out.next hb)
  clear hb
  clear k1 KR1 KS
  obtain ⟨⟨xu0, xu1, xu2, xu3⟩, _⟩ := VX.out.opened
  obtain ⟨dp0, dc0, dp1, dc1, dp3, dc3, ⟨du0, du1, du2, du3, du4⟩, dE⟩ := VD.out.opened
  have k1 := KR2.out _ _ dE
  go_wp2_with fail
  clear dE du0 du1 du2 du3 du4 xu0 xu1 xu2 xu3
  go_at_call 11
  refine (k1).mono ?_
  rintro x wk2 ⟨rfl, hb⟩
  replace VD := Lib.hid (VD.out.below hb)
  replace VX := Lib.hid (VX.out.below hb)
  replace HB := Lib.hid (HB.out.next hb)
  clear hb
  clear k1 KR2
  obtain ⟨⟨xu0, xu1, xu2, xu3⟩, _⟩ := VX.out.opened
  obtain ⟨dp0, dc0, dp1, dc1, dp3, dc3, ⟨du0, du1, du2, du3, du4⟩, dE⟩ := VD.out.opened
  have k1 := KW1.out _ _ dE
  go_wp2_with fail
  clear dE du0 du1 du2 du3 du4 xu0 xu1 xu2 xu3
  go_at_call 12
  refine (k1).mono ?_
  rintro x wk3 ⟨u, rfl, hd, hb⟩
  obtain ⟨p0, c0, p1, c1, p3, c3, rfl, hh⟩ := hd.val
  have VW1 := Lib.hid (Var.new hh)
  have HV := Lib.hid ((Below.refl wk3.heap.size wk3).alloc (Nat.le_refl _) (.cells #[.slice p0 (wd).kept.length c0, .slice p1 (wd).cache.length c1, .int .i64 (wd).fuse, .slice p3 (wd).keep.length c3, .bool (wd).dead] 26))
  replace VD := Lib.hid ((VD.out.below hb).below HV.out)
  replace VX := Lib.hid ((VX.out.below hb).below HV.out)
  replace HB := Lib.hid ((HB.out.next hb).next HV.out)
  clear hb hd hh HV
  clear k1 KW1
  obtain ⟨⟨xu0, xu1, xu2, xu3⟩, _⟩ := VX.out.opened
  obtain ⟨dp0, dc0, dp1, dc1, dp3, dc3, ⟨du0, du1, du2, du3, du4⟩, dE⟩ := VD.out.opened
  have k1 := KW2.out _ _ dE
  go_wp2_with fail
  obtain ⟨gw1, hg⟩ : ∃ g, g = wk3.heap.size := ⟨_, rfl⟩
  rw [← hg] at VW1 ⊢
  generalize wk3.alloc (.cells #[.slice p0 (wd).kept.length c0, .slice p1 (wd).cache.length c1, .int .i64 (wd).fuse, .slice p3 (wd).keep.length c3, .bool (wd).dead] 26) = wk3a at *
  clear hg
  clear dE du0 du1 du2 du3 du4 xu0 xu1 xu2 xu3
  go_at_call 13
  refine (k1).mono ?_
  rintro x wk4 ⟨u, rfl, hd, hb⟩
  obtain ⟨p0, c0, p1, c1, p3, c3, rfl, hh⟩ := hd.val
  have VW2 := Lib.hid (Var.new hh)
  have HV := Lib.hid ((Below.refl wk4.heap.size wk4).alloc (Nat.le_refl _) (.cells #[.slice p0 (wd).kept.length c0, .slice p1 (wd).cache.length c1, .int .i64 (wd).fuse, .slice p3 (wd).keep.length c3, .bool (wd).dead] 26))
  replace VD := Lib.hid ((VD.out.below hb).below HV.out)
  replace VX := Lib.hid ((VX.out.below hb).below HV.out)
  replace VW1 := Lib.hid ((VW1.out.below hb).below HV.out)
  replace HB := Lib.hid ((HB.out.next hb).next HV.out)
  clear hb hd hh HV
  clear k1 KW2
  obtain ⟨⟨xu0, xu1, xu2, xu3⟩, _⟩ := VX.out.opened
  obtain ⟨dp0, dc0, dp1, dc1, dp3, dc3, ⟨du0, du1, du2, du3, du4⟩, dE⟩ := VD.out.opened
  have k1 := KL1.out _ _ dE
  go_wp2_with fail
  obtain ⟨gw2, hg⟩ : ∃ g, g = wk4.heap.size := ⟨_, rfl⟩
  rw [← hg] at VW2 ⊢
  generalize wk4.alloc (.cells #[.slice p0 (wd).kept.length c0, .slice p1 (wd).cache.length c1, .int .i64 (wd).fuse, .slice p3 (wd).keep.length c3, .bool (wd).dead] 26) = wk4a at *
  clear hg
  clear dE du0 du1 du2 du3 du4 xu0 xu1 xu2 xu3
  go_at_call 14
  refine (k1).mono ?_
  rintro x wk5 ⟨u, rfl, hd, hb⟩
  obtain ⟨p0, c0, p1, c1, p3, c3, rfl, hh⟩ := hd.val
  have VL1 := Lib.hid (Var.new hh)
  have HV := Lib.hid ((Below.refl wk5.heap.size wk5).alloc (Nat.le_refl _) (.cells #[.slice p0 (fd1).kept.length c0, .slice p1 (fd1).cache.length c1, .int .i64 (fd1).fuse, .slice p3 (fd1).keep.length c3, .bool (fd1).dead] 26))
  replace VD := Lib.hid ((VD.out.below hb).below HV.out)
  replace VX := Lib.hid ((VX.out.below hb).below HV.out)
  replace VW1 := Lib.hid ((VW1.out.below hb).below HV.out)
  replace VW2 := Lib.hid ((VW2.out.below hb).below HV.out)
  replace HB := Lib.hid ((HB.out.next hb).next HV.out)
  clear hb hd hh HV
  clear k1 KL1
  obtain ⟨⟨xu0, xu1, xu2, xu3⟩, _⟩ := VX.out.opened
  obtain ⟨dp0, dc0, dp1, dc1, dp3, dc3, ⟨du0, du1, du2, du3, du4⟩, dE⟩ := VD.out.opened
  have k1 := KL2.out _ _ dE
  go_wp2_with fail
  obtain ⟨gl1, hg⟩ : ∃ g, g = wk5.heap.size := ⟨_, rfl⟩
  rw [← hg] at VL1 ⊢
  generalize wk5.alloc (.cells #[.slice p0 (fd1).kept.length c0, .slice p1 (fd1).cache.length c1, .int .i64 (fd1).fuse, .slice p3 (fd1).keep.length c3, .bool (fd1).dead] 26) = wk5a at *
  clear hg
  clear dE du0 du1 du2 du3 du4 xu0 xu1 xu2 xu3
  go_at_call 15
  refine (k1).mono ?_
  rintro x wk6 ⟨u, rfl, hd, hb⟩
  obtain ⟨p0, c0, p1, c1, p3, c3, rfl, hh⟩ := hd.val
  have VL2 := Lib.hid (Var.new hh)
  have HV := Lib.hid ((Below.refl wk6.heap.size wk6).alloc (Nat.le_refl _) (.cells #[.slice p0 (fd1).kept.length c0, .slice p1 (fd1).cache.length c1, .int .i64 (fd1).fuse, .slice p3 (fd1).keep.length c3, .bool (fd1).dead] 26))
  replace VD := Lib.hid ((VD.out.below hb).below HV.out)
  replace VX := Lib.hid ((VX.out.below hb).below HV.out)
  replace VW1 := Lib.hid ((VW1.out.below hb).below HV.out)
  replace VW2 := Lib.hid ((VW2.out.below hb).below HV.out)
  replace VL1 := Lib.hid ((VL1.out.below hb).below HV.out)
  replace HB := Lib.hid ((HB.out.next hb).next HV.out)
  clear hb hd hh HV
  clear k1 KL2
  go_wp2_with fail
  obtain ⟨gl2, hg⟩ : ∃ g, g = wk6.heap.size := ⟨_, rfl⟩
  rw [← hg] at VL2 ⊢
  generalize wk6.alloc (.cells #[.slice p0 (fd1).kept.length c0, .slice p1 (fd1).cache.length c1, .int .i64 (fd1).fuse, .slice p3 (fd1).keep.length c3, .bool (fd1).dead] 26) = wk6a at *
  clear hg
  have dL := VD.out.lt
  obtain ⟨dp0, dc0, dp1, dc1, dp3, dc3, ⟨du0, du1, du2, du3, du4⟩, dE⟩ := VD.out.opened
  have aL := VW1.out.lt
  obtain ⟨ap0, ac0, ap1, ac1, ap3, ac3, ⟨au0, au1, au2, au3, au4⟩, aE⟩ := VW1.out.opened
  have bL := VW2.out.lt
  obtain ⟨bp0, bc0, bp1, bc1, bp3, bc3, ⟨bu0, bu1, bu2, bu3, bu4⟩, bE⟩ := VW2.out.opened
  have lL := VL1.out.lt
  obtain ⟨lp0, lc0, lp1, lc1, lp3, lc3, ⟨lu0, lu1, lu2, lu3, lu4⟩, lE⟩ := VL1.out.opened
  have mL := VL2.out.lt
  obtain ⟨mp0, mc0, mp1, mc1, mp3, mc3, ⟨mu0, mu1, mu2, mu3, mu4⟩, mE⟩ := VL2.out.opened
  have HC : Hid (∀ w', Below wk6a.heap.size wk6a w' → w'.cell? ⟨g0, 0, none⟩ = some (.slice dp0 d.kept.length dc0) ∧ w'.cell? ⟨g0, 1, none⟩ = some (.slice dp1 d.cache.length dc1) ∧ w'.cell? ⟨g0, 2, none⟩ = some (.int .i64 d.fuse) ∧ w'.cell? ⟨g0, 3, none⟩ = some (.slice dp3 d.keep.length dc3) ∧ w'.cell? ⟨g0, 4, none⟩ = some (.bool d.dead) ∧ w'.cell? ⟨gw1, 0, none⟩ = some (.slice ap0 wd.kept.length ac0) ∧ w'.cell? ⟨gw1, 1, none⟩ = some (.slice ap1 wd.cache.length ac1) ∧ w'.cell? ⟨gw1, 2, none⟩ = some (.int .i64 wd.fuse) ∧ w'.cell? ⟨gw1, 3, none⟩ = some (.slice ap3 wd.keep.length ac3) ∧ w'.cell? ⟨gw1, 4, none⟩ = some (.bool wd.dead) ∧ w'.cell? ⟨gw2, 0, none⟩ = some (.slice bp0 wd.kept.length bc0) ∧ w'.cell? ⟨gw2, 1, none⟩ = some (.slice bp1 wd.cache.length bc1) ∧ w'.cell? ⟨gw2, 2, none⟩ = some (.int .i64 wd.fuse) ∧ w'.cell? ⟨gw2, 3, none⟩ = some (.slice bp3 wd.keep.length bc3) ∧ w'.cell? ⟨gw2, 4, none⟩ = some (.bool wd.dead) ∧ w'.cell? ⟨gl1, 0, none⟩ = some (.slice lp0 fd1.kept.length lc0) ∧ w'.cell? ⟨gl1, 1, none⟩ = some (.slice lp1 fd1.cache.length lc1) ∧ w'.cell? ⟨gl1, 2, none⟩ = some (.int .i64 fd1.fuse) ∧ w'.cell? ⟨gl1, 3, none⟩ = some (.slice lp3 fd1.keep.length lc3) ∧ w'.cell? ⟨gl1, 4, none⟩ = some (.bool fd1.dead) ∧ w'.cell? ⟨gl2, 0, none⟩ = some (.slice mp0 fd1.kept.length mc0) ∧ w'.cell? ⟨gl2, 1, none⟩ = some (.slice mp1 fd1.cache.length mc1) ∧ w'.cell? ⟨gl2, 2, none⟩ = some (.int .i64 fd1.fuse) ∧ w'.cell? ⟨gl2, 3, none⟩ = some (.slice mp3 fd1.keep.length mc3) ∧ w'.cell? ⟨gl2, 4, none⟩ = some (.bool fd1.dead)) := Lib.hid fun w' hb => ⟨(hb.cell (p := ⟨g0, 0, none⟩) dL).trans du0, (hb.cell (p := ⟨g0, 1, none⟩) dL).trans du1, (hb.cell (p := ⟨g0, 2, none⟩) dL).trans du2, (hb.cell (p := ⟨g0, 3, none⟩) dL).trans du3, (hb.cell (p := ⟨g0, 4, none⟩) dL).trans du4, (hb.cell (p := ⟨gw1, 0, none⟩) aL).trans au0, (hb.cell (p := ⟨gw1, 1, none⟩) aL).trans au1, (hb.cell (p := ⟨gw1, 2, none⟩) aL).trans au2, (hb.cell (p := ⟨gw1, 3, none⟩) aL).trans au3, (hb.cell (p := ⟨gw1, 4, none⟩) aL).trans au4, (hb.cell (p := ⟨gw2, 0, none⟩) bL).trans bu0, (hb.cell (p := ⟨gw2, 1, none⟩) bL).trans bu1, (hb.cell (p := ⟨gw2, 2, none⟩) bL).trans bu2, (hb.cell (p := ⟨gw2, 3, none⟩) bL).trans bu3, (hb.cell (p := ⟨gw2, 4, none⟩) bL).trans bu4, (hb.cell (p := ⟨gl1, 0, none⟩) lL).trans lu0, (hb.cell (p := ⟨gl1, 1, none⟩) lL).trans lu1, (hb.cell (p := ⟨gl1, 2, none⟩) lL).trans lu2, (hb.cell (p := ⟨gl1, 3, none⟩) lL).trans lu3, (hb.cell (p := ⟨gl1, 4, none⟩) lL).trans lu4, (hb.cell (p := ⟨gl2, 0, none⟩) mL).trans mu0, (hb.cell (p := ⟨gl2, 1, none⟩) mL).trans mu1, (hb.cell (p := ⟨gl2, 2, none⟩) mL).trans mu2, (hb.cell (p := ⟨gl2, 3, none⟩) mL).trans mu3, (hb.cell (p := ⟨gl2, 4, none⟩) mL).trans mu4⟩
  have HDd := Lib.hid (fun (wx : World) (hb : Below wk6a.heap.size wk6a wx) => dE.below hb)
  have HDa := Lib.hid (fun (wx : World) (hb : Below wk6a.heap.size wk6a wx) => aE.below hb)
  have HDb := Lib.hid (fun (wx : World) (hb : Below wk6a.heap.size wk6a wx) => bE.below hb)
  have HDl := Lib.hid (fun (wx : World) (hb : Below wk6a.heap.size wk6a wx) => lE.below hb)
  have HDm := Lib.hid (fun (wx : World) (hb : Below wk6a.heap.size wk6a wx) => mE.below hb)
  clear dE dL du0 du1 du2 du3 du4
  clear aE aL au0 au1 au2 au3 au4
  clear bE bL bu0 bu1 bu2 bu3 bu4
  clear lE lL lu0 lu1 lu2 lu3 lu4
  clear mE mL mu0 mu1 mu2 mu3 mu4
  have HR := Lib.hid ((Below.refl wk6a.heap.size wk6a).drew)
  go_region_held3 (fun w' => w'.cell? ⟨g0, 0, none⟩ = some (.slice dp0 d.kept.length dc0) ∧ w'.cell? ⟨g0, 1, none⟩ = some (.slice dp1 d.cache.length dc1) ∧ w'.cell? ⟨g0, 2, none⟩ = some (.int .i64 d.fuse) ∧ w'.cell? ⟨g0, 3, none⟩ = some (.slice dp3 d.keep.length dc3) ∧ w'.cell? ⟨g0, 4, none⟩ = some (.bool d.dead) ∧ w'.cell? ⟨gw1, 0, none⟩ = some (.slice ap0 wd.kept.length ac0) ∧ w'.cell? ⟨gw1, 1, none⟩ = some (.slice ap1 wd.cache.length ac1) ∧ w'.cell? ⟨gw1, 2, none⟩ = some (.int .i64 wd.fuse) ∧ w'.cell? ⟨gw1, 3, none⟩ = some (.slice ap3 wd.keep.length ac3) ∧ w'.cell? ⟨gw1, 4, none⟩ = some (.bool wd.dead) ∧ w'.cell? ⟨gw2, 0, none⟩ = some (.slice bp0 wd.kept.length bc0) ∧ w'.cell? ⟨gw2, 1, none⟩ = some (.slice bp1 wd.cache.length bc1) ∧ w'.cell? ⟨gw2, 2, none⟩ = some (.int .i64 wd.fuse) ∧ w'.cell? ⟨gw2, 3, none⟩ = some (.slice bp3 wd.keep.length bc3) ∧ w'.cell? ⟨gw2, 4, none⟩ = some (.bool wd.dead) ∧ w'.cell? ⟨gl1, 0, none⟩ = some (.slice lp0 fd1.kept.length lc0) ∧ w'.cell? ⟨gl1, 1, none⟩ = some (.slice lp1 fd1.cache.length lc1) ∧ w'.cell? ⟨gl1, 2, none⟩ = some (.int .i64 fd1.fuse) ∧ w'.cell? ⟨gl1, 3, none⟩ = some (.slice lp3 fd1.keep.length lc3) ∧ w'.cell? ⟨gl1, 4, none⟩ = some (.bool fd1.dead) ∧ w'.cell? ⟨gl2, 0, none⟩ = some (.slice mp0 fd1.kept.length mc0) ∧ w'.cell? ⟨gl2, 1, none⟩ = some (.slice mp1 fd1.cache.length mc1) ∧ w'.cell? ⟨gl2, 2, none⟩ = some (.int .i64 fd1.fuse) ∧ w'.cell? ⟨gl2, 3, none⟩ = some (.slice mp3 fd1.keep.length mc3) ∧ w'.cell? ⟨gl2, 4, none⟩ = some (.bool fd1.dead))
    (exact HC.out _ HR.out)
    (first
      | (go_at_call 16; with_reducible refine (KM1.out _ _ (HDd.out _ HR.out)).mono ?_; rintro x wx ⟨rfl, hb⟩; replace HR := Lib.hid (HR.out.next hb); clear hb)
      | (go_at_call 17; with_reducible refine (KM2.out _ _ (HDd.out _ HR.out)).mono ?_; rintro x wx ⟨rfl, hb⟩; replace HR := Lib.hid (HR.out.next hb); clear hb)
      | (go_at_call 18; with_reducible refine (KE.out wd _ _ _ ZW.out (HDa.out _ HR.out) (HDb.out _ HR.out)).mono ?_; rintro x wx ⟨rfl, hb⟩; replace HR := Lib.hid (HR.out.next hb); clear hb)
      | (go_at_call 18; with_reducible refine (KE.out fd1 _ _ _ ZL.out (HDl.out _ HR.out) (HDm.out _ HR.out)).mono ?_; rintro x wx ⟨rfl, hb⟩; replace HR := Lib.hid (HR.out.next hb); clear hb))
  replace VD := Lib.hid (VD.out.below HR.out)
  replace VX := Lib.hid (VX.out.below HR.out)
  replace HB := Lib.hid (HB.out.next HR.out)
  clear HR HC HDd HDa HDb HDl HDm VW1 VW2 VL1 VL2 ZW ZL KM1 KM2
  obtain ⟨⟨xu0, xu1, xu2, xu3⟩, _⟩ := VX.out.opened
  go_wp2_with fail
  clear xu0 xu1 xu2 xu3
  go_at_call 19
  refine (KN1.out _).mono ?_
  rintro x wk7 ⟨u, rfl, hd, hb⟩
  obtain ⟨p0, c0, p1, c1, p3, c3, rfl, hh⟩ := hd.val
  have VN1 := Lib.hid (Var.new hh)
  have HV := Lib.hid ((Below.refl wk7.heap.size wk7).alloc (Nat.le_refl _) (.cells #[.slice p0 (nd).kept.length c0, .slice p1 (nd).cache.length c1, .int .i64 (nd).fuse, .slice p3 (nd).keep.length c3, .bool (nd).dead] 26))
  replace VD := Lib.hid ((VD.out.below hb).below HV.out)
  replace VX := Lib.hid ((VX.out.below hb).below HV.out)
  replace HB := Lib.hid ((HB.out.next hb).next HV.out)
  clear hb hd hh HV
  clear KN1
  obtain ⟨⟨xu0, xu1, xu2, xu3⟩, _⟩ := VX.out.opened
  go_wp2_with fail
  obtain ⟨gn1, hg⟩ : ∃ g, g = wk7.heap.size := ⟨_, rfl⟩
  rw [← hg] at VN1 ⊢
  generalize wk7.alloc (.cells #[.slice p0 (nd).kept.length c0, .slice p1 (nd).cache.length c1, .int .i64 (nd).fuse, .slice p3 (nd).keep.length c3, .bool (nd).dead] 26) = wk7a at *
  clear hg
  clear xu0 xu1 xu2 xu3
  go_at_call 20
  refine (KN2.out _).mono ?_
  rintro x wk8 ⟨u, rfl, hd, hb⟩
  obtain ⟨p0, c0, p1, c1, p3, c3, rfl, hh⟩ := hd.val
  have VN2 := Lib.hid (Var.new hh)
  have HV := Lib.hid ((Below.refl wk8.heap.size wk8).alloc (Nat.le_refl _) (.cells #[.slice p0 (nd).kept.length c0, .slice p1 (nd).cache.length c1, .int .i64 (nd).fuse, .slice p3 (nd).keep.length c3, .bool (nd).dead] 26))
  replace VD := Lib.hid ((VD.out.below hb).below HV.out)
  replace VX := Lib.hid ((VX.out.below hb).below HV.out)
  replace VN1 := Lib.hid ((VN1.out.below hb).below HV.out)
  replace HB := Lib.hid ((HB.out.next hb).next HV.out)
  clear hb hd hh HV
  clear KN2
  go_wp2_with fail
  obtain ⟨gn2, hg⟩ : ∃ g, g = wk8.heap.size := ⟨_, rfl⟩
  rw [← hg] at VN2 ⊢
  generalize wk8.alloc (.cells #[.slice p0 (nd).kept.length c0, .slice p1 (nd).cache.length c1, .int .i64 (nd).fuse, .slice p3 (nd).keep.length c3, .bool (nd).dead] 26) = wk8a at *
  clear hg
  by_cases z3 : (300 : Int) < f
  case pos =>
    have z5 : decide ((300 : Int) < f) = true := decide_eq_true z3
    clear z3
    have dL := VD.out.lt
    obtain ⟨dp0, dc0, dp1, dc1, dp3, dc3, ⟨du0, du1, du2, du3, du4⟩, dE⟩ := VD.out.opened
    have nL := VN1.out.lt
    obtain ⟨np0, nc0, np1, nc1, np3, nc3, ⟨nu0, nu1, nu2, nu3, nu4⟩, nE⟩ := VN1.out.opened
    have oL := VN2.out.lt
    obtain ⟨op0, oc0, op1, oc1, op3, oc3, ⟨ou0, ou1, ou2, ou3, ou4⟩, oE⟩ := VN2.out.opened
    have xL := (Array.getElem?_eq_some_iff.1 VX.out.heap).1
    obtain ⟨⟨xu0, xu1, xu2, xu3⟩, xK⟩ := VX.out.opened
    have HXK := Lib.hid (fun (wx : World) (hb : Below wk8a.heap.size wk8a wx) => xK.below hb)
    have HC : Hid (∀ w', Below wk8a.heap.size wk8a w' → w'.cell? ⟨g0, 0, none⟩ = some (.slice dp0 d.kept.length dc0) ∧ w'.cell? ⟨g0, 1, none⟩ = some (.slice dp1 d.cache.length dc1) ∧ w'.cell? ⟨g0, 2, none⟩ = some (.int .i64 d.fuse) ∧ w'.cell? ⟨g0, 3, none⟩ = some (.slice dp3 d.keep.length dc3) ∧ w'.cell? ⟨g0, 4, none⟩ = some (.bool d.dead) ∧ w'.cell? ⟨gn1, 0, none⟩ = some (.slice np0 nd.kept.length nc0) ∧ w'.cell? ⟨gn1, 1, none⟩ = some (.slice np1 nd.cache.length nc1) ∧ w'.cell? ⟨gn1, 2, none⟩ = some (.int .i64 nd.fuse) ∧ w'.cell? ⟨gn1, 3, none⟩ = some (.slice np3 nd.keep.length nc3) ∧ w'.cell? ⟨gn1, 4, none⟩ = some (.bool nd.dead) ∧ w'.cell? ⟨gn2, 0, none⟩ = some (.slice op0 nd.kept.length oc0) ∧ w'.cell? ⟨gn2, 1, none⟩ = some (.slice op1 nd.cache.length oc1) ∧ w'.cell? ⟨gn2, 2, none⟩ = some (.int .i64 nd.fuse) ∧ w'.cell? ⟨gn2, 3, none⟩ = some (.slice op3 nd.keep.length oc3) ∧ w'.cell? ⟨gn2, 4, none⟩ = some (.bool nd.dead) ∧ w'.cell? ⟨g1, 0, none⟩ = some (.int .i64 a) ∧ w'.cell? ⟨g1, 1, none⟩ = some (.string t) ∧ w'.cell? ⟨g1, 2, none⟩ = some (.int .i64 f) ∧ w'.cell? ⟨g1, 3, none⟩ = some (.slice pk K.length ck)) := Lib.hid fun w' hb => ⟨(hb.cell (p := ⟨g0, 0, none⟩) dL).trans du0, (hb.cell (p := ⟨g0, 1, none⟩) dL).trans du1, (hb.cell (p := ⟨g0, 2, none⟩) dL).trans du2, (hb.cell (p := ⟨g0, 3, none⟩) dL).trans du3, (hb.cell (p := ⟨g0, 4, none⟩) dL).trans du4, (hb.cell (p := ⟨gn1, 0, none⟩) nL).trans nu0, (hb.cell (p := ⟨gn1, 1, none⟩) nL).trans nu1, (hb.cell (p := ⟨gn1, 2, none⟩) nL).trans nu2, (hb.cell (p := ⟨gn1, 3, none⟩) nL).trans nu3, (hb.cell (p := ⟨gn1, 4, none⟩) nL).trans nu4, (hb.cell (p := ⟨gn2, 0, none⟩) oL).trans ou0, (hb.cell (p := ⟨gn2, 1, none⟩) oL).trans ou1, (hb.cell (p := ⟨gn2, 2, none⟩) oL).trans ou2, (hb.cell (p := ⟨gn2, 3, none⟩) oL).trans ou3, (hb.cell (p := ⟨gn2, 4, none⟩) oL).trans ou4, (hb.cell (p := ⟨g1, 0, none⟩) xL).trans xu0, (hb.cell (p := ⟨g1, 1, none⟩) xL).trans xu1, (hb.cell (p := ⟨g1, 2, none⟩) xL).trans xu2, (hb.cell (p := ⟨g1, 3, none⟩) xL).trans xu3⟩
    have HDd := Lib.hid (fun (wx : World) (hb : Below wk8a.heap.size wk8a wx) => dE.below hb)
    have HDn := Lib.hid (fun (wx : World) (hb : Below wk8a.heap.size wk8a wx) => nE.below hb)
    have HDo := Lib.hid (fun (wx : World) (hb : Below wk8a.heap.size wk8a wx) => oE.below hb)
    clear dE dL du0 du1 du2 du3 du4
    clear nE nL nu0 nu1 nu2 nu3 nu4
    clear oE oL ou0 ou1 ou2 ou3 ou4
    clear xK xL xu0 xu1 xu2 xu3
    have HR := Lib.hid ((Below.refl wk8a.heap.size wk8a).drew)
    refine wp_region_held_drew (S := (fun w' => w'.cell? ⟨g0, 0, none⟩ = some (.slice dp0 d.kept.length dc0) ∧ w'.cell? ⟨g0, 1, none⟩ = some (.slice dp1 d.cache.length dc1) ∧ w'.cell? ⟨g0, 2, none⟩ = some (.int .i64 d.fuse) ∧ w'.cell? ⟨g0, 3, none⟩ = some (.slice dp3 d.keep.length dc3) ∧ w'.cell? ⟨g0, 4, none⟩ = some (.bool d.dead) ∧ w'.cell? ⟨gn1, 0, none⟩ = some (.slice np0 nd.kept.length nc0) ∧ w'.cell? ⟨gn1, 1, none⟩ = some (.slice np1 nd.cache.length nc1) ∧ w'.cell? ⟨gn1, 2, none⟩ = some (.int .i64 nd.fuse) ∧ w'.cell? ⟨gn1, 3, none⟩ = some (.slice np3 nd.keep.length nc3) ∧ w'.cell? ⟨gn1, 4, none⟩ = some (.bool nd.dead) ∧ w'.cell? ⟨gn2, 0, none⟩ = some (.slice op0 nd.kept.length oc0) ∧ w'.cell? ⟨gn2, 1, none⟩ = some (.slice op1 nd.cache.length oc1) ∧ w'.cell? ⟨gn2, 2, none⟩ = some (.int .i64 nd.fuse) ∧ w'.cell? ⟨gn2, 3, none⟩ = some (.slice op3 nd.keep.length oc3) ∧ w'.cell? ⟨gn2, 4, none⟩ = some (.bool nd.dead) ∧ w'.cell? ⟨g1, 0, none⟩ = some (.int .i64 a) ∧ w'.cell? ⟨g1, 1, none⟩ = some (.string t) ∧ w'.cell? ⟨g1, 2, none⟩ = some (.int .i64 f) ∧ w'.cell? ⟨g1, 3, none⟩ = some (.slice pk K.length ck))) (by kernel_rfl) (HC.out _ HR.out) (fun hh0 => ?_)
    refine wpAnyH_ready (rs := [0]) (by kernel_rfl) (by simp) ?_
    refine AllReadyH.consL rfl (fun K hK => ?_) AllReadyH.nil
    go_simp
    go_at_call 9
    refine (KF.out _).mono ?_
    rintro x wx ⟨rfl, hb⟩
    replace HR := Lib.hid (HR.out.next hb)
    clear hb
    refine hK.out _ _ (HC.out _ HR.out) (fun hh1 => ?_)
    clear hK K hh0
    try simp only [Act.put, List.setIfInBounds_toArray, List.set_cons_zero, List.set_cons_succ]
    refine wpAnyH_takeL (i := 1) (v := ?r13110v1) rfl (by kernel_rfl) (by kernel_rfl) (by kernel_rfl) (fun _ _ _ h => h) (Or.inl ⟨by rfl, ?r13110y1⟩) hh1 ?_
    case r13110y1 => (intro w hSw; (try dsimp only at hSw); go_simp; try (with_reducible rfl))
    try simp only [Act.put, List.setIfInBounds_toArray, List.set_cons_zero, List.set_cons_succ]
    refine wpAnyH_takeL (i := 2) (v := ?r13110v2) rfl (by kernel_rfl) (by kernel_rfl) (by kernel_rfl) (fun _ _ _ h => h) (Or.inl ⟨by rfl, ?r13110y2⟩) hh1 ?_
    case r13110y2 => (intro w hSw; (try dsimp only at hSw); go_simp; try (with_reducible rfl))
    try simp only [Act.put, List.setIfInBounds_toArray, List.set_cons_zero, List.set_cons_succ]
    refine wpAnyH_takeL (i := 3) (v := ?r13110v3) rfl (by kernel_rfl) (by kernel_rfl) (by kernel_rfl) (fun _ _ _ h => h) (Or.inl ⟨by rfl, ?r13110y3⟩) hh1 ?_
    case r13110y3 => (intro w hSw; (try dsimp only at hSw); go_simp; try (with_reducible rfl))
    try simp only [Act.put, List.setIfInBounds_toArray, List.set_cons_zero, List.set_cons_succ]
    refine wpAnyH_takeL (i := 4) (v := ?r13110v4) rfl (by kernel_rfl) (by kernel_rfl) (by kernel_rfl) (fun _ _ _ h => h) (Or.inl ⟨by rfl, ?r13110y4⟩) hh1 ?_
    case r13110y4 => (intro w hSw; (try dsimp only at hSw); go_simp; try (with_reducible rfl))
    try simp only [Act.put, List.setIfInBounds_toArray, List.set_cons_zero, List.set_cons_succ]
    refine wpAnyH_takeL (i := 5) (v := ?r13110v5) rfl (by kernel_rfl) (by kernel_rfl) (by kernel_rfl) (fun _ _ _ h => h) (Or.inl ⟨by rfl, ?r13110y5⟩) hh1 ?_
    case r13110y5 => (intro w hSw; (try dsimp only at hSw); go_simp; try (with_reducible rfl))
    try simp only [Act.put, List.setIfInBounds_toArray, List.set_cons_zero, List.set_cons_succ]
    refine wpAnyH_takeL (i := 6) (v := ?r13110v6) rfl (by kernel_rfl) (by kernel_rfl) (by kernel_rfl) (fun _ _ _ h => h) (Or.inl ⟨by rfl, ?r13110y6⟩) hh1 ?_
    case r13110y6 => (intro w hSw; (try dsimp only at hSw); go_simp; try (with_reducible rfl))
    try simp only [Act.put, List.setIfInBounds_toArray, List.set_cons_zero, List.set_cons_succ]
    refine wpAnyH_takeL (i := 8) (v := ?r13110v8) rfl (by kernel_rfl) (by kernel_rfl) (by kernel_rfl) (fun _ _ _ h => h) (Or.inl ⟨by rfl, ?r13110y8⟩) hh1 ?_
    case r13110y8 => (intro w hSw; (try dsimp only at hSw); go_simp; try (with_reducible rfl))
    try simp only [Act.put, List.setIfInBounds_toArray, List.set_cons_zero, List.set_cons_succ]
    refine wpAnyH_takeL (i := 9) (v := ?r13110v9) rfl (by kernel_rfl) (by kernel_rfl) (by kernel_rfl) (fun _ _ _ h => h) (Or.inl ⟨by rfl, ?r13110y9⟩) hh1 ?_
    case r13110y9 => (intro w hSw; (try dsimp only at hSw); go_simp; try (with_reducible rfl))
    try simp only [Act.put, List.setIfInBounds_toArray, List.set_cons_zero, List.set_cons_succ]
    refine wpAnyH_takeL (i := 10) (v := ?r13110v10) rfl (by kernel_rfl) (by kernel_rfl) (by kernel_rfl) (fun _ _ _ h => h) (Or.inl ⟨by rfl, ?r13110y10⟩) hh1 ?_
    case r13110y10 => (intro w hSw; (try dsimp only at hSw); go_simp; try (with_reducible rfl))
    try simp only [Act.put, List.setIfInBounds_toArray, List.set_cons_zero, List.set_cons_succ]
    refine wpAnyH_takeL (i := 11) (v := ?r13110v11) rfl (by kernel_rfl) (by kernel_rfl) (by kernel_rfl) (fun _ _ _ h => h) (Or.inl ⟨by rfl, ?r13110y11⟩) hh1 ?_
    case r13110y11 => (intro w hSw; (try dsimp only at hSw); go_simp; try (with_reducible rfl))
    try simp only [Act.put, List.setIfInBounds_toArray, List.set_cons_zero, List.set_cons_succ]
    refine wpAnyH_takeL (i := 12) (v := ?r13110v12) rfl (by kernel_rfl) (by kernel_rfl) (by kernel_rfl) (fun _ _ _ h => h) (Or.inl ⟨by rfl, ?r13110y12⟩) hh1 ?_
    case r13110y12 => (intro w hSw; (try dsimp only at hSw); go_simp; try (with_reducible rfl))
    try simp only [Act.put, List.setIfInBounds_toArray, List.set_cons_zero, List.set_cons_succ]
    refine wpAnyH_ready (rs := [7]) (by kernel_rfl) (by simp) ?_
    refine AllReadyH.consL rfl (fun K hK => ?_) AllReadyH.nil
    go_simp
    go_at_call 21
    refine (KA1.out _ _ _ _ HK4.out (HDd.out _ HR.out) (HXK.out _ HR.out)).mono ?_
    rintro x wx ⟨ua, rfl, ha, hb⟩
    replace HR := Lib.hid (HR.out.next hb)
    clear hb
    refine hK.out _ _ (HC.out _ HR.out) (fun hh2 => ?_)
    clear hK K hh1
    try simp only [Act.put, List.setIfInBounds_toArray, List.set_cons_zero, List.set_cons_succ]
    refine wpAnyH_ready (rs := [13]) (by kernel_rfl) (by simp) ?_
    refine AllReadyH.consL rfl (fun K hK => ?_) AllReadyH.nil
    go_simp
    go_at_call 22
    refine (KA2.out _ _ _ _ (HDd.out _ HR.out) (HXK.out _ HR.out)).mono ?_
    rintro x wx ⟨ub, rfl, hc, hb⟩
    have QQ := Lib.hid (And.intro (ha.below hb) hc)
    clear ha hc
    replace HR := Lib.hid (HR.out.next hb)
    clear hb
    refine hK.out _ _ (HC.out _ HR.out) (fun hh3 => ?_)
    clear hK K hh2
    try simp only [Act.put, List.setIfInBounds_toArray, List.set_cons_zero, List.set_cons_succ]
    refine wpAnyH_ready (rs := [14]) (by kernel_rfl) (by simp) ?_
    refine AllReadyH.consL rfl (fun K hK => ?_) AllReadyH.nil
    go_simp
    go_at_call 18
    refine (KE.out ad _ _ _ ZA.out QQ.out.1 QQ.out.2).mono ?_
    rintro x wx ⟨rfl, hb⟩
    clear QQ
    replace HR := Lib.hid (HR.out.next hb)
    clear hb
    refine hK.out _ _ (HC.out _ HR.out) (fun hh4 => ?_)
    clear hK K hh3
    try simp only [Act.put, List.setIfInBounds_toArray, List.set_cons_zero, List.set_cons_succ]
    refine wpAnyH_takeL (i := 15) (v := ?r13110v15) rfl (by kernel_rfl) (by kernel_rfl) (by kernel_rfl) (fun _ _ _ h => h) (Or.inl ⟨by rfl, ?r13110y15⟩) hh4 ?_
    case r13110y15 => (intro w hSw; (try dsimp only at hSw); go_simp; try (with_reducible rfl))
    try simp only [Act.put, List.setIfInBounds_toArray, List.set_cons_zero, List.set_cons_succ]
    refine wpAnyH_takeL (i := 16) (v := ?r13110v16) rfl (by kernel_rfl) (by kernel_rfl) (by kernel_rfl) (fun _ _ _ h => h) (Or.inl ⟨by rfl, ?r13110y16⟩) hh4 ?_
    case r13110y16 => (intro w hSw; (try dsimp only at hSw); go_simp; try (with_reducible rfl))
    try simp only [Act.put, List.setIfInBounds_toArray, List.set_cons_zero, List.set_cons_succ]
    refine wpAnyH_takeL (i := 17) (v := ?r13110v17) rfl (by kernel_rfl) (by kernel_rfl) (by kernel_rfl) (fun _ _ _ h => h) (Or.inl ⟨by rfl, ?r13110y17⟩) hh4 ?_
    case r13110y17 => (intro w hSw; (try dsimp only at hSw); go_simp; try (with_reducible rfl))
    try simp only [Act.put, List.setIfInBounds_toArray, List.set_cons_zero, List.set_cons_succ]
    refine wpAnyH_takeL (i := 18) (v := ?r13110v18) rfl (by kernel_rfl) (by kernel_rfl) (by kernel_rfl) (fun _ _ _ h => h) (Or.inl ⟨by rfl, ?r13110y18⟩) hh4 ?_
    case r13110y18 => (intro w hSw; (try dsimp only at hSw); go_simp; try (with_reducible rfl))
    try simp only [Act.put, List.setIfInBounds_toArray, List.set_cons_zero, List.set_cons_succ]
    refine wpAnyH_takeL (i := 19) (v := ?r13110v19) rfl (by kernel_rfl) (by kernel_rfl) (by kernel_rfl) (fun _ _ _ h => h) (Or.inl ⟨by rfl, ?r13110y19⟩) hh4 ?_
    case r13110y19 => (intro w hSw; (try dsimp only at hSw); go_simp; try (with_reducible rfl))
    try simp only [Act.put, List.setIfInBounds_toArray, List.set_cons_zero, List.set_cons_succ]
    refine wpAnyH_takeL (i := 21) (v := ?r13110v21) rfl (by kernel_rfl) (by kernel_rfl) (by kernel_rfl) (fun _ _ _ h => h) (Or.inl ⟨by rfl, ?r13110y21⟩) hh4 ?_
    case r13110y21 => (intro w hSw; (try dsimp only at hSw); go_simp; try (with_reducible rfl))
    try simp only [Act.put, List.setIfInBounds_toArray, List.set_cons_zero, List.set_cons_succ]
    refine wpAnyH_takeL (i := 22) (v := ?r13110v22) rfl (by kernel_rfl) (by kernel_rfl) (by kernel_rfl) (fun _ _ _ h => h) (Or.inl ⟨by rfl, ?r13110y22⟩) hh4 ?_
    case r13110y22 => (intro w hSw; (try dsimp only at hSw); go_simp; try (with_reducible rfl))
    try simp only [Act.put, List.setIfInBounds_toArray, List.set_cons_zero, List.set_cons_succ]
    refine wpAnyH_takeL (i := 23) (v := ?r13110v23) rfl (by kernel_rfl) (by kernel_rfl) (by kernel_rfl) (fun _ _ _ h => h) (Or.inl ⟨by rfl, ?r13110y23⟩) hh4 ?_
    case r13110y23 => (intro w hSw; (try dsimp only at hSw); go_simp; try (with_reducible rfl))
    try simp only [Act.put, List.setIfInBounds_toArray, List.set_cons_zero, List.set_cons_succ]
    refine wpAnyH_ready (rs := [20]) (by kernel_rfl) (by simp) ?_
    refine AllReadyH.consL rfl (fun K hK => ?_) AllReadyH.nil
    go_simp
    go_at_call 23
    refine (KD1.out _ _ _ _ (HDd.out _ HR.out) (HXK.out _ HR.out)).mono ?_
    rintro x wx ⟨uc, rfl, ha, hb⟩
    replace HR := Lib.hid (HR.out.next hb)
    clear hb
    refine hK.out _ _ (HC.out _ HR.out) (fun hh5 => ?_)
    clear hK K hh4
    try simp only [Act.put, List.setIfInBounds_toArray, List.set_cons_zero, List.set_cons_succ]
    refine wpAnyH_ready (rs := [24]) (by kernel_rfl) (by simp) ?_
    refine AllReadyH.consL rfl (fun K hK => ?_) AllReadyH.nil
    go_simp
    go_at_call 24
    refine (KD2.out _ _ _ _ (HDd.out _ HR.out) (HXK.out _ HR.out)).mono ?_
    rintro x wx ⟨ud, rfl, hc, hb⟩
    have QQ := Lib.hid (And.intro (ha.below hb) hc)
    clear ha hc
    replace HR := Lib.hid (HR.out.next hb)
    clear hb
    refine hK.out _ _ (HC.out _ HR.out) (fun hh6 => ?_)
    clear hK K hh5
    try simp only [Act.put, List.setIfInBounds_toArray, List.set_cons_zero, List.set_cons_succ]
    refine wpAnyH_ready (rs := [25]) (by kernel_rfl) (by simp) ?_
    refine AllReadyH.consL rfl (fun K hK => ?_) AllReadyH.nil
    go_simp
    go_at_call 18
    refine (KE.out dd _ _ _ ZD.out QQ.out.1 QQ.out.2).mono ?_
    rintro x wx ⟨rfl, hb⟩
    clear QQ
    replace HR := Lib.hid (HR.out.next hb)
    clear hb
    refine hK.out _ _ (HC.out _ HR.out) (fun hh7 => ?_)
    clear hK K hh6
    try simp only [Act.put, List.setIfInBounds_toArray, List.set_cons_zero, List.set_cons_succ]
    refine wpAnyH_takeL (i := 26) (v := ?r13110v26) rfl (by kernel_rfl) (by kernel_rfl) (by kernel_rfl) (fun _ _ _ h => h) (Or.inl ⟨by rfl, ?r13110y26⟩) hh7 ?_
    case r13110y26 => (intro w hSw; (try dsimp only at hSw); go_simp; try (with_reducible rfl))
    try simp only [Act.put, List.setIfInBounds_toArray, List.set_cons_zero, List.set_cons_succ]
    refine wpAnyH_takeL (i := 27) (v := ?r13110v27) rfl (by kernel_rfl) (by kernel_rfl) (by kernel_rfl) (fun _ _ _ h => h) (Or.inl ⟨by rfl, ?r13110y27⟩) hh7 ?_
    case r13110y27 => (intro w hSw; (try dsimp only at hSw); go_simp; try (with_reducible rfl))
    try simp only [Act.put, List.setIfInBounds_toArray, List.set_cons_zero, List.set_cons_succ]
    refine wpAnyH_takeL (i := 28) (v := ?r13110v28) rfl (by kernel_rfl) (by kernel_rfl) (by kernel_rfl) (fun _ _ _ h => h) (Or.inl ⟨by rfl, ?r13110y28⟩) hh7 ?_
    case r13110y28 => (intro w hSw; (try dsimp only at hSw); go_simp; try (with_reducible rfl))
    try simp only [Act.put, List.setIfInBounds_toArray, List.set_cons_zero, List.set_cons_succ]
    refine wpAnyH_takeL (i := 30) (v := ?r13110v30) rfl (by kernel_rfl) (by kernel_rfl) (by kernel_rfl) (fun _ _ _ h => h) (Or.inl ⟨by rfl, ?r13110y30⟩) hh7 ?_
    case r13110y30 => (intro w hSw; (try dsimp only at hSw); go_simp; try (with_reducible rfl))
    try simp only [Act.put, List.setIfInBounds_toArray, List.set_cons_zero, List.set_cons_succ]
    refine wpAnyH_ready (rs := [29]) (by kernel_rfl) (by simp) ?_
    refine AllReadyH.consL rfl (fun K hK => ?_) AllReadyH.nil
    go_simp
    go_at_call 25
    refine (KV1.out _ _ (HDd.out _ HR.out)).mono ?_
    rintro x wx ⟨ue, rfl, ha, hb⟩
    replace HR := Lib.hid (HR.out.next hb)
    clear hb
    refine hK.out _ _ (HC.out _ HR.out) (fun hh8 => ?_)
    clear hK K hh7
    try simp only [Act.put, List.setIfInBounds_toArray, List.set_cons_zero, List.set_cons_succ]
    refine wpAnyH_ready (rs := [31]) (by kernel_rfl) (by simp) ?_
    refine AllReadyH.consL rfl (fun K hK => ?_) AllReadyH.nil
    go_simp
    go_at_call 26
    refine (KV2.out _ _ (HDd.out _ HR.out)).mono ?_
    rintro x wx ⟨uf, rfl, hc, hb⟩
    have QQ := Lib.hid (And.intro (ha.below hb) hc)
    clear ha hc
    replace HR := Lib.hid (HR.out.next hb)
    clear hb
    refine hK.out _ _ (HC.out _ HR.out) (fun hh9 => ?_)
    clear hK K hh8
    try simp only [Act.put, List.setIfInBounds_toArray, List.set_cons_zero, List.set_cons_succ]
    refine wpAnyH_ready (rs := [32]) (by kernel_rfl) (by simp) ?_
    refine AllReadyH.consL rfl (fun K hK => ?_) AllReadyH.nil
    go_simp
    go_at_call 18
    refine (KE.out rd _ _ _ ZV.out QQ.out.1 QQ.out.2).mono ?_
    rintro x wx ⟨rfl, hb⟩
    clear QQ
    replace HR := Lib.hid (HR.out.next hb)
    clear hb
    refine hK.out _ _ (HC.out _ HR.out) (fun hh10 => ?_)
    clear hK K hh9
    try simp only [Act.put, List.setIfInBounds_toArray, List.set_cons_zero, List.set_cons_succ]
    refine wpAnyH_takeL (i := 33) (v := ?r13110v33) rfl (by kernel_rfl) (by kernel_rfl) (by kernel_rfl) (fun _ _ _ h => h) (Or.inl ⟨by rfl, ?r13110y33⟩) hh10 ?_
    case r13110y33 => (intro w hSw; (try dsimp only at hSw); go_simp; try (with_reducible rfl))
    try simp only [Act.put, List.setIfInBounds_toArray, List.set_cons_zero, List.set_cons_succ]
    refine wpAnyH_takeL (i := 34) (v := ?r13110v34) rfl (by kernel_rfl) (by kernel_rfl) (by kernel_rfl) (fun _ _ _ h => h) (Or.inl ⟨by rfl, ?r13110y34⟩) hh10 ?_
    case r13110y34 => (intro w hSw; (try dsimp only at hSw); go_simp; try (with_reducible rfl))
    try simp only [Act.put, List.setIfInBounds_toArray, List.set_cons_zero, List.set_cons_succ]
    refine wpAnyH_takeL (i := 35) (v := ?r13110v35) rfl (by kernel_rfl) (by kernel_rfl) (by kernel_rfl) (fun _ _ _ h => h) (Or.inl ⟨by rfl, ?r13110y35⟩) hh10 ?_
    case r13110y35 => (intro w hSw; (try dsimp only at hSw); go_simp; try (with_reducible rfl))
    try simp only [Act.put, List.setIfInBounds_toArray, List.set_cons_zero, List.set_cons_succ]
    refine wpAnyH_takeL (i := 36) (v := ?r13110v36) rfl (by kernel_rfl) (by kernel_rfl) (by kernel_rfl) (fun _ _ _ h => h) (Or.inl ⟨by rfl, ?r13110y36⟩) hh10 ?_
    case r13110y36 => (intro w hSw; (try dsimp only at hSw); go_simp; try (with_reducible rfl))
    try simp only [Act.put, List.setIfInBounds_toArray, List.set_cons_zero, List.set_cons_succ]
    refine wpAnyH_takeL (i := 37) (v := ?r13110v37) rfl (by kernel_rfl) (by kernel_rfl) (by kernel_rfl) (fun _ _ _ h => h) (Or.inl ⟨by rfl, ?r13110y37⟩) hh10 ?_
    case r13110y37 => (intro w hSw; (try dsimp only at hSw); go_simp; try (with_reducible rfl))
    try simp only [Act.put, List.setIfInBounds_toArray, List.set_cons_zero, List.set_cons_succ]
    refine wpAnyH_takeL (i := 38) (v := ?r13110v38) rfl (by kernel_rfl) (by kernel_rfl) (by kernel_rfl) (fun _ _ _ h => h) (Or.inl ⟨by rfl, ?r13110y38⟩) hh10 ?_
    case r13110y38 => (intro w hSw; (try dsimp only at hSw); go_simp; try (with_reducible rfl))
    try simp only [Act.put, List.setIfInBounds_toArray, List.set_cons_zero, List.set_cons_succ]
    refine wpAnyH_takeL (i := 39) (v := undef) rfl (by kernel_rfl) (by kernel_rfl) (by kernel_rfl) (fun _ _ _ h => h) (Or.inr ⟨by rfl, rfl⟩) hh10 ?_
    try simp only [Act.put, List.setIfInBounds_toArray, List.set_cons_zero, List.set_cons_succ]
    refine wpAnyH_takeL (i := 40) (v := undef) rfl (by kernel_rfl) (by kernel_rfl) (by kernel_rfl) (fun _ _ _ h => h) (Or.inr ⟨by rfl, rfl⟩) hh10 ?_
    try simp only [Act.put, List.setIfInBounds_toArray, List.set_cons_zero, List.set_cons_succ]
    refine wpAnyH_takeL (i := 41) (v := undef) rfl (by kernel_rfl) (by kernel_rfl) (by kernel_rfl) (fun _ _ _ h => h) (Or.inr ⟨by rfl, rfl⟩) hh10 ?_
    try simp only [Act.put, List.setIfInBounds_toArray, List.set_cons_zero, List.set_cons_succ]
    refine wpAnyH_takeL (i := 42) (v := undef) rfl (by kernel_rfl) (by kernel_rfl) (by kernel_rfl) (fun _ _ _ h => h) (Or.inr ⟨by rfl, rfl⟩) hh10 ?_
    try simp only [Act.put, List.setIfInBounds_toArray, List.set_cons_zero, List.set_cons_succ]
    refine wpAnyH_takeL (i := 43) (v := undef) rfl (by kernel_rfl) (by kernel_rfl) (by kernel_rfl) (fun _ _ _ h => h) (Or.inr ⟨by rfl, rfl⟩) hh10 ?_
    try simp only [Act.put, List.setIfInBounds_toArray, List.set_cons_zero, List.set_cons_succ]
    refine wpAnyH_takeL (i := 44) (v := undef) rfl (by kernel_rfl) (by kernel_rfl) (by kernel_rfl) (fun _ _ _ h => h) (Or.inr ⟨by rfl, rfl⟩) hh10 ?_
    try simp only [Act.put, List.setIfInBounds_toArray, List.set_cons_zero, List.set_cons_succ]
    refine wpAnyH_takeL (i := 45) (v := undef) rfl (by kernel_rfl) (by kernel_rfl) (by kernel_rfl) (fun _ _ _ h => h) (Or.inr ⟨by rfl, rfl⟩) hh10 ?_
    try simp only [Act.put, List.setIfInBounds_toArray, List.set_cons_zero, List.set_cons_succ]
    refine wpAnyH_takeL (i := 46) (v := undef) rfl (by kernel_rfl) (by kernel_rfl) (by kernel_rfl) (fun _ _ _ h => h) (Or.inr ⟨by rfl, rfl⟩) hh10 ?_
    try simp only [Act.put, List.setIfInBounds_toArray, List.set_cons_zero, List.set_cons_succ]
    refine wpAnyH_takeL (i := 47) (v := ?r13110v47) rfl (by kernel_rfl) (by kernel_rfl) (by kernel_rfl) (fun _ _ _ h => h) (Or.inl ⟨by rfl, ?r13110y47⟩) hh10 ?_
    case r13110y47 => (intro w hSw; (try dsimp only at hSw); go_simp; try (with_reducible rfl))
    try simp only [Act.put, List.setIfInBounds_toArray, List.set_cons_zero, List.set_cons_succ]
    refine wpAnyH_takeL (i := 48) (v := ?r13110v48) rfl (by kernel_rfl) (by kernel_rfl) (by kernel_rfl) (fun _ _ _ h => h) (Or.inl ⟨by rfl, ?r13110y48⟩) hh10 ?_
    case r13110y48 => (intro w hSw; (try dsimp only at hSw); go_simp; try (with_reducible rfl))
    try simp only [Act.put, List.setIfInBounds_toArray, List.set_cons_zero, List.set_cons_succ]
    refine wpAnyH_takeL (i := 49) (v := ?r13110v49) rfl (by kernel_rfl) (by kernel_rfl) (by kernel_rfl) (fun _ _ _ h => h) (Or.inl ⟨by rfl, ?r13110y49⟩) hh10 ?_
    case r13110y49 => (intro w hSw; (try dsimp only at hSw); go_simp; try (with_reducible rfl))
    try simp only [Act.put, List.setIfInBounds_toArray, List.set_cons_zero, List.set_cons_succ]
    refine wpAnyH_done (by kernel_rfl) ?_ _
    clear hh10
    all_goals (go_wp2; go_ret; exact ⟨rfl, HB.out.next HR.out⟩)
  case neg =>
    have z5 : decide ((300 : Int) < f) = false := decide_eq_false z3
    clear z3
    have dL := VD.out.lt
    obtain ⟨dp0, dc0, dp1, dc1, dp3, dc3, ⟨du0, du1, du2, du3, du4⟩, dE⟩ := VD.out.opened
    have nL := VN1.out.lt
    obtain ⟨np0, nc0, np1, nc1, np3, nc3, ⟨nu0, nu1, nu2, nu3, nu4⟩, nE⟩ := VN1.out.opened
    have oL := VN2.out.lt
    obtain ⟨op0, oc0, op1, oc1, op3, oc3, ⟨ou0, ou1, ou2, ou3, ou4⟩, oE⟩ := VN2.out.opened
    have xL := (Array.getElem?_eq_some_iff.1 VX.out.heap).1
    obtain ⟨⟨xu0, xu1, xu2, xu3⟩, xK⟩ := VX.out.opened
    have HXK := Lib.hid (fun (wx : World) (hb : Below wk8a.heap.size wk8a wx) => xK.below hb)
    have HC : Hid (∀ w', Below wk8a.heap.size wk8a w' → w'.cell? ⟨g0, 0, none⟩ = some (.slice dp0 d.kept.length dc0) ∧ w'.cell? ⟨g0, 1, none⟩ = some (.slice dp1 d.cache.length dc1) ∧ w'.cell? ⟨g0, 2, none⟩ = some (.int .i64 d.fuse) ∧ w'.cell? ⟨g0, 3, none⟩ = some (.slice dp3 d.keep.length dc3) ∧ w'.cell? ⟨g0, 4, none⟩ = some (.bool d.dead) ∧ w'.cell? ⟨gn1, 0, none⟩ = some (.slice np0 nd.kept.length nc0) ∧ w'.cell? ⟨gn1, 1, none⟩ = some (.slice np1 nd.cache.length nc1) ∧ w'.cell? ⟨gn1, 2, none⟩ = some (.int .i64 nd.fuse) ∧ w'.cell? ⟨gn1, 3, none⟩ = some (.slice np3 nd.keep.length nc3) ∧ w'.cell? ⟨gn1, 4, none⟩ = some (.bool nd.dead) ∧ w'.cell? ⟨gn2, 0, none⟩ = some (.slice op0 nd.kept.length oc0) ∧ w'.cell? ⟨gn2, 1, none⟩ = some (.slice op1 nd.cache.length oc1) ∧ w'.cell? ⟨gn2, 2, none⟩ = some (.int .i64 nd.fuse) ∧ w'.cell? ⟨gn2, 3, none⟩ = some (.slice op3 nd.keep.length oc3) ∧ w'.cell? ⟨gn2, 4, none⟩ = some (.bool nd.dead) ∧ w'.cell? ⟨g1, 0, none⟩ = some (.int .i64 a) ∧ w'.cell? ⟨g1, 1, none⟩ = some (.string t) ∧ w'.cell? ⟨g1, 2, none⟩ = some (.int .i64 f) ∧ w'.cell? ⟨g1, 3, none⟩ = some (.slice pk K.length ck)) := Lib.hid fun w' hb => ⟨(hb.cell (p := ⟨g0, 0, none⟩) dL).trans du0, (hb.cell (p := ⟨g0, 1, none⟩) dL).trans du1, (hb.cell (p := ⟨g0, 2, none⟩) dL).trans du2, (hb.cell (p := ⟨g0, 3, none⟩) dL).trans du3, (hb.cell (p := ⟨g0, 4, none⟩) dL).trans du4, (hb.cell (p := ⟨gn1, 0, none⟩) nL).trans nu0, (hb.cell (p := ⟨gn1, 1, none⟩) nL).trans nu1, (hb.cell (p := ⟨gn1, 2, none⟩) nL).trans nu2, (hb.cell (p := ⟨gn1, 3, none⟩) nL).trans nu3, (hb.cell (p := ⟨gn1, 4, none⟩) nL).trans nu4, (hb.cell (p := ⟨gn2, 0, none⟩) oL).trans ou0, (hb.cell (p := ⟨gn2, 1, none⟩) oL).trans ou1, (hb.cell (p := ⟨gn2, 2, none⟩) oL).trans ou2, (hb.cell (p := ⟨gn2, 3, none⟩) oL).trans ou3, (hb.cell (p := ⟨gn2, 4, none⟩) oL).trans ou4, (hb.cell (p := ⟨g1, 0, none⟩) xL).trans xu0, (hb.cell (p := ⟨g1, 1, none⟩) xL).trans xu1, (hb.cell (p := ⟨g1, 2, none⟩) xL).trans xu2, (hb.cell (p := ⟨g1, 3, none⟩) xL).trans xu3⟩
    have HDd := Lib.hid (fun (wx : World) (hb : Below wk8a.heap.size wk8a wx) => dE.below hb)
    have HDn := Lib.hid (fun (wx : World) (hb : Below wk8a.heap.size wk8a wx) => nE.below hb)
    have HDo := Lib.hid (fun (wx : World) (hb : Below wk8a.heap.size wk8a wx) => oE.below hb)
    clear dE dL du0 du1 du2 du3 du4
    clear nE nL nu0 nu1 nu2 nu3 nu4
    clear oE oL ou0 ou1 ou2 ou3 ou4
    clear xK xL xu0 xu1 xu2 xu3
    have HR := Lib.hid ((Below.refl wk8a.heap.size wk8a).drew)
    refine wp_region_held_drew (S := (fun w' => w'.cell? ⟨g0, 0, none⟩ = some (.slice dp0 d.kept.length dc0) ∧ w'.cell? ⟨g0, 1, none⟩ = some (.slice dp1 d.cache.length dc1) ∧ w'.cell? ⟨g0, 2, none⟩ = some (.int .i64 d.fuse) ∧ w'.cell? ⟨g0, 3, none⟩ = some (.slice dp3 d.keep.length dc3) ∧ w'.cell? ⟨g0, 4, none⟩ = some (.bool d.dead) ∧ w'.cell? ⟨gn1, 0, none⟩ = some (.slice np0 nd.kept.length nc0) ∧ w'.cell? ⟨gn1, 1, none⟩ = some (.slice np1 nd.cache.length nc1) ∧ w'.cell? ⟨gn1, 2, none⟩ = some (.int .i64 nd.fuse) ∧ w'.cell? ⟨gn1, 3, none⟩ = some (.slice np3 nd.keep.length nc3) ∧ w'.cell? ⟨gn1, 4, none⟩ = some (.bool nd.dead) ∧ w'.cell? ⟨gn2, 0, none⟩ = some (.slice op0 nd.kept.length oc0) ∧ w'.cell? ⟨gn2, 1, none⟩ = some (.slice op1 nd.cache.length oc1) ∧ w'.cell? ⟨gn2, 2, none⟩ = some (.int .i64 nd.fuse) ∧ w'.cell? ⟨gn2, 3, none⟩ = some (.slice op3 nd.keep.length oc3) ∧ w'.cell? ⟨gn2, 4, none⟩ = some (.bool nd.dead) ∧ w'.cell? ⟨g1, 0, none⟩ = some (.int .i64 a) ∧ w'.cell? ⟨g1, 1, none⟩ = some (.string t) ∧ w'.cell? ⟨g1, 2, none⟩ = some (.int .i64 f) ∧ w'.cell? ⟨g1, 3, none⟩ = some (.slice pk K.length ck))) (by kernel_rfl) (HC.out _ HR.out) (fun hh0 => ?_)
    refine wpAnyH_ready (rs := [0]) (by kernel_rfl) (by simp) ?_
    refine AllReadyH.consL rfl (fun K hK => ?_) AllReadyH.nil
    go_simp
    go_at_call 9
    refine (KF.out _).mono ?_
    rintro x wx ⟨rfl, hb⟩
    replace HR := Lib.hid (HR.out.next hb)
    clear hb
    refine hK.out _ _ (HC.out _ HR.out) (fun hh1 => ?_)
    clear hK K hh0
    try simp only [Act.put, List.setIfInBounds_toArray, List.set_cons_zero, List.set_cons_succ]
    refine wpAnyH_takeL (i := 1) (v := ?r13111v1) rfl (by kernel_rfl) (by kernel_rfl) (by kernel_rfl) (fun _ _ _ h => h) (Or.inl ⟨by rfl, ?r13111y1⟩) hh1 ?_
    case r13111y1 => (intro w hSw; (try dsimp only at hSw); go_simp; try (with_reducible rfl))
    try simp only [Act.put, List.setIfInBounds_toArray, List.set_cons_zero, List.set_cons_succ]
    refine wpAnyH_takeL (i := 2) (v := ?r13111v2) rfl (by kernel_rfl) (by kernel_rfl) (by kernel_rfl) (fun _ _ _ h => h) (Or.inl ⟨by rfl, ?r13111y2⟩) hh1 ?_
    case r13111y2 => (intro w hSw; (try dsimp only at hSw); go_simp; try (with_reducible rfl))
    try simp only [Act.put, List.setIfInBounds_toArray, List.set_cons_zero, List.set_cons_succ]
    refine wpAnyH_takeL (i := 3) (v := ?r13111v3) rfl (by kernel_rfl) (by kernel_rfl) (by kernel_rfl) (fun _ _ _ h => h) (Or.inl ⟨by rfl, ?r13111y3⟩) hh1 ?_
    case r13111y3 => (intro w hSw; (try dsimp only at hSw); go_simp; try (with_reducible rfl))
    try simp only [Act.put, List.setIfInBounds_toArray, List.set_cons_zero, List.set_cons_succ]
    refine wpAnyH_takeL (i := 4) (v := ?r13111v4) rfl (by kernel_rfl) (by kernel_rfl) (by kernel_rfl) (fun _ _ _ h => h) (Or.inl ⟨by rfl, ?r13111y4⟩) hh1 ?_
    case r13111y4 => (intro w hSw; (try dsimp only at hSw); go_simp; try (with_reducible rfl))
    try simp only [Act.put, List.setIfInBounds_toArray, List.set_cons_zero, List.set_cons_succ]
    refine wpAnyH_takeL (i := 5) (v := ?r13111v5) rfl (by kernel_rfl) (by kernel_rfl) (by kernel_rfl) (fun _ _ _ h => h) (Or.inl ⟨by rfl, ?r13111y5⟩) hh1 ?_
    case r13111y5 => (intro w hSw; (try dsimp only at hSw); go_simp; try (with_reducible rfl))
    try simp only [Act.put, List.setIfInBounds_toArray, List.set_cons_zero, List.set_cons_succ]
    refine wpAnyH_takeL (i := 6) (v := ?r13111v6) rfl (by kernel_rfl) (by kernel_rfl) (by kernel_rfl) (fun _ _ _ h => h) (Or.inl ⟨by rfl, ?r13111y6⟩) hh1 ?_
    case r13111y6 => (intro w hSw; (try dsimp only at hSw); go_simp; try (with_reducible rfl))
    try simp only [Act.put, List.setIfInBounds_toArray, List.set_cons_zero, List.set_cons_succ]
    refine wpAnyH_takeL (i := 8) (v := ?r13111v8) rfl (by kernel_rfl) (by kernel_rfl) (by kernel_rfl) (fun _ _ _ h => h) (Or.inl ⟨by rfl, ?r13111y8⟩) hh1 ?_
    case r13111y8 => (intro w hSw; (try dsimp only at hSw); go_simp; try (with_reducible rfl))
    try simp only [Act.put, List.setIfInBounds_toArray, List.set_cons_zero, List.set_cons_succ]
    refine wpAnyH_takeL (i := 9) (v := ?r13111v9) rfl (by kernel_rfl) (by kernel_rfl) (by kernel_rfl) (fun _ _ _ h => h) (Or.inl ⟨by rfl, ?r13111y9⟩) hh1 ?_
    case r13111y9 => (intro w hSw; (try dsimp only at hSw); go_simp; try (with_reducible rfl))
    try simp only [Act.put, List.setIfInBounds_toArray, List.set_cons_zero, List.set_cons_succ]
    refine wpAnyH_takeL (i := 10) (v := ?r13111v10) rfl (by kernel_rfl) (by kernel_rfl) (by kernel_rfl) (fun _ _ _ h => h) (Or.inl ⟨by rfl, ?r13111y10⟩) hh1 ?_
    case r13111y10 => (intro w hSw; (try dsimp only at hSw); go_simp; try (with_reducible rfl))
    try simp only [Act.put, List.setIfInBounds_toArray, List.set_cons_zero, List.set_cons_succ]
    refine wpAnyH_takeL (i := 11) (v := ?r13111v11) rfl (by kernel_rfl) (by kernel_rfl) (by kernel_rfl) (fun _ _ _ h => h) (Or.inl ⟨by rfl, ?r13111y11⟩) hh1 ?_
    case r13111y11 => (intro w hSw; (try dsimp only at hSw); go_simp; try (with_reducible rfl))
    try simp only [Act.put, List.setIfInBounds_toArray, List.set_cons_zero, List.set_cons_succ]
    refine wpAnyH_takeL (i := 12) (v := ?r13111v12) rfl (by kernel_rfl) (by kernel_rfl) (by kernel_rfl) (fun _ _ _ h => h) (Or.inl ⟨by rfl, ?r13111y12⟩) hh1 ?_
    case r13111y12 => (intro w hSw; (try dsimp only at hSw); go_simp; try (with_reducible rfl))
    try simp only [Act.put, List.setIfInBounds_toArray, List.set_cons_zero, List.set_cons_succ]
    refine wpAnyH_ready (rs := [7]) (by kernel_rfl) (by simp) ?_
    refine AllReadyH.consL rfl (fun K hK => ?_) AllReadyH.nil
    go_simp
    go_at_call 21
    refine (KA1.out _ _ _ _ HK4.out (HDd.out _ HR.out) (HXK.out _ HR.out)).mono ?_
    rintro x wx ⟨ua, rfl, ha, hb⟩
    replace HR := Lib.hid (HR.out.next hb)
    clear hb
    refine hK.out _ _ (HC.out _ HR.out) (fun hh2 => ?_)
    clear hK K hh1
    try simp only [Act.put, List.setIfInBounds_toArray, List.set_cons_zero, List.set_cons_succ]
    refine wpAnyH_ready (rs := [13]) (by kernel_rfl) (by simp) ?_
    refine AllReadyH.consL rfl (fun K hK => ?_) AllReadyH.nil
    go_simp
    go_at_call 22
    refine (KA2.out _ _ _ _ (HDd.out _ HR.out) (HXK.out _ HR.out)).mono ?_
    rintro x wx ⟨ub, rfl, hc, hb⟩
    have QQ := Lib.hid (And.intro (ha.below hb) hc)
    clear ha hc
    replace HR := Lib.hid (HR.out.next hb)
    clear hb
    refine hK.out _ _ (HC.out _ HR.out) (fun hh3 => ?_)
    clear hK K hh2
    try simp only [Act.put, List.setIfInBounds_toArray, List.set_cons_zero, List.set_cons_succ]
    refine wpAnyH_ready (rs := [14]) (by kernel_rfl) (by simp) ?_
    refine AllReadyH.consL rfl (fun K hK => ?_) AllReadyH.nil
    go_simp
    go_at_call 18
    refine (KE.out ad _ _ _ ZA.out QQ.out.1 QQ.out.2).mono ?_
    rintro x wx ⟨rfl, hb⟩
    clear QQ
    replace HR := Lib.hid (HR.out.next hb)
    clear hb
    refine hK.out _ _ (HC.out _ HR.out) (fun hh4 => ?_)
    clear hK K hh3
    try simp only [Act.put, List.setIfInBounds_toArray, List.set_cons_zero, List.set_cons_succ]
    refine wpAnyH_takeL (i := 15) (v := ?r13111v15) rfl (by kernel_rfl) (by kernel_rfl) (by kernel_rfl) (fun _ _ _ h => h) (Or.inl ⟨by rfl, ?r13111y15⟩) hh4 ?_
    case r13111y15 => (intro w hSw; (try dsimp only at hSw); go_simp; try (with_reducible rfl))
    try simp only [Act.put, List.setIfInBounds_toArray, List.set_cons_zero, List.set_cons_succ]
    refine wpAnyH_takeL (i := 16) (v := ?r13111v16) rfl (by kernel_rfl) (by kernel_rfl) (by kernel_rfl) (fun _ _ _ h => h) (Or.inl ⟨by rfl, ?r13111y16⟩) hh4 ?_
    case r13111y16 => (intro w hSw; (try dsimp only at hSw); go_simp; try (with_reducible rfl))
    try simp only [Act.put, List.setIfInBounds_toArray, List.set_cons_zero, List.set_cons_succ]
    refine wpAnyH_takeL (i := 17) (v := ?r13111v17) rfl (by kernel_rfl) (by kernel_rfl) (by kernel_rfl) (fun _ _ _ h => h) (Or.inl ⟨by rfl, ?r13111y17⟩) hh4 ?_
    case r13111y17 => (intro w hSw; (try dsimp only at hSw); go_simp; try (with_reducible rfl))
    try simp only [Act.put, List.setIfInBounds_toArray, List.set_cons_zero, List.set_cons_succ]
    refine wpAnyH_takeL (i := 18) (v := ?r13111v18) rfl (by kernel_rfl) (by kernel_rfl) (by kernel_rfl) (fun _ _ _ h => h) (Or.inl ⟨by rfl, ?r13111y18⟩) hh4 ?_
    case r13111y18 => (intro w hSw; (try dsimp only at hSw); go_simp; try (with_reducible rfl))
    try simp only [Act.put, List.setIfInBounds_toArray, List.set_cons_zero, List.set_cons_succ]
    refine wpAnyH_takeL (i := 19) (v := ?r13111v19) rfl (by kernel_rfl) (by kernel_rfl) (by kernel_rfl) (fun _ _ _ h => h) (Or.inl ⟨by rfl, ?r13111y19⟩) hh4 ?_
    case r13111y19 => (intro w hSw; (try dsimp only at hSw); go_simp; try (with_reducible rfl))
    try simp only [Act.put, List.setIfInBounds_toArray, List.set_cons_zero, List.set_cons_succ]
    refine wpAnyH_takeL (i := 21) (v := ?r13111v21) rfl (by kernel_rfl) (by kernel_rfl) (by kernel_rfl) (fun _ _ _ h => h) (Or.inl ⟨by rfl, ?r13111y21⟩) hh4 ?_
    case r13111y21 => (intro w hSw; (try dsimp only at hSw); go_simp; try (with_reducible rfl))
    try simp only [Act.put, List.setIfInBounds_toArray, List.set_cons_zero, List.set_cons_succ]
    refine wpAnyH_takeL (i := 22) (v := ?r13111v22) rfl (by kernel_rfl) (by kernel_rfl) (by kernel_rfl) (fun _ _ _ h => h) (Or.inl ⟨by rfl, ?r13111y22⟩) hh4 ?_
    case r13111y22 => (intro w hSw; (try dsimp only at hSw); go_simp; try (with_reducible rfl))
    try simp only [Act.put, List.setIfInBounds_toArray, List.set_cons_zero, List.set_cons_succ]
    refine wpAnyH_takeL (i := 23) (v := ?r13111v23) rfl (by kernel_rfl) (by kernel_rfl) (by kernel_rfl) (fun _ _ _ h => h) (Or.inl ⟨by rfl, ?r13111y23⟩) hh4 ?_
    case r13111y23 => (intro w hSw; (try dsimp only at hSw); go_simp; try (with_reducible rfl))
    try simp only [Act.put, List.setIfInBounds_toArray, List.set_cons_zero, List.set_cons_succ]
    refine wpAnyH_ready (rs := [20]) (by kernel_rfl) (by simp) ?_
    refine AllReadyH.consL rfl (fun K hK => ?_) AllReadyH.nil
    go_simp
    go_at_call 23
    refine (KD1.out _ _ _ _ (HDd.out _ HR.out) (HXK.out _ HR.out)).mono ?_
    rintro x wx ⟨uc, rfl, ha, hb⟩
    replace HR := Lib.hid (HR.out.next hb)
    clear hb
    refine hK.out _ _ (HC.out _ HR.out) (fun hh5 => ?_)
    clear hK K hh4
    try simp only [Act.put, List.setIfInBounds_toArray, List.set_cons_zero, List.set_cons_succ]
    refine wpAnyH_ready (rs := [24]) (by kernel_rfl) (by simp) ?_
    refine AllReadyH.consL rfl (fun K hK => ?_) AllReadyH.nil
    go_simp
    go_at_call 24
    refine (KD2.out _ _ _ _ (HDd.out _ HR.out) (HXK.out _ HR.out)).mono ?_
    rintro x wx ⟨ud, rfl, hc, hb⟩
    have QQ := Lib.hid (And.intro (ha.below hb) hc)
    clear ha hc
    replace HR := Lib.hid (HR.out.next hb)
    clear hb
    refine hK.out _ _ (HC.out _ HR.out) (fun hh6 => ?_)
    clear hK K hh5
    try simp only [Act.put, List.setIfInBounds_toArray, List.set_cons_zero, List.set_cons_succ]
    refine wpAnyH_ready (rs := [25]) (by kernel_rfl) (by simp) ?_
    refine AllReadyH.consL rfl (fun K hK => ?_) AllReadyH.nil
    go_simp
    go_at_call 18
    refine (KE.out dd _ _ _ ZD.out QQ.out.1 QQ.out.2).mono ?_
    rintro x wx ⟨rfl, hb⟩
    clear QQ
    replace HR := Lib.hid (HR.out.next hb)
    clear hb
    refine hK.out _ _ (HC.out _ HR.out) (fun hh7 => ?_)
    clear hK K hh6
    try simp only [Act.put, List.setIfInBounds_toArray, List.set_cons_zero, List.set_cons_succ]
    refine wpAnyH_takeL (i := 26) (v := ?r13111v26) rfl (by kernel_rfl) (by kernel_rfl) (by kernel_rfl) (fun _ _ _ h => h) (Or.inl ⟨by rfl, ?r13111y26⟩) hh7 ?_
    case r13111y26 => (intro w hSw; (try dsimp only at hSw); go_simp; try (with_reducible rfl))
    try simp only [Act.put, List.setIfInBounds_toArray, List.set_cons_zero, List.set_cons_succ]
    refine wpAnyH_takeL (i := 27) (v := ?r13111v27) rfl (by kernel_rfl) (by kernel_rfl) (by kernel_rfl) (fun _ _ _ h => h) (Or.inl ⟨by rfl, ?r13111y27⟩) hh7 ?_
    case r13111y27 => (intro w hSw; (try dsimp only at hSw); go_simp; try (with_reducible rfl))
    try simp only [Act.put, List.setIfInBounds_toArray, List.set_cons_zero, List.set_cons_succ]
    refine wpAnyH_takeL (i := 28) (v := ?r13111v28) rfl (by kernel_rfl) (by kernel_rfl) (by kernel_rfl) (fun _ _ _ h => h) (Or.inl ⟨by rfl, ?r13111y28⟩) hh7 ?_
    case r13111y28 => (intro w hSw; (try dsimp only at hSw); go_simp; try (with_reducible rfl))
    try simp only [Act.put, List.setIfInBounds_toArray, List.set_cons_zero, List.set_cons_succ]
    refine wpAnyH_takeL (i := 30) (v := ?r13111v30) rfl (by kernel_rfl) (by kernel_rfl) (by kernel_rfl) (fun _ _ _ h => h) (Or.inl ⟨by rfl, ?r13111y30⟩) hh7 ?_
    case r13111y30 => (intro w hSw; (try dsimp only at hSw); go_simp; try (with_reducible rfl))
    try simp only [Act.put, List.setIfInBounds_toArray, List.set_cons_zero, List.set_cons_succ]
    refine wpAnyH_ready (rs := [29]) (by kernel_rfl) (by simp) ?_
    refine AllReadyH.consL rfl (fun K hK => ?_) AllReadyH.nil
    go_simp
    go_at_call 25
    refine (KV1.out _ _ (HDd.out _ HR.out)).mono ?_
    rintro x wx ⟨ue, rfl, ha, hb⟩
    replace HR := Lib.hid (HR.out.next hb)
    clear hb
    refine hK.out _ _ (HC.out _ HR.out) (fun hh8 => ?_)
    clear hK K hh7
    try simp only [Act.put, List.setIfInBounds_toArray, List.set_cons_zero, List.set_cons_succ]
    refine wpAnyH_ready (rs := [31]) (by kernel_rfl) (by simp) ?_
    refine AllReadyH.consL rfl (fun K hK => ?_) AllReadyH.nil
    go_simp
    go_at_call 26
    refine (KV2.out _ _ (HDd.out _ HR.out)).mono ?_
    rintro x wx ⟨uf, rfl, hc, hb⟩
    have QQ := Lib.hid (And.intro (ha.below hb) hc)
    clear ha hc
    replace HR := Lib.hid (HR.out.next hb)
    clear hb
    refine hK.out _ _ (HC.out _ HR.out) (fun hh9 => ?_)
    clear hK K hh8
    try simp only [Act.put, List.setIfInBounds_toArray, List.set_cons_zero, List.set_cons_succ]
    refine wpAnyH_ready (rs := [32]) (by kernel_rfl) (by simp) ?_
    refine AllReadyH.consL rfl (fun K hK => ?_) AllReadyH.nil
    go_simp
    go_at_call 18
    refine (KE.out rd _ _ _ ZV.out QQ.out.1 QQ.out.2).mono ?_
    rintro x wx ⟨rfl, hb⟩
    clear QQ
    replace HR := Lib.hid (HR.out.next hb)
    clear hb
    refine hK.out _ _ (HC.out _ HR.out) (fun hh10 => ?_)
    clear hK K hh9
    try simp only [Act.put, List.setIfInBounds_toArray, List.set_cons_zero, List.set_cons_succ]
    refine wpAnyH_takeL (i := 33) (v := ?r13111v33) rfl (by kernel_rfl) (by kernel_rfl) (by kernel_rfl) (fun _ _ _ h => h) (Or.inl ⟨by rfl, ?r13111y33⟩) hh10 ?_
    case r13111y33 => (intro w hSw; (try dsimp only at hSw); go_simp; try (with_reducible rfl))
    try simp only [Act.put, List.setIfInBounds_toArray, List.set_cons_zero, List.set_cons_succ]
    refine wpAnyH_takeL (i := 34) (v := ?r13111v34) rfl (by kernel_rfl) (by kernel_rfl) (by kernel_rfl) (fun _ _ _ h => h) (Or.inl ⟨by rfl, ?r13111y34⟩) hh10 ?_
    case r13111y34 => (intro w hSw; (try dsimp only at hSw); go_simp; try (with_reducible rfl))
    try simp only [Act.put, List.setIfInBounds_toArray, List.set_cons_zero, List.set_cons_succ]
    refine wpAnyH_takeL (i := 35) (v := ?r13111v35) rfl (by kernel_rfl) (by kernel_rfl) (by kernel_rfl) (fun _ _ _ h => h) (Or.inl ⟨by rfl, ?r13111y35⟩) hh10 ?_
    case r13111y35 => (intro w hSw; (try dsimp only at hSw); go_simp; try (with_reducible rfl))
    try simp only [Act.put, List.setIfInBounds_toArray, List.set_cons_zero, List.set_cons_succ]
    refine wpAnyH_takeL (i := 36) (v := ?r13111v36) rfl (by kernel_rfl) (by kernel_rfl) (by kernel_rfl) (fun _ _ _ h => h) (Or.inl ⟨by rfl, ?r13111y36⟩) hh10 ?_
    case r13111y36 => (intro w hSw; (try dsimp only at hSw); go_simp; try (with_reducible rfl))
    try simp only [Act.put, List.setIfInBounds_toArray, List.set_cons_zero, List.set_cons_succ]
    refine wpAnyH_takeL (i := 37) (v := ?r13111v37) rfl (by kernel_rfl) (by kernel_rfl) (by kernel_rfl) (fun _ _ _ h => h) (Or.inl ⟨by rfl, ?r13111y37⟩) hh10 ?_
    case r13111y37 => (intro w hSw; (try dsimp only at hSw); go_simp; try (with_reducible rfl))
    try simp only [Act.put, List.setIfInBounds_toArray, List.set_cons_zero, List.set_cons_succ]
    refine wpAnyH_takeL (i := 38) (v := ?r13111v38) rfl (by kernel_rfl) (by kernel_rfl) (by kernel_rfl) (fun _ _ _ h => h) (Or.inl ⟨by rfl, ?r13111y38⟩) hh10 ?_
    case r13111y38 => (intro w hSw; (try dsimp only at hSw); go_simp; try (with_reducible rfl))
    try simp only [Act.put, List.setIfInBounds_toArray, List.set_cons_zero, List.set_cons_succ]
    refine wpAnyH_takeL (i := 39) (v := ?r13111v39) rfl (by kernel_rfl) (by kernel_rfl) (by kernel_rfl) (fun _ _ _ h => h) (Or.inl ⟨by rfl, ?r13111y39⟩) hh10 ?_
    case r13111y39 => (intro w hSw; (try dsimp only at hSw); go_simp; try (with_reducible rfl))
    try simp only [Act.put, List.setIfInBounds_toArray, List.set_cons_zero, List.set_cons_succ]
    refine wpAnyH_takeL (i := 40) (v := ?r13111v40) rfl (by kernel_rfl) (by kernel_rfl) (by kernel_rfl) (fun _ _ _ h => h) (Or.inl ⟨by rfl, ?r13111y40⟩) hh10 ?_
    case r13111y40 => (intro w hSw; (try dsimp only at hSw); go_simp; try (with_reducible rfl))
    try simp only [Act.put, List.setIfInBounds_toArray, List.set_cons_zero, List.set_cons_succ]
    refine wpAnyH_ready (rs := [41]) (by kernel_rfl) (by simp) ?_
    refine AllReadyH.consL rfl (fun K hK => ?_) AllReadyH.nil
    go_simp
    go_at_call 18
    refine (KE.out nd _ _ _ ZN.out (HDn.out _ HR.out) (HDo.out _ HR.out)).mono ?_
    rintro x wx ⟨rfl, hb⟩
    replace HR := Lib.hid (HR.out.next hb)
    clear hb
    refine hK.out _ _ (HC.out _ HR.out) (fun hh11 => ?_)
    clear hK K hh10
    try simp only [Act.put, List.setIfInBounds_toArray, List.set_cons_zero, List.set_cons_succ]
    refine wpAnyH_takeL (i := 42) (v := ?r13111v42) rfl (by kernel_rfl) (by kernel_rfl) (by kernel_rfl) (fun _ _ _ h => h) (Or.inl ⟨by rfl, ?r13111y42⟩) hh11 ?_
    case r13111y42 => (intro w hSw; (try dsimp only at hSw); go_simp; try (with_reducible rfl))
    try simp only [Act.put, List.setIfInBounds_toArray, List.set_cons_zero, List.set_cons_succ]
    refine wpAnyH_takeL (i := 43) (v := ?r13111v43) rfl (by kernel_rfl) (by kernel_rfl) (by kernel_rfl) (fun _ _ _ h => h) (Or.inl ⟨by rfl, ?r13111y43⟩) hh11 ?_
    case r13111y43 => (intro w hSw; (try dsimp only at hSw); go_simp; try (with_reducible rfl))
    try simp only [Act.put, List.setIfInBounds_toArray, List.set_cons_zero, List.set_cons_succ]
    refine wpAnyH_takeL (i := 44) (v := ?r13111v44) rfl (by kernel_rfl) (by kernel_rfl) (by kernel_rfl) (fun _ _ _ h => h) (Or.inl ⟨by rfl, ?r13111y44⟩) hh11 ?_
    case r13111y44 => (intro w hSw; (try dsimp only at hSw); go_simp; try (with_reducible rfl))
    try simp only [Act.put, List.setIfInBounds_toArray, List.set_cons_zero, List.set_cons_succ]
    refine wpAnyH_takeL (i := 45) (v := ?r13111v45) rfl (by kernel_rfl) (by kernel_rfl) (by kernel_rfl) (fun _ _ _ h => h) (Or.inl ⟨by rfl, ?r13111y45⟩) hh11 ?_
    case r13111y45 => (intro w hSw; (try dsimp only at hSw); go_simp; try (with_reducible rfl))
    try simp only [Act.put, List.setIfInBounds_toArray, List.set_cons_zero, List.set_cons_succ]
    refine wpAnyH_takeL (i := 46) (v := ?r13111v46) rfl (by kernel_rfl) (by kernel_rfl) (by kernel_rfl) (fun _ _ _ h => h) (Or.inl ⟨by rfl, ?r13111y46⟩) hh11 ?_
    case r13111y46 => (intro w hSw; (try dsimp only at hSw); go_simp; try (with_reducible rfl))
    try simp only [Act.put, List.setIfInBounds_toArray, List.set_cons_zero, List.set_cons_succ]
    refine wpAnyH_takeL (i := 47) (v := ?r13111v47) rfl (by kernel_rfl) (by kernel_rfl) (by kernel_rfl) (fun _ _ _ h => h) (Or.inl ⟨by rfl, ?r13111y47⟩) hh11 ?_
    case r13111y47 => (intro w hSw; (try dsimp only at hSw); go_simp; try (with_reducible rfl))
    try simp only [Act.put, List.setIfInBounds_toArray, List.set_cons_zero, List.set_cons_succ]
    refine wpAnyH_takeL (i := 48) (v := ?r13111v48) rfl (by kernel_rfl) (by kernel_rfl) (by kernel_rfl) (fun _ _ _ h => h) (Or.inl ⟨by rfl, ?r13111y48⟩) hh11 ?_
    case r13111y48 => (intro w hSw; (try dsimp only at hSw); go_simp; try (with_reducible rfl))
    try simp only [Act.put, List.setIfInBounds_toArray, List.set_cons_zero, List.set_cons_succ]
    refine wpAnyH_takeL (i := 49) (v := ?r13111v49) rfl (by kernel_rfl) (by kernel_rfl) (by kernel_rfl) (fun _ _ _ h => h) (Or.inl ⟨by rfl, ?r13111y49⟩) hh11 ?_
    case r13111y49 => (intro w hSw; (try dsimp only at hSw); go_simp; try (with_reducible rfl))
    try simp only [Act.put, List.setIfInBounds_toArray, List.set_cons_zero, List.set_cons_succ]
    refine wpAnyH_done (by kernel_rfl) ?_ _
    clear hh11
    all_goals (go_wp2; go_ret; exact ⟨rfl, HB.out.next HR.out⟩)
end Go.Proofs.Ytaamjamcnnalbaa.Dv

