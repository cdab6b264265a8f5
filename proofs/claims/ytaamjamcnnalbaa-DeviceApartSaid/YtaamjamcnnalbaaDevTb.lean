/-
  The laws of disks that are not small: fixed calls alone; the laws of any disk.
-/
import Derived.Test.YtaamjamcnnalbaaDevOf
import Derived.Test.YtaamjamcnnalbaaDevTf
import Derived.Test.YtaamjamcnnalbaaDevTa
import Derived.Test.YtaamjamcnnalbaaDevTw
namespace Go.Proofs.Ytaamjamcnnalbaa.Dv
set_option maxRecDepth 100000
open Go.RowKit Go.Lib
set_option maxHeartbeats 4000000 in
theorem tells_big (S : SpecD) (d : Dsk) (v : Value) (hs : smallD d = false) (a : Int) (s : ByteArray) (f : Int) (K : List Bool) (pk : Option Addr) (ck : Nat) (w : World) (h : DLie w v d) (hK : FlagsLie w pk K ck) :
    Calls Try.prog 3 #[v, .agg #[.int .i64 a, .string s, .int .i64 f, .slice pk K.length ck]] w fun x w' => x = .returned (.bool true) ∧ Below w.heap.size w w' := by
  have KF : Hid (∀ w, Calls Try.prog 9 #[] w fun x w' => x = .returned (.bool true) ∧ Below w.heap.size w w') := Lib.hid fun w => fixed_any S w
  have KS : Hid (∀ v w, DLie w v d → Calls Try.prog 8 #[v] w fun x w' => x = .returned (.bool false) ∧ Below w.heap.size w w') := Lib.hid fun v w h => by
    have := small_doc d v w h
    rw [hs] at this
    exact this
  clear hs
  obtain ⟨p0, c0, p1, c1, p3, c3, rfl, hv⟩ := h.val
  have hV := Var.new hv
  have b1 := (Below.refl w.heap.size w).alloc (Nat.le_refl _) (.cells #[.slice p0 d.kept.length c0, .slice p1 d.cache.length c1, .int .i64 d.fuse, .slice p3 d.keep.length c3, .bool d.dead] 26)
  generalize hw1 : w.alloc (.cells #[.slice p0 d.kept.length c0, .slice p1 d.cache.length c1, .int .i64 d.fuse, .slice p3 d.keep.length c3, .bool d.dead] 26) = w1 at *
  obtain ⟨g0, hg0⟩ : ∃ g, g = w.heap.size := ⟨_, rfl⟩
  have VD := Lib.hid hV
  have HB := Lib.hid b1
  have HG0 := Lib.hid hg0
  clear hV b1 hv hg0
  have hX := PVar.new (a := a) (t := s) (f := f) (hK.below HB.out)
  have b2 := Lib.hid ((Below.refl w1.heap.size w1).alloc (Nat.le_refl _) (.cells #[.int .i64 a, .string s, .int .i64 f, .slice pk K.length ck] 28))
  generalize hw2 : w1.alloc (.cells #[.int .i64 a, .string s, .int .i64 f, .slice pk K.length ck] 28) = w2 at *
  obtain ⟨g1, hg⟩ : ∃ g, g = w1.heap.size := ⟨_, rfl⟩
  have VX := Lib.hid hX
  have HG1 := Lib.hid hg
  clear hX hg
  replace VD := Lib.hid (VD.out.below b2.out)
  replace HB := Lib.hid (HB.out.next b2.out)
  clear b2
  clear h hK
  go_enter Try.func3, Try.ntmps3
  obtain ⟨dp0, dc0, dp1, dc1, dp3, dc3, ⟨du0, du1, du2, du3, du4⟩, dE⟩ := VD.out.opened
  have k1 := KS.out _ _ dE
  go_wp2_with fail
  clear dE du0 du1 du2 du3 du4
  rw [← HG0.out] at VD ⊢
  rw [← HG1.out] at VX ⊢
  clear HG0 HG1 hw1 hw2
  go_at_call 8
  refine (k1).mono ?_
  rintro x wk1 ⟨rfl, hb⟩
  replace VD := Lib.hid (VD.out.below hb)
  replace VX := Lib.hid (VX.out.below hb)
  replace HB := Lib.hid (HB.out.next hb)
  clear hb
  clear k1 KS
  go_wp2_with fail
  go_at_call 9
  refine (KF.out _).mono ?_
  rintro x wz ⟨rfl, hb⟩
  go_wp2
  go_ret
  exact ⟨rfl, HB.out.next hb⟩
set_option maxHeartbeats 4000000 in
theorem writes_big (S : SpecD) (d : Dsk) (v : Value) (hs : smallD d = false) (a : Int) (s : ByteArray) (f : Int) (K : List Bool) (pk : Option Addr) (ck : Nat) (o : Int) (w : World) (h : DLie w v d) (hK : FlagsLie w pk K ck) :
    Calls Try.prog 4 #[v, .agg #[.int .i64 a, .string s, .int .i64 f, .slice pk K.length ck], .int .i64 o] w fun x w' => x = .returned (.bool true) ∧ Below w.heap.size w w' := by
  have KF : Hid (∀ w, Calls Try.prog 9 #[] w fun x w' => x = .returned (.bool true) ∧ Below w.heap.size w w') := Lib.hid fun w => fixed_any S w
  have KS : Hid (∀ v w, DLie w v d → Calls Try.prog 8 #[v] w fun x w' => x = .returned (.bool false) ∧ Below w.heap.size w w') := Lib.hid fun v w h => by
    have := small_doc d v w h
    rw [hs] at this
    exact this
  clear hs
  obtain ⟨p0, c0, p1, c1, p3, c3, rfl, hv⟩ := h.val
  have hV := Var.new hv
  have b1 := (Below.refl w.heap.size w).alloc (Nat.le_refl _) (.cells #[.slice p0 d.kept.length c0, .slice p1 d.cache.length c1, .int .i64 d.fuse, .slice p3 d.keep.length c3, .bool d.dead] 26)
  generalize hw1 : w.alloc (.cells #[.slice p0 d.kept.length c0, .slice p1 d.cache.length c1, .int .i64 d.fuse, .slice p3 d.keep.length c3, .bool d.dead] 26) = w1 at *
  obtain ⟨g0, hg0⟩ : ∃ g, g = w.heap.size := ⟨_, rfl⟩
  have VD := Lib.hid hV
  have HB := Lib.hid b1
  have HG0 := Lib.hid hg0
  clear hV b1 hv hg0
  have hX := PVar.new (a := a) (t := s) (f := f) (hK.below HB.out)
  have b2 := Lib.hid ((Below.refl w1.heap.size w1).alloc (Nat.le_refl _) (.cells #[.int .i64 a, .string s, .int .i64 f, .slice pk K.length ck] 28))
  generalize hw2 : w1.alloc (.cells #[.int .i64 a, .string s, .int .i64 f, .slice pk K.length ck] 28) = w2 at *
  obtain ⟨g1, hg⟩ : ∃ g, g = w1.heap.size := ⟨_, rfl⟩
  have VX := Lib.hid hX
  have HG1 := Lib.hid hg
  clear hX hg
  replace VD := Lib.hid (VD.out.below b2.out)
  replace HB := Lib.hid (HB.out.next b2.out)
  clear b2
  clear h hK
  go_enter Try.func4, Try.ntmps4
  go_wp2_with fail
  rw [← HG0.out] at VD ⊢
  rw [← HG1.out] at VX ⊢
  clear HG0 HG1 hw1 hw2
  go_at_call 9
  refine (KF.out _).mono ?_
  rintro x wk1 ⟨rfl, hb⟩
  replace VD := Lib.hid (VD.out.below hb)
  replace VX := Lib.hid (VX.out.below hb)
  replace HB := Lib.hid (HB.out.next hb)
  clear hb
  obtain ⟨dp0, dc0, dp1, dc1, dp3, dc3, ⟨du0, du1, du2, du3, du4⟩, dE⟩ := VD.out.opened
  have k1 := KS.out _ _ dE
  go_wp2_with fail
  clear dE du0 du1 du2 du3 du4
  go_at_call 8
  refine (k1).mono ?_
  rintro x wk2 ⟨rfl, hb⟩
  replace VD := Lib.hid (VD.out.below hb)
  replace VX := Lib.hid (VX.out.below hb)
  replace HB := Lib.hid (HB.out.next hb)
  clear hb
  clear k1 KS
  go_wp2_with fail
  go_at_call 9
  refine (KF.out _).mono ?_
  rintro x wz ⟨rfl, hb⟩
  go_wp2
  go_ret
  exact ⟨rfl, HB.out.next hb⟩
set_option maxHeartbeats 4000000 in
theorem keeps_big (S : SpecD) (d : Dsk) (v : Value) (hs : smallD d = false) (K : List Bool) (pk : Option Addr) (ck : Nat) (w : World) (h : DLie w v d)  :
    Calls Try.prog 5 #[v, .slice pk K.length ck] w fun x w' => x = .returned (.bool true) ∧ Below w.heap.size w w' := by
  have KF : Hid (∀ w, Calls Try.prog 9 #[] w fun x w' => x = .returned (.bool true) ∧ Below w.heap.size w w') := Lib.hid fun w => fixed_any S w
  have KS : Hid (∀ v w, DLie w v d → Calls Try.prog 8 #[v] w fun x w' => x = .returned (.bool false) ∧ Below w.heap.size w w') := Lib.hid fun v w h => by
    have := small_doc d v w h
    rw [hs] at this
    exact this
  clear hs
  obtain ⟨p0, c0, p1, c1, p3, c3, rfl, hv⟩ := h.val
  have hV := Var.new hv
  have b1 := (Below.refl w.heap.size w).alloc (Nat.le_refl _) (.cells #[.slice p0 d.kept.length c0, .slice p1 d.cache.length c1, .int .i64 d.fuse, .slice p3 d.keep.length c3, .bool d.dead] 26)
  generalize hw1 : w.alloc (.cells #[.slice p0 d.kept.length c0, .slice p1 d.cache.length c1, .int .i64 d.fuse, .slice p3 d.keep.length c3, .bool d.dead] 26) = w1 at *
  obtain ⟨g0, hg0⟩ : ∃ g, g = w.heap.size := ⟨_, rfl⟩
  have VD := Lib.hid hV
  have HB := Lib.hid b1
  have HG0 := Lib.hid hg0
  clear hV b1 hv hg0
  clear h
  go_enter Try.func5, Try.ntmps5
  go_wp2_with fail
  rw [← HG0.out] at VD ⊢
  clear HG0 hw1
  go_at_call 9
  refine (KF.out _).mono ?_
  rintro x wk1 ⟨rfl, hb⟩
  replace VD := Lib.hid (VD.out.below hb)
  replace HB := Lib.hid (HB.out.next hb)
  clear hb
  obtain ⟨dp0, dc0, dp1, dc1, dp3, dc3, ⟨du0, du1, du2, du3, du4⟩, dE⟩ := VD.out.opened
  have k1 := KS.out _ _ dE
  go_wp2_with fail
  clear dE du0 du1 du2 du3 du4
  go_at_call 8
  refine (k1).mono ?_
  rintro x wk2 ⟨rfl, hb⟩
  replace VD := Lib.hid (VD.out.below hb)
  replace HB := Lib.hid (HB.out.next hb)
  clear hb
  clear k1 KS
  go_wp2_with fail
  go_at_call 9
  refine (KF.out _).mono ?_
  rintro x wz ⟨rfl, hb⟩
  go_wp2
  go_ret
  exact ⟨rfl, HB.out.next hb⟩
set_option maxHeartbeats 4000000 in
theorem apart_big (S : SpecD) (d : Dsk) (v : Value) (hs : smallD d = false) (a : Int) (s : ByteArray) (f : Int) (K : List Bool) (pk : Option Addr) (ck : Nat) (b : Int) (t : ByteArray) (f2 : Int) (K2 : List Bool) (pk2 : Option Addr) (ck2 : Nat) (w : World) (h : DLie w v d) (hK : FlagsLie w pk K ck) (hK2 : FlagsLie w pk2 K2 ck2) :
    Calls Try.prog 7 #[v, .agg #[.int .i64 a, .string s, .int .i64 f, .slice pk K.length ck], .agg #[.int .i64 b, .string t, .int .i64 f2, .slice pk2 K2.length ck2]] w fun x w' => x = .returned (.bool true) ∧ Below w.heap.size w w' := by
  have KF : Hid (∀ w, Calls Try.prog 9 #[] w fun x w' => x = .returned (.bool true) ∧ Below w.heap.size w w') := Lib.hid fun w => fixed_any S w
  have KS : Hid (∀ v w, DLie w v d → Calls Try.prog 8 #[v] w fun x w' => x = .returned (.bool false) ∧ Below w.heap.size w w') := Lib.hid fun v w h => by
    have := small_doc d v w h
    rw [hs] at this
    exact this
  clear hs
  obtain ⟨p0, c0, p1, c1, p3, c3, rfl, hv⟩ := h.val
  have hV := Var.new hv
  have b1 := (Below.refl w.heap.size w).alloc (Nat.le_refl _) (.cells #[.slice p0 d.kept.length c0, .slice p1 d.cache.length c1, .int .i64 d.fuse, .slice p3 d.keep.length c3, .bool d.dead] 26)
  generalize hw1 : w.alloc (.cells #[.slice p0 d.kept.length c0, .slice p1 d.cache.length c1, .int .i64 d.fuse, .slice p3 d.keep.length c3, .bool d.dead] 26) = w1 at *
  obtain ⟨g0, hg0⟩ : ∃ g, g = w.heap.size := ⟨_, rfl⟩
  have VD := Lib.hid hV
  have HB := Lib.hid b1
  have HG0 := Lib.hid hg0
  clear hV b1 hv hg0
  have hX := PVar.new (a := a) (t := s) (f := f) (hK.below HB.out)
  have b2 := Lib.hid ((Below.refl w1.heap.size w1).alloc (Nat.le_refl _) (.cells #[.int .i64 a, .string s, .int .i64 f, .slice pk K.length ck] 28))
  generalize hw2 : w1.alloc (.cells #[.int .i64 a, .string s, .int .i64 f, .slice pk K.length ck] 28) = w2 at *
  obtain ⟨g1, hg⟩ : ∃ g, g = w1.heap.size := ⟨_, rfl⟩
  have VX := Lib.hid hX
  have HG1 := Lib.hid hg
  clear hX hg
  replace VD := Lib.hid (VD.out.below b2.out)
  replace HB := Lib.hid (HB.out.next b2.out)
  clear b2
  have hX := PVar.new (a := b) (t := t) (f := f2) (hK2.below HB.out)
  have b2 := Lib.hid ((Below.refl w2.heap.size w2).alloc (Nat.le_refl _) (.cells #[.int .i64 b, .string t, .int .i64 f2, .slice pk2 K2.length ck2] 28))
  generalize hw3 : w2.alloc (.cells #[.int .i64 b, .string t, .int .i64 f2, .slice pk2 K2.length ck2] 28) = w3 at *
  obtain ⟨g2, hg⟩ : ∃ g, g = w2.heap.size := ⟨_, rfl⟩
  have VY := Lib.hid hX
  have HG2 := Lib.hid hg
  clear hX hg
  replace VD := Lib.hid (VD.out.below b2.out)
  replace VX := Lib.hid (VX.out.below b2.out)
  replace HB := Lib.hid (HB.out.next b2.out)
  clear b2
  clear h hK hK2
  go_enter Try.func7, Try.ntmps7
  go_wp2_with fail
  rw [← HG0.out] at VD ⊢
  rw [← HG1.out] at VX ⊢
  rw [← HG2.out] at VY ⊢
  clear HG0 HG1 HG2 hw1 hw2 hw3
  go_at_call 9
  refine (KF.out _).mono ?_
  rintro x wk1 ⟨rfl, hb⟩
  replace VD := Lib.hid (VD.out.below hb)
  replace VX := Lib.hid (VX.out.below hb)
  replace VY := Lib.hid (VY.out.below hb)
  replace HB := Lib.hid (HB.out.next hb)
  clear hb
  obtain ⟨dp0, dc0, dp1, dc1, dp3, dc3, ⟨du0, du1, du2, du3, du4⟩, dE⟩ := VD.out.opened
  have k1 := KS.out _ _ dE
  go_wp2_with fail
  clear dE du0 du1 du2 du3 du4
  go_at_call 8
  refine (k1).mono ?_
  rintro x wk2 ⟨rfl, hb⟩
  replace VD := Lib.hid (VD.out.below hb)
  replace VX := Lib.hid (VX.out.below hb)
  replace VY := Lib.hid (VY.out.below hb)
  replace HB := Lib.hid (HB.out.next hb)
  clear hb
  clear k1 KS
  go_wp2_with fail
  go_at_call 9
  refine (KF.out _).mono ?_
  rintro x wz ⟨rfl, hb⟩
  go_wp2
  go_ret
  exact ⟨rfl, HB.out.next hb⟩
/-! ### any disk -/
theorem tells_all (S : SpecD) (d : Dsk) (v : Value) (h1 : -9223372036854775808 ≤ d.fuse) (h2 : d.fuse ≤ 9223372036854775807) (a : Int) (s : ByteArray) (f : Int) (K : List Bool) (pk : Option Addr) (ck : Nat) (ha : -9223372036854775808 ≤ a ∧ a ≤ 9223372036854775807) (hf : -9223372036854775808 ≤ f ∧ f ≤ 9223372036854775807) (w : World) (h : DLie w v d) (hK : FlagsLie w pk K ck) :
    Calls Try.prog 3 #[v, .agg #[.int .i64 a, .string s, .int .i64 f, .slice pk K.length ck]] w fun x w' => x = .returned (.bool true) ∧ Below w.heap.size w w' := by
  cases hs : smallD d with
  | true => exact tells_any S d v (sized_small hs h1 h2) a ha s f hf K pk ck w h hK
  | false => exact tells_big S d v hs a s f K pk ck w h hK
theorem writes_all (S : SpecD) (d : Dsk) (v : Value) (h1 : -9223372036854775808 ≤ d.fuse) (h2 : d.fuse ≤ 9223372036854775807) (a : Int) (s : ByteArray) (f : Int) (K : List Bool) (pk : Option Addr) (ck : Nat) (ha : -9223372036854775808 ≤ a ∧ a ≤ 9223372036854775807) (o : Int) (ho : -9223372036854775808 ≤ o ∧ o ≤ 9223372036854775807) (w : World) (h : DLie w v d) (hK : FlagsLie w pk K ck) :
    Calls Try.prog 4 #[v, .agg #[.int .i64 a, .string s, .int .i64 f, .slice pk K.length ck], .int .i64 o] w fun x w' => x = .returned (.bool true) ∧ Below w.heap.size w w' := by
  cases hs : smallD d with
  | true => exact writes_any S d v (sized_small hs h1 h2) a ha s f K pk ck o ho w h hK
  | false => exact writes_big S d v hs a s f K pk ck o w h hK
theorem keeps_all (S : SpecD) (d : Dsk) (v : Value) (h1 : -9223372036854775808 ≤ d.fuse) (h2 : d.fuse ≤ 9223372036854775807) (K : List Bool) (pk : Option Addr) (ck : Nat) (w : World) (h : DLie w v d) (hK : FlagsLie w pk K ck) :
    Calls Try.prog 5 #[v, .slice pk K.length ck] w fun x w' => x = .returned (.bool true) ∧ Below w.heap.size w w' := by
  cases hs : smallD d with
  | true => exact keeps_any S d v (sized_small hs h1 h2) K pk ck w h hK
  | false => exact keeps_big S d v hs K pk ck w h
theorem apart_all (S : SpecD) (d : Dsk) (v : Value) (h1 : -9223372036854775808 ≤ d.fuse) (h2 : d.fuse ≤ 9223372036854775807) (a : Int) (s : ByteArray) (f : Int) (K : List Bool) (pk : Option Addr) (ck : Nat) (ha : -9223372036854775808 ≤ a ∧ a ≤ 9223372036854775807) (b : Int) (t : ByteArray) (f2 : Int) (K2 : List Bool) (pk2 : Option Addr) (ck2 : Nat) (hb : -9223372036854775808 ≤ b ∧ b ≤ 9223372036854775807) (w : World) (h : DLie w v d) (hK : FlagsLie w pk K ck) (hK2 : FlagsLie w pk2 K2 ck2) :
    Calls Try.prog 7 #[v, .agg #[.int .i64 a, .string s, .int .i64 f, .slice pk K.length ck], .agg #[.int .i64 b, .string t, .int .i64 f2, .slice pk2 K2.length ck2]] w fun x w' => x = .returned (.bool true) ∧ Below w.heap.size w w' := by
  cases hs : smallD d with
  | true => exact apart_any S d v (sized_small hs h1 h2) a ha s f K pk ck b hb t f2 K2 pk2 ck2 w h hK hK2
  | false => exact apart_big S d v hs a s f K pk ck b t f2 K2 pk2 ck2 w h hK hK2
end Go.Proofs.Ytaamjamcnnalbaa.Dv

