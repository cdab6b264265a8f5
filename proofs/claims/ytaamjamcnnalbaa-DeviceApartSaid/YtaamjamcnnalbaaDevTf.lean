/-
  The law DeviceFuse, from what package device owes.
-/
import Derived.Test.YtaamjamcnnalbaaDevTl
import Derived.Test.YtaamjamcnnalbaaDevMf
import Derived.Deep.CutRange
import Derived.Deep.DeepCutAuto
namespace Go.Proofs.Ytaamjamcnnalbaa.Dv
set_option maxRecDepth 100000
open Go.RowKit Go.Lib
/-- a block that holds a disk's five cells, none of them a text -/
structure Five (w : World) (g : Nat) : Prop where
  heap : ∃ a0 n0 c0 a1 n1 c1 i a3 n3 c3 b, w.heap[g]? = some (.cells #[.slice a0 n0 c0, .slice a1 n1 c1, .int .i64 i, .slice a3 n3 c3, .bool b] 26 (0, 0))
theorem Five.no_text {w : World} {g : Nat} (h : Five w g) (o : Nat) (s : ByteArray) : w.cell? ⟨g, o, none⟩ ≠ some (.string s) := by
  obtain ⟨_, _, _, _, _, _, _, _, _, _, _, h⟩ := h.heap
  rw [cell_of_row w g o _ 26 (0, 0) h]
  match o with
  | 0 | 1 | 2 | 3 | 4 => simp
  | n + 5 => simp
theorem Five.texts {w : World} {g : Nat} (hz : Five w g) {q : Option Addr} {L : List ByteArray} {c : Nat} (h : SLie strS w q L c) : ∀ blk off, q = some ⟨blk, off, none⟩ → L ≠ [] → blk ≠ g := by
  intro blk off e hl eb
  subst eb
  have hi : 0 < L.length := List.length_pos_iff.2 hl
  obtain ⟨b', o', e', hk⟩ := h.at hi
  rw [e] at e'
  cases e'
  exact hz.no_text _ _ (hk 0 hi 0 (.string L[0]) rfl)
theorem Five.puts {w : World} {g : Nat} (hz : Five w g) {q : Option Addr} {L : List (Int × ByteArray)} {c : Nat} (h : SLie putS w q L c) : ∀ blk off, q = some ⟨blk, off, none⟩ → L ≠ [] → blk ≠ g := by
  intro blk off e hl eb
  subst eb
  have hi : 0 < L.length := List.length_pos_iff.2 hl
  obtain ⟨b', o', e', hk⟩ := h.at hi
  rw [e] at e'
  cases e'
  exact hz.no_text _ _ (hk 0 hi 1 (.string L[0].2) rfl)
theorem Five.res {w : World} {g : Nat} (h : Five w g) : Res w g := by
  obtain ⟨a0, n0, c0, a1, n1, c1, i, a3, n3, c3, b, h⟩ := h.heap
  exact ⟨_, _, _, _, _, h⟩
/-- a value is kept over a store into a block of five, in which its Keep does not lie -/
theorem KV.put {P : Nat → Prop} {w : World} {g : Nat} (hz : Five w g) {v : Value} {d : Dsk} (h : KV P w v d) (hP : ∀ b, P b → b ≠ g) (a0 a1 a2 a3 a4 : Value) : KV P (put5 w g a0 a1 a2 a3 a4) v d := by
  obtain ⟨p0, c0, p1, c1, p3, c3, e, h0, h1, h3, h4⟩ := h
  refine ⟨p0, c0, p1, c1, p3, c3, e, slie_same h0 (fun b off e hl => put5_other _ _ _ _ _ _ _ _ (hz.texts h0 b off e hl)), slie_same h1 (fun b off e hl => put5_other _ _ _ _ _ _ _ _ (hz.puts h1 b off e hl)), ?_, h4⟩
  rcases h4 with hk | ⟨b, o, e3, hp⟩
  · exact ⟨h3.len, h3.cap, .inl hk⟩
  · refine ⟨h3.len, h3.cap, ?_⟩
    by_cases hk : d.keep = []
    · exact .inl hk
    · obtain ⟨b2, o2, e4, hc⟩ := h3.at (i := 0) (List.length_pos_iff.2 hk)
      refine .inr ⟨b2, o2, e4, fun i hi => ?_⟩
      rw [e3] at e4
      cases e4
      rw [cell_same (put5_other _ _ _ _ _ _ _ _ (hP _ hp))]
      exact hc i hi
theorem KV.opened {P : Nat → Prop} {w : World} {v : Value} {d : Dsk} (h : KV P w v d) : ∃ p0 c0 p1 c1 p3 c3, v = .agg #[.slice p0 d.kept.length c0, .slice p1 d.cache.length c1, .int .i64 d.fuse, .slice p3 d.keep.length c3, .bool d.dead] ∧ KV P w (.agg #[.slice p0 d.kept.length c0, .slice p1 d.cache.length c1, .int .i64 d.fuse, .slice p3 d.keep.length c3, .bool d.dead]) d := by
  obtain ⟨p0, c0, p1, c1, p3, c3, rfl, h⟩ := h
  exact ⟨p0, c0, p1, c1, p3, c3, rfl, p0, c0, p1, c1, p3, c3, rfl, h⟩
/-- a variable that holds a disk, whose Keep lies where P says -/
def VarK (P : Nat → Prop) (w : World) (g : Nat) (d : Dsk) : Prop := ∃ p0 c0 p1 c1 p3 c3, w.heap[g]? = some (.cells #[.slice p0 d.kept.length c0, .slice p1 d.cache.length c1, .int .i64 d.fuse, .slice p3 d.keep.length c3, .bool d.dead] 26 (0, 0)) ∧
  KV P w (.agg #[.slice p0 d.kept.length c0, .slice p1 d.cache.length c1, .int .i64 d.fuse, .slice p3 d.keep.length c3, .bool d.dead]) d
theorem VarK.below {P : Nat → Prop} {w w' : World} {g : Nat} {d : Dsk} (h : VarK P w g d) (hb : Below w.heap.size w w') : VarK P w' g d := by
  obtain ⟨p0, c0, p1, c1, p3, c3, e, hd⟩ := h
  exact ⟨p0, c0, p1, c1, p3, c3, (hb.block _ (Array.getElem?_eq_some_iff.1 e).1).trans e, hd.below hb⟩
theorem VarK.lt {P : Nat → Prop} {w : World} {g : Nat} {d : Dsk} (h : VarK P w g d) : g < w.heap.size := by
  obtain ⟨p0, c0, p1, c1, p3, c3, e, hd⟩ := h
  exact (Array.getElem?_eq_some_iff.1 e).1
theorem VarK.five {P : Nat → Prop} {w : World} {g : Nat} {d : Dsk} (h : VarK P w g d) : Five w g := by
  obtain ⟨p0, c0, p1, c1, p3, c3, e, hd⟩ := h
  exact ⟨_, _, _, _, _, _, _, _, _, _, _, e⟩
theorem VarK.opened {P : Nat → Prop} {w : World} {g : Nat} {d : Dsk} (h : VarK P w g d) : ∃ p0 c0 p1 c1 p3 c3, (w.cell? ⟨g, 0, none⟩ = some (.slice p0 d.kept.length c0) ∧ w.cell? ⟨g, 1, none⟩ = some (.slice p1 d.cache.length c1) ∧ w.cell? ⟨g, 2, none⟩ = some (.int .i64 d.fuse) ∧ w.cell? ⟨g, 3, none⟩ = some (.slice p3 d.keep.length c3) ∧ w.cell? ⟨g, 4, none⟩ = some (.bool d.dead)) ∧
    KV P w (.agg #[.slice p0 d.kept.length c0, .slice p1 d.cache.length c1, .int .i64 d.fuse, .slice p3 d.keep.length c3, .bool d.dead]) d := by
  obtain ⟨p0, c0, p1, c1, p3, c3, e, hd⟩ := h
  exact ⟨p0, c0, p1, c1, p3, c3, ⟨cell_of_row w g 0 _ 26 (0, 0) e, cell_of_row w g 1 _ 26 (0, 0) e, cell_of_row w g 2 _ 26 (0, 0) e, cell_of_row w g 3 _ 26 (0, 0) e, cell_of_row w g 4 _ 26 (0, 0) e⟩, hd⟩
/-- its block may be written -/
theorem VarK.free {P : Nat → Prop} {w : World} {g : Nat} {d : Dsk} (h : VarK P w g d) : w.frozen? ⟨g, 0, none⟩ = false ∧ w.frozen? ⟨g, 1, none⟩ = false ∧ w.frozen? ⟨g, 2, none⟩ = false ∧ w.frozen? ⟨g, 3, none⟩ = false ∧ w.frozen? ⟨g, 4, none⟩ = false := by
  obtain ⟨p0, c0, p1, c1, p3, c3, e, hd⟩ := h
  exact ⟨frozen_of_row w g 0 _ 26 e, frozen_of_row w g 1 _ 26 e, frozen_of_row w g 2 _ 26 e, frozen_of_row w g 3 _ 26 e, frozen_of_row w g 4 _ 26 e⟩
theorem VarK.less {P Q : Nat → Prop} {w : World} {g : Nat} {d : Dsk} (h : VarK P w g d) (hq : ∀ b, P b → Q b) : VarK Q w g d := by
  obtain ⟨p0, c0, p1, c1, p3, c3, e, hd⟩ := h
  exact ⟨p0, c0, p1, c1, p3, c3, e, hd.less hq⟩
theorem VarK.new {P : Nat → Prop} {w : World} {d : Dsk} {p0 p1 p3 : Option Addr} {c0 c1 c3 : Nat} (h : KV P w (.agg #[.slice p0 d.kept.length c0, .slice p1 d.cache.length c1, .int .i64 d.fuse, .slice p3 d.keep.length c3, .bool d.dead]) d) :
    VarK P (w.alloc (.cells #[.slice p0 d.kept.length c0, .slice p1 d.cache.length c1, .int .i64 d.fuse, .slice p3 d.keep.length c3, .bool d.dead] 26)) w.heap.size d :=
  ⟨p0, c0, p1, c1, p3, c3, heap_alloc_new w _, h.below ((Below.refl _ _).alloc (Nat.le_refl _) _)⟩
/-- a disk is stored into a block of five -/
theorem VarK.put {P : Nat → Prop} {w : World} {g : Nat} {d : Dsk} (hz : Five w g) (hP : ∀ b, P b → b ≠ g) {p0 p1 p3 : Option Addr} {c0 c1 c3 : Nat} (h : KV P w (.agg #[.slice p0 d.kept.length c0, .slice p1 d.cache.length c1, .int .i64 d.fuse, .slice p3 d.keep.length c3, .bool d.dead]) d) :
    VarK P (put5 w g (.slice p0 d.kept.length c0) (.slice p1 d.cache.length c1) (.int .i64 d.fuse) (.slice p3 d.keep.length c3) (.bool d.dead)) g d :=
  ⟨p0, c0, p1, c1, p3, c3, put5_heap hz.res _ _ _ _ _, h.put hz hP _ _ _ _ _⟩
/-- another variable stays -/
theorem VarK.other {P : Nat → Prop} {w : World} {g h : Nat} {d : Dsk} (hz : Five w g) (hP : ∀ b, P b → b ≠ g) (hv : VarK P w h d) (hgh : h ≠ g) (a0 a1 a2 a3 a4 : Value) : VarK P (put5 w g a0 a1 a2 a3 a4) h d := by
  obtain ⟨p0, c0, p1, c1, p3, c3, e, hd⟩ := hv
  exact ⟨p0, c0, p1, c1, p3, c3, (put5_other _ _ _ _ _ _ _ _ hgh).trans e, hd.put hz hP _ _ _ _ _⟩
theorem Zero.five {w : World} {g : Nat} (h : Zero w g) : Five w g := ⟨_, _, _, _, _, _, _, _, _, _, _, h.heap⟩
/-- a new variable of a region, and where -/
structure ZeroB (B : Nat) (w : World) (g : Nat) : Prop where
  zero : Zero w g
  ge : B ≤ g
theorem ZeroB.below {B : Nat} {w w' : World} {g : Nat} (h : ZeroB B w g) (hb : Below w.heap.size w w') : ZeroB B w' g := ⟨h.zero.below hb, h.ge⟩
theorem KV.next {B g5 : Nat} {w : World} {v : Value} {d : Dsk} {s : Nat} (h : KV (fun b => (b ≠ g5 ∧ b < B) ∨ s ≤ b) w v d) (hs : g5 < s) : KV (fun b => b ≠ g5) w v d :=
  h.less fun b hb => by rcases hb with hb | hb <;> omega

def d60 : Dsk := (newD 60).1
theorem d60_keep : d60.keep = [] := by decide +kernel
theorem d60_may : mayD d60 = true := by decide +kernel
theorem d60_eq : d60 = ⟨List.replicate 60 zero32, [], -1, [], false⟩ := by
  unfold d60 newD
  rw [if_pos (by decide)]; rfl
theorem new60 : (newD 60).2 = 0 := by decide +kernel
theorem arm60 (m : Nat) (K : List Bool) : armD d60 m K = armed m 0 K := by
  unfold armD
  rw [if_pos d60_may, d60_eq, if_neg (by omega)]
  unfold armed
  simp [wcache]
theorem arm_fuse (S : SpecD) (m : Nat) (hm : m ≤ 50) (K : List Bool) (hK4 : K.length ≤ 400) (pk : Option Addr) (ck : Nat) (g5 : Nat) (w0 w : World) (v : Value) (hK : FlagsLie w0 pk K ck) (hb : Below w0.heap.size w0 w) (h5 : w0.heap.size ≤ g5) (h6 : g5 < w.heap.size) (h : DLie w v d60) :
    Calls Try.prog 21 #[v, .int .i64 m, .slice pk K.length ck] w fun x w' => ∃ u, x = .returned u ∧ KV (fun b => b ≠ g5) w' u (armed m 0 K) ∧ Below w.heap.size w w' := by
  by_cases hk : K = []
  · refine (S.arm4 (fun _ => True) d60 v m K K.length pk ck w (sized_new 60) (by omega) (by omega) rfl (by omega) h (hK.below hb) (fun _ _ => trivial)).mono fun x w' ⟨u, e, k, b⟩ => ⟨u, e, ?_, b⟩
    rw [arm60] at k
    exact k.lie.kvNone hk
  · obtain ⟨blk, off, e, hc⟩ := hK.at (i := 0) (List.length_pos_iff.2 hk)
    have hlt := World.block_lt_of_cell? w0 _ (hc 0 (List.length_pos_iff.2 hk))
    refine (S.arm4 (fun b => b < w0.heap.size) d60 v m K K.length pk ck w (sized_new 60) (by omega) (by omega) rfl (by omega) h (hK.below hb) (fun a ha => by rw [e] at ha; cases ha; exact hlt)).mono fun x w' ⟨u, e, k, b⟩ => ⟨u, e, ?_, b⟩
    rw [arm60] at k
    exact k.less fun b hb => by rcases hb with hb | hb <;> omega
theorem sized_armed {m i : Nat} (hm : m ≤ 50) (hi : i ≤ m) {K : List Bool} (hK : K.length ≤ 140737488351232) : Sized (armed m i K) :=
  ⟨by simp [armed], by simp only [armed]; rw [wcache_length]; omega, hK, by simp only [armed]; omega, by simp only [armed]; omega⟩
theorem write_fuse (S : SpecD) {m i : Nat} (hm : m ≤ 50) (hi : i < m) {K : List Bool} (hK : K.length ≤ 400) (P : Nat → Prop) (w : World) (v : Value) (h : KV P w v (armed m i K)) :
    Calls Try.prog 12 #[v, .int .i64 i, .string (wtext i)] w fun x w' => ∃ u, x = .returned (.tuple #[u, .int .i64 0]) ∧ KV (fun b => P b ∨ w.heap.size ≤ b) w' u (armed m (i + 1) K) ∧ Below w.heap.size w w' := by
  have := S.write4 P _ v i (wtext i) w (sized_armed hm (Nat.le_of_lt hi) (by omega)) (by omega) (by omega) h
  rw [write_armed hi hm] at this
  exact this
theorem write_fuse2 (S : SpecD) {m : Nat} (hm : m ≤ 50) {K : List Bool} (hK : K.length ≤ 400) (w : World) (v : Value) (h : DLie w v (armed m m K)) :
    Calls Try.prog 12 #[v, .int .i64 m, .string (sectorB 255)] w fun x w' => ∃ u, x = .returned (.tuple #[u, .int .i64 90]) ∧ DLie w' u (fallen m K) ∧ Below w.heap.size w w' := by
  have := S.write _ v m (sectorB 255) w (sized_armed hm (Nat.le_refl m) (by omega)) (by omega) (by omega) h
  rw [write_fallen hm] at this
  exact this
theorem write_fuse3 (S : SpecD) {m : Nat} (hm : m ≤ 50) {K : List Bool} (hK : K.length ≤ 400) (P : Nat → Prop) (w : World) (v : Value) (h : KV P w v (armed m m K)) :
    Calls Try.prog 12 #[v, .int .i64 m, .string (sectorB 255)] w fun x w' => ∃ u, x = .returned (.tuple #[u, .int .i64 90]) ∧ KV (fun b => P b ∨ w.heap.size ≤ b) w' u (fallen m K) ∧ Below w.heap.size w w' :=
  (write_fuse2 S hm hK w v h.lie).mono fun _ _ ⟨u, e, k, b⟩ => ⟨u, e, k.kvNone rfl, b⟩
theorem str_ne {a b : ByteArray} (h : a ≠ b) : (a.toList == b.toList) = false := by
  rw [beq_eq_false_iff_ne]
  intro h2
  rw [Lib.toList_data, Lib.toList_data] at h2
  exact h (ByteArray.ext (Array.ext' h2))
theorem belowZ (w : World) : Below w.heap.size w (w.alloc Z5) := (Below.refl _ _).alloc (Nat.le_refl _) _
theorem fallen_keep (m : Nat) (K : List Bool) : (fallen m K).keep = [] := rfl
set_option maxHeartbeats 8000000 in
theorem fuse_any (S : SpecD) (n : Int) (hn : -9223372036854775808 ≤ n ∧ n ≤ 9223372036854775807) (K : List Bool) (pk : Option Addr) (ck : Nat) (w : World) (hK : FlagsLie w pk K ck) :
    Calls Try.prog 6 #[.int .i64 n, .slice pk K.length ck] w fun x w' => x = .returned (.bool true) ∧ Below w.heap.size w w' := by
  have KF : Hid (∀ w, Calls Try.prog 9 #[] w fun x w' => x = .returned (.bool true) ∧ Below w.heap.size w w') := Lib.hid fun w => fixed_any S w
  have HB := Lib.hid (Below.refl w.heap.size w)
  have HK := Lib.hid hK
  have zk : (K.length : Int) ≤ 9223372036854775807 := by have := hK.cap; have := hK.len; unfold maxLen at *; omega
  have zkc : (K.length : Int) ≤ ck := by have := hK.len; omega
  clear hK
  go_enter Try.func6, Try.ntmps6
  go_wp2_with fail
  go_at_call 9
  refine (KF.out _).mono ?_
  rintro x wk1 ⟨rfl, hb⟩
  replace HB := Lib.hid (HB.out.next hb)
  clear hb
  by_cases hn0 : n < 0
  · clear hn
    go_wp2_with fail
    go_at_call 9
    refine (KF.out _).mono ?_
    rintro x wz ⟨rfl, hb⟩
    go_wp2
    go_ret
    exact ⟨rfl, HB.out.next hb⟩
  by_cases hn1 : 50 < n
  · clear hn hn0
    have zz : ¬ n < 0 := by omega
    go_wp2_with fail
    go_at_call 9
    refine (KF.out _).mono ?_
    rintro x wz ⟨rfl, hb⟩
    go_wp2
    go_ret
    exact ⟨rfl, HB.out.next hb⟩
  obtain ⟨m, rfl⟩ : ∃ m : Nat, n = m := ⟨n.toNat, by omega⟩
  have hm : m ≤ 50 := by omega
  have zm : (m : Int) ≤ 50 := by omega
  clear hn hn0 hn1
  by_cases hk4 : 400 < K.length
  · have z4 : (400 : Int) < (K.length : Int) := by omega
    clear hk4
    go_wp2_with fail
    go_at_call 9
    refine (KF.out _).mono ?_
    rintro x wz ⟨rfl, hb⟩
    go_wp2
    go_ret
    exact ⟨rfl, HB.out.next hb⟩
  have z4 : ¬ (400 : Int) < (K.length : Int) := by omega
  have HK4 : Hid (K.length ≤ 400) := Lib.hid (by omega)
  have HM := Lib.hid hm
  clear hk4 hm
  have K1 : Hid (∀ w, Calls Try.prog 19 #[.int .i64 60] w fun x w' => ∃ u, x = .returned (.tuple #[u, .int .i64 0]) ∧ DLie w' u d60 ∧ Below w.heap.size w w') := Lib.hid fun w => by
    have := S.new 60 w (by decide) (by decide)
    rw [new60] at this
    exact this
  go_wp2_with fail
  go_at_call 19
  refine (K1.out _).mono ?_
  rintro x wA ⟨u, rfl, hd, hb⟩
  replace HB := Lib.hid (HB.out.next hb)
  obtain ⟨p0, c0, p1, c1, p3, c3, rfl, hh⟩ := (hd.kvNone (P := fun b => b < 0) d60_keep).opened
  have V5 := Lib.hid (VarK.new hh)
  have b5 := Lib.hid ((Below.refl wA.heap.size wA).alloc (Nat.le_refl _) (.cells #[.slice p0 d60.kept.length c0, .slice p1 d60.cache.length c1, .int .i64 d60.fuse, .slice p3 d60.keep.length c3, .bool d60.dead] 26))
  have H5 : Hid (w.heap.size ≤ wA.heap.size) := Lib.hid HB.out.size
  replace HB := Lib.hid (HB.out.next b5.out)
  clear hb hd hh b5 K1
  have hvl := V5.out.lt
  obtain ⟨qp0, qc0, qp1, qc1, qp3, qc3, ⟨qu0, qu1, qu2, qu3, qu4⟩, qE⟩ := V5.out.opened
  have k1 := arm_fuse S m HM.out K HK4.out pk ck wA.heap.size w _ _ HK.out HB.out H5.out hvl qE.lie
  clear hvl qE
  go_wp2_with fail
  obtain ⟨g5, hg⟩ : ∃ g, g = wA.heap.size := ⟨_, rfl⟩
  rw [← hg] at V5 H5 k1 ⊢
  generalize wA.alloc (.cells #[.slice p0 d60.kept.length c0, .slice p1 d60.cache.length c1, .int .i64 d60.fuse, .slice p3 d60.keep.length c3, .bool d60.dead] 26) = wB at *
  clear hg qu0 qu1 qu2 qu3 qu4
  go_at_call 21
  refine k1.mono ?_
  rintro x wC ⟨u, rfl, hu, hb⟩
  clear k1
  obtain ⟨p0, c0, p1, c1, p3, c3, rfl, hh⟩ := hu.opened
  have HU := Lib.hid hh
  replace V5 := Lib.hid (V5.out.below hb)
  replace HB := Lib.hid (HB.out.next hb)
  clear hb hu hh
  obtain ⟨_, _, _, _, _, _, ⟨qu0, qu1, qu2, qu3, qu4⟩, _⟩ := V5.out.opened
  obtain ⟨qf0, qf1, qf2, qf3, qf4⟩ := V5.out.free
  have V5n := Lib.hid (VarK.put V5.out.five (fun _ h => h) HU.out)
  have HBn := Lib.hid (put5_below HB.out H5.out (.slice p0 (armed m 0 K).kept.length c0) (.slice p1 (armed m 0 K).cache.length c1) (.int .i64 (armed m 0 K).fuse) (.slice p3 (armed m 0 K).keep.length c3) (.bool (armed m 0 K).dead))
  go_wp2_with fail
  go_loopw [7] (fun i wr => ∃ k : Nat, k ≤ m ∧ i = .int .i64 k ∧ Hid (VarK (fun b => b ≠ g5) wr g5 (armed m k K)) ∧ Hid (Below w.heap.size w wr)) (fun i _ => m - (RowKit.intOf i).toNat)
  case atStart => exact ⟨0, Nat.zero_le _, rfl, V5n, HBn⟩
  case round =>
    clear V5n HBn V5 HU HB qu0 qu1 qu2 qu3 qu4 qf0 qf1 qf2 qf3 qf4
    obtain ⟨k, hk, rfl, V5, HB⟩ := hrel
    by_cases hkm : k < m
    case pos =>
      have zk1 : (k : Int) < (m : Int) := by omega
      go_wp2_with fail
      have KS : Hid (∀ w, Calls Try.prog 28 #[.int .u8 (IntKind.u8.wrap (IntKind.i64.wrap ((k : Int) + 1)))] w fun e w' => e = .returned (.string (wtext k)) ∧ Below w.heap.size w w') := Lib.hid fun w => by
        have := sector_doc (UInt8.ofNat (k + 1)) w
        rw [show (((UInt8.ofNat (k + 1)).toNat : Nat) : Int) = IntKind.u8.wrap (IntKind.i64.wrap ((k : Int) + 1)) by have := HM.out; simp [IntKind.wrap, IntKind.signed, IntKind.bits]; omega] at this
        exact this
      have hlt5 := V5.out.lt
      obtain ⟨qp0, qc0, qp1, qc1, qp3, qc3, ⟨qu0, qu1, qu2, qu3, qu4⟩, qE⟩ := V5.out.opened
      have HC : Hid (∀ w', Below wr.heap.size wr w' → w'.cell? ⟨g5, 0, none⟩ = some (.slice qp0 (armed m k K).kept.length qc0) ∧ w'.cell? ⟨g5, 1, none⟩ = some (.slice qp1 (armed m k K).cache.length qc1) ∧ w'.cell? ⟨g5, 2, none⟩ = some (.int .i64 (armed m k K).fuse) ∧ w'.cell? ⟨g5, 3, none⟩ = some (.slice qp3 (armed m k K).keep.length qc3) ∧ w'.cell? ⟨g5, 4, none⟩ = some (.bool (armed m k K).dead)) := Lib.hid fun w' hb => ⟨(hb.cell (p := ⟨g5, 0, none⟩) hlt5).trans qu0, (hb.cell (p := ⟨g5, 1, none⟩) hlt5).trans qu1, (hb.cell (p := ⟨g5, 2, none⟩) hlt5).trans qu2, (hb.cell (p := ⟨g5, 3, none⟩) hlt5).trans qu3, (hb.cell (p := ⟨g5, 4, none⟩) hlt5).trans qu4⟩
      have HD := Lib.hid (fun (wy : World) (hb : Below wr.heap.size wr wy) => qE.fresh.below hb)
      have HL5 := Lib.hid hlt5
      clear qE qu0 qu1 qu2 qu3 qu4 hlt5
      have HR := Lib.hid ((Below.refl wr.heap.size wr).drew)
      have V5f : Hid (VarK (fun b => b ≠ g5 ∧ b < wr.heap.size) wr g5 (armed m k K)) := by
        obtain ⟨a0, a1, a2, a3, a4, a5, e, kv⟩ := V5.out
        exact Lib.hid ⟨a0, a1, a2, a3, a4, a5, e, kv.fresh⟩
      go_cut [8, 9] from 38 to 55 (fun p e wx => ∃ g, p = .pointer (some ⟨g, 0, none⟩) ∧ e = .int .i64 0 ∧ g ≠ g5 ∧ Hid (VarK (fun b => b ≠ g5) wx g (armed m (k + 1) K)) ∧ Hid (VarK (fun b => b ≠ g5) wx g5 (armed m k K)) ∧ Hid (Below w.heap.size w wx))
      case first =>
        refine wp_region_held_drew (S := (fun w' => w'.cell? ⟨g5, 0, none⟩ = some (.slice qp0 (armed m k K).kept.length qc0) ∧ w'.cell? ⟨g5, 1, none⟩ = some (.slice qp1 (armed m k K).cache.length qc1) ∧ w'.cell? ⟨g5, 2, none⟩ = some (.int .i64 (armed m k K).fuse) ∧ w'.cell? ⟨g5, 3, none⟩ = some (.slice qp3 (armed m k K).keep.length qc3) ∧ w'.cell? ⟨g5, 4, none⟩ = some (.bool (armed m k K).dead))) (by kernel_rfl) (HC.out _ HR.out) (fun hh0 => ?_)
        refine wpAnyH_takeL (i := 0) (v := ?ev1) rfl (by kernel_rfl) (by kernel_rfl) (by kernel_rfl) (fun _ _ _ h => h) (Or.inl ⟨by rfl, ?ey1⟩) hh0 ?_
        case ey1 => (intro w hSw; (try dsimp only at hSw); go_simp; try (with_reducible rfl))
        try simp only [Act.put, List.setIfInBounds_toArray, List.set_cons_zero, List.set_cons_succ]
        refine wpAnyH_takeL (i := 1) (v := ?ev2) rfl (by kernel_rfl) (by kernel_rfl) (by kernel_rfl) (fun _ _ _ h => h) (Or.inl ⟨by rfl, ?ey2⟩) hh0 ?_
        case ey2 => (intro w hSw; (try dsimp only at hSw); go_simp; try (with_reducible rfl))
        try simp only [Act.put, List.setIfInBounds_toArray, List.set_cons_zero, List.set_cons_succ]
        refine wpAnyH_takeL (i := 2) (v := ?ev3) rfl (by kernel_rfl) (by kernel_rfl) (by kernel_rfl) (fun _ _ _ h => h) (Or.inl ⟨by rfl, ?ey3⟩) hh0 ?_
        case ey3 => (intro w hSw; (try dsimp only at hSw); go_simp; try (with_reducible rfl))
        try simp only [Act.put, List.setIfInBounds_toArray, List.set_cons_zero, List.set_cons_succ]
        refine wpAnyH_takeL (i := 3) (v := ?ev4) rfl (by kernel_rfl) (by kernel_rfl) (by kernel_rfl) (fun _ _ _ h => h) (Or.inl ⟨by rfl, ?ey4⟩) hh0 ?_
        case ey4 => (intro w hSw; (try dsimp only at hSw); go_simp; try (with_reducible rfl))
        try simp only [Act.put, List.setIfInBounds_toArray, List.set_cons_zero, List.set_cons_succ]
        refine wpAnyH_takeL (i := 4) (v := ?ev5) rfl (by kernel_rfl) (by kernel_rfl) (by kernel_rfl) (fun _ _ _ h => h) (Or.inl ⟨by rfl, ?ey5⟩) hh0 ?_
        case ey5 => (intro w hSw; (try dsimp only at hSw); go_simp; try (with_reducible rfl))
        try simp only [Act.put, List.setIfInBounds_toArray, List.set_cons_zero, List.set_cons_succ]
        refine wpAnyH_ready (rs := [5, 10]) (by kernel_rfl) (by simp) ?_
        refine AllReadyH.consL rfl (fun Kn hK => ?_) ?_
        · have _t := trivial
          go_simp
          go_at_call 28
          with_reducible refine (KS.out _).mono ?_
          rintro x wx6 ⟨rfl, hb⟩
          replace HR := Lib.hid (HR.out.next hb)
          clear hb
          refine hK.out _ _ (HC.out _ HR.out) (fun hh6 => ?_)
          clear hK Kn hh0
          try simp only [Act.put, List.setIfInBounds_toArray, List.set_cons_zero, List.set_cons_succ]
          refine wpAnyH_ready (rs := [6, 10]) (by kernel_rfl) (by simp) ?_
          refine AllReadyH.consL rfl (fun Kn hK => ?_) ?_
          · have _t := trivial
            have hsz : g5 < (wx6).heap.size := Nat.lt_of_lt_of_le HL5.out HR.out.size
            go_simp
            go_at_call 12
            with_reducible refine (write_fuse S HM.out hkm HK4.out _ _ _ (HD.out _ HR.out)).mono ?_
            rintro x wx7 ⟨u, rfl, hu, hb⟩
            replace hu : KV (fun b => b ≠ g5) wx7 u (armed m (k + 1) K) := hu.less fun b hb => by rcases hb with hb | hb <;> omega
            obtain ⟨p0, c0, p1, c1, p3, c3, rfl, hh⟩ := hu.opened
            have HU := Lib.hid hh
            clear hu hh hsz
            replace HR := Lib.hid (HR.out.next hb)
            clear hb
            refine hK.out _ _ (HC.out _ HR.out) (fun hh7 => ?_)
            clear hK Kn hh6
            try simp only [Act.put, List.setIfInBounds_toArray, List.set_cons_zero, List.set_cons_succ]
            refine wpAnyH_takeL (i := 7) (v := ?ev8) rfl (by kernel_rfl) (by kernel_rfl) (by kernel_rfl) (fun _ _ _ h => h) (Or.inl ⟨by rfl, ?ey8⟩) hh7 ?_
            case ey8 => (intro w hSw; (try dsimp only at hSw); go_simp; try (with_reducible rfl))
            try simp only [Act.put, List.setIfInBounds_toArray, List.set_cons_zero, List.set_cons_succ]
            refine wpAnyH_takeL (i := 8) (v := ?ev9) rfl (by kernel_rfl) (by kernel_rfl) (by kernel_rfl) (fun _ _ _ h => h) (Or.inl ⟨by rfl, ?ey9⟩) hh7 ?_
            case ey9 => (intro w hSw; (try dsimp only at hSw); go_simp; try (with_reducible rfl))
            try simp only [Act.put, List.setIfInBounds_toArray, List.set_cons_zero, List.set_cons_succ]
            refine wpAnyH_takeL (i := 9) (v := ?ev10) rfl (by kernel_rfl) (by kernel_rfl) (by kernel_rfl) (fun _ _ _ h => h) (Or.inl ⟨by rfl, ?ey10⟩) hh7 ?_
            case ey10 => (intro w hSw; (try dsimp only at hSw); go_simp; try (with_reducible rfl))
            try simp only [Act.put, List.setIfInBounds_toArray, List.set_cons_zero, List.set_cons_succ]
            refine wpAnyH_ready (rs := [10]) (by kernel_rfl) (by simp) ?_
            refine AllReadyH.consL rfl (fun Kn hK => ?_) AllReadyH.nil
            go_simp
            obtain ⟨gz, hgz⟩ : ∃ g, g = wx7.heap.size := ⟨_, rfl⟩
            have hzn : ZeroB wr.heap.size ((wx7).alloc Z5) gz := by rw [hgz]; exact ⟨⟨heap_alloc_new (wx7) Z5⟩, HR.out.size⟩
            replace HU := Lib.hid (HU.out.fresh.less (Q := fun b => b ≠ g5 ∧ b ≠ gz) fun b hb => ⟨hb.1, by have := hb.2; omega⟩)
            have hb := belowZ (wx7)
            replace HU := Lib.hid (HU.out.below hb)
            replace HR := Lib.hid (HR.out.next hb)
            clear hb
            have HZ := Lib.hid hzn
            rw [← hgz]
            clear hzn hgz
            refine hK.out _ _ (HC.out _ HR.out) (fun hh11 => ?_)
            clear hK Kn hh7
            try simp only [Act.put, List.setIfInBounds_toArray, List.set_cons_zero, List.set_cons_succ]
            refine wpAnyH_ready (rs := [11]) (by kernel_rfl) (by simp) ?_
            refine AllReadyH.consL rfl (fun Kn hK => ?_) AllReadyH.nil
            have V5b := Lib.hid (V5.out.below HR.out)
            skip
            have hne : gz ≠ g5 := by have := HZ.out.ge; have := HL5.out; omega
            have V5d := Lib.hid (VarK.other (P := fun b => b ≠ g5 ∧ b < wr.heap.size) HZ.out.zero.five (fun b hb => by have := HZ.out.ge; have := hb.2; omega) (V5f.out.below HR.out) (fun e => hne e.symm) (.slice p0 ((armed m (k + 1) K)).kept.length c0) (.slice p1 ((armed m (k + 1) K)).cache.length c1) (.int .i64 ((armed m (k + 1) K)).fuse) (.slice p3 ((armed m (k + 1) K)).keep.length c3) (.bool ((armed m (k + 1) K)).dead))
            have VNd := Lib.hid (VarK.put HZ.out.zero.five (fun b hb => hb.2) HU.out)
            have HRd := Lib.hid (put5_below HR.out HZ.out.ge (.slice p0 ((armed m (k + 1) K)).kept.length c0) (.slice p1 ((armed m (k + 1) K)).cache.length c1) (.int .i64 ((armed m (k + 1) K)).fuse) (.slice p3 ((armed m (k + 1) K)).keep.length c3) (.bool ((armed m (k + 1) K)).dead))
            obtain ⟨⟨zu0, zu1, zu2, zu3, zu4⟩, zf0, zf1, zf2, zf3, zf4⟩ := HZ.out.zero.cells
            go_simp
            clear zu0 zu1 zu2 zu3 zu4 zf0 zf1 zf2 zf3 zf4
            replace HR := HRd
            clear HRd
            refine hK.out _ _ (HC.out _ HR.out) (fun hh12 => ?_)
            clear hK Kn hh11
            try simp only [Act.put, List.setIfInBounds_toArray, List.set_cons_zero, List.set_cons_succ]
            refine wpAnyH_takeL (i := 12) (v := ?ev13) rfl (by kernel_rfl) (by kernel_rfl) (by kernel_rfl) (fun _ _ _ h => h) (Or.inl ⟨by rfl, ?ey13⟩) hh12 ?_
            case ey13 => (intro w hSw; (try dsimp only at hSw); go_simp; try (with_reducible rfl))
            try simp only [Act.put, List.setIfInBounds_toArray, List.set_cons_zero, List.set_cons_succ]
            refine wpAnyH_done (by kernel_rfl) ?_ _
            clear hh12
            simp only [Exit.then]
            go_step
            go_meet
            exact ⟨_, rfl, rfl, hne, Lib.hid (VNd.out.less fun b hb => hb.1), Lib.hid (V5d.out.less fun b hb => hb.1), Lib.hid (HB.out.next HR.out)⟩
          refine AllReadyH.consL rfl (fun Kn hK => ?_) AllReadyH.nil
          go_simp
          obtain ⟨gz, hgz⟩ : ∃ g, g = wx6.heap.size := ⟨_, rfl⟩
          have hzn : ZeroB wr.heap.size ((wx6).alloc Z5) gz := by rw [hgz]; exact ⟨⟨heap_alloc_new (wx6) Z5⟩, HR.out.size⟩
          have hb := belowZ (wx6)
          replace HR := Lib.hid (HR.out.next hb)
          clear hb
          have HZ := Lib.hid hzn
          rw [← hgz]
          clear hzn hgz
          refine hK.out _ _ (HC.out _ HR.out) (fun hh14 => ?_)
          clear hK Kn hh6
          try simp only [Act.put, List.setIfInBounds_toArray, List.set_cons_zero, List.set_cons_succ]
          refine wpAnyH_ready (rs := [6]) (by kernel_rfl) (by simp) ?_
          refine AllReadyH.consL rfl (fun Kn hK => ?_) AllReadyH.nil
          have hsz : g5 < (((wx6).alloc Z5)).heap.size := Nat.lt_of_lt_of_le HL5.out HR.out.size
          have hzz := HZ.out.ge
          have hzl := (Array.getElem?_eq_some_iff.1 HZ.out.zero.heap).1
          go_simp
          go_at_call 12
          with_reducible refine (write_fuse S HM.out hkm HK4.out _ _ _ (HD.out _ HR.out)).mono ?_
          rintro x wx15 ⟨u, rfl, hu, hb⟩
          replace hu : KV (fun b => b ≠ g5 ∧ b ≠ gz) wx15 u (armed m (k + 1) K) := hu.less fun b hb => by rcases hb with hb | hb <;> constructor <;> omega
          obtain ⟨p0, c0, p1, c1, p3, c3, rfl, hh⟩ := hu.opened
          have HU := Lib.hid hh
          clear hu hh hsz hzz hzl
          replace HZ := Lib.hid (HZ.out.below hb)
          replace HR := Lib.hid (HR.out.next hb)
          clear hb
          refine hK.out _ _ (HC.out _ HR.out) (fun hh15 => ?_)
          clear hK Kn hh14
          try simp only [Act.put, List.setIfInBounds_toArray, List.set_cons_zero, List.set_cons_succ]
          refine wpAnyH_takeL (i := 7) (v := ?ev16) rfl (by kernel_rfl) (by kernel_rfl) (by kernel_rfl) (fun _ _ _ h => h) (Or.inl ⟨by rfl, ?ey16⟩) hh15 ?_
          case ey16 => (intro w hSw; (try dsimp only at hSw); go_simp; try (with_reducible rfl))
          try simp only [Act.put, List.setIfInBounds_toArray, List.set_cons_zero, List.set_cons_succ]
          refine wpAnyH_takeL (i := 8) (v := ?ev17) rfl (by kernel_rfl) (by kernel_rfl) (by kernel_rfl) (fun _ _ _ h => h) (Or.inl ⟨by rfl, ?ey17⟩) hh15 ?_
          case ey17 => (intro w hSw; (try dsimp only at hSw); go_simp; try (with_reducible rfl))
          try simp only [Act.put, List.setIfInBounds_toArray, List.set_cons_zero, List.set_cons_succ]
          refine wpAnyH_takeL (i := 9) (v := ?ev18) rfl (by kernel_rfl) (by kernel_rfl) (by kernel_rfl) (fun _ _ _ h => h) (Or.inl ⟨by rfl, ?ey18⟩) hh15 ?_
          case ey18 => (intro w hSw; (try dsimp only at hSw); go_simp; try (with_reducible rfl))
          try simp only [Act.put, List.setIfInBounds_toArray, List.set_cons_zero, List.set_cons_succ]
          refine wpAnyH_ready (rs := [11]) (by kernel_rfl) (by simp) ?_
          refine AllReadyH.consL rfl (fun Kn hK => ?_) AllReadyH.nil
          have V5b := Lib.hid (V5.out.below HR.out)
          skip
          have hne : gz ≠ g5 := by have := HZ.out.ge; have := HL5.out; omega
          have V5d := Lib.hid (VarK.other (P := fun b => b ≠ g5 ∧ b < wr.heap.size) HZ.out.zero.five (fun b hb => by have := HZ.out.ge; have := hb.2; omega) (V5f.out.below HR.out) (fun e => hne e.symm) (.slice p0 ((armed m (k + 1) K)).kept.length c0) (.slice p1 ((armed m (k + 1) K)).cache.length c1) (.int .i64 ((armed m (k + 1) K)).fuse) (.slice p3 ((armed m (k + 1) K)).keep.length c3) (.bool ((armed m (k + 1) K)).dead))
          have VNd := Lib.hid (VarK.put HZ.out.zero.five (fun b hb => hb.2) HU.out)
          have HRd := Lib.hid (put5_below HR.out HZ.out.ge (.slice p0 ((armed m (k + 1) K)).kept.length c0) (.slice p1 ((armed m (k + 1) K)).cache.length c1) (.int .i64 ((armed m (k + 1) K)).fuse) (.slice p3 ((armed m (k + 1) K)).keep.length c3) (.bool ((armed m (k + 1) K)).dead))
          obtain ⟨⟨zu0, zu1, zu2, zu3, zu4⟩, zf0, zf1, zf2, zf3, zf4⟩ := HZ.out.zero.cells
          go_simp
          clear zu0 zu1 zu2 zu3 zu4 zf0 zf1 zf2 zf3 zf4
          replace HR := HRd
          clear HRd
          refine hK.out _ _ (HC.out _ HR.out) (fun hh19 => ?_)
          clear hK Kn hh15
          try simp only [Act.put, List.setIfInBounds_toArray, List.set_cons_zero, List.set_cons_succ]
          refine wpAnyH_takeL (i := 12) (v := ?ev20) rfl (by kernel_rfl) (by kernel_rfl) (by kernel_rfl) (fun _ _ _ h => h) (Or.inl ⟨by rfl, ?ey20⟩) hh19 ?_
          case ey20 => (intro w hSw; (try dsimp only at hSw); go_simp; try (with_reducible rfl))
          try simp only [Act.put, List.setIfInBounds_toArray, List.set_cons_zero, List.set_cons_succ]
          refine wpAnyH_done (by kernel_rfl) ?_ _
          clear hh19
          simp only [Exit.then]
          go_step
          go_meet
          exact ⟨_, rfl, rfl, hne, Lib.hid (VNd.out.less fun b hb => hb.1), Lib.hid (V5d.out.less fun b hb => hb.1), Lib.hid (HB.out.next HR.out)⟩
        refine AllReadyH.consL rfl (fun Kn hK => ?_) AllReadyH.nil
        go_simp
        obtain ⟨gz, hgz⟩ : ∃ g, g = wr.heap.size := ⟨_, rfl⟩
        have hzn : ZeroB wr.heap.size ((wr.drew).alloc Z5) gz := by rw [hgz]; exact ⟨⟨heap_alloc_new (wr.drew) Z5⟩, HR.out.size⟩
        have hb := belowZ (wr.drew)
        replace HR := Lib.hid (HR.out.next hb)
        clear hb
        have HZ := Lib.hid hzn
        rw [← hgz]
        clear hzn hgz
        refine hK.out _ _ (HC.out _ HR.out) (fun hh21 => ?_)
        clear hK Kn hh0
        try simp only [Act.put, List.setIfInBounds_toArray, List.set_cons_zero, List.set_cons_succ]
        refine wpAnyH_ready (rs := [5]) (by kernel_rfl) (by simp) ?_
        refine AllReadyH.consL rfl (fun Kn hK => ?_) AllReadyH.nil
        go_simp
        go_at_call 28
        with_reducible refine (KS.out _).mono ?_
        rintro x wx22 ⟨rfl, hb⟩
        replace HZ := Lib.hid (HZ.out.below hb)
        replace HR := Lib.hid (HR.out.next hb)
        clear hb
        refine hK.out _ _ (HC.out _ HR.out) (fun hh22 => ?_)
        clear hK Kn hh21
        try simp only [Act.put, List.setIfInBounds_toArray, List.set_cons_zero, List.set_cons_succ]
        refine wpAnyH_ready (rs := [6]) (by kernel_rfl) (by simp) ?_
        refine AllReadyH.consL rfl (fun Kn hK => ?_) AllReadyH.nil
        have hsz : g5 < (wx22).heap.size := Nat.lt_of_lt_of_le HL5.out HR.out.size
        have hzz := HZ.out.ge
        have hzl := (Array.getElem?_eq_some_iff.1 HZ.out.zero.heap).1
        go_simp
        go_at_call 12
        with_reducible refine (write_fuse S HM.out hkm HK4.out _ _ _ (HD.out _ HR.out)).mono ?_
        rintro x wx23 ⟨u, rfl, hu, hb⟩
        replace hu : KV (fun b => b ≠ g5 ∧ b ≠ gz) wx23 u (armed m (k + 1) K) := hu.less fun b hb => by rcases hb with hb | hb <;> constructor <;> omega
        obtain ⟨p0, c0, p1, c1, p3, c3, rfl, hh⟩ := hu.opened
        have HU := Lib.hid hh
        clear hu hh hsz hzz hzl
        replace HZ := Lib.hid (HZ.out.below hb)
        replace HR := Lib.hid (HR.out.next hb)
        clear hb
        refine hK.out _ _ (HC.out _ HR.out) (fun hh23 => ?_)
        clear hK Kn hh22
        try simp only [Act.put, List.setIfInBounds_toArray, List.set_cons_zero, List.set_cons_succ]
        refine wpAnyH_takeL (i := 7) (v := ?ev24) rfl (by kernel_rfl) (by kernel_rfl) (by kernel_rfl) (fun _ _ _ h => h) (Or.inl ⟨by rfl, ?ey24⟩) hh23 ?_
        case ey24 => (intro w hSw; (try dsimp only at hSw); go_simp; try (with_reducible rfl))
        try simp only [Act.put, List.setIfInBounds_toArray, List.set_cons_zero, List.set_cons_succ]
        refine wpAnyH_takeL (i := 8) (v := ?ev25) rfl (by kernel_rfl) (by kernel_rfl) (by kernel_rfl) (fun _ _ _ h => h) (Or.inl ⟨by rfl, ?ey25⟩) hh23 ?_
        case ey25 => (intro w hSw; (try dsimp only at hSw); go_simp; try (with_reducible rfl))
        try simp only [Act.put, List.setIfInBounds_toArray, List.set_cons_zero, List.set_cons_succ]
        refine wpAnyH_takeL (i := 9) (v := ?ev26) rfl (by kernel_rfl) (by kernel_rfl) (by kernel_rfl) (fun _ _ _ h => h) (Or.inl ⟨by rfl, ?ey26⟩) hh23 ?_
        case ey26 => (intro w hSw; (try dsimp only at hSw); go_simp; try (with_reducible rfl))
        try simp only [Act.put, List.setIfInBounds_toArray, List.set_cons_zero, List.set_cons_succ]
        refine wpAnyH_ready (rs := [11]) (by kernel_rfl) (by simp) ?_
        refine AllReadyH.consL rfl (fun Kn hK => ?_) AllReadyH.nil
        have V5b := Lib.hid (V5.out.below HR.out)
        skip
        have hne : gz ≠ g5 := by have := HZ.out.ge; have := HL5.out; omega
        have V5d := Lib.hid (VarK.other (P := fun b => b ≠ g5 ∧ b < wr.heap.size) HZ.out.zero.five (fun b hb => by have := HZ.out.ge; have := hb.2; omega) (V5f.out.below HR.out) (fun e => hne e.symm) (.slice p0 ((armed m (k + 1) K)).kept.length c0) (.slice p1 ((armed m (k + 1) K)).cache.length c1) (.int .i64 ((armed m (k + 1) K)).fuse) (.slice p3 ((armed m (k + 1) K)).keep.length c3) (.bool ((armed m (k + 1) K)).dead))
        have VNd := Lib.hid (VarK.put HZ.out.zero.five (fun b hb => hb.2) HU.out)
        have HRd := Lib.hid (put5_below HR.out HZ.out.ge (.slice p0 ((armed m (k + 1) K)).kept.length c0) (.slice p1 ((armed m (k + 1) K)).cache.length c1) (.int .i64 ((armed m (k + 1) K)).fuse) (.slice p3 ((armed m (k + 1) K)).keep.length c3) (.bool ((armed m (k + 1) K)).dead))
        obtain ⟨⟨zu0, zu1, zu2, zu3, zu4⟩, zf0, zf1, zf2, zf3, zf4⟩ := HZ.out.zero.cells
        go_simp
        clear zu0 zu1 zu2 zu3 zu4 zf0 zf1 zf2 zf3 zf4
        replace HR := HRd
        clear HRd
        refine hK.out _ _ (HC.out _ HR.out) (fun hh27 => ?_)
        clear hK Kn hh23
        try simp only [Act.put, List.setIfInBounds_toArray, List.set_cons_zero, List.set_cons_succ]
        refine wpAnyH_takeL (i := 12) (v := ?ev28) rfl (by kernel_rfl) (by kernel_rfl) (by kernel_rfl) (fun _ _ _ h => h) (Or.inl ⟨by rfl, ?ey28⟩) hh27 ?_
        case ey28 => (intro w hSw; (try dsimp only at hSw); go_simp; try (with_reducible rfl))
        try simp only [Act.put, List.setIfInBounds_toArray, List.set_cons_zero, List.set_cons_succ]
        refine wpAnyH_done (by kernel_rfl) ?_ _
        clear hh27
        simp only [Exit.then]
        go_step
        go_meet
        exact ⟨_, rfl, rfl, hne, Lib.hid (VNd.out.less fun b hb => hb.1), Lib.hid (V5d.out.less fun b hb => hb.1), Lib.hid (HB.out.next HR.out)⟩
      case rest =>
        clear V5f HD HC HR HL5 V5 HB
        obtain ⟨g8, rfl, rfl, hne, VN, V5, HB⟩ := hcut
        obtain ⟨np0, nc0, np1, nc1, np3, nc3, ⟨nu0, nu1, nu2, nu3, nu4⟩, nE⟩ := VN.out.opened
        obtain ⟨qp0, qc0, qp1, qc1, qp3, qc3, ⟨qu0, qu1, qu2, qu3, qu4⟩, qE⟩ := V5.out.opened
        obtain ⟨qf0, qf1, qf2, qf3, qf4⟩ := V5.out.free
        have V5n := Lib.hid (VarK.put V5.out.five (fun _ h => h) nE)
        have HBn := Lib.hid (put5_below HB.out H5.out (.slice np0 (armed m (k + 1) K).kept.length nc0) (.slice np1 (armed m (k + 1) K).cache.length nc1) (.int .i64 (armed m (k + 1) K).fuse) (.slice np3 (armed m (k + 1) K).keep.length nc3) (.bool (armed m (k + 1) K).dead))
        clear nE qE VN V5 HB KS hne
        go_wp2
        go_roundw
        case rel => exact ⟨k + 1, by omega, by go_num, V5n, HBn⟩
        case measure => simp [RowKit.intOf]; omega
    case neg =>
      obtain rfl : k = m := by omega
      clear hkm hk
      go_wp2_with fail
      have KS : Hid (∀ w, Calls Try.prog 28 #[.int .u8 255] w fun e w' => e = .returned (.string (sectorB 255)) ∧ Below w.heap.size w w') := Lib.hid fun w => sector_doc 255 w
      have hlt5 := V5.out.lt
      obtain ⟨qp0, qc0, qp1, qc1, qp3, qc3, ⟨qu0, qu1, qu2, qu3, qu4⟩, qE⟩ := V5.out.opened
      have HC : Hid (∀ w', Below wr.heap.size wr w' → w'.cell? ⟨g5, 0, none⟩ = some (.slice qp0 (armed k k K).kept.length qc0) ∧ w'.cell? ⟨g5, 1, none⟩ = some (.slice qp1 (armed k k K).cache.length qc1) ∧ w'.cell? ⟨g5, 2, none⟩ = some (.int .i64 (armed k k K).fuse) ∧ w'.cell? ⟨g5, 3, none⟩ = some (.slice qp3 (armed k k K).keep.length qc3) ∧ w'.cell? ⟨g5, 4, none⟩ = some (.bool (armed k k K).dead)) := Lib.hid fun w' hb => ⟨(hb.cell (p := ⟨g5, 0, none⟩) hlt5).trans qu0, (hb.cell (p := ⟨g5, 1, none⟩) hlt5).trans qu1, (hb.cell (p := ⟨g5, 2, none⟩) hlt5).trans qu2, (hb.cell (p := ⟨g5, 3, none⟩) hlt5).trans qu3, (hb.cell (p := ⟨g5, 4, none⟩) hlt5).trans qu4⟩
      have HD := Lib.hid (fun (wy : World) (hb : Below wr.heap.size wr wy) => qE.fresh.below hb)
      have HL5 := Lib.hid hlt5
      clear qE qu0 qu1 qu2 qu3 qu4 hlt5
      have HR := Lib.hid ((Below.refl wr.heap.size wr).drew)
      have V5f : Hid (VarK (fun b => b ≠ g5 ∧ b < wr.heap.size) wr g5 (armed k k K)) := by
        obtain ⟨a0, a1, a2, a3, a4, a5, e, kv⟩ := V5.out
        exact Lib.hid ⟨a0, a1, a2, a3, a4, a5, e, kv.fresh⟩
      go_cut [10, 11] (fun p e wx => ∃ g, p = .pointer (some ⟨g, 0, none⟩) ∧ e = .int .i64 90 ∧ g ≠ g5 ∧ Hid (VarK (fun b => b ≠ g5) wx g (fallen k K)) ∧ Hid (VarK (fun b => b ≠ g5) wx g5 (armed k k K)) ∧ Hid (Below w.heap.size w wx))
      case first =>
        refine wp_region_held_drew (S := (fun w' => w'.cell? ⟨g5, 0, none⟩ = some (.slice qp0 (armed k k K).kept.length qc0) ∧ w'.cell? ⟨g5, 1, none⟩ = some (.slice qp1 (armed k k K).cache.length qc1) ∧ w'.cell? ⟨g5, 2, none⟩ = some (.int .i64 (armed k k K).fuse) ∧ w'.cell? ⟨g5, 3, none⟩ = some (.slice qp3 (armed k k K).keep.length qc3) ∧ w'.cell? ⟨g5, 4, none⟩ = some (.bool (armed k k K).dead))) (by kernel_rfl) (HC.out _ HR.out) (fun hh0 => ?_)
        refine wpAnyH_takeL (i := 0) (v := ?fv1) rfl (by kernel_rfl) (by kernel_rfl) (by kernel_rfl) (fun _ _ _ h => h) (Or.inl ⟨by rfl, ?fy1⟩) hh0 ?_
        case fy1 => (intro w hSw; (try dsimp only at hSw); go_simp; try (with_reducible rfl))
        try simp only [Act.put, List.setIfInBounds_toArray, List.set_cons_zero, List.set_cons_succ]
        refine wpAnyH_takeL (i := 1) (v := ?fv2) rfl (by kernel_rfl) (by kernel_rfl) (by kernel_rfl) (fun _ _ _ h => h) (Or.inl ⟨by rfl, ?fy2⟩) hh0 ?_
        case fy2 => (intro w hSw; (try dsimp only at hSw); go_simp; try (with_reducible rfl))
        try simp only [Act.put, List.setIfInBounds_toArray, List.set_cons_zero, List.set_cons_succ]
        refine wpAnyH_ready (rs := [2, 7]) (by kernel_rfl) (by simp) ?_
        refine AllReadyH.consL rfl (fun Kn hK => ?_) ?_
        · have _t := trivial
          go_simp
          go_at_call 28
          with_reducible refine (KS.out _).mono ?_
          rintro x wx3 ⟨rfl, hb⟩
          replace HR := Lib.hid (HR.out.next hb)
          clear hb
          refine hK.out _ _ (HC.out _ HR.out) (fun hh3 => ?_)
          clear hK Kn hh0
          try simp only [Act.put, List.setIfInBounds_toArray, List.set_cons_zero, List.set_cons_succ]
          refine wpAnyH_ready (rs := [3, 7]) (by kernel_rfl) (by simp) ?_
          refine AllReadyH.consL rfl (fun Kn hK => ?_) ?_
          · have _t := trivial
            have hsz : g5 < (wx3).heap.size := Nat.lt_of_lt_of_le HL5.out HR.out.size
            go_simp
            go_at_call 12
            with_reducible refine (write_fuse3 S HM.out HK4.out _ _ _ (HD.out _ HR.out)).mono ?_
            rintro x wx4 ⟨u, rfl, hu, hb⟩
            replace hu : KV (fun b => b ≠ g5) wx4 u (fallen k K) := hu.less fun b hb => by rcases hb with hb | hb <;> omega
            obtain ⟨p0, c0, p1, c1, p3, c3, rfl, hh⟩ := hu.opened
            have HU := Lib.hid hh
            clear hu hh hsz
            replace HR := Lib.hid (HR.out.next hb)
            clear hb
            refine hK.out _ _ (HC.out _ HR.out) (fun hh4 => ?_)
            clear hK Kn hh3
            try simp only [Act.put, List.setIfInBounds_toArray, List.set_cons_zero, List.set_cons_succ]
            refine wpAnyH_takeL (i := 4) (v := ?fv5) rfl (by kernel_rfl) (by kernel_rfl) (by kernel_rfl) (fun _ _ _ h => h) (Or.inl ⟨by rfl, ?fy5⟩) hh4 ?_
            case fy5 => (intro w hSw; (try dsimp only at hSw); go_simp; try (with_reducible rfl))
            try simp only [Act.put, List.setIfInBounds_toArray, List.set_cons_zero, List.set_cons_succ]
            refine wpAnyH_takeL (i := 5) (v := ?fv6) rfl (by kernel_rfl) (by kernel_rfl) (by kernel_rfl) (fun _ _ _ h => h) (Or.inl ⟨by rfl, ?fy6⟩) hh4 ?_
            case fy6 => (intro w hSw; (try dsimp only at hSw); go_simp; try (with_reducible rfl))
            try simp only [Act.put, List.setIfInBounds_toArray, List.set_cons_zero, List.set_cons_succ]
            refine wpAnyH_takeL (i := 6) (v := ?fv7) rfl (by kernel_rfl) (by kernel_rfl) (by kernel_rfl) (fun _ _ _ h => h) (Or.inl ⟨by rfl, ?fy7⟩) hh4 ?_
            case fy7 => (intro w hSw; (try dsimp only at hSw); go_simp; try (with_reducible rfl))
            try simp only [Act.put, List.setIfInBounds_toArray, List.set_cons_zero, List.set_cons_succ]
            refine wpAnyH_ready (rs := [7]) (by kernel_rfl) (by simp) ?_
            refine AllReadyH.consL rfl (fun Kn hK => ?_) AllReadyH.nil
            go_simp
            obtain ⟨gz, hgz⟩ : ∃ g, g = wx4.heap.size := ⟨_, rfl⟩
            have hzn : ZeroB wr.heap.size ((wx4).alloc Z5) gz := by rw [hgz]; exact ⟨⟨heap_alloc_new (wx4) Z5⟩, HR.out.size⟩
            replace HU := Lib.hid (HU.out.fresh.less (Q := fun b => b ≠ g5 ∧ b ≠ gz) fun b hb => ⟨hb.1, by have := hb.2; omega⟩)
            have hb := belowZ (wx4)
            replace HU := Lib.hid (HU.out.below hb)
            replace HR := Lib.hid (HR.out.next hb)
            clear hb
            have HZ := Lib.hid hzn
            rw [← hgz]
            clear hzn hgz
            refine hK.out _ _ (HC.out _ HR.out) (fun hh8 => ?_)
            clear hK Kn hh4
            try simp only [Act.put, List.setIfInBounds_toArray, List.set_cons_zero, List.set_cons_succ]
            refine wpAnyH_ready (rs := [8]) (by kernel_rfl) (by simp) ?_
            refine AllReadyH.consL rfl (fun Kn hK => ?_) AllReadyH.nil
            have V5b := Lib.hid (V5.out.below HR.out)
            skip
            have hne : gz ≠ g5 := by have := HZ.out.ge; have := HL5.out; omega
            have V5d := Lib.hid (VarK.other (P := fun b => b ≠ g5 ∧ b < wr.heap.size) HZ.out.zero.five (fun b hb => by have := HZ.out.ge; have := hb.2; omega) (V5f.out.below HR.out) (fun e => hne e.symm) (.slice p0 ((fallen k K)).kept.length c0) (.slice p1 ((fallen k K)).cache.length c1) (.int .i64 ((fallen k K)).fuse) (.slice p3 ((fallen k K)).keep.length c3) (.bool ((fallen k K)).dead))
            have VNd := Lib.hid (VarK.put HZ.out.zero.five (fun b hb => hb.2) HU.out)
            have HRd := Lib.hid (put5_below HR.out HZ.out.ge (.slice p0 ((fallen k K)).kept.length c0) (.slice p1 ((fallen k K)).cache.length c1) (.int .i64 ((fallen k K)).fuse) (.slice p3 ((fallen k K)).keep.length c3) (.bool ((fallen k K)).dead))
            obtain ⟨⟨zu0, zu1, zu2, zu3, zu4⟩, zf0, zf1, zf2, zf3, zf4⟩ := HZ.out.zero.cells
            go_simp
            clear zu0 zu1 zu2 zu3 zu4 zf0 zf1 zf2 zf3 zf4
            replace HR := HRd
            clear HRd
            refine hK.out _ _ (HC.out _ HR.out) (fun hh9 => ?_)
            clear hK Kn hh8
            try simp only [Act.put, List.setIfInBounds_toArray, List.set_cons_zero, List.set_cons_succ]
            refine wpAnyH_takeL (i := 9) (v := ?fv10) rfl (by kernel_rfl) (by kernel_rfl) (by kernel_rfl) (fun _ _ _ h => h) (Or.inl ⟨by rfl, ?fy10⟩) hh9 ?_
            case fy10 => (intro w hSw; (try dsimp only at hSw); go_simp; try (with_reducible rfl))
            try simp only [Act.put, List.setIfInBounds_toArray, List.set_cons_zero, List.set_cons_succ]
            refine wpAnyH_done (by kernel_rfl) ?_ _
            clear hh9
            simp only [Exit.then]
            go_step
            go_meet
            exact ⟨_, rfl, rfl, hne, Lib.hid (VNd.out.less fun b hb => hb.1), Lib.hid (V5d.out.less fun b hb => hb.1), Lib.hid (HB.out.next HR.out)⟩
          refine AllReadyH.consL rfl (fun Kn hK => ?_) AllReadyH.nil
          go_simp
          obtain ⟨gz, hgz⟩ : ∃ g, g = wx3.heap.size := ⟨_, rfl⟩
          have hzn : ZeroB wr.heap.size ((wx3).alloc Z5) gz := by rw [hgz]; exact ⟨⟨heap_alloc_new (wx3) Z5⟩, HR.out.size⟩
          have hb := belowZ (wx3)
          replace HR := Lib.hid (HR.out.next hb)
          clear hb
          have HZ := Lib.hid hzn
          rw [← hgz]
          clear hzn hgz
          refine hK.out _ _ (HC.out _ HR.out) (fun hh11 => ?_)
          clear hK Kn hh3
          try simp only [Act.put, List.setIfInBounds_toArray, List.set_cons_zero, List.set_cons_succ]
          refine wpAnyH_ready (rs := [3]) (by kernel_rfl) (by simp) ?_
          refine AllReadyH.consL rfl (fun Kn hK => ?_) AllReadyH.nil
          have hsz : g5 < (((wx3).alloc Z5)).heap.size := Nat.lt_of_lt_of_le HL5.out HR.out.size
          have hzz := HZ.out.ge
          have hzl := (Array.getElem?_eq_some_iff.1 HZ.out.zero.heap).1
          go_simp
          go_at_call 12
          with_reducible refine (write_fuse3 S HM.out HK4.out _ _ _ (HD.out _ HR.out)).mono ?_
          rintro x wx12 ⟨u, rfl, hu, hb⟩
          replace hu : KV (fun b => b ≠ g5 ∧ b ≠ gz) wx12 u (fallen k K) := hu.less fun b hb => by rcases hb with hb | hb <;> constructor <;> omega
          obtain ⟨p0, c0, p1, c1, p3, c3, rfl, hh⟩ := hu.opened
          have HU := Lib.hid hh
          clear hu hh hsz hzz hzl
          replace HZ := Lib.hid (HZ.out.below hb)
          replace HR := Lib.hid (HR.out.next hb)
          clear hb
          refine hK.out _ _ (HC.out _ HR.out) (fun hh12 => ?_)
          clear hK Kn hh11
          try simp only [Act.put, List.setIfInBounds_toArray, List.set_cons_zero, List.set_cons_succ]
          refine wpAnyH_takeL (i := 4) (v := ?fv13) rfl (by kernel_rfl) (by kernel_rfl) (by kernel_rfl) (fun _ _ _ h => h) (Or.inl ⟨by rfl, ?fy13⟩) hh12 ?_
          case fy13 => (intro w hSw; (try dsimp only at hSw); go_simp; try (with_reducible rfl))
          try simp only [Act.put, List.setIfInBounds_toArray, List.set_cons_zero, List.set_cons_succ]
          refine wpAnyH_takeL (i := 5) (v := ?fv14) rfl (by kernel_rfl) (by kernel_rfl) (by kernel_rfl) (fun _ _ _ h => h) (Or.inl ⟨by rfl, ?fy14⟩) hh12 ?_
          case fy14 => (intro w hSw; (try dsimp only at hSw); go_simp; try (with_reducible rfl))
          try simp only [Act.put, List.setIfInBounds_toArray, List.set_cons_zero, List.set_cons_succ]
          refine wpAnyH_takeL (i := 6) (v := ?fv15) rfl (by kernel_rfl) (by kernel_rfl) (by kernel_rfl) (fun _ _ _ h => h) (Or.inl ⟨by rfl, ?fy15⟩) hh12 ?_
          case fy15 => (intro w hSw; (try dsimp only at hSw); go_simp; try (with_reducible rfl))
          try simp only [Act.put, List.setIfInBounds_toArray, List.set_cons_zero, List.set_cons_succ]
          refine wpAnyH_ready (rs := [8]) (by kernel_rfl) (by simp) ?_
          refine AllReadyH.consL rfl (fun Kn hK => ?_) AllReadyH.nil
          have V5b := Lib.hid (V5.out.below HR.out)
          skip
          have hne : gz ≠ g5 := by have := HZ.out.ge; have := HL5.out; omega
          have V5d := Lib.hid (VarK.other (P := fun b => b ≠ g5 ∧ b < wr.heap.size) HZ.out.zero.five (fun b hb => by have := HZ.out.ge; have := hb.2; omega) (V5f.out.below HR.out) (fun e => hne e.symm) (.slice p0 ((fallen k K)).kept.length c0) (.slice p1 ((fallen k K)).cache.length c1) (.int .i64 ((fallen k K)).fuse) (.slice p3 ((fallen k K)).keep.length c3) (.bool ((fallen k K)).dead))
          have VNd := Lib.hid (VarK.put HZ.out.zero.five (fun b hb => hb.2) HU.out)
          have HRd := Lib.hid (put5_below HR.out HZ.out.ge (.slice p0 ((fallen k K)).kept.length c0) (.slice p1 ((fallen k K)).cache.length c1) (.int .i64 ((fallen k K)).fuse) (.slice p3 ((fallen k K)).keep.length c3) (.bool ((fallen k K)).dead))
          obtain ⟨⟨zu0, zu1, zu2, zu3, zu4⟩, zf0, zf1, zf2, zf3, zf4⟩ := HZ.out.zero.cells
          go_simp
          clear zu0 zu1 zu2 zu3 zu4 zf0 zf1 zf2 zf3 zf4
          replace HR := HRd
          clear HRd
          refine hK.out _ _ (HC.out _ HR.out) (fun hh16 => ?_)
          clear hK Kn hh12
          try simp only [Act.put, List.setIfInBounds_toArray, List.set_cons_zero, List.set_cons_succ]
          refine wpAnyH_takeL (i := 9) (v := ?fv17) rfl (by kernel_rfl) (by kernel_rfl) (by kernel_rfl) (fun _ _ _ h => h) (Or.inl ⟨by rfl, ?fy17⟩) hh16 ?_
          case fy17 => (intro w hSw; (try dsimp only at hSw); go_simp; try (with_reducible rfl))
          try simp only [Act.put, List.setIfInBounds_toArray, List.set_cons_zero, List.set_cons_succ]
          refine wpAnyH_done (by kernel_rfl) ?_ _
          clear hh16
          simp only [Exit.then]
          go_step
          go_meet
          exact ⟨_, rfl, rfl, hne, Lib.hid (VNd.out.less fun b hb => hb.1), Lib.hid (V5d.out.less fun b hb => hb.1), Lib.hid (HB.out.next HR.out)⟩
        refine AllReadyH.consL rfl (fun Kn hK => ?_) AllReadyH.nil
        go_simp
        obtain ⟨gz, hgz⟩ : ∃ g, g = wr.heap.size := ⟨_, rfl⟩
        have hzn : ZeroB wr.heap.size ((wr.drew).alloc Z5) gz := by rw [hgz]; exact ⟨⟨heap_alloc_new (wr.drew) Z5⟩, HR.out.size⟩
        have hb := belowZ (wr.drew)
        replace HR := Lib.hid (HR.out.next hb)
        clear hb
        have HZ := Lib.hid hzn
        rw [← hgz]
        clear hzn hgz
        refine hK.out _ _ (HC.out _ HR.out) (fun hh18 => ?_)
        clear hK Kn hh0
        try simp only [Act.put, List.setIfInBounds_toArray, List.set_cons_zero, List.set_cons_succ]
        refine wpAnyH_ready (rs := [2]) (by kernel_rfl) (by simp) ?_
        refine AllReadyH.consL rfl (fun Kn hK => ?_) AllReadyH.nil
        go_simp
        go_at_call 28
        with_reducible refine (KS.out _).mono ?_
        rintro x wx19 ⟨rfl, hb⟩
        replace HZ := Lib.hid (HZ.out.below hb)
        replace HR := Lib.hid (HR.out.next hb)
        clear hb
        refine hK.out _ _ (HC.out _ HR.out) (fun hh19 => ?_)
        clear hK Kn hh18
        try simp only [Act.put, List.setIfInBounds_toArray, List.set_cons_zero, List.set_cons_succ]
        refine wpAnyH_ready (rs := [3]) (by kernel_rfl) (by simp) ?_
        refine AllReadyH.consL rfl (fun Kn hK => ?_) AllReadyH.nil
        have hsz : g5 < (wx19).heap.size := Nat.lt_of_lt_of_le HL5.out HR.out.size
        have hzz := HZ.out.ge
        have hzl := (Array.getElem?_eq_some_iff.1 HZ.out.zero.heap).1
        go_simp
        go_at_call 12
        with_reducible refine (write_fuse3 S HM.out HK4.out _ _ _ (HD.out _ HR.out)).mono ?_
        rintro x wx20 ⟨u, rfl, hu, hb⟩
        replace hu : KV (fun b => b ≠ g5 ∧ b ≠ gz) wx20 u (fallen k K) := hu.less fun b hb => by rcases hb with hb | hb <;> constructor <;> omega
        obtain ⟨p0, c0, p1, c1, p3, c3, rfl, hh⟩ := hu.opened
        have HU := Lib.hid hh
        clear hu hh hsz hzz hzl
        replace HZ := Lib.hid (HZ.out.below hb)
        replace HR := Lib.hid (HR.out.next hb)
        clear hb
        refine hK.out _ _ (HC.out _ HR.out) (fun hh20 => ?_)
        clear hK Kn hh19
        try simp only [Act.put, List.setIfInBounds_toArray, List.set_cons_zero, List.set_cons_succ]
        refine wpAnyH_takeL (i := 4) (v := ?fv21) rfl (by kernel_rfl) (by kernel_rfl) (by kernel_rfl) (fun _ _ _ h => h) (Or.inl ⟨by rfl, ?fy21⟩) hh20 ?_
        case fy21 => (intro w hSw; (try dsimp only at hSw); go_simp; try (with_reducible rfl))
        try simp only [Act.put, List.setIfInBounds_toArray, List.set_cons_zero, List.set_cons_succ]
        refine wpAnyH_takeL (i := 5) (v := ?fv22) rfl (by kernel_rfl) (by kernel_rfl) (by kernel_rfl) (fun _ _ _ h => h) (Or.inl ⟨by rfl, ?fy22⟩) hh20 ?_
        case fy22 => (intro w hSw; (try dsimp only at hSw); go_simp; try (with_reducible rfl))
        try simp only [Act.put, List.setIfInBounds_toArray, List.set_cons_zero, List.set_cons_succ]
        refine wpAnyH_takeL (i := 6) (v := ?fv23) rfl (by kernel_rfl) (by kernel_rfl) (by kernel_rfl) (fun _ _ _ h => h) (Or.inl ⟨by rfl, ?fy23⟩) hh20 ?_
        case fy23 => (intro w hSw; (try dsimp only at hSw); go_simp; try (with_reducible rfl))
        try simp only [Act.put, List.setIfInBounds_toArray, List.set_cons_zero, List.set_cons_succ]
        refine wpAnyH_ready (rs := [8]) (by kernel_rfl) (by simp) ?_
        refine AllReadyH.consL rfl (fun Kn hK => ?_) AllReadyH.nil
        have V5b := Lib.hid (V5.out.below HR.out)
        skip
        have hne : gz ≠ g5 := by have := HZ.out.ge; have := HL5.out; omega
        have V5d := Lib.hid (VarK.other (P := fun b => b ≠ g5 ∧ b < wr.heap.size) HZ.out.zero.five (fun b hb => by have := HZ.out.ge; have := hb.2; omega) (V5f.out.below HR.out) (fun e => hne e.symm) (.slice p0 ((fallen k K)).kept.length c0) (.slice p1 ((fallen k K)).cache.length c1) (.int .i64 ((fallen k K)).fuse) (.slice p3 ((fallen k K)).keep.length c3) (.bool ((fallen k K)).dead))
        have VNd := Lib.hid (VarK.put HZ.out.zero.five (fun b hb => hb.2) HU.out)
        have HRd := Lib.hid (put5_below HR.out HZ.out.ge (.slice p0 ((fallen k K)).kept.length c0) (.slice p1 ((fallen k K)).cache.length c1) (.int .i64 ((fallen k K)).fuse) (.slice p3 ((fallen k K)).keep.length c3) (.bool ((fallen k K)).dead))
        obtain ⟨⟨zu0, zu1, zu2, zu3, zu4⟩, zf0, zf1, zf2, zf3, zf4⟩ := HZ.out.zero.cells
        go_simp
        clear zu0 zu1 zu2 zu3 zu4 zf0 zf1 zf2 zf3 zf4
        replace HR := HRd
        clear HRd
        refine hK.out _ _ (HC.out _ HR.out) (fun hh24 => ?_)
        clear hK Kn hh20
        try simp only [Act.put, List.setIfInBounds_toArray, List.set_cons_zero, List.set_cons_succ]
        refine wpAnyH_takeL (i := 9) (v := ?fv25) rfl (by kernel_rfl) (by kernel_rfl) (by kernel_rfl) (fun _ _ _ h => h) (Or.inl ⟨by rfl, ?fy25⟩) hh24 ?_
        case fy25 => (intro w hSw; (try dsimp only at hSw); go_simp; try (with_reducible rfl))
        try simp only [Act.put, List.setIfInBounds_toArray, List.set_cons_zero, List.set_cons_succ]
        refine wpAnyH_done (by kernel_rfl) ?_ _
        clear hh24
        simp only [Exit.then]
        go_step
        go_meet
        exact ⟨_, rfl, rfl, hne, Lib.hid (VNd.out.less fun b hb => hb.1), Lib.hid (V5d.out.less fun b hb => hb.1), Lib.hid (HB.out.next HR.out)⟩
      case rest =>
        clear V5f HD HC HR HL5 V5 HB
        obtain ⟨g10, rfl, rfl, hne, VN, V5, HB⟩ := hcut
        have KZ : Hid (∀ w, Calls Try.prog 29 #[] w fun e w' => e = .returned (.string zero32) ∧ Below w.heap.size w w') := Lib.hid fun w => zeros_doc w
        obtain ⟨np0, nc0, np1, nc1, np3, nc3, ⟨nu0, nu1, nu2, nu3, nu4⟩, nE⟩ := VN.out.opened
        obtain ⟨_, _, _, _, _, _, ee, hS, _, _, _⟩ := nE
        simp only [Value.agg.injEq, Array.mk.injEq, List.cons.injEq, Value.slice.injEq, true_and, and_true] at ee
        obtain ⟨⟨rfl, rfl⟩, _, _⟩ := ee
        obtain ⟨blk, off, rfl, hat⟩ := hS.at (i := 0) (by rw [fallen_length]; omega)
        have zc1 : (60 : Int) ≤ nc0 := by have := hS.len; rw [fallen_length] at this; omega
        have zc2 : (nc0 : Int) ≤ 9223372036854775807 := by have := hS.cap; unfold maxLen at this; omega
        rw [fallen_length] at nu0
        replace nu4 : wc.cell? ⟨g10, 4, none⟩ = some (.bool true) := nu4
        have HX0 : Hid (∀ wy, Below wc.heap.size wc wy → wy.cell? ⟨g10, 0, none⟩ = some (.slice (some ⟨blk, off, none⟩) 60 nc0)) := Lib.hid fun wy hb => (hb.cell (p := ⟨g10, 0, none⟩) VN.out.lt).trans nu0
        have HXt : Hid (∀ j, j < 60 → ∀ wy, Below wc.heap.size wc wy → wy.cell? ⟨blk, off + j, none⟩ = some (.string ((fallen k K).kept.getD j empty0))) := Lib.hid fun j hj wy hb => by
          have hl : j < (fallen k K).kept.length := by rw [fallen_length]; exact hj
          have h1 := str_at hat hl
          rw [(hb.cell (p := ⟨blk, off + j, none⟩) (World.block_lt_of_cell? wc _ h1)).trans h1, List.getD_eq_getElem?_getD, List.getElem?_eq_getElem hl]
          rfl
        have HBc := Lib.hid HB.out
        clear nu1 nu2 nu3 hS hat VN V5 HB KS hne KF
        go_wp2_with fail
        clear nu0 nu4
        go_loopw [12] (fun i wr => ∃ j : Nat, j ≤ k + 1 ∧ i = .int .i64 j ∧ Hid (Below wc.heap.size wc wr)) (fun i _ => k + 1 - (RowKit.intOf i).toNat)
        case atStart => exact ⟨0, Nat.zero_le _, rfl, Lib.hid (Below.refl _ _)⟩
        case round =>
          obtain ⟨j, hj, rfl, HB⟩ := hrel
          by_cases hjk : j ≤ k
          case pos =>
            have zj : (j : Int) ≤ (k : Int) := by omega
            have HF := Lib.hid (fallen_kept k HM.out K j hjk)
            have HN := Lib.hid (ftext_ne k j hjk HM.out)
            have zj60 : (j : Int) < 60 := by have := HM.out; omega
            have ct := HXt.out j (by omega)
            have HCT := Lib.hid ct
            clear ct hjk
            by_cases hjl : j < K.length
            case pos =>
              have zjl : (j : Int) < (K.length : Int) := by omega
              obtain ⟨kb, ko, rfl, hc⟩ := HK.out.at hjl
              have c1 := ((HBc.out.next HB.out).cell (p := ⟨kb, ko + j, none⟩) (World.block_lt_of_cell? w _ (hc j hjl))).trans (hc j hjl)
              clear hc
              cases hb1 : K.getD j false
              case true =>
                rw [hb1] at c1
                rw [hb1, if_pos rfl] at HF
                rw [HF.out] at HCT
                have zt := str_ne HN.out
                clear hb1 hjl
                go_wp2_with fail
                clear c1
                have HC : Hid (∀ w', Below wr.heap.size wr w' → w'.cell? ⟨g10, 0, none⟩ = some (.slice (some ⟨blk, off, none⟩) 60 nc0) ∧ w'.cell? ⟨blk, off + j, none⟩ = some (.string (ftext k j))) := Lib.hid fun w' hb => ⟨HX0.out _ (HB.out.next hb), HCT.out _ (HB.out.next hb)⟩
                have HR := Lib.hid ((Below.refl wr.heap.size wr).drew)
                refine wp_region_held_drew (S := (fun w' => w'.cell? ⟨g10, 0, none⟩ = some (.slice (some ⟨blk, off, none⟩) 60 nc0) ∧ w'.cell? ⟨blk, off + j, none⟩ = some (.string (ftext k j)))) (by kernel_rfl) (HC.out _ HR.out) (fun hh0 => ?_)
                refine wpAnyH_takeL (i := 0) (v := ?z1v0) rfl (by kernel_rfl) (by kernel_rfl) (by kernel_rfl) (fun _ _ _ h => h) (Or.inl ⟨by rfl, ?z1y0⟩) hh0 ?_
                case z1y0 => (intro w hSw; (try dsimp only at hSw); go_simp; try (with_reducible rfl))
                try simp only [Act.put, List.setIfInBounds_toArray, List.set_cons_zero, List.set_cons_succ]
                refine wpAnyH_takeL (i := 1) (v := ?z1v1) rfl (by kernel_rfl) (by kernel_rfl) (by kernel_rfl) (fun _ _ _ h => h) (Or.inl ⟨by rfl, ?z1y1⟩) hh0 ?_
                case z1y1 => (intro w hSw; (try dsimp only at hSw); go_simp; try (with_reducible rfl))
                try simp only [Act.put, List.setIfInBounds_toArray, List.set_cons_zero, List.set_cons_succ]
                refine wpAnyH_takeL (i := 2) (v := ?z1v2) rfl (by kernel_rfl) (by kernel_rfl) (by kernel_rfl) (fun _ _ _ h => h) (Or.inl ⟨by rfl, ?z1y2⟩) hh0 ?_
                case z1y2 => (intro w hSw; (try dsimp only at hSw); go_simp; try (with_reducible rfl))
                try simp only [Act.put, List.setIfInBounds_toArray, List.set_cons_zero, List.set_cons_succ]
                refine wpAnyH_takeL (i := 3) (v := ?z1v3) rfl (by kernel_rfl) (by kernel_rfl) (by kernel_rfl) (fun _ _ _ h => h) (Or.inl ⟨by rfl, ?z1y3⟩) hh0 ?_
                case z1y3 => (intro w hSw; (try dsimp only at hSw); go_simp; try (with_reducible rfl))
                try simp only [Act.put, List.setIfInBounds_toArray, List.set_cons_zero, List.set_cons_succ]
                refine wpAnyH_takeL (i := 4) (v := ?z1v4) rfl (by kernel_rfl) (by kernel_rfl) (by kernel_rfl) (fun _ _ _ h => h) (Or.inl ⟨by rfl, ?z1y4⟩) hh0 ?_
                case z1y4 => (intro w hSw; (try dsimp only at hSw); go_simp; try (with_reducible rfl))
                try simp only [Act.put, List.setIfInBounds_toArray, List.set_cons_zero, List.set_cons_succ]
                refine wpAnyH_takeL (i := 5) (v := ?z1v5) rfl (by kernel_rfl) (by kernel_rfl) (by kernel_rfl) (fun _ _ _ h => h) (Or.inl ⟨by rfl, ?z1y5⟩) hh0 ?_
                case z1y5 => (intro w hSw; (try dsimp only at hSw); go_simp; try (with_reducible rfl))
                try simp only [Act.put, List.setIfInBounds_toArray, List.set_cons_zero, List.set_cons_succ]
                refine wpAnyH_ready (rs := [6]) (by kernel_rfl) (by simp) ?_
                refine AllReadyH.consL rfl (fun Kn hK => ?_) AllReadyH.nil
                go_simp
                go_at_call 29
                refine (KZ.out _).mono ?_
                rintro x wx ⟨rfl, hb⟩
                replace HR := Lib.hid (HR.out.next hb)
                clear hb
                refine hK.out _ _ (HC.out _ HR.out) (fun hh1 => ?_)
                clear hK Kn hh0
                try simp only [Act.put, List.setIfInBounds_toArray, List.set_cons_zero, List.set_cons_succ]
                refine wpAnyH_takeL (i := 7) (v := ?z1v7) rfl (by kernel_rfl) (by kernel_rfl) (by kernel_rfl) (fun _ _ _ h => h) (Or.inl ⟨by rfl, ?z1y7⟩) hh1 ?_
                case z1y7 => (intro w hSw; (try dsimp only at hSw); go_simp; try (with_reducible rfl))
                try simp only [Act.put, List.setIfInBounds_toArray, List.set_cons_zero, List.set_cons_succ]
                refine wpAnyH_takeL (i := 8) (v := ?z1v8) rfl (by kernel_rfl) (by kernel_rfl) (by kernel_rfl) (fun _ _ _ h => h) (Or.inl ⟨by rfl, ?z1y8⟩) hh1 ?_
                case z1y8 => (intro w hSw; (try dsimp only at hSw); go_simp; try (with_reducible rfl))
                try simp only [Act.put, List.setIfInBounds_toArray, List.set_cons_zero, List.set_cons_succ]
                refine wpAnyH_done (by kernel_rfl) ?_ _
                clear hh1
                go_wp2
                go_roundw
                case rel => exact ⟨j + 1, by omega, by go_num, Lib.hid (HB.out.next HR.out)⟩
                case measure => simp [RowKit.intOf]; omega
              case false =>
                rw [hb1] at c1
                rw [hb1, if_neg (by decide)] at HF
                rw [HF.out] at HCT
                clear hb1 hjl
                go_wp2_with fail
                clear c1
                have HC : Hid (∀ w', Below wr.heap.size wr w' → w'.cell? ⟨g10, 0, none⟩ = some (.slice (some ⟨blk, off, none⟩) 60 nc0) ∧ w'.cell? ⟨blk, off + j, none⟩ = some (.string zero32)) := Lib.hid fun w' hb => ⟨HX0.out _ (HB.out.next hb), HCT.out _ (HB.out.next hb)⟩
                have HR := Lib.hid ((Below.refl wr.heap.size wr).drew)
                refine wp_region_held_drew (S := (fun w' => w'.cell? ⟨g10, 0, none⟩ = some (.slice (some ⟨blk, off, none⟩) 60 nc0) ∧ w'.cell? ⟨blk, off + j, none⟩ = some (.string zero32))) (by kernel_rfl) (HC.out _ HR.out) (fun hh0 => ?_)
                refine wpAnyH_takeL (i := 0) (v := ?z2v0) rfl (by kernel_rfl) (by kernel_rfl) (by kernel_rfl) (fun _ _ _ h => h) (Or.inl ⟨by rfl, ?z2y0⟩) hh0 ?_
                case z2y0 => (intro w hSw; (try dsimp only at hSw); go_simp; try (with_reducible rfl))
                try simp only [Act.put, List.setIfInBounds_toArray, List.set_cons_zero, List.set_cons_succ]
                refine wpAnyH_takeL (i := 1) (v := ?z2v1) rfl (by kernel_rfl) (by kernel_rfl) (by kernel_rfl) (fun _ _ _ h => h) (Or.inl ⟨by rfl, ?z2y1⟩) hh0 ?_
                case z2y1 => (intro w hSw; (try dsimp only at hSw); go_simp; try (with_reducible rfl))
                try simp only [Act.put, List.setIfInBounds_toArray, List.set_cons_zero, List.set_cons_succ]
                refine wpAnyH_takeL (i := 2) (v := ?z2v2) rfl (by kernel_rfl) (by kernel_rfl) (by kernel_rfl) (fun _ _ _ h => h) (Or.inl ⟨by rfl, ?z2y2⟩) hh0 ?_
                case z2y2 => (intro w hSw; (try dsimp only at hSw); go_simp; try (with_reducible rfl))
                try simp only [Act.put, List.setIfInBounds_toArray, List.set_cons_zero, List.set_cons_succ]
                refine wpAnyH_takeL (i := 3) (v := ?z2v3) rfl (by kernel_rfl) (by kernel_rfl) (by kernel_rfl) (fun _ _ _ h => h) (Or.inl ⟨by rfl, ?z2y3⟩) hh0 ?_
                case z2y3 => (intro w hSw; (try dsimp only at hSw); go_simp; try (with_reducible rfl))
                try simp only [Act.put, List.setIfInBounds_toArray, List.set_cons_zero, List.set_cons_succ]
                refine wpAnyH_takeL (i := 4) (v := ?z2v4) rfl (by kernel_rfl) (by kernel_rfl) (by kernel_rfl) (fun _ _ _ h => h) (Or.inl ⟨by rfl, ?z2y4⟩) hh0 ?_
                case z2y4 => (intro w hSw; (try dsimp only at hSw); go_simp; try (with_reducible rfl))
                try simp only [Act.put, List.setIfInBounds_toArray, List.set_cons_zero, List.set_cons_succ]
                refine wpAnyH_takeL (i := 5) (v := ?z2v5) rfl (by kernel_rfl) (by kernel_rfl) (by kernel_rfl) (fun _ _ _ h => h) (Or.inl ⟨by rfl, ?z2y5⟩) hh0 ?_
                case z2y5 => (intro w hSw; (try dsimp only at hSw); go_simp; try (with_reducible rfl))
                try simp only [Act.put, List.setIfInBounds_toArray, List.set_cons_zero, List.set_cons_succ]
                refine wpAnyH_ready (rs := [6]) (by kernel_rfl) (by simp) ?_
                refine AllReadyH.consL rfl (fun Kn hK => ?_) AllReadyH.nil
                go_simp
                go_at_call 29
                refine (KZ.out _).mono ?_
                rintro x wx ⟨rfl, hb⟩
                replace HR := Lib.hid (HR.out.next hb)
                clear hb
                refine hK.out _ _ (HC.out _ HR.out) (fun hh1 => ?_)
                clear hK Kn hh0
                try simp only [Act.put, List.setIfInBounds_toArray, List.set_cons_zero, List.set_cons_succ]
                refine wpAnyH_takeL (i := 7) (v := ?z2v7) rfl (by kernel_rfl) (by kernel_rfl) (by kernel_rfl) (fun _ _ _ h => h) (Or.inl ⟨by rfl, ?z2y7⟩) hh1 ?_
                case z2y7 => (intro w hSw; (try dsimp only at hSw); go_simp; try (with_reducible rfl))
                try simp only [Act.put, List.setIfInBounds_toArray, List.set_cons_zero, List.set_cons_succ]
                refine wpAnyH_takeL (i := 8) (v := ?z2v8) rfl (by kernel_rfl) (by kernel_rfl) (by kernel_rfl) (fun _ _ _ h => h) (Or.inl ⟨by rfl, ?z2y8⟩) hh1 ?_
                case z2y8 => (intro w hSw; (try dsimp only at hSw); go_simp; try (with_reducible rfl))
                try simp only [Act.put, List.setIfInBounds_toArray, List.set_cons_zero, List.set_cons_succ]
                refine wpAnyH_done (by kernel_rfl) ?_ _
                clear hh1
                go_wp2
                go_roundw
                case rel => exact ⟨j + 1, by omega, by go_num, Lib.hid (HB.out.next HR.out)⟩
                case measure => simp [RowKit.intOf]; omega
            case neg =>
              have zjl : ¬ (j : Int) < (K.length : Int) := by omega
              have hb1 : K.getD j false = false := by rw [List.getD_eq_getElem?_getD, List.getElem?_eq_none (by omega)]; rfl
              rw [hb1, if_neg (by decide)] at HF
              rw [HF.out] at HCT
              clear hb1 hjl
              go_wp2_with fail
              have HC : Hid (∀ w', Below wr.heap.size wr w' → w'.cell? ⟨g10, 0, none⟩ = some (.slice (some ⟨blk, off, none⟩) 60 nc0) ∧ w'.cell? ⟨blk, off + j, none⟩ = some (.string zero32)) := Lib.hid fun w' hb => ⟨HX0.out _ (HB.out.next hb), HCT.out _ (HB.out.next hb)⟩
              have HR := Lib.hid ((Below.refl wr.heap.size wr).drew)
              refine wp_region_held_drew (S := (fun w' => w'.cell? ⟨g10, 0, none⟩ = some (.slice (some ⟨blk, off, none⟩) 60 nc0) ∧ w'.cell? ⟨blk, off + j, none⟩ = some (.string zero32))) (by kernel_rfl) (HC.out _ HR.out) (fun hh0 => ?_)
              refine wpAnyH_takeL (i := 0) (v := ?z3v0) rfl (by kernel_rfl) (by kernel_rfl) (by kernel_rfl) (fun _ _ _ h => h) (Or.inl ⟨by rfl, ?z3y0⟩) hh0 ?_
              case z3y0 => (intro w hSw; (try dsimp only at hSw); go_simp; try (with_reducible rfl))
              try simp only [Act.put, List.setIfInBounds_toArray, List.set_cons_zero, List.set_cons_succ]
              refine wpAnyH_takeL (i := 1) (v := ?z3v1) rfl (by kernel_rfl) (by kernel_rfl) (by kernel_rfl) (fun _ _ _ h => h) (Or.inl ⟨by rfl, ?z3y1⟩) hh0 ?_
              case z3y1 => (intro w hSw; (try dsimp only at hSw); go_simp; try (with_reducible rfl))
              try simp only [Act.put, List.setIfInBounds_toArray, List.set_cons_zero, List.set_cons_succ]
              refine wpAnyH_takeL (i := 2) (v := ?z3v2) rfl (by kernel_rfl) (by kernel_rfl) (by kernel_rfl) (fun _ _ _ h => h) (Or.inl ⟨by rfl, ?z3y2⟩) hh0 ?_
              case z3y2 => (intro w hSw; (try dsimp only at hSw); go_simp; try (with_reducible rfl))
              try simp only [Act.put, List.setIfInBounds_toArray, List.set_cons_zero, List.set_cons_succ]
              refine wpAnyH_takeL (i := 3) (v := ?z3v3) rfl (by kernel_rfl) (by kernel_rfl) (by kernel_rfl) (fun _ _ _ h => h) (Or.inl ⟨by rfl, ?z3y3⟩) hh0 ?_
              case z3y3 => (intro w hSw; (try dsimp only at hSw); go_simp; try (with_reducible rfl))
              try simp only [Act.put, List.setIfInBounds_toArray, List.set_cons_zero, List.set_cons_succ]
              refine wpAnyH_takeL (i := 4) (v := ?z3v4) rfl (by kernel_rfl) (by kernel_rfl) (by kernel_rfl) (fun _ _ _ h => h) (Or.inl ⟨by rfl, ?z3y4⟩) hh0 ?_
              case z3y4 => (intro w hSw; (try dsimp only at hSw); go_simp; try (with_reducible rfl))
              try simp only [Act.put, List.setIfInBounds_toArray, List.set_cons_zero, List.set_cons_succ]
              refine wpAnyH_takeL (i := 5) (v := ?z3v5) rfl (by kernel_rfl) (by kernel_rfl) (by kernel_rfl) (fun _ _ _ h => h) (Or.inl ⟨by rfl, ?z3y5⟩) hh0 ?_
              case z3y5 => (intro w hSw; (try dsimp only at hSw); go_simp; try (with_reducible rfl))
              try simp only [Act.put, List.setIfInBounds_toArray, List.set_cons_zero, List.set_cons_succ]
              refine wpAnyH_ready (rs := [6]) (by kernel_rfl) (by simp) ?_
              refine AllReadyH.consL rfl (fun Kn hK => ?_) AllReadyH.nil
              go_simp
              go_at_call 29
              refine (KZ.out _).mono ?_
              rintro x wx ⟨rfl, hb⟩
              replace HR := Lib.hid (HR.out.next hb)
              clear hb
              refine hK.out _ _ (HC.out _ HR.out) (fun hh1 => ?_)
              clear hK Kn hh0
              try simp only [Act.put, List.setIfInBounds_toArray, List.set_cons_zero, List.set_cons_succ]
              refine wpAnyH_takeL (i := 7) (v := ?z3v7) rfl (by kernel_rfl) (by kernel_rfl) (by kernel_rfl) (fun _ _ _ h => h) (Or.inl ⟨by rfl, ?z3y7⟩) hh1 ?_
              case z3y7 => (intro w hSw; (try dsimp only at hSw); go_simp; try (with_reducible rfl))
              try simp only [Act.put, List.setIfInBounds_toArray, List.set_cons_zero, List.set_cons_succ]
              refine wpAnyH_takeL (i := 8) (v := ?z3v8) rfl (by kernel_rfl) (by kernel_rfl) (by kernel_rfl) (fun _ _ _ h => h) (Or.inl ⟨by rfl, ?z3y8⟩) hh1 ?_
              case z3y8 => (intro w hSw; (try dsimp only at hSw); go_simp; try (with_reducible rfl))
              try simp only [Act.put, List.setIfInBounds_toArray, List.set_cons_zero, List.set_cons_succ]
              refine wpAnyH_done (by kernel_rfl) ?_ _
              clear hh1
              go_wp2
              go_roundw
              case rel => exact ⟨j + 1, by omega, by go_num, Lib.hid (HB.out.next HR.out)⟩
              case measure => simp [RowKit.intOf]; omega
          case neg =>
            obtain rfl : j = k + 1 := by omega
            have zz : ¬ ((k + 1 : Nat) : Int) ≤ (k : Int) := by omega
            clear hjk
            go_wp2
            go_ret
            exact ⟨rfl, HBc.out.next HB.out⟩
end Go.Proofs.Ytaamjamcnnalbaa.Dv

