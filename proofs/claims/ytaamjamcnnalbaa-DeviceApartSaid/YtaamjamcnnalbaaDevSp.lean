/-
  What package device owes.
-/
import Derived.Test.YtaamjamcnnalbaaDevSe
namespace Go.Proofs.Ytaamjamcnnalbaa.Dv
set_option maxRecDepth 100000
open Go.RowKit Go.Lib
/-- how a disk lies, and in which blocks its Keep may -/
def KV (P : Nat → Prop) (w : World) (v : Value) (d : Dsk) : Prop := ∃ p0 c0 p1 c1 p3 c3, v = .agg #[.slice p0 d.kept.length c0, .slice p1 d.cache.length c1, .int .i64 d.fuse, .slice p3 d.keep.length c3, .bool d.dead] ∧
  SLie strS w p0 d.kept c0 ∧ SLie putS w p1 d.cache c1 ∧ FlagsLie w p3 d.keep c3 ∧ (d.keep = [] ∨ ∃ blk off, p3 = some ⟨blk, off, none⟩ ∧ P blk)
theorem KV.lie {P : Nat → Prop} {w : World} {v : Value} {d : Dsk} (h : KV P w v d) : DLie w v d := by
  obtain ⟨p0, c0, p1, c1, p3, c3, e, h0, h1, h3, _⟩ := h
  exact ⟨p0, c0, p1, c1, p3, c3, e, h0, h1, h3⟩
theorem KV.less {P Q : Nat → Prop} {w : World} {v : Value} {d : Dsk} (h : KV P w v d) (hq : ∀ b, P b → Q b) : KV Q w v d := by
  obtain ⟨p0, c0, p1, c1, p3, c3, e, h0, h1, h3, h4⟩ := h
  exact ⟨p0, c0, p1, c1, p3, c3, e, h0, h1, h3, h4.imp id fun ⟨b, o, e, hp⟩ => ⟨b, o, e, hq b hp⟩⟩
theorem KV.below {P : Nat → Prop} {w w' : World} {v : Value} {d : Dsk} (h : KV P w v d) (hb : Below w.heap.size w w') : KV P w' v d := by
  obtain ⟨p0, c0, p1, c1, p3, c3, e, h0, h1, h3, h4⟩ := h
  exact ⟨p0, c0, p1, c1, p3, c3, e, h0.below hb, h1.below hb, h3.below hb, h4⟩
/-- a row lies in a block that there is -/
theorem KV.fresh {P : Nat → Prop} {w : World} {v : Value} {d : Dsk} (h : KV P w v d) : KV (fun b => P b ∧ b < w.heap.size) w v d := by
  obtain ⟨p0, c0, p1, c1, p3, c3, e, h0, h1, h3, h4⟩ := h
  refine ⟨p0, c0, p1, c1, p3, c3, e, h0, h1, h3, ?_⟩
  by_cases hk : d.keep = []
  · exact .inl hk
  · obtain ⟨b, o, e3, hp⟩ := h4.resolve_left hk
    obtain ⟨b2, o2, e4, hc⟩ := h3.at (i := 0) (List.length_pos_iff.2 hk)
    rw [e3] at e4
    cases e4
    exact .inr ⟨b, o, e3, hp, World.block_lt_of_cell? w _ (hc 0 (List.length_pos_iff.2 hk))⟩
theorem DLie.kv {w : World} {v : Value} {d : Dsk} (h : DLie w v d) : KV (fun _ => True) w v d := by
  obtain ⟨p0, c0, p1, c1, p3, c3, e, h0, h1, h3⟩ := h
  refine ⟨p0, c0, p1, c1, p3, c3, e, h0, h1, h3, ?_⟩
  rcases h3.lies with hk | ⟨b, o, e3, _⟩
  · exact .inl hk
  · exact .inr ⟨b, o, e3, trivial⟩
theorem DLie.kvNone {P : Nat → Prop} {w : World} {v : Value} {d : Dsk} (h : DLie w v d) (hk : d.keep = []) : KV P w v d := by
  obtain ⟨p0, c0, p1, c1, p3, c3, e, h0, h1, h3⟩ := h
  exact ⟨p0, c0, p1, c1, p3, c3, e, h0, h1, h3, .inl hk⟩
structure SpecD : Prop where
  new : ∀ (n : Int) (w : World), -9223372036854775808 ≤ n → n ≤ 9223372036854775807 →
    Calls Try.prog 19 #[.int .i64 n] w fun x w' => ∃ u, x = .returned (.tuple #[u, .int .i64 (newD n).2]) ∧ DLie w' u (newD n).1 ∧ Below w.heap.size w w'
  may : ∀ (d : Dsk) (v : Value) (w : World), Sized d → DLie w v d → Calls Try.prog 16 #[v] w fun e w' => e = .returned (.bool (mayD d)) ∧ Below w.heap.size w w'
  read : ∀ (d : Dsk) (v : Value) (a : Int) (w : World), Sized d → -9223372036854775808 ≤ a → a ≤ 9223372036854775807 → DLie w v d →
    Calls Try.prog 10 #[v, .int .i64 a] w fun x w' => x = .returned (.tuple #[.string (readD d a).1, .int .i64 (readD d a).2]) ∧ Below w.heap.size w w'
  write4 : ∀ (P : Nat → Prop) (d : Dsk) (v : Value) (a : Int) (s : ByteArray) (w : World), Sized d → -9223372036854775808 ≤ a → a ≤ 9223372036854775807 → KV P w v d →
    Calls Try.prog 12 #[v, .int .i64 a, .string s] w fun x w' => ∃ u, x = .returned (.tuple #[u, .int .i64 (writeD d a s).2]) ∧ KV (fun b => P b ∨ w.heap.size ≤ b) w' u (writeD d a s).1 ∧ Below w.heap.size w w'
  flush : ∀ (d : Dsk) (v : Value) (w : World), Sized d → DLie w v d →
    Calls Try.prog 14 #[v] w fun x w' => ∃ u, x = .returned (.tuple #[u, .int .i64 (flushD d).2]) ∧ DLie w' u (flushD d).1 ∧ Below w.heap.size w w'
  arm4 : ∀ (P : Nat → Prop) (d : Dsk) (v : Value) (f : Int) (K : List Bool) (kk : Nat) (pk : Option Addr) (ck : Nat) (w : World), Sized d → -9223372036854775808 ≤ f → f ≤ 9223372036854775807 → K.length = kk → kk ≤ 140737488351232 → DLie w v d → FlagsLie w pk K ck → (∀ a, pk = some a → P a.block) →
    Calls Try.prog 21 #[v, .int .i64 f, .slice pk kk ck] w fun x w' => ∃ u, x = .returned u ∧ KV (fun b => P b ∨ w.heap.size ≤ b) w' u (armD d f K) ∧ Below w.heap.size w w'
  die : ∀ (d : Dsk) (v : Value) (K : List Bool) (kk : Nat) (pk : Option Addr) (ck : Nat) (w : World), Sized d → K.length = kk → DLie w v d → FlagsLie w pk K ck →
    Calls Try.prog 23 #[v, .slice pk kk ck] w fun x w' => ∃ u, x = .returned u ∧ DLie w' u (dieD d K) ∧ Below w.heap.size w w'
  revive : ∀ (d : Dsk) (v : Value) (w : World), Sized d → DLie w v d →
    Calls Try.prog 25 #[v] w fun x w' => ∃ u, x = .returned u ∧ DLie w' u (reviveD d) ∧ Below w.heap.size w w'
theorem SpecD.write (S : SpecD) (d : Dsk) (v : Value) (a : Int) (s : ByteArray) (w : World) (hd : Sized d) (h1 : -9223372036854775808 ≤ a) (h2 : a ≤ 9223372036854775807) (h : DLie w v d) :
    Calls Try.prog 12 #[v, .int .i64 a, .string s] w fun x w' => ∃ u, x = .returned (.tuple #[u, .int .i64 (writeD d a s).2]) ∧ DLie w' u (writeD d a s).1 ∧ Below w.heap.size w w' :=
  (S.write4 _ d v a s w hd h1 h2 h.kv).mono fun _ _ ⟨u, e, k, b⟩ => ⟨u, e, k.lie, b⟩
theorem SpecD.arm (S : SpecD) (d : Dsk) (v : Value) (f : Int) (K : List Bool) (kk : Nat) (pk : Option Addr) (ck : Nat) (w : World) (hd : Sized d) (h1 : -9223372036854775808 ≤ f) (h2 : f ≤ 9223372036854775807) (hk : K.length = kk) (hk4 : kk ≤ 140737488351232) (h : DLie w v d) (hK : FlagsLie w pk K ck) :
    Calls Try.prog 21 #[v, .int .i64 f, .slice pk kk ck] w fun x w' => ∃ u, x = .returned u ∧ DLie w' u (armD d f K) ∧ Below w.heap.size w w' :=
  (S.arm4 (fun _ => True) d v f K kk pk ck w hd h1 h2 hk hk4 h hK (fun _ _ => trivial)).mono fun _ _ ⟨u, e, k, b⟩ => ⟨u, e, k.lie, b⟩
theorem Sized.none : Sized noneD := ⟨by simp [noneD], by simp [noneD], by simp [noneD], by simp [noneD], by simp [noneD]⟩
theorem sized_die {d : Dsk} (h : Sized d) (K : List Bool) : Sized (dieD d K) := by
  unfold dieD
  split
  · exact ⟨by simp only; rw [dieC_length]; exact h.kept, by simp, by simp, by simp, by simp⟩
  · exact Sized.none
theorem sized_revive {d : Dsk} (h : Sized d) : Sized (reviveD d) := by
  unfold reviveD
  split
  · exact ⟨h.kept, by simp, by simp, by simp, by simp⟩
  · exact Sized.none
theorem sized_flush {d : Dsk} (h : Sized d) : Sized (flushD d).1 := by
  unfold flushD
  split
  · split
    · exact h
    · exact ⟨by simp only; rw [applyC_length]; exact h.kept, by simp, h.keep, h.lo, h.hi⟩
  · exact Sized.none
theorem sized_arm {d : Dsk} (h : Sized d) {f : Int} (h2 : f ≤ 9223372036854775807) {K : List Bool} (hK : K.length ≤ 140737488351232) : Sized (armD d f K) := by
  unfold armD
  split
  · refine ⟨h.kept, h.cache, hK, ?_, ?_⟩
    · simp only; split <;> omega
    · simp only; split <;> omega
  · exact Sized.none
theorem sized_write {d : Dsk} (h : Sized d) (a : Int) (s : ByteArray) : Sized (writeD d a s).1 := by
  unfold writeD
  split
  · have hs : ∀ m : mayD d = true, (d.cache ++ [(a, s)]).length ≤ 140737488351232 := fun m => by have := mayD_kept m; rw [List.length_append]; simp only [List.length_singleton]; omega
    rename_i hm
    split
    · exact h
    · split
      · exact h
      · split
        · exact sized_die (d := { d with cache := d.cache ++ [(a, s)] }) ⟨h.kept, hs hm, h.keep, h.lo, h.hi⟩ _
        · refine ⟨h.kept, hs hm, h.keep, ?_, ?_⟩
          · have := h.lo; have := h.hi; simp only; split <;> omega
          · have := h.lo; have := h.hi; simp only; split <;> omega
  · exact Sized.none
theorem sized_new (n : Int) : Sized (newD n).1 := by
  unfold newD
  split
  · exact ⟨by simp only; rw [List.length_replicate]; omega, by simp, by simp, by simp, by simp⟩
  · exact Sized.none
end Go.Proofs.Ytaamjamcnnalbaa.Dv


