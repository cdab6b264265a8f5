/-
  slices.Clone of texts, of writes, of bools.
-/
import Derived.Test.YtaamjamcnnalbaaDevSp
namespace Go.Proofs.Ytaamjamcnnalbaa.Dv
set_option maxRecDepth 100000
open Go.RowKit Go.Lib
def boolC : Shape Bool := ⟨1, fun b => [.bool b], fun _ => rfl, fun _ u hu => by simp at hu; subst hu; rfl⟩
theorem infoBool : (Try.prog.info? 4).map (fun i => (i.zero, i.size, i.bytes)) = some (some (.bool false), 1, 1) := by kernel_rfl
theorem flags_lie {w : World} {a : Addr} {l : List Bool} {c : Nat} (h : FlagsLie w (some a) l c) : SLie boolC w (some a) l c := by
  refine ⟨h.len, h.cap, ?_, fun e => by cases e⟩
  rcases h.lies with hl | ⟨blk, off, e, k⟩
  · exact .inl hl
  · refine .inr ⟨blk, off, e, fun i hi j v hv => ?_⟩
    have hj : j = 0 := by
      have := (List.getElem?_eq_some_iff.1 hv).1
      have h1 : (boolC.cells l[i]).length = 1 := rfl
      omega
    subst hj
    cases hv
    show w.cell? ⟨blk, off + i * 1 + 0, none⟩ = _
    rw [Nat.mul_one, Nat.add_zero]
    exact flags_cell k hi
theorem lie_flags {w : World} {p : Option Addr} {l : List Bool} {c : Nat} (h : SLie boolC w p l c) : FlagsLie w p l c := by
  refine ⟨h.len, h.cap, ?_⟩
  rcases h.lies with hl | ⟨blk, off, e, k⟩
  · exact .inl hl
  · refine .inr ⟨blk, off, e, fun i hi => ?_⟩
    have := k i hi 0 (.bool l[i]) rfl
    rw [show off + i * boolC.size + 0 = off + i by show off + i * 1 + 0 = _; omega] at this
    rw [this, List.getD_eq_getElem?_getD, List.getElem?_eq_getElem hi]; rfl
theorem eql_nil_22 (a : Option Addr) (l c : Nat) (w : World) : (binOp .eql 22 (.slice a l c) (.slice none 0 0)).run Try.prog w = .ok (.bool a.isNone) w := by
  simp only [binOp]
  simp [run_equal_slice_nil w 22 9 a l c Try.underlying22]
set_option maxHeartbeats 1000000 in
theorem clone_str (L : List ByteArray) (n : Nat) (hn : L.length = n) (hb : n * 16 ≤ 140737488355328) (p : Option Addr) (c : Nat) (w : World) (h0 : p = none → L = []) (h : ∀ a, p = some a → SLie strS w (some a) L c) :
    Calls Try.prog 48 #[.slice p n c] w fun e w' => ∃ q d, e = .returned (.slice q n d) ∧ w'.ownsRow w.heap.size 9 1 (.slice q n d) n (flat strS L) ∧ Below w.heap.size w w' := by
  cases p with
  | none =>
    have hl := h0 rfl
    subst hl
    have hn0 : n = 0 := hn.symm
    subst hn0
    have hE := fun w => eql_nil_22 none 0 c w
    clear h h0 hn hb
    go_enter Try.func48, Try.ntmps48
    go_wp2
    go_ret
    exact ⟨_, _, rfl, World.ownsRow_nil _ _ _ _, Below.refl _ _⟩
  | some a =>
    have hs := h a rfl
    have h2 := hs.below ((Below.refl w.heap.size w).alloc (Nat.le_refl _) (.cells #[] 9))
    have o2 := slie_news h2
    have hfl : (flat strS L).length = n * 1 := by rw [flat_length, hn]; rfl
    obtain ⟨i0, hi0, hz0, hz1, hz2⟩ := info_parts infoStr
    have o1 : (w.alloc (.cells #[] 9)).ownsRow w.heap.size 9 1 (.slice (some ⟨w.heap.size, 0, none⟩) 0 0) 0 [] := World.ownsRow_made (base := w.heap.size) (e := 9) (size := 1) w #[] 0 (Nat.le_refl _) (by decide) rfl
    have o3 : w.heap.size ≤ (w.alloc (.cells #[] 9)).heap.size := by simp
    have HB := Lib.hid ((Below.refl w.heap.size w).alloc (Nat.le_refl _) (.cells #[] 9))
    have hE := fun w => eql_nil_22 (some a) n c w
    have hz63 : 0 + n ≤ maxLen := by have := hs.len; have := hs.cap; omega
    have Hb := Lib.hid hb
    clear h h0 hs h2 hn hb
    go_enter Try.func48, Try.ntmps48
    go_wp2_with (with_reducible refine stop_append ?_)
    unfold Stop
    refine wpList_append_own _ rfl _ _ 22 rfl w.heap.size 9 i0 (.string ⟨#[]⟩) 1 16 Try.underlying22 hi0 hz0 hz1 hz2 rfl (by decide) _ 0 [] rfl o1 a n c (flat strS L) rfl hfl o2 (flat_cell L) hz63 (by have := Hb.out; omega) o3 ?_
    intro v1 w3 own1 gr1 nn1
    have hv1 : ¬ v1 = .slice none 0 0 := fun e => by have := (nn1.1 e).1; cases this
    obtain ⟨g, d, rfl⟩ := own_some own1 hv1
    rw [Nat.zero_add, List.nil_append] at own1
    have O1 := Lib.hid own1
    have B1 := Lib.hid (HB.out.grown gr1 o3 (fun b hb => by cases hb; exact Nat.le_refl _))
    clear own1 gr1 nn1 hv1 o1 o2 o3 HB
    go_wp2
    go_ret
    exact ⟨_, d, rfl, O1.out, B1.out⟩
theorem eql_nil_23 (a : Option Addr) (l c : Nat) (w : World) : (binOp .eql 23 (.slice a l c) (.slice none 0 0)).run Try.prog w = .ok (.bool a.isNone) w := by
  simp only [binOp]
  simp [run_equal_slice_nil w 23 45 a l c Try.underlying23]
set_option maxHeartbeats 1000000 in
theorem clone_put (L : List (Int × ByteArray)) (n : Nat) (hn : L.length = n) (hb : n * 24 ≤ 140737488355328) (p : Option Addr) (c : Nat) (w : World) (h0 : p = none → L = []) (h : ∀ a, p = some a → SLie putS w (some a) L c) :
    Calls Try.prog 49 #[.slice p n c] w fun e w' => ∃ q d, e = .returned (.slice q n d) ∧ w'.ownsRow w.heap.size 45 2 (.slice q n d) n (flat putS L) ∧ Below w.heap.size w w' := by
  cases p with
  | none =>
    have hl := h0 rfl
    subst hl
    have hn0 : n = 0 := hn.symm
    subst hn0
    have hE := fun w => eql_nil_23 none 0 c w
    clear h h0 hn hb
    go_enter Try.func49, Try.ntmps49
    go_wp2
    go_ret
    exact ⟨_, _, rfl, World.ownsRow_nil _ _ _ _, Below.refl _ _⟩
  | some a =>
    have hs := h a rfl
    have h2 := hs.below ((Below.refl w.heap.size w).alloc (Nat.le_refl _) (.cells #[] 45))
    have o2 := slie_news h2
    have hfl : (flat putS L).length = n * 2 := by rw [flat_length, hn]; rfl
    obtain ⟨i0, hi0, hz0, hz1, hz2⟩ := info_parts infoPut
    have o1 : (w.alloc (.cells #[] 45)).ownsRow w.heap.size 45 2 (.slice (some ⟨w.heap.size, 0, none⟩) 0 0) 0 [] := World.ownsRow_made (base := w.heap.size) (e := 45) (size := 2) w #[] 0 (Nat.le_refl _) (by decide) rfl
    have o3 : w.heap.size ≤ (w.alloc (.cells #[] 45)).heap.size := by simp
    have HB := Lib.hid ((Below.refl w.heap.size w).alloc (Nat.le_refl _) (.cells #[] 45))
    have hE := fun w => eql_nil_23 (some a) n c w
    have hz63 : 0 + n ≤ maxLen := by have := hs.len; have := hs.cap; omega
    have Hb := Lib.hid hb
    clear h h0 hs h2 hn hb
    go_enter Try.func49, Try.ntmps49
    go_wp2_with (with_reducible refine stop_append ?_)
    unfold Stop
    refine wpList_append_own _ rfl _ _ 23 rfl w.heap.size 45 i0 (.agg #[.int .i64 0, .string ⟨#[]⟩]) 2 24 Try.underlying23 hi0 hz0 hz1 hz2 rfl (by decide) _ 0 [] rfl o1 a n c (flat putS L) rfl hfl o2 (flat_cell L) hz63 (by have := Hb.out; omega) o3 ?_
    intro v1 w3 own1 gr1 nn1
    have hv1 : ¬ v1 = .slice none 0 0 := fun e => by have := (nn1.1 e).1; cases this
    obtain ⟨g, d, rfl⟩ := own_some own1 hv1
    rw [Nat.zero_add, List.nil_append] at own1
    have O1 := Lib.hid own1
    have B1 := Lib.hid (HB.out.grown gr1 o3 (fun b hb => by cases hb; exact Nat.le_refl _))
    clear own1 gr1 nn1 hv1 o1 o2 o3 HB
    go_wp2
    go_ret
    exact ⟨_, d, rfl, O1.out, B1.out⟩
theorem eql_nil_24 (a : Option Addr) (l c : Nat) (w : World) : (binOp .eql 24 (.slice a l c) (.slice none 0 0)).run Try.prog w = .ok (.bool a.isNone) w := by
  simp only [binOp]
  simp [run_equal_slice_nil w 24 4 a l c Try.underlying24]
set_option maxHeartbeats 1000000 in
theorem clone_bool (L : List Bool) (n : Nat) (hn : L.length = n) (hb : n * 1 ≤ 140737488355328) (p : Option Addr) (c : Nat) (w : World) (h0 : p = none → L = []) (h : ∀ a, p = some a → SLie boolC w (some a) L c) :
    Calls Try.prog 43 #[.slice p n c] w fun e w' => ∃ q d, e = .returned (.slice q n d) ∧ w'.ownsRow w.heap.size 4 1 (.slice q n d) n (flat boolC L) ∧ Below w.heap.size w w' := by
  cases p with
  | none =>
    have hl := h0 rfl
    subst hl
    have hn0 : n = 0 := hn.symm
    subst hn0
    have hE := fun w => eql_nil_24 none 0 c w
    clear h h0 hn hb
    go_enter Try.func43, Try.ntmps43
    go_wp2
    go_ret
    exact ⟨_, _, rfl, World.ownsRow_nil _ _ _ _, Below.refl _ _⟩
  | some a =>
    have hs := h a rfl
    have h2 := hs.below ((Below.refl w.heap.size w).alloc (Nat.le_refl _) (.cells #[] 4))
    have o2 := slie_news h2
    have hfl : (flat boolC L).length = n * 1 := by rw [flat_length, hn]; rfl
    obtain ⟨i0, hi0, hz0, hz1, hz2⟩ := info_parts infoBool
    have o1 : (w.alloc (.cells #[] 4)).ownsRow w.heap.size 4 1 (.slice (some ⟨w.heap.size, 0, none⟩) 0 0) 0 [] := World.ownsRow_made (base := w.heap.size) (e := 4) (size := 1) w #[] 0 (Nat.le_refl _) (by decide) rfl
    have o3 : w.heap.size ≤ (w.alloc (.cells #[] 4)).heap.size := by simp
    have HB := Lib.hid ((Below.refl w.heap.size w).alloc (Nat.le_refl _) (.cells #[] 4))
    have hE := fun w => eql_nil_24 (some a) n c w
    have hz63 : 0 + n ≤ maxLen := by have := hs.len; have := hs.cap; omega
    have Hb := Lib.hid hb
    clear h h0 hs h2 hn hb
    go_enter Try.func43, Try.ntmps43
    go_wp2_with (with_reducible refine stop_append ?_)
    unfold Stop
    refine wpList_append_own _ rfl _ _ 24 rfl w.heap.size 4 i0 (.bool false) 1 1 Try.underlying24 hi0 hz0 hz1 hz2 rfl (by decide) _ 0 [] rfl o1 a n c (flat boolC L) rfl hfl o2 (flat_cell L) hz63 (by have := Hb.out; omega) o3 ?_
    intro v1 w3 own1 gr1 nn1
    have hv1 : ¬ v1 = .slice none 0 0 := fun e => by have := (nn1.1 e).1; cases this
    obtain ⟨g, d, rfl⟩ := own_some own1 hv1
    rw [Nat.zero_add, List.nil_append] at own1
    have O1 := Lib.hid own1
    have B1 := Lib.hid (HB.out.grown gr1 o3 (fun b hb => by cases hb; exact Nat.le_refl _))
    clear own1 gr1 nn1 hv1 o1 o2 o3 HB
    go_wp2
    go_ret
    exact ⟨_, d, rfl, O1.out, B1.out⟩
end Go.Proofs.Ytaamjamcnnalbaa.Dv
