/-
  The places at which three bytes stood, as a list for each key; the key's law; worlds in which a map of places has turned.
-/
import Derived.Test.YtdiimebcahhieaaGp
import Derived.Test.YtdiimebcahhieaaSt
namespace Go.Proofs.Ytdiimebcahhieaa
open Go.RowKit Go.Lib Mt
theorem laidOut : laidOutB Try.prog = true := by kernel_rfl
theorem row42 : (42 : TypeId) < Try.prog.types.size := of_decide_eq_true (by kernel_rfl)
theorem wide42 : (match Try.prog.underlying 42 with | some (.array _ _) | some (.struct _) => true | _ => false) = true := by rw [Try.underlying42]
theorem law42 : WideMaps.KeyLaw Try.prog 42 := deep_law_laid laidOut (m := 2) (by omega) row42 (by kernel_rfl) wide42
theorem zero45 (w : World) : (zeroValue 45).run Try.prog w = .ok (.slice none 0 0) w := by kernel_rfl
theorem info3 : (Try.prog.info? 3).map (fun i => (i.zero, i.size, i.bytes)) = some (some (.int .i64 0), 1, 8) := by kernel_rfl
theorem key_is (a b c : UInt8) : ∃ l, keyOf Try.prog 42 (.agg #[.int .u8 (a.toNat : Int), .int .u8 (b.toNat : Int), .int .u8 (c.toNat : Int)]) = some l := by
  have hk : Try.prog.keyType 42 = true := by kernel_rfl
  have hc : Try.prog.cellsOf 42 = 3 := by kernel_rfl
  have hc5 : Try.prog.cellsOf 5 = 1 := by kernel_rfl
  have hu := Try.underlying42
  have hu5 := Try.underlying5
  have hs : ∃ m, Try.prog.types.size + 1 = m + 2 := ⟨Try.prog.types.size - 1, by have : (42 : Nat) < Try.prog.types.size := row42; omega⟩
  obtain ⟨m, hm⟩ := hs
  have h1 : (Lit.int .u8 (a.toNat : Int)).wf = true := WalkArith.wf_u8 (by have := a.toNat_lt; omega)
  have h2 : (Lit.int .u8 (b.toNat : Int)).wf = true := WalkArith.wf_u8 (by have := b.toNat_lt; omega)
  have h3 : (Lit.int .u8 (c.toNat : Int)).wf = true := WalkArith.wf_u8 (by have := c.toNat_lt; omega)
  unfold keyOf
  simp only [hu]
  rw [if_pos (by simp [hk, Value.formed, hu, hc]), hm]
  unfold Program.keyLits
  simp only [hu, Value.cells]
  rw [if_pos (by rw [hc]; rfl), show List.range 3 = [0, 1, 2] from rfl, List.mapM_cons, List.mapM_cons, List.mapM_cons, List.mapM_nil]
  simp [hc5, Program.keyLits, hu5, h1, h2, h3]
/-- the three bytes at a place -/
def at3 (s : List UInt8) (p : Nat) : Value := K3 (s.getD p 0) (s.getD (p + 1) 0) (s.getD (p + 2) 0)
theorem at3_inj {s : List UInt8} {a b : Nat} (h : at3 s a = at3 s b) : s.getD a 0 = s.getD b 0 ∧ s.getD (a + 1) 0 = s.getD (b + 1) 0 ∧ s.getD (a + 2) 0 = s.getD (b + 2) 0 := by
  unfold at3 K3 at h
  simp only [Value.agg.injEq, Array.mk.injEq, List.cons.injEq, Value.int.injEq, true_and, and_true] at h
  exact ⟨UInt8.toNat_inj.1 (by omega), UInt8.toNat_inj.1 (by omega), UInt8.toNat_inj.1 (by omega)⟩
theorem at3_is {s : ByteArray} {p : Nat} (hp : p + 3 ≤ s.size) : K3 s[p] s[p + 1] s[p + 2] = at3 s.data.toList p := by
  have hl : s.data.toList.length = s.size := by simp
  unfold at3
  rw [List.getD_eq_getElem?_getD, List.getD_eq_getElem?_getD, List.getD_eq_getElem?_getD, List.getElem?_eq_getElem (by omega), List.getElem?_eq_getElem (by omega), List.getElem?_eq_getElem (by omega)]
  rfl
open Classical in
/-- the places from lo on, up to hi, at which these three bytes stand, rising -/
noncomputable def posL (s : List UInt8) (lo hi : Nat) (u : Value) : List Nat := (List.range' lo (hi - lo)).filter fun p => decide (p + 3 ≤ s.length ∧ at3 s p = u)
noncomputable def pos (s : List UInt8) (lo hi : Nat) (u : Value) : List Int := (posL s lo hi u).map fun p : Nat => (p : Int)
theorem pos_nil (s : List UInt8) (lo : Nat) : pos s lo lo = fun _ => [] := by
  funext u; simp [pos, posL]
theorem posL_succ (s : List UInt8) {lo hi : Nat} (h : lo ≤ hi) (u : Value) : posL s lo (hi + 1) u = posL s lo hi u ++ (open Classical in if hi + 3 ≤ s.length ∧ at3 s hi = u then [hi] else []) := by
  unfold posL
  rw [show hi + 1 - lo = (hi - lo) + 1 by omega, List.range'_concat, List.filter_append, show lo + 1 * (hi - lo) = hi by omega]
  congr 1
  simp only [List.filter_cons, List.filter_nil]
  by_cases h : hi + 3 ≤ s.length ∧ at3 s hi = u <;> simp [h]
theorem pos_here (s : List UInt8) {lo hi : Nat} (h : lo ≤ hi) (h3 : hi + 3 ≤ s.length) : pos s lo (hi + 1) (at3 s hi) = pos s lo hi (at3 s hi) ++ [(hi : Int)] := by
  unfold pos; rw [posL_succ s h, if_pos ⟨h3, rfl⟩, List.map_append]; rfl
theorem pos_else (s : List UInt8) {lo hi : Nat} (h : lo ≤ hi) {u : Value} (hu : u ≠ at3 s hi) : pos s lo (hi + 1) u = pos s lo hi u := by
  unfold pos; rw [posL_succ s h, if_neg (fun k => hu k.2.symm), List.append_nil]
theorem pos_short (s : List UInt8) {lo hi : Nat} (h : lo ≤ hi) (h3 : s.length < hi + 3) : pos s lo (hi + 1) = pos s lo hi := by
  funext u
  unfold pos; rw [posL_succ s h, if_neg (by omega), List.append_nil]
open Classical in
theorem posL_mem {s : List UInt8} {lo hi : Nat} {u : Value} {p : Nat} : p ∈ posL s lo hi u ↔ lo ≤ p ∧ p < hi ∧ p + 3 ≤ s.length ∧ at3 s p = u := by
  unfold posL
  rw [List.mem_filter, List.mem_range'_1, decide_eq_true_eq]
  constructor
  · rintro ⟨⟨h1, h2⟩, h3⟩; exact ⟨h1, by omega, h3⟩
  · rintro ⟨h1, h2, h3⟩; exact ⟨⟨h1, by omega⟩, h3⟩
theorem posL_rise (s : List UInt8) (lo hi : Nat) (u : Value) : (posL s lo hi u).Pairwise (· < ·) := List.Pairwise.filter _ (List.pairwise_lt_range' (s := lo) (n := hi - lo) (step := 1))
theorem posL_len (s : List UInt8) (lo hi : Nat) (u : Value) : (posL s lo hi u).length ≤ hi - lo := by
  refine Nat.le_trans (List.length_filter_le _ _) ?_
  rw [List.length_range']; exact Nat.le_refl _
/-- worlds in which a map of places has turned, and what is new -/
structure Turn (b : Nat) (w w' : World) : Prop where
  below : Below b w w'
  other : ∀ (j : Nat) (cs : Array Value) (f : Nat × Nat), w.heap[j]? = some (Obj.cells cs 28 f) → w'.heap[j]? = some (Obj.cells cs 28 f)
theorem Turn.refl (b : Nat) (w : World) : Turn b w w := ⟨Below.refl _ _, fun _ _ _ h => h⟩
theorem Turn.trans {b : Nat} {w w' w'' : World} (h : Turn b w w') (k : Turn b w' w'') : Turn b w w'' := ⟨h.below.trans k.below, fun j cs f e => k.other j cs f (h.other j cs f e)⟩
theorem Turn.later {b : Nat} {w w' : World} (hb : b ≤ w.heap.size) (h : Below w.heap.size w w') : Turn b w w' :=
  ⟨h.mono hb, fun j cs f e => by rw [h.block j (Array.getElem?_eq_some_iff.1 e).1]; exact e⟩
theorem Turn.grown {b : Nat} {w w' : World} {row : Option Nat} (hb : b ≤ w.heap.size) (h : w.grownBy w' row) (hr : ∀ j, row = some j → b ≤ j ∧ ∀ (cs : Array Value) (f : Nat × Nat), w.heap[j]? ≠ some (Obj.cells cs 28 f)) : Turn b w w' := by
  refine ⟨⟨h.os, h.tape, h.output, h.size, fun k hk => h.block k (by omega) fun e => by have := (hr k e.symm).1; omega⟩, fun j cs f e => ?_⟩
  rw [h.block j (Array.getElem?_eq_some_iff.1 e).1 fun k => (hr j k.symm).2 cs f e]; exact e
end Go.Proofs.Ytdiimebcahhieaa
