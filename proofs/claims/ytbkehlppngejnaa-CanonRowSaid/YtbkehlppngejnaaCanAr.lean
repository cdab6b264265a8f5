/-
  Which symbols have codes of so many bits, in their order; codes that are filled in row by row. An array of rows of the call's own. No condition.
-/
import Derived.Test.YtbkehlppngejnaaCanCo
import Derived.Maps.AppendAt
namespace Go.Proofs.Ytbkehlppngejnaa
open Go.RowKit Go.Lib Cn
/-- of the first k symbols those whose codes have n bits -/
def rowOf (l : List Nat) (n k : Nat) : List Nat := if n = 0 then [] else (List.range k).filter fun i => decide (l.getD i 0 = n)
theorem rowOf_zero (l : List Nat) (k : Nat) : rowOf l 0 k = [] := rfl
theorem rowOf_none (l : List Nat) (n : Nat) : rowOf l n 0 = [] := by
  unfold rowOf
  split <;> rfl
theorem rowOf_step (l : List Nat) {n k : Nat} (h0 : n ≠ 0) (h : l.getD k 0 = n) : rowOf l n (k + 1) = rowOf l n k ++ [k] := by
  unfold rowOf
  rw [if_neg h0, if_neg h0, List.range_succ, List.filter_append]
  simp only [List.filter_cons, List.filter_nil]
  rw [if_pos (by rw [h]; simp)]
theorem rowOf_other (l : List Nat) {n k : Nat} (h : n = 0 ∨ l.getD k 0 ≠ n) : rowOf l n (k + 1) = rowOf l n k := by
  unfold rowOf
  by_cases h0 : n = 0
  · rw [if_pos h0, if_pos h0]
  · have h := h.resolve_left h0
    rw [if_neg h0, if_neg h0, List.range_succ, List.filter_append]
    simp only [List.filter_cons, List.filter_nil]
    rw [if_neg (by simpa using h), List.append_nil]
theorem rowOf_length (l : List Nat) {n : Nat} (h0 : n ≠ 0) : ∀ k, (rowOf l n k).length = cnt l n k
  | 0 => by rw [rowOf_none]; rfl
  | k + 1 => by
    by_cases h : l.getD k 0 = n
    · rw [rowOf_step l h0 h, cnt_step l h, List.length_append, rowOf_length l h0 k]; rfl
    · rw [rowOf_other l (.inr h), rowOf_length l h0 k]
      show _ = _ + (if _ then 1 else 0)
      rw [if_neg h]; rfl
theorem rowOf_get (l : List Nat) {n : Nat} (h0 : n ≠ 0) : ∀ k j, j < (rowOf l n k).length → (rowOf l n k).getD j 0 < k ∧ l.getD ((rowOf l n k).getD j 0) 0 = n ∧ cnt l n ((rowOf l n k).getD j 0) = j
  | 0, j, h => by rw [rowOf_none] at h; simp at h
  | k + 1, j, h => by
    by_cases e : l.getD k 0 = n
    · rw [rowOf_step l h0 e] at h ⊢
      by_cases hj : j < (rowOf l n k).length
      · have ih := rowOf_get l h0 k j hj
        have eg : (rowOf l n k ++ [k]).getD j 0 = (rowOf l n k).getD j 0 := by
          rw [List.getD_eq_getElem?_getD, List.getElem?_append_left hj, ← List.getD_eq_getElem?_getD]
        rw [eg]
        exact ⟨by omega, ih.2⟩
      · rw [List.length_append] at h
        have ej : j = (rowOf l n k).length := by simp at h; omega
        have eg : (rowOf l n k ++ [k]).getD j 0 = k := by
          rw [List.getD_eq_getElem?_getD, List.getElem?_append_right (by omega), ej, Nat.sub_self]; rfl
        rw [eg]
        exact ⟨by omega, e, by rw [ej, rowOf_length l h0]⟩
    · rw [rowOf_other l (.inr e)] at h ⊢
      have ih := rowOf_get l h0 k j h
      exact ⟨by omega, ih.2⟩
theorem rowOf_le (l : List Nat) (n k : Nat) : (rowOf l n k).length ≤ k := by
  by_cases h0 : n = 0
  · subst h0; rw [rowOf_zero]; exact Nat.zero_le _
  · rw [rowOf_length l h0]; exact cnt_le l n k
theorem top_row (l : List Nat) (n : Nat) : topC l n = base l n + (rowOf l n l.length).length := by
  unfold topC
  by_cases h0 : n = 0
  · subst h0; rw [rowOf_zero]; rfl
  · rw [if_neg h0, rowOf_length l h0]
/-- ahead of all codes of n bits, halved -/
def prevC (l : List Nat) : Nat → Nat
  | 0 => 0
  | n + 1 => topC l n
theorem base_prev (l : List Nat) : ∀ n, base l n = 2 * prevC l n
  | 0 => rfl
  | _ + 1 => rfl
/-- codes that are filled in, of less than n bits all, of n bits the first j -/
def filledJ (l : List Nat) (n j : Nat) : List (Nat × Nat) := (List.range l.length).map fun s => if 1 ≤ l.getD s 0 ∧ (l.getD s 0 < n ∨ l.getD s 0 = n ∧ cnt l n s < j) then (l.getD s 0, bitsOf l s) else (0, 0)
theorem filledJ_length (l : List Nat) (n i : Nat) : (filledJ l n i).length = l.length := by simp [filledJ]
theorem filledJ_start (l : List Nat) : filledJ l 0 0 = List.replicate l.length (0, 0) := by
  unfold filledJ
  refine List.ext_getElem (by simp) fun j h1 h2 => ?_
  rw [List.getElem_map, List.getElem_range, List.getElem_replicate, if_neg (by omega)]
theorem filledJ_next (l : List Nat) (n : Nat) : filledJ l n (rowOf l n l.length).length = filledJ l (n + 1) 0 := by
  unfold filledJ
  refine List.map_congr_left fun s hs => ?_
  have hs : s < l.length := List.mem_range.1 hs
  by_cases h0 : n = 0
  · subst h0
    rw [if_neg (by omega), if_neg (by omega)]
  · rw [rowOf_length l h0]
    by_cases h : l.getD s 0 = n
    · have h1 := cnt_step l h
      have h2 := cnt_mono l n (show s + 1 ≤ l.length from hs)
      rw [if_pos ⟨by omega, .inr ⟨h, by omega⟩⟩, if_pos ⟨by omega, .inl (by omega)⟩]
    · by_cases h3 : 1 ≤ l.getD s 0 ∧ l.getD s 0 < n
      · rw [if_pos ⟨h3.1, .inl h3.2⟩, if_pos ⟨h3.1, .inl (by omega)⟩]
      · rw [if_neg (by omega), if_neg (by omega)]
theorem filledJ_end {l : List Nat} (h : ∀ i, l.getD i 0 ≤ 15) : filledJ l 16 0 = codesOf l := by
  unfold filledJ codesOf
  refine List.map_congr_left fun j _ => ?_
  have := h j
  unfold codeOf
  by_cases h1 : 1 ≤ l.getD j 0
  · rw [if_pos (by omega), if_pos h1]
  · rw [if_neg (by omega), if_neg h1]
theorem filledJ_get (l : List Nat) (n i j : Nat) (h : j < (filledJ l n i).length) : (filledJ l n i)[j] = if 1 ≤ l.getD j 0 ∧ (l.getD j 0 < n ∨ l.getD j 0 = n ∧ cnt l n j < i) then (l.getD j 0, bitsOf l j) else (0, 0) := by
  have h' : j < l.length := by rw [filledJ_length] at h; exact h
  show (List.map _ (List.range l.length))[j]'(by simpa using h') = _
  rw [List.getElem_map, List.getElem_range]
theorem cnt_inj (l : List Nat) {n s t : Nat} (hs : l.getD s 0 = n) (ht : l.getD t 0 = n) (h : cnt l n s = cnt l n t) : s = t := by
  rcases Nat.lt_trichotomy s t with e | e | e
  · have h1 := cnt_step l hs
    have h2 := cnt_mono l n (show s + 1 ≤ t from e)
    omega
  · exact e
  · have h1 := cnt_step l ht
    have h2 := cnt_mono l n (show t + 1 ≤ s from e)
    omega
theorem filledJ_set (l : List Nat) {n j s : Nat} (h1 : n ≠ 0) (hs : l.getD s 0 = n) (hj : cnt l n s = j) : filledJ l n (j + 1) = (filledJ l n j).set s (n, base l n + j) := by
  refine List.ext_getElem (by rw [List.length_set, filledJ_length, filledJ_length]) fun t h2 h3 => ?_
  rw [List.getElem_set, filledJ_get, filledJ_get]
  by_cases e : s = t
  · subst e
    rw [if_pos rfl, if_pos (by omega)]
    unfold bitsOf
    rw [hs, hj]
  · rw [if_neg e]
    by_cases h4 : 1 ≤ l.getD t 0 ∧ (l.getD t 0 < n ∨ l.getD t 0 = n ∧ cnt l n t < j)
    · rw [if_pos h4, if_pos ⟨h4.1, h4.2.imp id fun ⟨a, b⟩ => ⟨a, by omega⟩⟩]
    · rw [if_neg h4, if_neg (fun k => h4 ⟨k.1, k.2.imp id fun ⟨a, b⟩ => ⟨a, by
        have : cnt l n t ≠ j := fun e2 => e (cnt_inj l hs a (hj.trans e2.symm))
        omega⟩⟩)]
/-! ### an array of rows -/
def iv (l : List Nat) : List Value := l.map fun i : Nat => Value.int .i64 i
theorem iv_len (l : List Nat) : (iv l).length = l.length := by unfold iv; rw [List.length_map]
theorem iv_get (l : List Nat) {j : Nat} (h : j < l.length) : (iv l)[j]? = some (.int .i64 (l.getD j 0 : Nat)) := by
  unfold iv
  rw [List.getElem?_map, List.getElem?_eq_getElem h, List.getD_eq_getElem?_getD, List.getElem?_eq_getElem h]; rfl
/-- rows of the call's own, one for each length -/
def RowsOwn (w : World) (B : Nat) (l : List Nat) (k : Nat) (vs : List Value) : Prop := ∀ n, n < 16 → w.ownsRow B 3 1 (vs.getD n undef) (rowOf l n k).length (iv (rowOf l n k))
/-- an array of such rows, in a block of its own -/
structure Arr (w : World) (B b : Nat) (l : List Nat) (k : Nat) (vs : List Value) : Prop where
  len : vs.length = 16
  heap : w.heap[b]? = some (.cells vs.toArray 48 (0, 0))
  low : b < B
  size : B ≤ w.heap.size
  owns : RowsOwn w B l k vs
  apart : ∀ m n, m < 16 → n < 16 → m ≠ n → (vs.getD m undef).ownBlock = none ∨ (vs.getD m undef).ownBlock ≠ (vs.getD n undef).ownBlock
theorem getD_set_same (vs : List Value) (i : Nat) (v : Value) (h : i < vs.length) : (vs.set i v).getD i undef = v := by
  rw [List.getD_eq_getElem?_getD, List.getElem?_set_self h]; rfl
theorem getD_set_other (vs : List Value) {i j : Nat} (v : Value) (h : i ≠ j) : (vs.set i v).getD j undef = vs.getD j undef := by
  rw [List.getD_eq_getElem?_getD, List.getElem?_set_ne h, ← List.getD_eq_getElem?_getD]
theorem row_block {w : World} {B n size : Nat} {e : TypeId} {v : Value} {xs : List Value} (h : w.ownsRow B e size v n xs) {b : Nat} (hb : b < B) : v.ownBlock = none ∨ v.ownBlock ≠ some b := by
  cases hv : v.ownBlock with
  | none => exact .inl rfl
  | some g => refine .inr fun e1 => ?_; cases e1; have := (h.lt _ hv).1; omega
theorem Arr.cell {w : World} {B b k : Nat} {l : List Nat} {vs : List Value} (h : Arr w B b l k vs) {n : Nat} (hn : n < 16) : w.cell? ⟨b, n, none⟩ = some (vs.getD n undef) := by
  rw [cell_of_row w b n _ 48 _ h.heap, List.getElem?_toArray, List.getElem?_eq_getElem (by rw [h.len]; exact hn), List.getD_eq_getElem?_getD, List.getElem?_eq_getElem (by rw [h.len]; exact hn)]; rfl
theorem Arr.skip {w : World} {B b k : Nat} {l : List Nat} {vs : List Value} (h : Arr w B b l k vs) (h0 : l.getD k 0 = 0) : Arr w B b l (k + 1) vs :=
  ⟨h.len, h.heap, h.low, h.size, fun n hn => by rw [rowOf_other l (by omega)]; exact h.owns n hn, h.apart⟩
/-- a symbol more -/
theorem Arr.more {w w2 w3 : World} {B b k x : Nat} {l : List Nat} {vs : List Value} {v1 : Value} (h : Arr w B b l k vs) (hx : l.getD k 0 = x) (h0 : x ≠ 0) (hx16 : x < 16)
    (hw : w2 = w.alloc (.cells #[.int .i64 (k : Nat)] 3)) (own1 : w3.ownsRow B 3 1 v1 ((rowOf l x k).length + 1) (iv (rowOf l x k) ++ [.int .i64 (k : Nat)])) (gr1 : w2.grownBy w3 (vs.getD x undef).ownBlock)
    (at1 : v1.ownBlock = (vs.getD x undef).ownBlock ∨ v1.ownBlock = some w2.heap.size) : Arr (w3.setCell ⟨b, x, none⟩ v1) B b l (k + 1) (vs.set x v1) := by
  have hs2 : w.heap.size ≤ w2.heap.size := by rw [hw]; simp
  have hbw : b < w.heap.size := Nat.lt_of_lt_of_le h.low h.size
  have own2 : RowsOwn w2 B l k vs := fun n hn => by rw [hw]; exact (h.owns n hn).alloc _
  have hp2 : w2.heap[b]? = some (.cells vs.toArray 48 (0, 0)) := by rw [hw, heap_alloc_old w _ hbw]; exact h.heap
  have hp3 : w3.heap[b]? = some (.cells vs.toArray 48 (0, 0)) := (gr1.block b (by omega) (fun e => by
    rcases row_block (own2 x hx16) h.low with z | z
    · rw [z] at e; cases e
    · exact z e.symm)).trans hp2
  have hs3 : B ≤ w3.heap.size := Nat.le_trans h.size (Nat.le_trans hs2 gr1.size)
  have hp4 := heap_setCell_same w3 b x vs.toArray 48 v1 hp3
  have g4 : w3.grownBy (w3.setCell ⟨b, x, none⟩ v1) (some b) := ⟨rfl, rfl, rfl, by simp, fun j _ hj => heap_setCell_other w3 ⟨b, x, none⟩ j v1 (fun e => hj (by simp [e]))⟩
  have off : ∀ n, n < 16 → n ≠ x → (vs.getD n undef).ownBlock = none ∨ (vs.getD n undef).ownBlock ≠ v1.ownBlock := fun n hn hne => by
    rcases at1 with e | e
    · rw [e]; exact h.apart n x hn hx16 hne
    · cases hv : (vs.getD n undef).ownBlock with
      | none => exact .inl rfl
      | some g =>
        have := ((own2 n hn).lt g hv).2
        rw [e]
        exact .inr fun e1 => by cases e1; omega
  refine ⟨by rw [List.length_set]; exact h.len, ?_, h.low, by simpa using hs3, fun n hn => ?_, fun m n hm hn hne => ?_⟩
  · rw [hp4]; simp
  · by_cases e : n = x
    · subst e
      rw [getD_set_same _ _ _ (by rw [h.len]; exact hn), rowOf_step l h0 hx, List.length_append]
      have := own1.kept g4 (row_block own1 h.low)
      unfold iv at *
      rw [List.map_append]
      exact this
    · rw [getD_set_other _ _ (fun e2 => e e2.symm), rowOf_other l (.inr (by rw [hx]; exact fun e2 => e e2.symm))]
      have h1 := (own2 n hn).kept gr1 (h.apart n x hn hx16 e)
      exact h1.kept g4 (row_block h1 h.low)
  · by_cases e : m = x
    · subst e
      rw [getD_set_same _ _ _ (by rw [h.len]; exact hm), getD_set_other _ _ hne]
      rcases off n hn (fun e2 => hne e2.symm) with z | z
      · cases hv : v1.ownBlock with
        | none => exact .inl rfl
        | some g => rw [z]; exact .inr (by simp)
      · exact .inr (Ne.symm z)
    · by_cases e2 : n = x
      · subst e2
        rw [getD_set_same _ _ _ (by rw [h.len]; exact hn), getD_set_other _ _ (Ne.symm hne)]
        exact off m hm e
      · rw [getD_set_other _ _ (fun e3 => e e3.symm), getD_set_other _ _ (fun e3 => e2 e3.symm)]
        exact h.apart m n hm hn hne
/-- the rows, out of the array -/
theorem RowsOwn.below {w w' : World} {B k : Nat} {l : List Nat} {vs : List Value} (h : RowsOwn w B l k vs) (hb : Below w.heap.size w w') : RowsOwn w' B l k vs := fun n hn => own_keep (h n hn) hb
theorem RowsOwn.set {w : World} {B k g o : Nat} {l : List Nat} {vs : List Value} {v : Value} (h : RowsOwn w B l k vs) (hg : g < B) : RowsOwn (w.setCell ⟨g, o, none⟩ v) B l k vs := fun n hn =>
  (h n hn).kept (row := some g) ⟨rfl, rfl, rfl, by simp, fun j _ hj => heap_setCell_other w ⟨g, o, none⟩ j v (fun e => hj (by simp [e]))⟩ (row_block (h n hn) hg)
theorem RowsOwn.form {w : World} {B k : Nat} {l : List Nat} {vs : List Value} (h : RowsOwn w B l k vs) {n : Nat} (hn : n < 16) : ∃ q c, vs.getD n undef = .slice q (rowOf l n k).length c := own_form (h n hn)
/-- an index into an array by value -/
theorem index_rows (vs : List Value) (hl : vs.length = 16) {n : Nat} (hn : n < 16) (w : World) : (Instr.index 48 (.agg vs.toArray) (.int .i64 (n : Nat))).run Try.prog w = .ok (vs.getD n undef) w := by
  match vs, hl with
  | [x0, x1, x2, x3, x4, x5, x6, x7, x8, x9, x10, x11, x12, x13, x14, x15], _ =>
    rcases (show n = 0 ∨ n = 1 ∨ n = 2 ∨ n = 3 ∨ n = 4 ∨ n = 5 ∨ n = 6 ∨ n = 7 ∨ n = 8 ∨ n = 9 ∨ n = 10 ∨ n = 11 ∨ n = 12 ∨ n = 13 ∨ n = 14 ∨ n = 15 by omega) with
      rfl | rfl | rfl | rfl | rfl | rfl | rfl | rfl | rfl | rfl | rfl | rfl | rfl | rfl | rfl | rfl
    all_goals (show _ = _; kernel_rfl)
end Go.Proofs.Ytbkehlppngejnaa
