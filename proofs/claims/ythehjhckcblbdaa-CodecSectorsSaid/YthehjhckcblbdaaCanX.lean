/-
  Which symbols have codes of so many bits, in their order; codes that are filled in row by row. An array of rows of the call's own. No condition.
-/
import Derived.Test.YthehjhckcblbdaaCanD
import Derived.Maps.AppendAt
import Derived.Test.YthehjhckcblbdaaHufX
import Derived.Deep.MidRow
import Derived.Test.YthehjhckcblbdaaLstX
import Derived.BigQuiet
import Derived.Laws.OwnMore
import Derived.Test.YthehjhckcblbdaaBitX
namespace Go.Proofs.Ythehjhckcblbdaa.Cd
set_option maxRecDepth 100000
open Go.RowKit Go.Lib Cn
/-- of the first k symbols those whose codes have n bits -/
def rowOf (l : List Nat) (n k : Nat) : List Nat := if n = 0 then [] else (List.range k).filter fun i => decide (l.getD i 0 = n)
theorem rowOf_zero (l : List Nat) (k : Nat) : rowOf l 0 k = [] := rfl
theorem rowOf_none (l : List Nat) (n : Nat) : rowOf l n 0 = [] := by
  unfold rowOf
  split <;> rfl
theorem rowOf_step (l : List Nat) {n k : Nat} (h0 : n ≠ 0) (h : l.getD k 0 = n) : rowOf l n (k + 1) = rowOf l n k ++ [k] := by
  unfold rowOf
  rw [if_neg h0, if_neg h0, List.range_succ, List.filter_append]
  simp only [List.filter_cons, List.filter_nil]
  rw [if_pos (by rw [h]; simp)]
theorem rowOf_other (l : List Nat) {n k : Nat} (h : n = 0 ∨ l.getD k 0 ≠ n) : rowOf l n (k + 1) = rowOf l n k := by
  unfold rowOf
  by_cases h0 : n = 0
  · rw [if_pos h0, if_pos h0]
  · have h := h.resolve_left h0
    rw [if_neg h0, if_neg h0, List.range_succ, List.filter_append]
    simp only [List.filter_cons, List.filter_nil]
    rw [if_neg (by simpa using h), List.append_nil]
theorem rowOf_length (l : List Nat) {n : Nat} (h0 : n ≠ 0) : ∀ k, (rowOf l n k).length = cnt l n k
  | 0 => by rw [rowOf_none]; rfl
  | k + 1 => by
    by_cases h : l.getD k 0 = n
    · rw [rowOf_step l h0 h, cnt_step l h, List.length_append, rowOf_length l h0 k]; rfl
    · rw [rowOf_other l (.inr h), rowOf_length l h0 k]
      show _ = _ + (if _ then 1 else 0)
      rw [if_neg h]; rfl
theorem rowOf_get (l : List Nat) {n : Nat} (h0 : n ≠ 0) : ∀ k j, j < (rowOf l n k).length → (rowOf l n k).getD j 0 < k ∧ l.getD ((rowOf l n k).getD j 0) 0 = n ∧ cnt l n ((rowOf l n k).getD j 0) = j
  | 0, j, h => by rw [rowOf_none] at h; simp at h
  | k + 1, j, h => by
    by_cases e : l.getD k 0 = n
    · rw [rowOf_step l h0 e] at h ⊢
      by_cases hj : j < (rowOf l n k).length
      · have ih := rowOf_get l h0 k j hj
        have eg : (rowOf l n k ++ [k]).getD j 0 = (rowOf l n k).getD j 0 := by
          rw [List.getD_eq_getElem?_getD, List.getElem?_append_left hj, ← List.getD_eq_getElem?_getD]
        rw [eg]
        exact ⟨by omega, ih.2⟩
      · rw [List.length_append] at h
        have ej : j = (rowOf l n k).length := by simp at h; omega
        have eg : (rowOf l n k ++ [k]).getD j 0 = k := by
          rw [List.getD_eq_getElem?_getD, List.getElem?_append_right (by omega), ej, Nat.sub_self]; rfl
        rw [eg]
        exact ⟨by omega, e, by rw [ej, rowOf_length l h0]⟩
    · rw [rowOf_other l (.inr e)] at h ⊢
      have ih := rowOf_get l h0 k j h
      exact ⟨by omega, ih.2⟩
theorem rowOf_le (l : List Nat) (n k : Nat) : (rowOf l n k).length ≤ k := by
  by_cases h0 : n = 0
  · subst h0; rw [rowOf_zero]; exact Nat.zero_le _
  · rw [rowOf_length l h0]; exact cnt_le l n k
theorem top_row (l : List Nat) (n : Nat) : topC l n = base l n + (rowOf l n l.length).length := by
  unfold topC
  by_cases h0 : n = 0
  · subst h0; rw [rowOf_zero]; rfl
  · rw [if_neg h0, rowOf_length l h0]
/-- ahead of all codes of n bits, halved -/
def prevC (l : List Nat) : Nat → Nat
  | 0 => 0
  | n + 1 => topC l n
theorem base_prev (l : List Nat) : ∀ n, base l n = 2 * prevC l n
  | 0 => rfl
  | _ + 1 => rfl
/-- codes that are filled in, of less than n bits all, of n bits the first j -/
def filledJ (l : List Nat) (n j : Nat) : List (Nat × Nat) := (List.range l.length).map fun s => if 1 ≤ l.getD s 0 ∧ (l.getD s 0 < n ∨ l.getD s 0 = n ∧ cnt l n s < j) then (l.getD s 0, bitsOf l s) else (0, 0)
theorem filledJ_length (l : List Nat) (n i : Nat) : (filledJ l n i).length = l.length := by simp [filledJ]
theorem filledJ_start (l : List Nat) : filledJ l 0 0 = List.replicate l.length (0, 0) := by
  unfold filledJ
  refine List.ext_getElem (by simp) fun j h1 h2 => ?_
  rw [List.getElem_map, List.getElem_range, List.getElem_replicate, if_neg (by omega)]
theorem filledJ_next (l : List Nat) (n : Nat) : filledJ l n (rowOf l n l.length).length = filledJ l (n + 1) 0 := by
  unfold filledJ
  refine List.map_congr_left fun s hs => ?_
  have hs : s < l.length := List.mem_range.1 hs
  by_cases h0 : n = 0
  · subst h0
    rw [if_neg (by omega), if_neg (by omega)]
  · rw [rowOf_length l h0]
    by_cases h : l.getD s 0 = n
    · have h1 := cnt_step l h
      have h2 := cnt_mono l n (show s + 1 ≤ l.length from hs)
      rw [if_pos ⟨by omega, .inr ⟨h, by omega⟩⟩, if_pos ⟨by omega, .inl (by omega)⟩]
    · by_cases h3 : 1 ≤ l.getD s 0 ∧ l.getD s 0 < n
      · rw [if_pos ⟨h3.1, .inl h3.2⟩, if_pos ⟨h3.1, .inl (by omega)⟩]
      · rw [if_neg (by omega), if_neg (by omega)]
theorem filledJ_end {l : List Nat} (h : ∀ i, l.getD i 0 ≤ 15) : filledJ l 16 0 = codesOf l := by
  unfold filledJ codesOf
  refine List.map_congr_left fun j _ => ?_
  have := h j
  unfold codeOf
  by_cases h1 : 1 ≤ l.getD j 0
  · rw [if_pos (by omega), if_pos h1]
  · rw [if_neg (by omega), if_neg h1]
theorem filledJ_get (l : List Nat) (n i j : Nat) (h : j < (filledJ l n i).length) : (filledJ l n i)[j] = if 1 ≤ l.getD j 0 ∧ (l.getD j 0 < n ∨ l.getD j 0 = n ∧ cnt l n j < i) then (l.getD j 0, bitsOf l j) else (0, 0) := by
  have h' : j < l.length := by rw [filledJ_length] at h; exact h
  show (List.map _ (List.range l.length))[j]'(by simpa using h') = _
  rw [List.getElem_map, List.getElem_range]
theorem cnt_inj (l : List Nat) {n s t : Nat} (hs : l.getD s 0 = n) (ht : l.getD t 0 = n) (h : cnt l n s = cnt l n t) : s = t := by
  rcases Nat.lt_trichotomy s t with e | e | e
  · have h1 := cnt_step l hs
    have h2 := cnt_mono l n (show s + 1 ≤ t from e)
    omega
  · exact e
  · have h1 := cnt_step l ht
    have h2 := cnt_mono l n (show t + 1 ≤ s from e)
    omega
theorem filledJ_set (l : List Nat) {n j s : Nat} (h1 : n ≠ 0) (hs : l.getD s 0 = n) (hj : cnt l n s = j) : filledJ l n (j + 1) = (filledJ l n j).set s (n, base l n + j) := by
  refine List.ext_getElem (by rw [List.length_set, filledJ_length, filledJ_length]) fun t h2 h3 => ?_
  rw [List.getElem_set, filledJ_get, filledJ_get]
  by_cases e : s = t
  · subst e
    rw [if_pos rfl, if_pos (by omega)]
    unfold bitsOf
    rw [hs, hj]
  · rw [if_neg e]
    by_cases h4 : 1 ≤ l.getD t 0 ∧ (l.getD t 0 < n ∨ l.getD t 0 = n ∧ cnt l n t < j)
    · rw [if_pos h4, if_pos ⟨h4.1, h4.2.imp id fun ⟨a, b⟩ => ⟨a, by omega⟩⟩]
    · rw [if_neg h4, if_neg (fun k => h4 ⟨k.1, k.2.imp id fun ⟨a, b⟩ => ⟨a, by
        have : cnt l n t ≠ j := fun e2 => e (cnt_inj l hs a (hj.trans e2.symm))
        omega⟩⟩)]
/-! ### an array of rows -/
def iv (l : List Nat) : List Value := l.map fun i : Nat => Value.int .i64 i
theorem iv_len (l : List Nat) : (iv l).length = l.length := by unfold iv; rw [List.length_map]
theorem iv_get (l : List Nat) {j : Nat} (h : j < l.length) : (iv l)[j]? = some (.int .i64 (l.getD j 0 : Nat)) := by
  unfold iv
  rw [List.getElem?_map, List.getElem?_eq_getElem h, List.getD_eq_getElem?_getD, List.getElem?_eq_getElem h]; rfl
/-- rows of the call's own, one for each length -/
def RowsOwn (w : World) (B : Nat) (l : List Nat) (k : Nat) (vs : List Value) : Prop := ∀ n, n < 16 → w.ownsRow B 3 1 (vs.getD n undef) (rowOf l n k).length (iv (rowOf l n k))
/-- an array of such rows, in a block of its own -/
structure Arr (w : World) (B b : Nat) (l : List Nat) (k : Nat) (vs : List Value) : Prop where
  len : vs.length = 16
  heap : w.heap[b]? = some (.cells vs.toArray 81 (0, 0))
  low : b < B
  size : B ≤ w.heap.size
  owns : RowsOwn w B l k vs
  apart : ∀ m n, m < 16 → n < 16 → m ≠ n → (vs.getD m undef).ownBlock = none ∨ (vs.getD m undef).ownBlock ≠ (vs.getD n undef).ownBlock
theorem getD_set_same (vs : List Value) (i : Nat) (v : Value) (h : i < vs.length) : (vs.set i v).getD i undef = v := by
  rw [List.getD_eq_getElem?_getD, List.getElem?_set_self h]; rfl
theorem getD_set_other (vs : List Value) {i j : Nat} (v : Value) (h : i ≠ j) : (vs.set i v).getD j undef = vs.getD j undef := by
  rw [List.getD_eq_getElem?_getD, List.getElem?_set_ne h, ← List.getD_eq_getElem?_getD]
theorem row_block {w : World} {B n size : Nat} {e : TypeId} {v : Value} {xs : List Value} (h : w.ownsRow B e size v n xs) {b : Nat} (hb : b < B) : v.ownBlock = none ∨ v.ownBlock ≠ some b := by
  cases hv : v.ownBlock with
  | none => exact .inl rfl
  | some g => refine .inr fun e1 => ?_; cases e1; have := (h.lt _ hv).1; omega
theorem Arr.cell {w : World} {B b k : Nat} {l : List Nat} {vs : List Value} (h : Arr w B b l k vs) {n : Nat} (hn : n < 16) : w.cell? ⟨b, n, none⟩ = some (vs.getD n undef) := by
  rw [cell_of_row w b n _ 81 _ h.heap, List.getElem?_toArray, List.getElem?_eq_getElem (by rw [h.len]; exact hn), List.getD_eq_getElem?_getD, List.getElem?_eq_getElem (by rw [h.len]; exact hn)]; rfl
theorem Arr.skip {w : World} {B b k : Nat} {l : List Nat} {vs : List Value} (h : Arr w B b l k vs) (h0 : l.getD k 0 = 0) : Arr w B b l (k + 1) vs :=
  ⟨h.len, h.heap, h.low, h.size, fun n hn => by rw [rowOf_other l (by omega)]; exact h.owns n hn, h.apart⟩
/-- a symbol more -/
theorem Arr.more {w w2 w3 : World} {B b k x : Nat} {l : List Nat} {vs : List Value} {v1 : Value} (h : Arr w B b l k vs) (hx : l.getD k 0 = x) (h0 : x ≠ 0) (hx16 : x < 16)
    (hw : w2 = w.alloc (.cells #[.int .i64 (k : Nat)] 3)) (own1 : w3.ownsRow B 3 1 v1 ((rowOf l x k).length + 1) (iv (rowOf l x k) ++ [.int .i64 (k : Nat)])) (gr1 : w2.grownBy w3 (vs.getD x undef).ownBlock)
    (at1 : v1.ownBlock = (vs.getD x undef).ownBlock ∨ v1.ownBlock = some w2.heap.size) : Arr (w3.setCell ⟨b, x, none⟩ v1) B b l (k + 1) (vs.set x v1) := by
  have hs2 : w.heap.size ≤ w2.heap.size := by rw [hw]; simp
  have hbw : b < w.heap.size := Nat.lt_of_lt_of_le h.low h.size
  have own2 : RowsOwn w2 B l k vs := fun n hn => by rw [hw]; exact (h.owns n hn).alloc _
  have hp2 : w2.heap[b]? = some (.cells vs.toArray 81 (0, 0)) := by rw [hw, heap_alloc_old w _ hbw]; exact h.heap
  have hp3 : w3.heap[b]? = some (.cells vs.toArray 81 (0, 0)) := (gr1.block b (by omega) (fun e => by
    rcases row_block (own2 x hx16) h.low with z | z
    · rw [z] at e; cases e
    · exact z e.symm)).trans hp2
  have hs3 : B ≤ w3.heap.size := Nat.le_trans h.size (Nat.le_trans hs2 gr1.size)
  have hp4 := heap_setCell_same w3 b x vs.toArray 81 v1 hp3
  have g4 : w3.grownBy (w3.setCell ⟨b, x, none⟩ v1) (some b) := ⟨rfl, rfl, rfl, by simp, fun j _ hj => heap_setCell_other w3 ⟨b, x, none⟩ j v1 (fun e => hj (by simp [e]))⟩
  have off : ∀ n, n < 16 → n ≠ x → (vs.getD n undef).ownBlock = none ∨ (vs.getD n undef).ownBlock ≠ v1.ownBlock := fun n hn hne => by
    rcases at1 with e | e
    · rw [e]; exact h.apart n x hn hx16 hne
    · cases hv : (vs.getD n undef).ownBlock with
      | none => exact .inl rfl
      | some g =>
        have := ((own2 n hn).lt g hv).2
        rw [e]
        exact .inr fun e1 => by cases e1; omega
  refine ⟨by rw [List.length_set]; exact h.len, ?_, h.low, by simpa using hs3, fun n hn => ?_, fun m n hm hn hne => ?_⟩
  · rw [hp4]; simp
  · by_cases e : n = x
    · subst e
      rw [getD_set_same _ _ _ (by rw [h.len]; exact hn), rowOf_step l h0 hx, List.length_append]
      have := own1.kept g4 (row_block own1 h.low)
      unfold iv at *
      rw [List.map_append]
      exact this
    · rw [getD_set_other _ _ (fun e2 => e e2.symm), rowOf_other l (.inr (by rw [hx]; exact fun e2 => e e2.symm))]
      have h1 := (own2 n hn).kept gr1 (h.apart n x hn hx16 e)
      exact h1.kept g4 (row_block h1 h.low)
  · by_cases e : m = x
    · subst e
      rw [getD_set_same _ _ _ (by rw [h.len]; exact hm), getD_set_other _ _ hne]
      rcases off n hn (fun e2 => hne e2.symm) with z | z
      · cases hv : v1.ownBlock with
        | none => exact .inl rfl
        | some g => rw [z]; exact .inr (by simp)
      · exact .inr (Ne.symm z)
    · by_cases e2 : n = x
      · subst e2
        rw [getD_set_same _ _ _ (by rw [h.len]; exact hn), getD_set_other _ _ (Ne.symm hne)]
        exact off m hm e
      · rw [getD_set_other _ _ (fun e3 => e e3.symm), getD_set_other _ _ (fun e3 => e2 e3.symm)]
        exact h.apart m n hm hn hne
/-- the rows, out of the array -/
theorem RowsOwn.below {w w' : World} {B k : Nat} {l : List Nat} {vs : List Value} (h : RowsOwn w B l k vs) (hb : Below w.heap.size w w') : RowsOwn w' B l k vs := fun n hn => own_keep (h n hn) hb
theorem RowsOwn.set {w : World} {B k g o : Nat} {l : List Nat} {vs : List Value} {v : Value} (h : RowsOwn w B l k vs) (hg : g < B) : RowsOwn (w.setCell ⟨g, o, none⟩ v) B l k vs := fun n hn =>
  (h n hn).kept (row := some g) ⟨rfl, rfl, rfl, by simp, fun j _ hj => heap_setCell_other w ⟨g, o, none⟩ j v (fun e => hj (by simp [e]))⟩ (row_block (h n hn) hg)
theorem RowsOwn.form {w : World} {B k : Nat} {l : List Nat} {vs : List Value} (h : RowsOwn w B l k vs) {n : Nat} (hn : n < 16) : ∃ q c, vs.getD n undef = .slice q (rowOf l n k).length c := own_form (h n hn)
/-- an index into an array by value -/
theorem index_rows (vs : List Value) (hl : vs.length = 16) {n : Nat} (hn : n < 16) (w : World) : (Instr.index 81 (.agg vs.toArray) (.int .i64 (n : Nat))).run Try.prog w = .ok (vs.getD n undef) w := by
  match vs, hl with
  | [x0, x1, x2, x3, x4, x5, x6, x7, x8, x9, x10, x11, x12, x13, x14, x15], _ =>
    rcases (show n = 0 ∨ n = 1 ∨ n = 2 ∨ n = 3 ∨ n = 4 ∨ n = 5 ∨ n = 6 ∨ n = 7 ∨ n = 8 ∨ n = 9 ∨ n = 10 ∨ n = 11 ∨ n = 12 ∨ n = 13 ∨ n = 14 ∨ n = 15 by omega) with
      rfl | rfl | rfl | rfl | rfl | rfl | rfl | rfl | rfl | rfl | rfl | rfl | rfl | rfl | rfl | rfl
    all_goals (show _ = _; kernel_rfl)
end Go.Proofs.Ythehjhckcblbdaa.Cd
/-
  Package canon's plain functions: laid, isNone, may.
-/
namespace Go.Proofs.Ythehjhckcblbdaa.Cd
set_option maxRecDepth 100000
open Go.RowKit Go.Lib Cn
theorem infoInt : (Try.prog.info? 3).map (fun i => (i.zero, i.size, i.bytes)) = some (some (.int .i64 0), 1, 8) := by kernel_rfl
def sixteen : List Value := List.replicate 16 (.slice none 0 0)
theorem arr_made (w : World) (l : List Nat) : Arr (w.alloc (.cells sixteen.toArray 81)) (w.heap.size + 1) w.heap.size l 0 sixteen := by
  refine ⟨by decide, heap_alloc_new w _, Nat.lt_succ_self _, by simp, fun n hn => ?_, fun m n hm hn hne => ?_⟩
  · have e : sixteen.getD n undef = .slice none 0 0 := by
      unfold sixteen; rw [List.getD_eq_getElem?_getD, List.getElem?_replicate, if_pos hn]; rfl
    rw [e, rowOf_none]
    exact World.ownsRow_nil _ _ _ _
  · have e : sixteen.getD m undef = .slice none 0 0 := by
      unfold sixteen; rw [List.getD_eq_getElem?_getD, List.getElem?_replicate, if_pos hm]; rfl
    rw [e]
    exact .inl rfl
theorem own_base {w : World} {B C n size : Nat} {e : TypeId} {v : Value} {xs : List Value} (h : w.ownsRow B e size v n xs) (hc : C ≤ B) : w.ownsRow C e size v n xs :=
  ⟨h.1, h.2.imp id fun ⟨g, cap, cur, h1, h2, h3⟩ => ⟨g, cap, cur, h1, Nat.le_trans hc h2, h3⟩⟩
theorem RowsOwn.base {w : World} {B C k : Nat} {l : List Nat} {vs : List Value} (h : RowsOwn w B l k vs) (hc : C ≤ B) : RowsOwn w C l k vs := fun n hn => own_base (h n hn) hc
theorem results_cell_mid {fn : Func} {p : Tmp} {ty : TypeId} (h : fn.results = #[.cell p ty]) (tmps : Array Value) (w : World) (g : Nat) (cs : List Value) (d : TypeDesc)
    (hp : tmps.getD p undef = .pointer (some ⟨g, 0, none⟩)) (hg : w.rangeAt g 0 cs) (hu : Try.prog.underlying ty = some d) (hd : d.isRow = true) (hi : (Try.prog.info? ty).map (·.size) = some cs.length) :
    (results fn tmps).run Try.prog w = .ok (.agg cs.toArray) w := by
  have hp' : tmps[p]?.getD undef = .pointer (some ⟨g, 0, none⟩) := by simpa using hp
  simp [results, h, hp', asAddr, run_loadVar_mid w g 0 ty cs d hg hu hd hi]
theorem cells_below {B g : Nat} {w0 : World} (hg : B ≤ g) : ∀ (cs : List Value) (o : Nat) (w : World), Below B w0 w → Below B w0 (w.setCells g o cs)
  | [], _, _, h => h
  | v :: r, o, _, h => cells_below hg r (o + 1) _ (h.setCell (p := ⟨g, o, none⟩) hg v)
theorem own_range {B C n size g : Nat} {e : TypeId} {v : Value} {xs : List Value} (hg : g < B) (hc : C ≤ B) : ∀ (cs : List Value) (o : Nat) (w : World), w.ownsRow B e size v n xs → (w.setCells g o cs).ownsRow C e size v n xs
  | [], _, _, h => own_base h hc
  | u :: r, o, w, h => own_range hg hc r (o + 1) _ (h.kept (row := some g) ⟨rfl, rfl, rfl, by simp, fun j _ hj => heap_setCell_other w ⟨g, o, none⟩ j u (fun e => hj (by simp [e]))⟩ (row_block h hg))
/-- what an append to a row leaves as it was -/
theorem Arr.after {w w3 : World} {B b k x : Nat} {l : List Nat} {vs : List Value} (h : Arr w B b l k vs) (hx16 : x < 16) (o : Obj) (gr1 : (w.alloc o).grownBy w3 (vs.getD x undef).ownBlock) {w0 : World} {r : Nat} {cs : Array Value}
    (hr : w.heap[r]? = some (.cells cs 81 (0, 0))) (hrB : r < B) (hb : Below w0.heap.size w0 w) (h0 : w0.heap.size ≤ B) :
    w3.cell? ⟨b, x, none⟩ = some (vs.getD x undef) ∧ w3.frozen? ⟨b, x, none⟩ = false ∧ w3.heap[r]? = some (.cells cs 81 (0, 0)) ∧ Below w0.heap.size w0 w3 := by
  have hbw : b < w.heap.size := Nat.lt_of_lt_of_le h.low h.size
  have hrw : r < w.heap.size := Nat.lt_of_lt_of_le hrB h.size
  have keep : ∀ j, j < B → j < w.heap.size → w3.heap[j]? = w.heap[j]? := fun j hj hjw => by
    rw [gr1.block j (by simp; omega) (fun e => by
      rcases row_block (h.owns x hx16) hj with z | z
      · rw [z] at e; cases e
      · exact z e.symm), heap_alloc_old w _ hjw]
  have hb3 : w3.heap[b]? = some (.cells vs.toArray 81 (0, 0)) := (keep b h.low hbw).trans h.heap
  refine ⟨?_, frozen_of_row w3 b x _ 81 hb3, (keep r hrB hrw).trans hr, ?_⟩
  · rw [← h.cell hx16, cell_of_row w b x _ 81 _ h.heap, cell_of_row w3 b x _ 81 _ hb3]
  · exact (hb.alloc hb.size o).grown gr1 (Nat.le_trans hb.size (by simp)) (fun g hg => Nat.le_trans h0 ((h.owns x hx16).lt g hg).1)
set_option maxHeartbeats 2000000 in
theorem laid_at (l : List Nat) (n : Nat) (p : Option Addr) (c : Nat) (w : World) (hm : MayC l) (hn : l.length = n) (h : IntsLie w p (nums l) c) :
    Calls Try.prog 63 #[.slice p n c] w fun e w' => Below w.heap.size w w' ∧ ∃ vs, vs.length = 16 ∧ e = .returned (.agg vs.toArray) ∧ RowsOwn w' w.heap.size l n vs := by
  have HI := Lib.hid h
  have Hn := Lib.hid hn
  have zn : (n : Int) ≤ 300 := by have := hm.len; omega
  have HM := Lib.hid hm
  have hcap : (n : Int) ≤ c := by have := h.len; rw [nums_len] at this; omega
  obtain ⟨i0, hi0, hz0, hz1, hz2⟩ := info_parts infoInt
  have HA0 := Lib.hid (arr_made (w.alloc (.cells sixteen.toArray 81)) l)
  have HW0 := Lib.hid (((Below.refl w.heap.size w).alloc (Nat.le_refl _) (.cells sixteen.toArray 81)).alloc (by simp) (.cells sixteen.toArray 81))
  have HR0 : Hid (((w.alloc (.cells sixteen.toArray 81)).alloc (.cells sixteen.toArray 81)).heap[w.heap.size]? = some (.cells sixteen.toArray 81 (0, 0))) := by
    show _ = _
    rw [heap_alloc_old _ _ (by simp)]
    exact heap_alloc_new w _
  have hbs : (w.alloc (.cells sixteen.toArray 81)).heap.size = w.heap.size + 1 := by simp
  rw [hbs] at HA0
  clear h hm hn hbs
  go_enter Try.func63, Try.ntmps63
  go_wp2
  go_loopw [8] (fun v wr => ∃ (i : Nat) (vs : List Value), v = .int .i64 i ∧ i ≤ n ∧ Hid (Arr wr (w.heap.size + 1 + 1) (w.heap.size + 1) l i vs) ∧ Hid (wr.heap[w.heap.size]? = some (.cells sixteen.toArray 81 (0, 0))) ∧ Hid (Below w.heap.size w wr)) (fun v _ => n - (RowKit.intOf v).toNat)
  case atStart => exact ⟨0, sixteen, rfl, Nat.zero_le _, HA0, HR0, HW0⟩
  case round =>
    clear HA0 HR0 HW0
    obtain ⟨i, vs, rfl, hi, HA, HR, HB⟩ := hrel
    by_cases hlt : i < n
    · have hli : i < l.length := by rw [Hn.out]; exact hlt
      obtain ⟨blk, off, rfl, hc⟩ := (HI.out.below HB.out).at (i := i) (by rw [nums_len]; exact hli)
      have cx := hc i (by rw [nums_len]; exact hli)
      rw [nums_get] at cx
      have h15 := HM.out.le i
      have ii : (i : Int) < n := by omega
      clear hc
      by_cases h0 : l.getD i 0 = 0
      · have HA2 := Lib.hid (HA.out.skip h0)
        rw [h0] at cx
        clear h0 h15 HA
        go_wp2
        go_roundw
        case rel => exact ⟨i + 1, vs, by go_num, by omega, HA2, HR, HB⟩
        case measure => simp [RowKit.intOf]; omega
      · have HS := Lib.hid (fun (w2 w3 : World) (v1 : Value) => HA.out.more (w2 := w2) (w3 := w3) (v1 := v1) rfl h0 (by omega))
        have h16 : l.getD i 0 < 16 := by omega
        have cv := HA.out.cell h16
        have HKp := fun (w3 : World) (gr1 : (wr.alloc (.cells #[.int .i64 (i : Nat)] 3)).grownBy w3 (vs.getD (l.getD i 0) undef).ownBlock) => HA.out.after (w3 := w3) h16 (.cells #[.int .i64 (i : Nat)] 3) gr1 HR.out (by omega) HB.out (by omega)
        have hsz := HA.out.size
        have own0 := HA.out.owns _ h16
        have hle := rowOf_le l (l.getD i 0) i
        obtain ⟨x, hx⟩ : ∃ x, x = l.getD i 0 := ⟨_, rfl⟩
        have H0 := Lib.hid h0
        have HX := Lib.hid hx
        rw [← hx] at cx cv own0 HS hle h15 HKp
        have z1 : (1 : Int) ≤ x := by omega
        have z15 : (x : Int) ≤ 15 := by omega
        generalize vs.getD x undef = v0 at *
        have HK := Lib.hid (fun (w3 : World) (gr1 : (wr.alloc (.cells #[.int .i64 (i : Nat)] 3)).grownBy w3 v0.ownBlock) => HKp w3 gr1)
        have o1 := fun O => own0.alloc (w := wr) O
        have o2 := cell_one_new wr (.int .i64 (i : Nat)) 3
        have o3 : w.heap.size + 1 + 1 ≤ (wr.alloc (.cells #[.int .i64 (i : Nat)] 3)).heap.size := by have := hsz; simp; omega
        clear hx h0 h16 HA HKp own0 hsz HR HB
        go_wp2_with (first
          | (at_builtin; refine wpList_append_own_at _ rfl _ _ 50 rfl (w.heap.size + 1 + 1) 3 i0 (.int .i64 0) 1 8 Try.underlying50 hi0 hz0 hz1 hz2 rfl (by decide) v0 (rowOf l x i).length (iv (rowOf l x i)) rfl (o1 _) ⟨wr.heap.size, 0, Option.none⟩ 1 1 [.int .i64 (i : Nat)] rfl rfl o2 (by simp [Value.oneCell']) (by unfold maxLen; omega) (by omega) o3 ?_)
          | go_in)
        intro v1 w3 own1 gr1 nn1 at1
        obtain ⟨q1, k1, rfl⟩ := own_form own1
        obtain ⟨c3, f3, r3, b3⟩ := HK.out w3 gr1
        have HA3 := Lib.hid (HS.out _ w3 _ rfl own1 gr1 (at1.imp id fun e => by rw [e]; simp))
        have HR3 : Hid ((w3.setCell ⟨w.heap.size + 1, x, none⟩ (.slice q1 ((rowOf l x i).length + 1 : Nat) k1)).heap[w.heap.size]? = some (.cells sixteen.toArray 81 (0, 0))) := by
          show _ = _
          rw [heap_setCell_other w3 _ _ _ (by simp)]; exact r3
        have HB3 := Lib.hid (b3.setCell (p := ⟨w.heap.size + 1, x, none⟩) (by simp) (.slice q1 ((rowOf l x i).length + 1 : Nat) k1))
        clear own1 gr1 nn1 at1 o1 o2 o3 HK HS r3 b3
        go_wp2
        go_roundw
        case rel => exact ⟨i + 1, _, by go_num, by omega, HA3, HR3, HB3⟩
        case measure => simp [RowKit.intOf]; omega
    · have e : i = n := by omega
      subst e
      have hl := HA.out.len
      have hrg : wr.rangeAt (w.heap.size + 1) 0 vs := fun j v hv => by
        have hj : j < 16 := by rw [← hl]; exact (List.getElem?_eq_some_iff.1 hv).1
        rw [Nat.zero_add, HA.out.cell hj, List.getD_eq_getElem?_getD, hv]; rfl
      have hth : wr.there w.heap.size 0 vs.toArray.size := fun j hj => by
        have hj : j < 16 := by simpa [hl] using hj
        rw [Nat.zero_add]
        refine ⟨?_, frozen_of_row wr _ j _ 81 HR.out⟩
        rw [cell_of_row wr _ j _ 81 _ HR.out]
        simp [sixteen, hj]
      have h48 : (Try.prog.info? 81).map (·.size) = some vs.length := by rw [hl]; kernel_rfl
      have h48' : (Try.prog.info? 81).map (·.size) = some vs.toArray.size := by rw [h48]; simp
      have h1 : vs.toArray.all (·.oneCell') = true := all_oneCell_toArray fun v hv => by
        obtain ⟨j, hj, e⟩ := List.getElem_of_mem hv
        obtain ⟨q, c, e2⟩ := HA.out.owns.form (n := j) (by omega)
        rw [List.getD_eq_getElem?_getD, List.getElem?_eq_getElem hj, Option.getD_some, e] at e2
        rw [e2]; rfl
      go_wp2_with (first
        | (refine wpList_load_mid rfl 81 _ rfl _ 0 rfl vs _ hrg Try.underlying81 rfl h48 ?_)
        | (refine wpList_store_mid rfl 81 _ _ rfl _ 0 vs.toArray rfl rfl hth h48' h1 ?_)
        | go_in)
      have hth2 : wr.there w.heap.size 0 vs.length := by simpa using hth
      refine bodyPost_ret (v := .agg vs.toArray) (results_cell_mid rfl _ _ w.heap.size vs _ rfl (World.rangeAt_setCells_same wr _ 0 vs hth2) Try.underlying81 rfl h48) rfl ⟨?_, vs, hl, rfl, fun m hm => own_range (by omega) (by omega) vs 0 wr (HA.out.owns m hm)⟩
      exact cells_below (Nat.le_refl _) vs 0 wr HB.out
end Go.Proofs.Ythehjhckcblbdaa.Cd
/-
  Package canon's tests of lengths: isNone, ContainsFunc over it, may.
-/
namespace Go.Proofs.Ythehjhckcblbdaa.Cd
set_option maxRecDepth 100000
open Go.RowKit Go.Lib Cn
theorem isNone_at (n : Int) (w : World) : Calls Try.prog 86 #[.int .i64 n] w fun e w' => e = .returned (.bool (!lenI n)) ∧ w' = w := by
  by_cases h : n < 0
  · have hm : lenI n = false := by simp [lenI]; omega
    go_enter Try.func86, Try.ntmps86
    go_wp2
    go_ret
    exact ⟨ret_bool (by rw [hm]; rfl), rfl⟩
  · have h2 : 0 ≤ n := by omega
    have hm : Hid (lenI n = decide (n ≤ 15)) := by show _ = _; simp [lenI, h2]
    clear h
    go_enter Try.func86, Try.ntmps86
    go_wp2
    go_ret
    exact ⟨ret_bool (by rw [hm.out]; by_cases h3 : n ≤ 15 <;> simp [h3] <;> omega), rfl⟩
theorem len_tests : Tests 86 fun x => !lenI x := ⟨fun args w => by kernel_rfl, isNone_at⟩
theorem any_len {l : List Nat} (h : ∀ i, l.getD i 0 ≤ 15) : ((nums l).any fun x => !lenI x) = false := by
  rw [List.any_eq_false]
  intro x hx
  obtain ⟨i, hi, e⟩ := List.getElem_of_mem hx
  rw [nums_get] at e
  have := h i
  subst e
  generalize l.getD i 0 = y at *
  simp [lenI]; omega
theorem len_any {L : List Int} (h : (L.any fun x => !lenI x) = false) : ∃ l : List Nat, L = nums l ∧ ∀ i, l.getD i 0 ≤ 15 := by
  rw [List.any_eq_false] at h
  refine nums_len15 L fun i hi => ?_
  have := h L[i] (List.getElem_mem hi)
  simp [lenI] at this
  omega
theorem may_yes (l : List Nat) (n : Nat) (p : Option Addr) (cap : Nat) (w : World) (hm : MayC l) (hn : l.length = n) (h : IntsLie w p (nums l) cap) :
    Calls Try.prog 62 #[.slice p n cap] w fun e w' => e = .returned (.bool true) ∧ w' = w := by
  have zn : (n : Int) ≤ 300 := by have := hm.len; omega
  have hl : (nums l).length = n := by rw [nums_len]; exact hn
  have hc := contains_at 86 _ len_tests (nums l) p cap w h (by omega)
  rw [any_len hm.le, hl] at hc
  have hk := kraft_at l p cap w hm.len hm.le h
  rw [hn] at hk
  have hkl := hm.kraft
  have hcap : (n : Int) ≤ cap := by have := h.len; omega
  clear h hm hn hl
  generalize Hf.kraftN l = K at *
  have zk : (K : Int) ≤ 32768 := by omega
  clear hkl
  go_enter Try.func62, Try.ntmps62
  go_wp2_with (first | (go_at_call 59; refine hc.mono ?_; rintro e w' ⟨rfl, rfl⟩) | (go_at_call 87; refine hk.mono ?_; rintro e w' ⟨rfl, rfl⟩))
  go_ret
  exact ⟨rfl, rfl⟩
theorem may_none (L : List Int) (n : Nat) (p : Option Addr) (cap : Nat) (w : World) (hm : ∀ l, MayC l → L ≠ nums l) (hn : L.length = n) (hl : n ≤ 281474976710656) (h : IntsLie w p L cap) :
    Calls Try.prog 62 #[.slice p n cap] w fun e w' => e = .returned (.bool false) ∧ w' = w := by
  have zl : (n : Int) ≤ 281474976710656 := by omega
  have hcap : (n : Int) ≤ cap := by have := h.len; omega
  by_cases h3 : n ≤ 300
  · have z3 : (n : Int) ≤ 300 := by omega
    have hc := contains_at 86 _ len_tests L p cap w h (by omega)
    rw [hn] at hc
    cases ha : L.any fun x => !lenI x with
    | true =>
      rw [ha] at hc
      clear h hm hn ha h3
      go_enter Try.func62, Try.ntmps62
      go_wp2_with (first | (go_at_call 59; refine hc.mono ?_; rintro e w' ⟨rfl, rfl⟩))
      go_ret
      exact ⟨rfl, rfl⟩
    | false =>
      rw [ha] at hc
      obtain ⟨l, rfl, h15⟩ := len_any ha
      rw [nums_len] at hn
      have hk := kraft_at l p cap w (by omega) h15 h
      rw [hn] at hk
      have hkl : 32768 < Hf.kraftN l := by
        rcases Nat.lt_or_ge 32768 (Hf.kraftN l) with z | z
        · exact z
        · exact absurd rfl (hm l ⟨by omega, h15, z⟩)
      clear h hm hn ha h3 h15
      generalize Hf.kraftN l = K at *
      have zk : (32768 : Int) < K := by omega
      clear hkl
      go_enter Try.func62, Try.ntmps62
      go_wp2_with (first | (go_at_call 59; refine hc.mono ?_; rintro e w' ⟨rfl, rfl⟩) | (go_at_call 87; refine hk.mono ?_; rintro e w' ⟨rfl, rfl⟩))
      go_ret
      exact ⟨ret_bool (decide_eq_false (by omega)), rfl⟩
  · have z3 : (300 : Int) < n := by omega
    clear h hm hn h3
    go_enter Try.func62, Try.ntmps62
    go_wp2_with (first | (go_at_call 59; fail))
    go_ret
    exact ⟨rfl, rfl⟩
end Go.Proofs.Ythehjhckcblbdaa.Cd
/-
  Package canon's Codes.
-/
namespace Go.Proofs.Ythehjhckcblbdaa.Cd
set_option maxRecDepth 100000
open Go.RowKit Go.Lib Cn
theorem cv_zero (n : Nat) : (madeCells (Value.agg #[.int .i64 0, .int .i64 0]).cells (n * 2)).toList = cv (List.replicate n (0, 0)) := by
  refine List.ext_getElem? fun j => ?_
  by_cases hj : j < n * 2
  · have h1 := cv_at (List.replicate n (0, 0)) (j / 2) (by rw [List.length_replicate]; omega)
    have e0 : (List.replicate n ((0 : Nat), (0 : Nat))).getD (j / 2) (0, 0) = (0, 0) := by
      rw [List.getD_eq_getElem?_getD, List.getElem?_replicate]; split <;> rfl
    rw [e0] at h1
    have e2 : (madeCells (Value.agg #[.int .i64 0, .int .i64 0]).cells (n * 2)).toList[j]? = some (.int .i64 0) := by
      rcases Nat.mod_two_eq_zero_or_one j with z | z <;> simp [madeCells, hj, z, Value.cells]
    rw [e2]
    rcases Nat.mod_two_eq_zero_or_one j with z | z
    · rw [show j = j / 2 * 2 by omega, h1.1]; rfl
    · rw [show j = j / 2 * 2 + 1 by omega, h1.2]; rfl
  · rw [List.getElem?_eq_none (by simp [madeCells]; omega), List.getElem?_eq_none (by rw [cv_length, List.length_replicate]; omega)]
set_option maxHeartbeats 4000000 in
theorem codes_is (l : List Nat) (n : Nat) (p : Option Addr) (c : Nat) (w : World) (hm : MayC l) (hn : l.length = n) (h : IntsLie w p (nums l) c) :
    Calls Try.prog 32 #[.slice p n c] w fun e w' => Below w.heap.size w w' ∧ ∃ q d, e = .returned (.tuple #[.slice q n d, .bool true]) ∧ CodesLie w' q (codesOf l) d := by
  have hmay := may_yes l n p c w hm hn h
  have zn : (n : Int) ≤ 300 := by have := hm.len; omega
  have hcap : (n : Int) ≤ c := by have := h.len; rw [nums_len] at this; omega
  obtain ⟨i0, hi0, hz0, hz1, hz2⟩ := info_parts infoCode
  obtain ⟨w1, hr1, hown, hg1⟩ := run_make_full (P := Try.prog) w w.heap.size 53 58 i0 (.agg #[.int .i64 0, .int .i64 0]) 2 Try.underlying53 hi0 hz0 hz1 .i64 .i64 n (by rw [hz2]; omega) (by unfold maxLen; omega) (Nat.le_refl _)
  rw [cv_zero] at hown
  have hb1 : Below w.heap.size w w1 := (Below.refl _ _).grown hg1 (Nat.le_refl _) (fun b hb => by cases hb)
  have hlt1 := (hown.lt _ rfl).2
  have hla := laid_at l n p c w1 hm hn (h.below hb1)
  have HM := Lib.hid hm
  have Hn := Lib.hid hn
  have HO := Lib.hid hown
  have HB := Lib.hid hb1
  have HL1 := Lib.hid hlt1
  have hp16 := Lib.hid (fun (m : Nat) (hm2 : m < 16) => show prevC l m ≤ 16384 by have h1 := base_prev l m; have h2 := base_le hm (show m ≤ 15 by omega); omega)
  clear h hm hn hown hb1 hlt1 hg1
  go_enter Try.func32, Try.ntmps32
  go_wp2_with (first | (go_at_call 62; refine hmay.mono ?_; rintro e w' ⟨rfl, rfl⟩) | (go_at_call 63; refine hla.mono ?_; rintro e w2 ⟨hb2, vs, hvl, rfl, hrows⟩))
  have HO2 := Lib.hid (own_keep HO.out hb2)
  have HB2 := Lib.hid (HB.out.trans (hb2.mono (by have := HL1.out; omega)))
  have HR2 := Lib.hid hrows
  rw [← Hn.out, ← filledJ_start l, Hn.out] at HO2
  clear hmay hla hb2 hrows HO HB hr1
  go_loopw [5, 18] (fun x v wr => ∃ m : Nat, v = .int .i64 m ∧ m ≤ 16 ∧ x = .int .i64 (prevC l m : Nat) ∧ Hid (wr.ownsRow w'.heap.size 58 2 (.slice (some ⟨w'.heap.size, 0, none⟩) n n) n (cv (filledJ l m 0))) ∧ Hid (RowsOwn wr w1.heap.size l n vs) ∧ Hid (Below w'.heap.size w' wr)) (fun _ v _ => 16 - (RowKit.intOf v).toNat)
  case atStart => exact ⟨0, rfl, by omega, rfl, HO2, HR2, HB2⟩
  case round =>
    clear HO2 HR2 HB2
    obtain ⟨m, rfl, hm, rfl, HO, HR, HB⟩ := hrel
    by_cases hlt : m < 16
    · have hix := index_rows vs hvl hlt wr
      obtain ⟨q1, d1, hv⟩ := HR.out.form hlt
      rw [hv] at hix
      have HV := Lib.hid hv
      have hp := hp16.out m hlt
      have HBP := Lib.hid (base_prev l m)
      have hle := rowOf_le l m n
      obtain ⟨R, hR⟩ : ∃ R, R = rowOf l m n := ⟨_, rfl⟩
      have Hm := Lib.hid hlt
      have HRR := Lib.hid hR
      rw [← hR] at hix hle HV
      have mi : (m : Int) < 16 := by omega
      generalize prevC l m = y at hp HBP ⊢
      have zy : (y : Int) ≤ 16384 := by omega
      obtain ⟨k, hk⟩ : ∃ k, k = R.length := ⟨_, rfl⟩
      rw [← hk] at hix hle HV
      have Hk := Lib.hid hk
      have zk : (k : Int) ≤ 300 := by omega
      clear hv hR hlt hp hle hk
      go_wp2
      go_loopw [5, 26] (fun x v wr => ∃ j : Nat, v = .int .i64 j ∧ j ≤ k ∧ x = .int .i64 ((Cn.base l m + j : Nat) : Int) ∧ Hid (wr.ownsRow w'.heap.size 58 2 (.slice (some ⟨w'.heap.size, 0, none⟩) n n) n (cv (filledJ l m j))) ∧ Hid (RowsOwn wr w1.heap.size l n vs) ∧ Hid (Below w'.heap.size w' wr)) (fun _ v _ => k - (RowKit.intOf v).toNat)
      case atStart => exact ⟨0, rfl, Nat.zero_le _, by rw [HBP.out]; go_num, HO, HR, HB⟩
      case round =>
        clear HO HR HB
        obtain ⟨j, rfl, hj, rfl, HO, HR, HB⟩ := hrel
        by_cases hjk : j < k
        · have hm0 : m ≠ 0 := fun e => by
            have h1 := Hk.out; have h2 := HRR.out
            rw [e, rowOf_zero] at h2
            rw [h2] at h1
            have h3 : k = 0 := h1
            omega
          have hown := HR.out m Hm.out
          rw [HV.out, ← HRR.out, ← Hk.out] at hown
          obtain ⟨g1, rfl⟩ : ∃ g1, q1 = some ⟨g1, 0, none⟩ := by
            rcases hown.2 with ⟨h1, h2⟩ | ⟨g', cap', cur, h1, _⟩
            · omega
            · cases h1; exact ⟨_, rfl⟩
          have cx := (hown.cellAt j (by omega)).trans (iv_get R (by rw [← Hk.out]; exact hjk))
          obtain ⟨s1, s2, s3⟩ := rowOf_get l hm0 n j (by rw [← HRR.out, ← Hk.out]; exact hjk)
          rw [← HRR.out] at s1 s2 s3
          have hkd : (k : Int) ≤ d1 := by
            rcases hown.2 with ⟨h1, _⟩ | ⟨g', cap', cur, h1, _, _, h2, _⟩
            · cases h1
            · cases h1; omega
          have HF := Lib.hid (filledJ_set l hm0 s2 s3)
          have hb15 := Lib.hid (show Cn.base l m ≤ 32768 by have := HBP.out; omega)
          generalize R.getD j 0 = sy at *
          have f1 := HO.out.frozenAt (sy * 2)
          have f2 := HO.out.frozenAt (sy * 2 + 1)
          obtain ⟨e1, e2⟩ := cv_at (filledJ l m j) sy (by rw [filledJ_length, Hn.out]; exact s1)
          have c1 := (HO.out.cellAt (sy * 2) (by omega)).trans e1
          have c2 := (HO.out.cellAt (sy * 2 + 1) (by omega)).trans e2
          obtain ⟨v', hy'⟩ := cell?_setCell_some (w := wr) (p := ⟨w'.heap.size, sy * 2, none⟩) (x := .int .i64 (m : Nat)) (q := ⟨w'.heap.size, sy * 2 + 1, none⟩) c2
          have HO2 : Hid (((wr.setCell ⟨w'.heap.size, sy * 2, none⟩ (.int .i64 (m : Nat))).setCell ⟨w'.heap.size, sy * 2 + 1, none⟩ (.int .i64 ((Cn.base l m + j : Nat) : Int))).ownsRow w'.heap.size 58 2 (.slice (some ⟨w'.heap.size, 0, none⟩) n n) n (cv (filledJ l m (j + 1)))) := by
            show World.ownsRow _ _ _ _ _ _ _
            rw [HF.out, cv_set]
            exact ((HO.out.stored (sy * 2) (.int .i64 (m : Nat))).1.stored (sy * 2 + 1) (.int .i64 ((Cn.base l m + j : Nat) : Int))).1
          have HB2 := Lib.hid ((HB.out.setCell (p := ⟨w'.heap.size, sy * 2, none⟩) (Nat.le_refl _) (.int .i64 (m : Nat))).setCell (p := ⟨w'.heap.size, sy * 2 + 1, none⟩) (Nat.le_refl _) (.int .i64 ((Cn.base l m + j : Nat) : Int)))
          have HR2 := Lib.hid ((HR.out.set (o := sy * 2) (v := .int .i64 (m : Nat)) HL1.out).set (o := sy * 2 + 1) (v := .int .i64 ((Cn.base l m + j : Nat) : Int)) HL1.out)
          have zs : (sy : Int) < n := by omega
          have zb : ((Cn.base l m + j : Nat) : Int) ≤ 33068 := by have := hb15.out; omega
          have ji : (j : Int) < k := by omega
          have HZ : Hid (Cn.base l m + (j + 1) = Cn.base l m + j + 1) := by show _ = _; rfl
          generalize Cn.base l m + j = z at *
          clear HO HB HR HF e1 e2 hown s1 s2 s3 hm0 hix
          go_wp2
          go_roundw
          case measure => simp [RowKit.intOf]; omega
          case rel => exact ⟨j + 1, by go_num, by omega, by rw [HZ.out]; go_num, HO2, HR2, HB2⟩
        · have e : j = k := by omega
          subst e
          have HT : Hid (Cn.base l m + j = prevC l (m + 1)) := by
            show _ = topC l m
            rw [top_row, Hk.out, HRR.out, Hn.out]
          have HF : Hid (filledJ l m j = filledJ l (m + 1) 0) := by
            show _ = _
            rw [← filledJ_next, Hk.out, HRR.out, Hn.out]
          rw [HT.out]
          rw [HF.out] at HO
          clear hjk HF HT hix
          go_wp2
          go_roundw
          case measure => simp [RowKit.intOf]; omega
          case rel => exact ⟨m + 1, by go_num, by omega, rfl, HO, HR, HB⟩
    · have e : m = 16 := by omega
      subst e
      rw [filledJ_end HM.out.le] at HO
      clear hlt hm
      go_wp2
      go_ret2
      exact ⟨HB.out, _, _, rfl, codes_own HO.out (by rw [codesOf_length]; exact Hn.out)⟩
theorem codes_none (L : List Int) (n : Nat) (p : Option Addr) (c : Nat) (w : World) (hm : ∀ l, MayC l → L ≠ nums l) (hn : L.length = n) (hl : n ≤ 281474976710656) (h : IntsLie w p L c) :
    Calls Try.prog 32 #[.slice p n c] w fun e w' => Below w.heap.size w w' ∧ ∃ q d, d ≤ maxLen ∧ e = .returned (.tuple #[.slice q 0 d, .bool false]) := by
  have hmay := may_none L n p c w hm hn hl h
  clear h hm hn
  go_enter Try.func32, Try.ntmps32
  go_wp2_with (first | (go_at_call 62; refine hmay.mono ?_; rintro e w' ⟨rfl, rfl⟩))
  go_ret2
  exact ⟨Below.refl _ _, _, 0, Nat.zero_le _, rfl⟩
end Go.Proofs.Ythehjhckcblbdaa.Cd
/-
  Package bits' Take, at any place of any bits.
-/
namespace Go.Proofs.Ythehjhckcblbdaa.Cd
set_option maxRecDepth 100000
open Go.RowKit Mb Go.Lib
theorem number_none (q : Option Addr) (cap : Nat) (w : World) : Calls Try.prog 38 #[.slice q 0 cap] w fun e w' => e = .returned (.int .i64 0) ∧ w' = w := by
  go_enter Try.func38, Try.ntmps38
  go_wp2
  go_loop [3, 5, 8] (fun x _ i => i = .int .i64 0 ∧ x = .int .i64 0) (fun _ _ _ => 0)
  case atStart => exact ⟨rfl, rfl⟩
  case round =>
    obtain ⟨rfl, rfl⟩ := hrel
    go_wp2
    go_ret
    exact ⟨rfl, rfl⟩
/-- what Take answers -/
def tkV (b : List Bool) (x : Int) (n : Nat) : Value :=
  if 0 ≤ x ∧ x + n ≤ b.length then .tuple #[.int .i64 (num ((b.drop x.toNat).take n) : Int), .int .i64 ((x.toNat + n : Nat) : Int), .bool true] else .tuple #[.int .i64 0, .int .i64 0, .bool false]
theorem take_lies (b : List Bool) (m : Nat) (q : Option Addr) (d : Nat) (x : Int) (n : Nat) (w : World) (hq : FlagsLie w q b d) (hb : b.length = m) (hn : n ≤ 30) :
    Calls Try.prog 104 #[.slice q m d, .int .i64 x, .int .i64 n] w fun e w' => e = .returned (tkV b x n) ∧ w' = w := by
  have hml : m ≤ maxLen := by have := hq.len; have := hq.cap; omega
  have hmd : m ≤ d := by have := hq.len; omega
  have hdl := hq.cap
  by_cases hin : 0 ≤ x ∧ x + n ≤ m
  · have hV : tkV b x n = .tuple #[.int .i64 (num ((b.drop x.toNat).take n) : Int), .int .i64 ((x.toNat + n : Nat) : Int), .bool true] := by unfold tkV; rw [if_pos (by rw [hb]; exact hin)]
    rw [hV]
    obtain ⟨p, rfl⟩ := Int.eq_ofNat_of_zero_le hin.1
    simp only [Int.toNat_natCast]
    rcases hq.lies with rfl | ⟨blk, off, rfl, hc⟩
    · have hm0 : m = 0 := by rw [← hb]; rfl
      have hp0 : p = 0 := by omega
      have hn0 : n = 0 := by omega
      subst hm0; subst hp0; subst hn0
      have hw := width_any 0 w
      have hk := fun q c => number_none q c w
      have zd : (0 : Int) ≤ d := by omega
      clear hV hq hb hin hml hmd hn
      unfold maxLen at hdl
      have zd2 : (d : Int) ≤ 9223372036854775807 := by omega
      clear hdl
      rcases Nat.eq_zero_or_pos d with e | e
      · subst e
        cases q
        all_goals
          go_enter Try.func104, Try.ntmps104
          go_wp2_with (first | (go_at_call 88; ((with_reducible refine hw.mono ?_); rintro e w' ⟨rfl, rfl⟩)) | (go_at_call 38; ((with_reducible refine (hk _ _).mono ?_); rintro e w' ⟨rfl, rfl⟩)))
          go_ret3
          exact ⟨rfl, rfl⟩
      · have e1 : (0 : Int) < d := by omega
        cases q
        all_goals
          go_enter Try.func104, Try.ntmps104
          go_wp2_with (first | (go_at_call 88; ((with_reducible refine hw.mono ?_); rintro e w' ⟨rfl, rfl⟩)) | (go_at_call 38; ((with_reducible refine (hk _ _).mono ?_); rintro e w' ⟨rfl, rfl⟩)))
          go_ret3
          exact ⟨rfl, rfl⟩
    · have ht := take_in b p n blk off d hn (by omega) (by omega) (by omega) hdl w ⟨hc⟩
      rw [hb] at ht
      exact ht
  · have hV : tkV b x n = .tuple #[.int .i64 0, .int .i64 0, .bool false] := by unfold tkV; rw [if_neg (by rw [hb]; exact hin)]
    rw [hV]
    clear hV hq hb hdl hmd
    unfold maxLen at hml
    have b3 : (m : Int) ≤ 9223372036854775807 := by omega
    have b4 : (decide ((0 : Int) ≤ n) && decide ((n : Int) ≤ 30)) = true := by simp; omega
    have hw := width_any n w
    rw [b4] at hw
    have zn : (n : Int) ≤ 30 := by omega
    clear b4 hml hn
    by_cases h0 : x < 0
    · clear hin
      go_enter Try.func104, Try.ntmps104
      go_wp2_with (go_at_call 88; ((with_reducible refine hw.mono ?_); rintro e w' ⟨rfl, rfl⟩))
      go_ret3
      exact ⟨rfl, rfl⟩
    · obtain ⟨p, rfl⟩ := Int.eq_ofNat_of_zero_le (show 0 ≤ x by omega)
      by_cases h1 : (m : Int) < p
      · clear hin h0
        go_enter Try.func104, Try.ntmps104
        go_wp2_with (go_at_call 88; ((with_reducible refine hw.mono ?_); rintro e w' ⟨rfl, rfl⟩))
        go_ret3
        exact ⟨rfl, rfl⟩
      · have h2 : (p : Int) ≤ m := by omega
        have h3 : (m : Int) - p < n := by omega
        clear hin h0 h1
        go_enter Try.func104, Try.ntmps104
        go_wp2_with (go_at_call 88; ((with_reducible refine hw.mono ?_); rintro e w' ⟨rfl, rfl⟩))
        go_ret3
        exact ⟨rfl, rfl⟩
end Go.Proofs.Ythehjhckcblbdaa.Cd
