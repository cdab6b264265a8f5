/-
  Maths of canonical codes: which number a symbol's code is, that no code begins with another one, that they fill all there is, that they rise. No condition.
-/
import Derived.Test.YtbkehlppngejnaaHufLw
import Derived.Test.YtbkehlppngejnaaBitMb
namespace Go.Proofs.Ytbkehlppngejnaa.Cn
open Hf Mb
/-- how many of the first symbols have codes of n bits -/
def cnt (l : List Nat) (n : Nat) : Nat → Nat
  | 0 => 0
  | i + 1 => cnt l n i + (if l.getD i 0 = n then 1 else 0)
/-- the first code of n bits -/
def base (l : List Nat) : Nat → Nat
  | 0 => 0
  | n + 1 => 2 * (base l n + (if n = 0 then 0 else cnt l n l.length))
/-- a symbol's code, as a number -/
def bitsOf (l : List Nat) (i : Nat) : Nat := base l (l.getD i 0) + cnt l (l.getD i 0) i
/-- what codes of less than n bits take of all there is -/
def low (l : List Nat) (n : Nat) : Nat := sm (fun j => if 1 ≤ l.getD j 0 ∧ l.getD j 0 < n then 2 ^ (15 - l.getD j 0) else 0) (List.range l.length)
theorem cnt_mono (l : List Nat) (n : Nat) {i j : Nat} (h : i ≤ j) : cnt l n i ≤ cnt l n j := by
  induction h with
  | refl => exact Nat.le_refl _
  | step _ ih => exact Nat.le_trans ih (Nat.le_add_right _ _)
theorem cnt_step (l : List Nat) {n i : Nat} (h : l.getD i 0 = n) : cnt l n (i + 1) = cnt l n i + 1 := by
  show cnt l n i + (if _ then 1 else 0) = _
  rw [if_pos h]
theorem cnt_sum (l : List Nat) (n c : Nat) : ∀ k, sm (fun j => if l.getD j 0 = n then c else 0) (List.range k) = cnt l n k * c
  | 0 => by simp [sm, cnt]
  | k + 1 => by
    rw [List.range_succ, sm_append, cnt_sum l n c k]
    show _ + ((if _ then c else 0) + 0) = (cnt l n k + (if _ then 1 else 0)) * c
    split <;> simp [Nat.add_mul]
theorem low_one (l : List Nat) : low l 1 = 0 := by
  unfold low
  rw [sm_congr (h := fun _ => 0) fun i _ => if_neg (by omega), sm_const, Nat.mul_zero]
theorem low_succ (l : List Nat) {n : Nat} (h : 1 ≤ n) : low l (n + 1) = low l n + cnt l n l.length * 2 ^ (15 - n) := by
  rw [← cnt_sum]
  unfold low
  rw [← sm_add]
  refine sm_congr fun j _ => ?_
  by_cases e : l.getD j 0 = n
  · rw [if_pos (by omega), if_neg (by omega), if_pos e, e, Nat.zero_add]
  · rw [if_neg e, Nat.add_zero]
    by_cases h2 : 1 ≤ l.getD j 0 ∧ l.getD j 0 < n
    · rw [if_pos h2, if_pos (by omega)]; exact (Nat.add_zero _).symm
    · rw [if_neg h2, if_neg (by omega)]
theorem low_mono (l : List Nat) {m n : Nat} (h : m ≤ n) : low l m ≤ low l n := sm_le fun j _ => by
  by_cases h2 : 1 ≤ l.getD j 0 ∧ l.getD j 0 < m
  · rw [if_pos h2, if_pos (by omega)]; exact Nat.le_refl _
  · rw [if_neg h2]; exact Nat.zero_le _
theorem low_all {l : List Nat} (h : ∀ i, l.getD i 0 ≤ 15) : low l 16 = kraftN l := sm_congr fun j _ => by
  have := h j
  by_cases h2 : 1 ≤ l.getD j 0
  · rw [if_pos ⟨h2, by omega⟩, if_pos h2]
  · rw [if_neg (by omega), if_neg h2]
theorem base_low (l : List Nat) : ∀ n, 1 ≤ n → n ≤ 15 → base l n * 2 ^ (15 - n) = low l n
  | 1, _, _ => by rw [low_one]; simp [base]
  | n + 2, _, h => by
    have ih := base_low l (n + 1) (by omega) (by omega)
    rw [low_succ l (by omega), ← ih, ← Nat.add_mul]
    show 2 * (base l (n + 1) + (if n + 1 = 0 then 0 else cnt l (n + 1) l.length)) * 2 ^ (15 - (n + 2)) = _
    rw [if_neg (by omega), show 15 - (n + 1) = (15 - (n + 2)) + 1 by omega, Nat.pow_succ]
    rw [Nat.mul_comm 2, Nat.mul_assoc, Nat.mul_comm 2]
/-- where a symbol's part of all there is begins -/
def start (l : List Nat) (i : Nat) : Nat := bitsOf l i * 2 ^ (15 - l.getD i 0)
theorem start_is (l : List Nat) {i : Nat} (h1 : 1 ≤ l.getD i 0) (h2 : l.getD i 0 ≤ 15) : start l i = low l (l.getD i 0) + cnt l (l.getD i 0) i * 2 ^ (15 - l.getD i 0) := by
  unfold start bitsOf
  rw [Nat.add_mul, base_low l _ h1 h2]
theorem start_next (l : List Nat) {i : Nat} (h1 : 1 ≤ l.getD i 0) (h2 : l.getD i 0 ≤ 15) : start l i + 2 ^ (15 - l.getD i 0) = low l (l.getD i 0) + cnt l (l.getD i 0) (i + 1) * 2 ^ (15 - l.getD i 0) := by
  rw [start_is l h1 h2, cnt_step l rfl, Nat.add_mul, Nat.one_mul, Nat.add_assoc]
theorem there_lt {l : List Nat} {i : Nat} (h : 1 ≤ l.getD i 0) : i < l.length := by
  rcases Nat.lt_or_ge i l.length with z | z
  · exact z
  · rw [List.getD_eq_getElem?_getD, List.getElem?_eq_none z] at h; simp at h
theorem start_low (l : List Nat) {i : Nat} (h1 : 1 ≤ l.getD i 0) (h2 : l.getD i 0 ≤ 15) : start l i + 2 ^ (15 - l.getD i 0) ≤ low l (l.getD i 0 + 1) := by
  rw [start_next l h1 h2, low_succ l h1]
  exact Nat.add_le_add_left (Nat.mul_le_mul_right _ (cnt_mono l _ (there_lt h1))) _
theorem start_kraft {l : List Nat} (hl : ∀ i, l.getD i 0 ≤ 15) {i : Nat} (h1 : 1 ≤ l.getD i 0) : start l i + 2 ^ (15 - l.getD i 0) ≤ kraftN l := by
  rw [← low_all hl]
  exact Nat.le_trans (start_low l h1 (hl i)) (low_mono l (by have := hl i; omega))
theorem pow_up {n : Nat} (h : n ≤ 15) : 2 ^ n * 2 ^ (15 - n) = 32768 := by
  rw [← Nat.pow_add, show n + (15 - n) = 15 by omega]
theorem bits_lt {l : List Nat} (hl : ∀ i, l.getD i 0 ≤ 15) (hk : kraftN l ≤ 32768) {i : Nat} (h1 : 1 ≤ l.getD i 0) : bitsOf l i < 2 ^ l.getD i 0 := by
  have h := Nat.le_trans (start_kraft hl h1) hk
  unfold start at h
  rw [← pow_up (hl i)] at h
  have h2 : (bitsOf l i + 1) * 2 ^ (15 - l.getD i 0) ≤ 2 ^ l.getD i 0 * 2 ^ (15 - l.getD i 0) := by rw [Nat.add_mul, Nat.one_mul]; exact h
  exact Nat.le_of_mul_le_mul_right h2 (Nat.pow_pos (by decide))
/-- symbols stand in order: shorter codes first, then by number -/
def ahead (l : List Nat) (i j : Nat) : Prop := l.getD i 0 < l.getD j 0 ∨ l.getD i 0 = l.getD j 0 ∧ i < j
theorem order {l : List Nat} (hl : ∀ i, l.getD i 0 ≤ 15) {i j : Nat} (hi : 1 ≤ l.getD i 0) (hj : 1 ≤ l.getD j 0) (h : ahead l i j) : start l i + 2 ^ (15 - l.getD i 0) ≤ start l j := by
  rcases h with h | ⟨h, hij⟩
  · refine Nat.le_trans (start_low l hi (hl i)) (Nat.le_trans (low_mono l h) ?_)
    rw [start_is l hj (hl j)]
    exact Nat.le_add_right _ _
  · rw [start_next l hi (hl i), start_is l hj (hl j), ← h]
    exact Nat.add_le_add_left (Nat.mul_le_mul_right _ (cnt_mono l _ hij)) _
/-- a longer code, cut to a shorter one's length, is above that -/
theorem above {l : List Nat} (hl : ∀ i, l.getD i 0 ≤ 15) {i j : Nat} (hi : 1 ≤ l.getD i 0) (hj : 1 ≤ l.getD j 0) (h : ahead l i j) : bitsOf l i < bitsOf l j / 2 ^ (l.getD j 0 - l.getD i 0) := by
  have ho := order hl hi hj h
  have hle : l.getD i 0 ≤ l.getD j 0 := by rcases h with h | h <;> omega
  have hj15 := hl j
  unfold start at ho
  have e : 2 ^ (15 - l.getD i 0) = 2 ^ (l.getD j 0 - l.getD i 0) * 2 ^ (15 - l.getD j 0) := by rw [← Nat.pow_add]; congr 1; omega
  rw [e] at ho
  have h2 : ((bitsOf l i + 1) * 2 ^ (l.getD j 0 - l.getD i 0)) * 2 ^ (15 - l.getD j 0) ≤ bitsOf l j * 2 ^ (15 - l.getD j 0) := by
    rw [Nat.add_mul, Nat.one_mul, Nat.add_mul, Nat.mul_assoc]; exact ho
  exact (Nat.le_div_iff_mul_le (Nat.pow_pos (by decide))).2 (Nat.le_of_mul_le_mul_right h2 (Nat.pow_pos (by decide)))
theorem rises {l : List Nat} (hl : ∀ i, l.getD i 0 ≤ 15) {i j : Nat} (hi : 1 ≤ l.getD i 0) (he : l.getD i 0 = l.getD j 0) (h : i < j) : bitsOf l i < bitsOf l j := by
  have := above hl hi (by omega) (Or.inr ⟨he, h⟩)
  rw [he, Nat.sub_self, Nat.pow_zero, Nat.div_one] at this
  exact this
/-- no code begins with another one -/
theorem apart {l : List Nat} (hl : ∀ i, l.getD i 0 ≤ 15) {i j : Nat} (hi : 1 ≤ l.getD i 0) (hj : 1 ≤ l.getD j 0) (hle : l.getD i 0 ≤ l.getD j 0) (h : bitsOf l j / 2 ^ (l.getD j 0 - l.getD i 0) = bitsOf l i) : i = j := by
  refine Classical.byContradiction fun hne => ?_
  by_cases ha : ahead l i j
  · have := above hl hi hj ha
    omega
  · have hb : l.getD j 0 = l.getD i 0 ∧ j < i := by unfold ahead at ha; omega
    have := rises hl hj hb.1 hb.2
    rw [hb.1, Nat.sub_self, Nat.pow_zero, Nat.div_one] at h
    omega
/-! ### reading -/
def hit (l : List Nat) (b : List Bool) (at_ i : Nat) : Bool := decide (0 < l.getD i 0) && (decide (at_ + l.getD i 0 ≤ b.length) && decide (num ((b.drop at_).take (l.getD i 0)) = bitsOf l i))
theorem hit_iff {l : List Nat} {b : List Bool} {at_ i : Nat} : hit l b at_ i = true ↔ 0 < l.getD i 0 ∧ at_ + l.getD i 0 ≤ b.length ∧ num ((b.drop at_).take (l.getD i 0)) = bitsOf l i := by
  unfold hit
  rw [Bool.and_eq_true, Bool.and_eq_true, decide_eq_true_eq, decide_eq_true_eq, decide_eq_true_eq]
theorem num_cut (b : List Bool) {m n : Nat} (h : m ≤ n) (hn : n ≤ b.length) : num (b.take n) / 2 ^ (n - m) = num (b.take m) := by
  have e : b.take n = b.take m ++ (b.drop m).take (n - m) := by
    rw [← List.take_add]; congr 1; omega
  have hlen : ((b.drop m).take (n - m)).length = n - m := by rw [List.length_take, List.length_drop]; omega
  have hlt := num_lt ((b.drop m).take (n - m))
  rw [e, num_append, hlen] at *
  rw [Nat.mul_comm, Nat.mul_add_div (Nat.pow_pos (by decide)), Nat.div_eq_of_lt hlt, Nat.add_zero]
theorem hit_one {l : List Nat} (hl : ∀ i, l.getD i 0 ≤ 15) {b : List Bool} {at_ i j : Nat} (hi : hit l b at_ i = true) (hj : hit l b at_ j = true) : i = j := by
  have key : ∀ i j, hit l b at_ i = true → hit l b at_ j = true → l.getD i 0 ≤ l.getD j 0 → i = j := fun i j hi hj hle => by
    obtain ⟨i1, i2, i3⟩ := hit_iff.1 hi
    obtain ⟨j1, j2, j3⟩ := hit_iff.1 hj
    refine apart hl i1 j1 hle ?_
    rw [← i3, ← j3]
    exact num_cut (b.drop at_) hle (by rw [List.length_drop]; omega)
  rcases Nat.le_total (l.getD i 0) (l.getD j 0) with h | h
  · exact key i j hi hj h
  · exact (key j i hj hi h).symm
/-- what is read at a place: which symbol -/
def readN (l : List Nat) (b : List Bool) (at_ : Nat) : Option Nat := (List.range l.length).find? (hit l b at_)
theorem read_some {l : List Nat} (hl : ∀ i, l.getD i 0 ≤ 15) {b : List Bool} {at_ i : Nat} (h : hit l b at_ i = true) : readN l b at_ = some i := by
  have hi := there_lt (hit_iff.1 h).1
  unfold readN
  cases hf : (List.range l.length).find? (hit l b at_) with
  | none =>
    have := List.find?_eq_none.1 hf i (List.mem_range.2 hi)
    exact absurd h this
  | some j => rw [hit_one hl h (List.find?_some hf)]
theorem read_none {l : List Nat} {b : List Bool} {at_ : Nat} (h : ∀ i, hit l b at_ i = false) : readN l b at_ = none := by
  unfold readN
  exact List.find?_eq_none.2 fun i _ k => by rw [h i] at k; cases k
/-- a symbol's code -/
def code (l : List Nat) (i : Nat) : List Bool := dig (bitsOf l i) (l.getD i 0)
theorem code_length (l : List Nat) (i : Nat) : (code l i).length = l.getD i 0 := dig_length _ _
theorem code_hit {l : List Nat} (hl : ∀ i, l.getD i 0 ≤ 15) (hk : kraftN l ≤ 32768) {i at_ : Nat} (h1 : 1 ≤ l.getD i 0) {b more : List Bool} (hb : b.drop at_ = code l i ++ more) (hat : at_ ≤ b.length) : hit l b at_ i = true := by
  refine hit_iff.2 ⟨h1, ?_, ?_⟩
  · have := congrArg List.length hb
    rw [List.length_drop, List.length_append, code_length] at this
    omega
  · rw [hb, List.take_append_of_le_length (by rw [code_length]; exact Nat.le_refl _), List.take_of_length_le (by rw [code_length]; exact Nat.le_refl _)]
    exact dig_of_lt _ _ (bits_lt hl hk h1)
theorem code_apart {l : List Nat} (hl : ∀ i, l.getD i 0 ≤ 15) (hk : kraftN l ≤ 32768) {i j : Nat} (hi : 1 ≤ l.getD i 0) (hj : 1 ≤ l.getD j 0) (hle : l.getD i 0 ≤ l.getD j 0) (h : (code l j).take (l.getD i 0) = code l i) : i = j := by
  refine apart hl hi hj hle ?_
  have e := num_cut (code l j) (m := l.getD i 0) (n := l.getD j 0) hle (by rw [code_length]; exact Nat.le_refl _)
  rw [List.take_of_length_le (by rw [code_length]; exact Nat.le_refl _), h] at e
  have e1 : num (code l j) = bitsOf l j := dig_of_lt _ _ (bits_lt hl hk hj)
  have e2 : num (code l i) = bitsOf l i := dig_of_lt _ _ (bits_lt hl hk hi)
  rw [e1, e2] at e
  exact e
/-! ### all there is -/
theorem cnt_find (l : List Nat) (n : Nat) : ∀ k m, m < cnt l n k → ∃ i, i < k ∧ l.getD i 0 = n ∧ cnt l n i = m
  | 0, m, h => absurd h (by simp [cnt])
  | k + 1, m, h => by
    by_cases e : l.getD k 0 = n
    · rw [cnt_step l e] at h
      by_cases h2 : m < cnt l n k
      · obtain ⟨i, a, b⟩ := cnt_find l n k m h2
        exact ⟨i, by omega, b⟩
      · exact ⟨k, by omega, e, by omega⟩
    · have : cnt l n (k + 1) = cnt l n k := by
        show cnt l n k + (if _ then 1 else 0) = _
        rw [if_neg e]; rfl
      rw [this] at h
      obtain ⟨i, a, b⟩ := cnt_find l n k m h
      exact ⟨i, by omega, b⟩
theorem low_find (l : List Nat) (v : Nat) : ∀ N, v < low l (N + 1) → ∃ n, 1 ≤ n ∧ n ≤ N ∧ low l n ≤ v ∧ v < low l (n + 1)
  | 0, h => by rw [low_one] at h; omega
  | N + 1, h => by
    by_cases h2 : v < low l (N + 1)
    · obtain ⟨n, a, b, c⟩ := low_find l v N h2
      exact ⟨n, a, by omega, c⟩
    · exact ⟨N + 1, by omega, by omega, by omega, h⟩
/-- if the codes fill all there is, each row of 15 bits begins with one -/
theorem full_hit {l : List Nat} (hl : ∀ i, l.getD i 0 ≤ 15) (hk : kraftN l = 32768) {b : List Bool} (hb : b.length = 15) : ∃ i, hit l b 0 i = true := by
  have hv : num b < low l (15 + 1) := by
    rw [low_all hl, hk]
    have := num_lt b
    rw [hb] at this
    exact this
  obtain ⟨n, h1, h2, h3, h4⟩ := low_find l _ 15 hv
  rw [low_succ l h1] at h4
  have hp : 0 < 2 ^ (15 - n) := Nat.pow_pos (by decide)
  obtain ⟨i, _, hi2, hi3⟩ := cnt_find l n l.length ((num b - low l n) / 2 ^ (15 - n)) ((Nat.div_lt_iff_lt_mul hp).2 (by omega))
  have hs := start_is l (i := i) (by omega) (hl i)
  rw [hi2, hi3] at hs
  have hdm := Nat.div_add_mod (num b - low l n) (2 ^ (15 - n))
  have hml := Nat.mod_lt (num b - low l n) hp
  rw [Nat.mul_comm] at hdm
  unfold start at hs
  rw [hi2] at hs
  refine ⟨i, hit_iff.2 ⟨by omega, by omega, ?_⟩⟩
  rw [List.drop_zero, hi2]
  have hc := num_cut b (m := n) (n := 15) h2 (by omega)
  rw [List.take_of_length_le (by omega)] at hc
  rw [← hc]
  refine Nat.div_eq_of_lt_le ?_ ?_
  · omega
  · rw [Nat.succ_mul]; omega
/-- else 15 bits 1 begin with none -/
theorem ones_none {l : List Nat} (hl : ∀ i, l.getD i 0 ≤ 15) (hk : kraftN l < 32768) (i : Nat) : hit l (List.replicate 15 true) 0 i = false := by
  cases hh : hit l (List.replicate 15 true) 0 i with
  | false => rfl
  | true =>
    obtain ⟨h1, h2, h3⟩ := hit_iff.1 hh
    rw [List.drop_zero, List.take_replicate, Nat.min_eq_left (hl i)] at h3
    have e : ∀ n, num (List.replicate n true) + 1 = 2 ^ n := fun n => by
      induction n with
      | zero => rfl
      | succ n ih => rw [List.replicate_succ', num_snoc, Nat.pow_succ, ← ih]; simp; omega
    have e1 := e (l.getD i 0)
    rw [h3] at e1
    have h4 := start_kraft hl h1
    unfold start at h4
    have h5 : (bitsOf l i + 1) * 2 ^ (15 - l.getD i 0) ≤ kraftN l := by rw [Nat.add_mul, Nat.one_mul]; exact h4
    rw [e1, pow_up (hl i)] at h5
    omega
end Go.Proofs.Ytbkehlppngejnaa.Cn
