/-
  Maths of canonical codes: which number a symbol's code is, that no code begins with another one, that they fill all there is, that they rise. No condition.
-/
import Derived.Test.YthehjhckcblbdaaHufM
import Derived.Test.YthehjhckcblbdaaBitX
import Derived.Test.YthehjhckcblbdaaLstX
import Derived.BigQuiet
import Derived.Laws.AppendOwnNone
import Derived.Deep.AppendLies
import Derived.Deep.RegionHeld3
namespace Go.Proofs.Ythehjhckcblbdaa.Cn
set_option maxRecDepth 100000
open Hf Mb
/-- how many of the first symbols have codes of n bits -/
def cnt (l : List Nat) (n : Nat) : Nat → Nat
  | 0 => 0
  | i + 1 => cnt l n i + (if l.getD i 0 = n then 1 else 0)
/-- the first code of n bits -/
def base (l : List Nat) : Nat → Nat
  | 0 => 0
  | n + 1 => 2 * (base l n + (if n = 0 then 0 else cnt l n l.length))
/-- a symbol's code, as a number -/
def bitsOf (l : List Nat) (i : Nat) : Nat := base l (l.getD i 0) + cnt l (l.getD i 0) i
/-- what codes of less than n bits take of all there is -/
def low (l : List Nat) (n : Nat) : Nat := sm (fun j => if 1 ≤ l.getD j 0 ∧ l.getD j 0 < n then 2 ^ (15 - l.getD j 0) else 0) (List.range l.length)
theorem cnt_mono (l : List Nat) (n : Nat) {i j : Nat} (h : i ≤ j) : cnt l n i ≤ cnt l n j := by
  induction h with
  | refl => exact Nat.le_refl _
  | step _ ih => exact Nat.le_trans ih (Nat.le_add_right _ _)
theorem cnt_step (l : List Nat) {n i : Nat} (h : l.getD i 0 = n) : cnt l n (i + 1) = cnt l n i + 1 := by
  show cnt l n i + (if _ then 1 else 0) = _
  rw [if_pos h]
theorem cnt_sum (l : List Nat) (n c : Nat) : ∀ k, sm (fun j => if l.getD j 0 = n then c else 0) (List.range k) = cnt l n k * c
  | 0 => by simp [sm, cnt]
  | k + 1 => by
    rw [List.range_succ, sm_append, cnt_sum l n c k]
    show _ + ((if _ then c else 0) + 0) = (cnt l n k + (if _ then 1 else 0)) * c
    split <;> simp [Nat.add_mul]
theorem low_one (l : List Nat) : low l 1 = 0 := by
  unfold low
  rw [sm_congr (h := fun _ => 0) fun i _ => if_neg (by omega), sm_const, Nat.mul_zero]
theorem low_succ (l : List Nat) {n : Nat} (h : 1 ≤ n) : low l (n + 1) = low l n + cnt l n l.length * 2 ^ (15 - n) := by
  rw [← cnt_sum]
  unfold low
  rw [← sm_add]
  refine sm_congr fun j _ => ?_
  by_cases e : l.getD j 0 = n
  · rw [if_pos (by omega), if_neg (by omega), if_pos e, e, Nat.zero_add]
  · rw [if_neg e, Nat.add_zero]
    by_cases h2 : 1 ≤ l.getD j 0 ∧ l.getD j 0 < n
    · rw [if_pos h2, if_pos (by omega)]; exact (Nat.add_zero _).symm
    · rw [if_neg h2, if_neg (by omega)]
theorem low_mono (l : List Nat) {m n : Nat} (h : m ≤ n) : low l m ≤ low l n := sm_le fun j _ => by
  by_cases h2 : 1 ≤ l.getD j 0 ∧ l.getD j 0 < m
  · rw [if_pos h2, if_pos (by omega)]; exact Nat.le_refl _
  · rw [if_neg h2]; exact Nat.zero_le _
theorem low_all {l : List Nat} (h : ∀ i, l.getD i 0 ≤ 15) : low l 16 = kraftN l := sm_congr fun j _ => by
  have := h j
  by_cases h2 : 1 ≤ l.getD j 0
  · rw [if_pos ⟨h2, by omega⟩, if_pos h2]
  · rw [if_neg (by omega), if_neg h2]
theorem base_low (l : List Nat) : ∀ n, 1 ≤ n → n ≤ 15 → base l n * 2 ^ (15 - n) = low l n
  | 1, _, _ => by rw [low_one]; simp [base]
  | n + 2, _, h => by
    have ih := base_low l (n + 1) (by omega) (by omega)
    rw [low_succ l (by omega), ← ih, ← Nat.add_mul]
    show 2 * (base l (n + 1) + (if n + 1 = 0 then 0 else cnt l (n + 1) l.length)) * 2 ^ (15 - (n + 2)) = _
    rw [if_neg (by omega), show 15 - (n + 1) = (15 - (n + 2)) + 1 by omega, Nat.pow_succ]
    rw [Nat.mul_comm 2, Nat.mul_assoc, Nat.mul_comm 2]
/-- where a symbol's part of all there is begins -/
def start (l : List Nat) (i : Nat) : Nat := bitsOf l i * 2 ^ (15 - l.getD i 0)
theorem start_is (l : List Nat) {i : Nat} (h1 : 1 ≤ l.getD i 0) (h2 : l.getD i 0 ≤ 15) : start l i = low l (l.getD i 0) + cnt l (l.getD i 0) i * 2 ^ (15 - l.getD i 0) := by
  unfold start bitsOf
  rw [Nat.add_mul, base_low l _ h1 h2]
theorem start_next (l : List Nat) {i : Nat} (h1 : 1 ≤ l.getD i 0) (h2 : l.getD i 0 ≤ 15) : start l i + 2 ^ (15 - l.getD i 0) = low l (l.getD i 0) + cnt l (l.getD i 0) (i + 1) * 2 ^ (15 - l.getD i 0) := by
  rw [start_is l h1 h2, cnt_step l rfl, Nat.add_mul, Nat.one_mul, Nat.add_assoc]
theorem there_lt {l : List Nat} {i : Nat} (h : 1 ≤ l.getD i 0) : i < l.length := by
  rcases Nat.lt_or_ge i l.length with z | z
  · exact z
  · rw [List.getD_eq_getElem?_getD, List.getElem?_eq_none z] at h; simp at h
theorem start_low (l : List Nat) {i : Nat} (h1 : 1 ≤ l.getD i 0) (h2 : l.getD i 0 ≤ 15) : start l i + 2 ^ (15 - l.getD i 0) ≤ low l (l.getD i 0 + 1) := by
  rw [start_next l h1 h2, low_succ l h1]
  exact Nat.add_le_add_left (Nat.mul_le_mul_right _ (cnt_mono l _ (there_lt h1))) _
theorem start_kraft {l : List Nat} (hl : ∀ i, l.getD i 0 ≤ 15) {i : Nat} (h1 : 1 ≤ l.getD i 0) : start l i + 2 ^ (15 - l.getD i 0) ≤ kraftN l := by
  rw [← low_all hl]
  exact Nat.le_trans (start_low l h1 (hl i)) (low_mono l (by have := hl i; omega))
theorem pow_up {n : Nat} (h : n ≤ 15) : 2 ^ n * 2 ^ (15 - n) = 32768 := by
  rw [← Nat.pow_add, show n + (15 - n) = 15 by omega]
theorem bits_lt {l : List Nat} (hl : ∀ i, l.getD i 0 ≤ 15) (hk : kraftN l ≤ 32768) {i : Nat} (h1 : 1 ≤ l.getD i 0) : bitsOf l i < 2 ^ l.getD i 0 := by
  have h := Nat.le_trans (start_kraft hl h1) hk
  unfold start at h
  rw [← pow_up (hl i)] at h
  have h2 : (bitsOf l i + 1) * 2 ^ (15 - l.getD i 0) ≤ 2 ^ l.getD i 0 * 2 ^ (15 - l.getD i 0) := by rw [Nat.add_mul, Nat.one_mul]; exact h
  exact Nat.le_of_mul_le_mul_right h2 (Nat.pow_pos (by decide))
/-- symbols stand in order: shorter codes first, then by number -/
def ahead (l : List Nat) (i j : Nat) : Prop := l.getD i 0 < l.getD j 0 ∨ l.getD i 0 = l.getD j 0 ∧ i < j
theorem order {l : List Nat} (hl : ∀ i, l.getD i 0 ≤ 15) {i j : Nat} (hi : 1 ≤ l.getD i 0) (hj : 1 ≤ l.getD j 0) (h : ahead l i j) : start l i + 2 ^ (15 - l.getD i 0) ≤ start l j := by
  rcases h with h | ⟨h, hij⟩
  · refine Nat.le_trans (start_low l hi (hl i)) (Nat.le_trans (low_mono l h) ?_)
    rw [start_is l hj (hl j)]
    exact Nat.le_add_right _ _
  · rw [start_next l hi (hl i), start_is l hj (hl j), ← h]
    exact Nat.add_le_add_left (Nat.mul_le_mul_right _ (cnt_mono l _ hij)) _
/-- a longer code, cut to a shorter one's length, is above that -/
theorem above {l : List Nat} (hl : ∀ i, l.getD i 0 ≤ 15) {i j : Nat} (hi : 1 ≤ l.getD i 0) (hj : 1 ≤ l.getD j 0) (h : ahead l i j) : bitsOf l i < bitsOf l j / 2 ^ (l.getD j 0 - l.getD i 0) := by
  have ho := order hl hi hj h
  have hle : l.getD i 0 ≤ l.getD j 0 := by rcases h with h | h <;> omega
  have hj15 := hl j
  unfold start at ho
  have e : 2 ^ (15 - l.getD i 0) = 2 ^ (l.getD j 0 - l.getD i 0) * 2 ^ (15 - l.getD j 0) := by rw [← Nat.pow_add]; congr 1; omega
  rw [e] at ho
  have h2 : ((bitsOf l i + 1) * 2 ^ (l.getD j 0 - l.getD i 0)) * 2 ^ (15 - l.getD j 0) ≤ bitsOf l j * 2 ^ (15 - l.getD j 0) := by
    rw [Nat.add_mul, Nat.one_mul, Nat.add_mul, Nat.mul_assoc]; exact ho
  exact (Nat.le_div_iff_mul_le (Nat.pow_pos (by decide))).2 (Nat.le_of_mul_le_mul_right h2 (Nat.pow_pos (by decide)))
theorem rises {l : List Nat} (hl : ∀ i, l.getD i 0 ≤ 15) {i j : Nat} (hi : 1 ≤ l.getD i 0) (he : l.getD i 0 = l.getD j 0) (h : i < j) : bitsOf l i < bitsOf l j := by
  have := above hl hi (by omega) (Or.inr ⟨he, h⟩)
  rw [he, Nat.sub_self, Nat.pow_zero, Nat.div_one] at this
  exact this
/-- no code begins with another one -/
theorem apart {l : List Nat} (hl : ∀ i, l.getD i 0 ≤ 15) {i j : Nat} (hi : 1 ≤ l.getD i 0) (hj : 1 ≤ l.getD j 0) (hle : l.getD i 0 ≤ l.getD j 0) (h : bitsOf l j / 2 ^ (l.getD j 0 - l.getD i 0) = bitsOf l i) : i = j := by
  refine Classical.byContradiction fun hne => ?_
  by_cases ha : ahead l i j
  · have := above hl hi hj ha
    omega
  · have hb : l.getD j 0 = l.getD i 0 ∧ j < i := by unfold ahead at ha; omega
    have := rises hl hj hb.1 hb.2
    rw [hb.1, Nat.sub_self, Nat.pow_zero, Nat.div_one] at h
    omega
/-! ### reading -/
def hit (l : List Nat) (b : List Bool) (at_ i : Nat) : Bool := decide (0 < l.getD i 0) && (decide (at_ + l.getD i 0 ≤ b.length) && decide (num ((b.drop at_).take (l.getD i 0)) = bitsOf l i))
theorem hit_iff {l : List Nat} {b : List Bool} {at_ i : Nat} : hit l b at_ i = true ↔ 0 < l.getD i 0 ∧ at_ + l.getD i 0 ≤ b.length ∧ num ((b.drop at_).take (l.getD i 0)) = bitsOf l i := by
  unfold hit
  rw [Bool.and_eq_true, Bool.and_eq_true, decide_eq_true_eq, decide_eq_true_eq, decide_eq_true_eq]
theorem num_cut (b : List Bool) {m n : Nat} (h : m ≤ n) (hn : n ≤ b.length) : num (b.take n) / 2 ^ (n - m) = num (b.take m) := by
  have e : b.take n = b.take m ++ (b.drop m).take (n - m) := by
    rw [← List.take_add]; congr 1; omega
  have hlen : ((b.drop m).take (n - m)).length = n - m := by rw [List.length_take, List.length_drop]; omega
  have hlt := num_lt ((b.drop m).take (n - m))
  rw [e, num_append, hlen] at *
  rw [Nat.mul_comm, Nat.mul_add_div (Nat.pow_pos (by decide)), Nat.div_eq_of_lt hlt, Nat.add_zero]
theorem hit_one {l : List Nat} (hl : ∀ i, l.getD i 0 ≤ 15) {b : List Bool} {at_ i j : Nat} (hi : hit l b at_ i = true) (hj : hit l b at_ j = true) : i = j := by
  have key : ∀ i j, hit l b at_ i = true → hit l b at_ j = true → l.getD i 0 ≤ l.getD j 0 → i = j := fun i j hi hj hle => by
    obtain ⟨i1, i2, i3⟩ := hit_iff.1 hi
    obtain ⟨j1, j2, j3⟩ := hit_iff.1 hj
    refine apart hl i1 j1 hle ?_
    rw [← i3, ← j3]
    exact num_cut (b.drop at_) hle (by rw [List.length_drop]; omega)
  rcases Nat.le_total (l.getD i 0) (l.getD j 0) with h | h
  · exact key i j hi hj h
  · exact (key j i hj hi h).symm
/-- what is read at a place: which symbol -/
def readN (l : List Nat) (b : List Bool) (at_ : Nat) : Option Nat := (List.range l.length).find? (hit l b at_)
theorem read_some {l : List Nat} (hl : ∀ i, l.getD i 0 ≤ 15) {b : List Bool} {at_ i : Nat} (h : hit l b at_ i = true) : readN l b at_ = some i := by
  have hi := there_lt (hit_iff.1 h).1
  unfold readN
  cases hf : (List.range l.length).find? (hit l b at_) with
  | none =>
    have := List.find?_eq_none.1 hf i (List.mem_range.2 hi)
    exact absurd h this
  | some j => rw [hit_one hl h (List.find?_some hf)]
theorem read_none {l : List Nat} {b : List Bool} {at_ : Nat} (h : ∀ i, hit l b at_ i = false) : readN l b at_ = none := by
  unfold readN
  exact List.find?_eq_none.2 fun i _ k => by rw [h i] at k; cases k
/-- a symbol's code -/
def code (l : List Nat) (i : Nat) : List Bool := dig (bitsOf l i) (l.getD i 0)
theorem code_length (l : List Nat) (i : Nat) : (code l i).length = l.getD i 0 := dig_length _ _
theorem code_hit {l : List Nat} (hl : ∀ i, l.getD i 0 ≤ 15) (hk : kraftN l ≤ 32768) {i at_ : Nat} (h1 : 1 ≤ l.getD i 0) {b more : List Bool} (hb : b.drop at_ = code l i ++ more) (hat : at_ ≤ b.length) : hit l b at_ i = true := by
  refine hit_iff.2 ⟨h1, ?_, ?_⟩
  · have := congrArg List.length hb
    rw [List.length_drop, List.length_append, code_length] at this
    omega
  · rw [hb, List.take_append_of_le_length (by rw [code_length]; exact Nat.le_refl _), List.take_of_length_le (by rw [code_length]; exact Nat.le_refl _)]
    exact dig_of_lt _ _ (bits_lt hl hk h1)
theorem code_apart {l : List Nat} (hl : ∀ i, l.getD i 0 ≤ 15) (hk : kraftN l ≤ 32768) {i j : Nat} (hi : 1 ≤ l.getD i 0) (hj : 1 ≤ l.getD j 0) (hle : l.getD i 0 ≤ l.getD j 0) (h : (code l j).take (l.getD i 0) = code l i) : i = j := by
  refine apart hl hi hj hle ?_
  have e := num_cut (code l j) (m := l.getD i 0) (n := l.getD j 0) hle (by rw [code_length]; exact Nat.le_refl _)
  rw [List.take_of_length_le (by rw [code_length]; exact Nat.le_refl _), h] at e
  have e1 : num (code l j) = bitsOf l j := dig_of_lt _ _ (bits_lt hl hk hj)
  have e2 : num (code l i) = bitsOf l i := dig_of_lt _ _ (bits_lt hl hk hi)
  rw [e1, e2] at e
  exact e
/-! ### all there is -/
theorem cnt_find (l : List Nat) (n : Nat) : ∀ k m, m < cnt l n k → ∃ i, i < k ∧ l.getD i 0 = n ∧ cnt l n i = m
  | 0, m, h => absurd h (by simp [cnt])
  | k + 1, m, h => by
    by_cases e : l.getD k 0 = n
    · rw [cnt_step l e] at h
      by_cases h2 : m < cnt l n k
      · obtain ⟨i, a, b⟩ := cnt_find l n k m h2
        exact ⟨i, by omega, b⟩
      · exact ⟨k, by omega, e, by omega⟩
    · have : cnt l n (k + 1) = cnt l n k := by
        show cnt l n k + (if _ then 1 else 0) = _
        rw [if_neg e]; rfl
      rw [this] at h
      obtain ⟨i, a, b⟩ := cnt_find l n k m h
      exact ⟨i, by omega, b⟩
theorem low_find (l : List Nat) (v : Nat) : ∀ N, v < low l (N + 1) → ∃ n, 1 ≤ n ∧ n ≤ N ∧ low l n ≤ v ∧ v < low l (n + 1)
  | 0, h => by rw [low_one] at h; omega
  | N + 1, h => by
    by_cases h2 : v < low l (N + 1)
    · obtain ⟨n, a, b, c⟩ := low_find l v N h2
      exact ⟨n, a, by omega, c⟩
    · exact ⟨N + 1, by omega, by omega, by omega, h⟩
/-- if the codes fill all there is, each row of 15 bits begins with one -/
theorem full_hit {l : List Nat} (hl : ∀ i, l.getD i 0 ≤ 15) (hk : kraftN l = 32768) {b : List Bool} (hb : b.length = 15) : ∃ i, hit l b 0 i = true := by
  have hv : num b < low l (15 + 1) := by
    rw [low_all hl, hk]
    have := num_lt b
    rw [hb] at this
    exact this
  obtain ⟨n, h1, h2, h3, h4⟩ := low_find l _ 15 hv
  rw [low_succ l h1] at h4
  have hp : 0 < 2 ^ (15 - n) := Nat.pow_pos (by decide)
  obtain ⟨i, _, hi2, hi3⟩ := cnt_find l n l.length ((num b - low l n) / 2 ^ (15 - n)) ((Nat.div_lt_iff_lt_mul hp).2 (by omega))
  have hs := start_is l (i := i) (by omega) (hl i)
  rw [hi2, hi3] at hs
  have hdm := Nat.div_add_mod (num b - low l n) (2 ^ (15 - n))
  have hml := Nat.mod_lt (num b - low l n) hp
  rw [Nat.mul_comm] at hdm
  unfold start at hs
  rw [hi2] at hs
  refine ⟨i, hit_iff.2 ⟨by omega, by omega, ?_⟩⟩
  rw [List.drop_zero, hi2]
  have hc := num_cut b (m := n) (n := 15) h2 (by omega)
  rw [List.take_of_length_le (by omega)] at hc
  rw [← hc]
  refine Nat.div_eq_of_lt_le ?_ ?_
  · omega
  · rw [Nat.succ_mul]; omega
/-- else 15 bits 1 begin with none -/
theorem ones_none {l : List Nat} (hl : ∀ i, l.getD i 0 ≤ 15) (hk : kraftN l < 32768) (i : Nat) : hit l (List.replicate 15 true) 0 i = false := by
  cases hh : hit l (List.replicate 15 true) 0 i with
  | false => rfl
  | true =>
    obtain ⟨h1, h2, h3⟩ := hit_iff.1 hh
    rw [List.drop_zero, List.take_replicate, Nat.min_eq_left (hl i)] at h3
    have e : ∀ n, num (List.replicate n true) + 1 = 2 ^ n := fun n => by
      induction n with
      | zero => rfl
      | succ n ih => rw [List.replicate_succ', num_snoc, Nat.pow_succ, ← ih]; simp; omega
    have e1 := e (l.getD i 0)
    rw [h3] at e1
    have h4 := start_kraft hl h1
    unfold start at h4
    have h5 : (bitsOf l i + 1) * 2 ^ (15 - l.getD i 0) ≤ kraftN l := by rw [Nat.add_mul, Nat.one_mul]; exact h4
    rw [e1, pow_up (hl i)] at h5
    omega
end Go.Proofs.Ythehjhckcblbdaa.Cn
/-
  What only reads: the document's Power, its sameness of lists of bits, its Take, its Kraft.
-/
namespace Go.Proofs.Ythehjhckcblbdaa
set_option maxRecDepth 100000
open Go.RowKit Mb Go.Lib
theorem power_any (n : Nat) (hn : n ≤ 30) (w : World) : Calls Try.prog 50 #[.int .i64 n] w fun e w' => e = .returned (.int .i64 ((2 ^ n : Nat) : Int)) ∧ w' = w := by
  go_enter Try.func50, Try.ntmps50
  go_wp2
  go_loop [3, 4] (fun x i => ∃ k : Nat, k ≤ n ∧ i = .int .i64 k ∧ x = .int .i64 ((2 ^ k : Nat) : Int)) (fun _ i => n - (RowKit.intOf i).toNat)
  case atStart => exact ⟨0, Nat.zero_le _, rfl, rfl⟩
  case round =>
    obtain ⟨k, hk, rfl, rfl⟩ := hrel
    by_cases hlt : k < n
    · have HC : Hid (2 ^ k ≤ 2 ^ 30) := by show _ ≤ _; exact Nat.pow_le_pow_right (by decide) (by omega)
      have HS : Hid (2 ^ (k + 1) = 2 * 2 ^ k) := by show _ = _; rw [Nat.pow_succ]; omega
      generalize 2 ^ k = c at HC HS ⊢
      have hc : c ≤ 1073741824 := HC.out
      go_wp2
      go_round
      case rel => exact ⟨k + 1, by omega, by go_num, by rw [HS.out]; go_num⟩
      case measure => simp [RowKit.intOf]; omega
    · have e : k = n := by omega
      subst e
      go_wp2
      go_ret
      exact ⟨rfl, rfl⟩
set_option maxHeartbeats 1000000 in
/-- Take, where there are so many bits. -/
theorem take_doc (l : List Bool) (p : Option Addr) (c i n : Nat) (hn : n ≤ 30) (hi : i + n ≤ l.length) (hl : l.length ≤ 1000000) (w : World) (h : FlagsLie w p l c) :
    Calls Try.prog 53 #[.slice p l.length c, .int .i64 i, .int .i64 n] w fun e w' => e = .returned (.tuple #[.int .i64 (num ((l.drop i).take n) : Int), .int .i64 ((i : Int) + n), .bool true]) ∧ w' = w := by
  have HC := Lib.hid h
  have hc : (l.length : Int) ≤ c := by have := h.len; omega
  have z1 : (i : Int) + n ≤ l.length := by omega
  have z2 : (l.length : Int) ≤ 1000000 := by omega
  have z3 : (n : Int) ≤ 30 := by omega
  have HI := Lib.hid hi
  clear h hi
  go_enter Try.func53, Try.ntmps53
  go_wp2
  go_loop [9, 10] (fun x v => ∃ k : Nat, k ≤ n ∧ v = .int .i64 ((i : Int) + k) ∧ x = .int .i64 (num ((l.drop i).take k) : Int)) (fun _ v => n + i - (RowKit.intOf v).toNat)
  case atStart => exact ⟨0, Nat.zero_le _, by simp, rfl⟩
  case round =>
    obtain ⟨k, hk, rfl, rfl⟩ := hrel
    by_cases hlt : k < n
    · obtain ⟨blk, off, rfl, hcell⟩ := HC.out.at (i := i + k) (by have := HI.out; omega)
      have c := hcell (i + k) (by have := HI.out; omega)
      have HB : Hid (num ((l.drop i).take k) < 1073741824) := by
        show _ < _
        have h := num_lt ((l.drop i).take k)
        have h2 : 2 ^ ((l.drop i).take k).length ≤ 2 ^ 30 := Nat.pow_le_pow_right (by decide) (by rw [List.length_take]; omega)
        omega
      have HS : Hid (num ((l.drop i).take (k + 1)) = 2 * num ((l.drop i).take k) + (l.getD (i + k) false).toNat) := by
        show _ = _
        rw [take_getD _ k (by rw [List.length_drop]; have := HI.out; omega), num_snoc, List.getD_eq_getElem?_getD, List.getD_eq_getElem?_getD, List.getElem?_drop]
      generalize num ((l.drop i).take k) = x at HB HS ⊢
      have hb := HB.out
      have zk : (k : Int) < n := by omega
      clear hcell
      obtain ⟨j, hj⟩ : ∃ j, j = i + k := ⟨_, rfl⟩
      have ej : (i : Int) + k = (j : Int) := by omega
      have hjl : (j : Int) < l.length := by omega
      have hjn : (j : Int) < (i : Int) + n := by omega
      rw [← hj] at c HS
      have Hj := Lib.hid hj
      rw [ej]
      clear ej
      cases hx : l.getD j false
      all_goals
        rw [hx] at c HS
        clear hj
        go_wp2
        go_round
        case rel => exact ⟨k + 1, by omega, by have := Hj.out; go_num, by rw [HS.out]; go_num⟩
        case measure => have := Hj.out; simp [RowKit.intOf]; omega
    · have e : k = n := by omega
      subst e
      go_wp2
      go_ret3
      exact ⟨rfl, rfl⟩
/-- Take, where there are not. -/
theorem take_not (l : List Bool) (p : Option Addr) (c n : Nat) (x : Int) (hn : n ≤ 30) (hx : x < 0 ∨ (l.length : Int) < x + n) (hl : l.length ≤ 1000000) (w : World) :
    Calls Try.prog 53 #[.slice p l.length c, .int .i64 x, .int .i64 n] w fun e w' => e = .returned (.tuple #[.int .i64 0, .int .i64 0, .bool false]) ∧ w' = w := by
  have z2 : (l.length : Int) ≤ 1000000 := by omega
  have z3 : (n : Int) ≤ 30 := by omega
  by_cases h1 : x < 0
  · clear hx
    go_enter Try.func53, Try.ntmps53
    go_wp2
    go_ret3
    exact ⟨rfl, rfl⟩
  · have h3 : 0 ≤ x := by omega
    by_cases h2 : (l.length : Int) < x
    · clear hx h1
      go_enter Try.func53, Try.ntmps53
      go_wp2
      go_ret3
      exact ⟨rfl, rfl⟩
    · have h4 : x ≤ l.length := by omega
      have h5 : (l.length : Int) < x + n := by omega
      clear hx h1 h2
      go_enter Try.func53, Try.ntmps53
      go_wp2
      go_ret3
      exact ⟨rfl, rfl⟩
end Go.Proofs.Ythehjhckcblbdaa
/-
  The document's Put onto nothing; rows of bits that the call has made.
-/
namespace Go.Proofs.Ythehjhckcblbdaa
set_option maxRecDepth 100000
open Go.RowKit Mb Go.Lib
theorem infoBool : (Try.prog.info? 4).map (fun i => (i.zero, i.size, i.bytes)) = some (some (.bool false), 1, 1) := by kernel_rfl
def flv (l : List Bool) : List Value := l.map Value.bool
theorem flv_one (l : List Bool) : ∀ u ∈ flv l, u.oneCell' = true := fun u hu => by
  obtain ⟨j, _, rfl⟩ := List.mem_map.1 hu
  rfl
theorem flv_length (l : List Bool) : (flv l).length = l.length := by simp [flv]
theorem own_keep {w w' : World} {B n size : Nat} {e : TypeId} {v : Value} {xs : List Value} (h : w.ownsRow B e size v n xs) (hb : Below w.heap.size w w') : w'.ownsRow B e size v n xs := by
  refine ⟨h.1, ?_⟩
  rcases h.2 with h1 | ⟨g', cap', cur, h1, h2, h3, h4⟩
  · exact Or.inl h1
  · refine Or.inr ⟨g', cap', cur, h1, h2, ?_, h4⟩
    have : g' < w.heap.size := by
      rcases Nat.lt_or_ge g' w.heap.size with z | z
      · exact z
      · rw [Array.getElem?_eq_none z] at h3; cases h3
    rw [hb.block g' this]; exact h3
/-- a row of bits of the call's own; all that was there is as it was -/
structure FRow (base : Nat) (w0 w : World) (g cap : Nat) (l : List Bool) : Prop where
  own : w.ownsRow base 4 1 (.slice (some ⟨g, 0, Option.none⟩) l.length cap) l.length (flv l)
  below : Below base w0 w
  room : base ≤ w0.heap.size
theorem FRow.size {base : Nat} {w0 w : World} {g cap : Nat} {l : List Bool} (h : FRow base w0 w g cap l) : base ≤ w.heap.size := Nat.le_trans h.room h.below.size
theorem FRow.lies {base : Nat} {w0 w : World} {g cap : Nat} {l : List Bool} (h : FRow base w0 w g cap l) : FlagsLie w (some ⟨g, 0, none⟩) l cap := by
  rcases h.own.2 with ⟨h1, _⟩ | ⟨g', cap', cur, h1, _, _, h2, h3, _⟩
  · cases h1
  · cases h1
    refine ⟨h2, h3, .inr ⟨g, 0, rfl, fun i hi => ?_⟩⟩
    have := h.own.cells (g := g) rfl i (.bool (l.getD i false)) (by unfold flv; rw [List.getElem?_map, List.getElem?_eq_getElem hi]; simp [hi])
    rwa [Addr.add_lit] at this
theorem FRow.lt {base : Nat} {w0 w : World} {g cap : Nat} {l : List Bool} (h : FRow base w0 w g cap l) : base ≤ g ∧ g < w.heap.size := h.own.lt g rfl
/-- elements more in the row -/
theorem FRow.more {base : Nat} {w0 wr w2 w3 : World} {g cap : Nat} {l : List Bool} {m : List Bool} {v : Value} (h : FRow base w0 wr g cap l) (hb : Below wr.heap.size wr w2)
    (own1 : w3.ownsRow base 4 1 v (l.length + m.length) (flv l ++ flv m)) (gr : w2.grownBy w3 (Value.slice (some ⟨g, 0, Option.none⟩) l.length cap).ownBlock)
    (nn : ¬ v = .slice Option.none 0 0) : ∃ g1 c1, v = .slice (some ⟨g1, 0, Option.none⟩) (l.length + m.length) c1 ∧ FRow base w0 w3 g1 c1 (l ++ m) := by
  obtain ⟨g1, c1, rfl⟩ := own_some own1 nn
  refine ⟨g1, c1, rfl, by simpa [flv] using own1, ?_, h.room⟩
  have hb2 : Below base w0 w2 := h.below.trans (hb.mono h.size)
  exact hb2.grown gr (Nat.le_trans h.room hb2.size) (fun b hb => (h.own.lt b hb).1)
theorem one_flag (wr : World) (x : Bool) : ∀ j u, (flv [x])[j]? = some u → (wr.alloc (.cells #[.bool x] 4)).cell? ((⟨wr.heap.size, 0, Option.none⟩ : Addr).add j) = some u := fun j u hj => by
  match j, hj with
  | 0, hj => simp [flv] at hj; subst hj; simp [Addr.add]
  | j + 1, hj => simp [flv] at hj
theorem FRow.made (w : World) : FRow w.heap.size w (w.alloc (.cells #[] 4)) w.heap.size 0 [] :=
  ⟨World.ownsRow_made w _ 0 (Nat.le_refl _) (by decide) rfl, (Below.refl _ _).alloc (Nat.le_refl _) _, Nat.le_refl _⟩
theorem digit_is (x k : Nat) : (((x : Int) / ((2 ^ k : Nat) : Int)) % 2 == 1) = x.testBit k := by
  rw [Nat.testBit_eq_decide_div_mod_eq]
  have e : ((x : Int) / ((2 ^ k : Nat) : Int)) % 2 = ((x / 2 ^ k % 2 : Nat) : Int) := by simp
  rw [e, Bool.eq_iff_iff, beq_iff_eq, decide_eq_true_eq]
  omega
set_option maxHeartbeats 2000000 in
theorem put_doc (x n : Nat) (hn : n ≤ 30) (hx : x < 2 ^ n) (w : World) :
    Calls Try.prog 70 #[.slice Option.none 0 0, .int .i64 x, .int .i64 n] w fun e w' => ∃ g c, e = .returned (.tuple #[.slice (some ⟨g, 0, Option.none⟩) (dig x n).length c, .bool true]) ∧ FRow w.heap.size w w' g c (dig x n) := by
  have hx30 : x < 2 ^ 30 := Nat.lt_of_lt_of_le hx (Nat.pow_le_pow_right (by decide) hn)
  have zx : (x : Int) ≤ 1073741823 := by omega
  have zn : (n : Int) ≤ 30 := by omega
  have hp := power_any n hn w
  obtain ⟨y, hy⟩ : ∃ y, y = 2 ^ n := ⟨_, rfl⟩
  rw [← hy] at hp
  have hxy : (x : Int) < (y : Int) := by omega
  have HP := Lib.hid (fun (k : Nat) (hk : k ≤ 30) (w : World) => power_any k hk w)
  have HR := Lib.hid (FRow.made w)
  obtain ⟨B, hB⟩ : ∃ B, B = w.heap.size := ⟨_, rfl⟩
  have HB := Lib.hid hB
  have HR : Hid (FRow B w (w.alloc (.cells #[] 4)) w.heap.size 0 []) := by rw [hB]; exact HR
  obtain ⟨i0, hi0, hz0, hz1, hz2⟩ := info_parts infoBool
  have o1 := HR.out.own
  have o3 := HR.out.size
  clear hB hx hy hx30
  go_enter Try.func70, Try.ntmps70
  go_wp2_with fail
  go_at_call 50
  refine hp.mono ?_
  rintro e w2 ⟨rfl, rfl⟩
  clear hp
  go_wp2_with (first | (at_builtin; refine wpList_append_own_none rfl _ _ 33 rfl B 4 i0 1 Try.underlying33 hi0 _ 0 [] rfl o1 rfl ?_) | go_in)
  clear o1 o3
  go_wp2
  go_loopw [8, 9] (fun v i wr => ∃ (j k g1 c1 : Nat), j + k = n ∧ v = .slice (some ⟨g1, 0, Option.none⟩) j c1 ∧ i = .int .i64 ((k : Int) - 1) ∧ Hid (FRow B w2 wr g1 c1 ((dig x n).take j))) (fun _ i _ => (RowKit.intOf i + 1).toNat)
  case atStart => exact ⟨0, n, _, 0, by omega, rfl, by go_num, HR⟩
  case round =>
    clear HR
    obtain ⟨j, k, g1, c1, hjk, rfl, rfl, HS⟩ := hrel
    rcases Nat.eq_zero_or_pos k with hk | hk
    · subst hk
      have e : (dig x n).take j = dig x n := List.take_of_length_le (by rw [dig_length]; omega)
      rw [e] at HS
      have ej : j = n := by omega
      subst ej
      go_wp2
      go_ret2
      exact ⟨g1, c1, by simp [dig_length], HB.out ▸ HS.out⟩
    · obtain ⟨k, rfl⟩ : ∃ q, k = q + 1 := ⟨k - 1, by omega⟩
      have ek : ((k + 1 : Nat) : Int) - 1 = k := by omega
      simp only [ek]
      have hb := digit_is x k
      have hpk := HP.out k (by omega) wr
      have HM : Hid ((dig x n).take (j + 1) = (dig x n).take j ++ [x.testBit k]) := by
        show _ = _
        rw [dig_take x n j (by omega), show n - 1 - j = k by omega]
      generalize x.testBit k = b at hb HM
      have hpos : (1 : Int) ≤ ((2 ^ k : Nat) : Int) := by have : 0 < 2 ^ k := Nat.pow_pos (by decide); omega
      generalize (2 ^ k : Nat) = z at hb hpk hpos
      have hlt : ((dig x n).take j).length = j := by rw [List.length_take, dig_length]; omega
      have o1 := fun O => (HS.out.own).alloc (w := wr) O
      rw [hlt] at o1
      have o2 := one_flag wr b
      have o3 : B ≤ (wr.alloc (.cells #[.bool b] 4)).heap.size := by have := HS.out.size; simp; omega
      have hq : 0 ≤ (x : Int) / (z : Int) := Int.ediv_nonneg (by omega) (by omega)
      have hq2 : (x : Int) / (z : Int) ≤ 1073741823 := by
        refine Int.le_trans (Int.ediv_le_self _ (by omega)) zx
      clear ek
      go_wp2_with fail
      go_at_call 50
      refine hpk.mono ?_
      rintro e w3 ⟨rfl, rfl⟩
      clear hpk
      go_wp2_with (first
        | (at_builtin; refine wpList_append_own _ rfl _ _ 33 rfl B 4 i0 (.bool false) 1 1 Try.underlying33 hi0 hz0 hz1 hz2 rfl (by decide) _ j (flv ((dig x n).take j)) rfl (o1 _) ⟨w3.heap.size, 0, Option.none⟩ 1 1 (flv [b]) rfl rfl o2 (flv_one _) (by unfold maxLen; omega) (by omega) o3 ?_)
        | go_in)
      intro v1 w4 own1 gr1 nn1
      rw [show j + 1 = ((dig x n).take j).length + [b].length by rw [hlt]; rfl] at own1
      obtain ⟨g2, c2, rfl, HN⟩ := HS.out.more ((Below.refl w3.heap.size w3).alloc (Nat.le_refl _) (.cells #[.bool b] 4)) own1 (by rw [hlt]; exact gr1) nn1
      replace HN := Lib.hid HN
      rw [← HM.out] at HN
      rw [show ((dig x n).take j).length + [b].length = j + 1 by rw [hlt]; rfl]
      clear own1 gr1 nn1 o1 o2 o3 HS hlt
      go_wp2
      go_roundw
      case rel => exact ⟨j + 1, k, g2, c2, by omega, rfl, by go_num, HN⟩
      case measure => simp [RowKit.intOf]
end Go.Proofs.Ythehjhckcblbdaa
/-
  The document's Kraft; lists of codes that lie in memory, and their maths.
-/
namespace Go.Proofs.Ythehjhckcblbdaa
set_option maxRecDepth 100000
open Go.RowKit Go.Lib Cn
theorem sum_range {g : Nat → Nat} (i : Nat) : Hf.sm g (List.range (i + 1)) = Hf.sm g (List.range i) + g i := by
  rw [List.range_succ, Hf.sm_append]; simp [Hf.sm]
theorem sum_up {g : Nat → Nat} {i n : Nat} (h : i ≤ n) : Hf.sm g (List.range i) ≤ Hf.sm g (List.range n) := by
  induction h with
  | refl => exact Nat.le_refl _
  | step _ ih => rw [sum_range]; omega
/-- what a length counts -/
def takes (x : Nat) : Nat := if 1 ≤ x then 2 ^ (15 - x) else 0
set_option maxHeartbeats 1000000 in
theorem kraft_doc (l : List Nat) (p : Option Addr) (c : Nat) (w : World) (hn : l.length ≤ 300) (hl15 : ∀ i, l.getD i 0 ≤ 15) (Il : IntsLie w p (nums l) c) :
    Calls Try.prog 91 #[.slice p l.length c] w fun e w' => e = .returned (.int .i64 (Hf.kraftN l : Nat)) ∧ w' = w := by
  have HL := Lib.hid Il
  have HS := Lib.hid (show ∀ i, i ≤ l.length → Hf.sm (fun i => takes (l.getD i 0)) (List.range i) ≤ 4915200 from fun i hi => Nat.le_trans (sum_up hi) (Hf.kraft_le hn))
  have Hl0 := Lib.hid hl15
  have hc1 : (l.length : Int) ≤ c := by have := Il.len; rw [nums_len] at this; omega
  have zn : (l.length : Int) ≤ 300 := by omega
  have HP := Lib.hid (fun (k : Nat) (hk : k ≤ 30) => power_any k hk w)
  clear Il hl15 hn
  go_enter Try.func91, Try.ntmps91
  go_wp2
  go_loop [3, 4] (fun s v => ∃ i k : Nat, i ≤ l.length ∧ v = .int .i64 i ∧ s = .int .i64 k ∧ Hid (k = Hf.sm (fun i => takes (l.getD i 0)) (List.range i))) (fun _ v => l.length - (RowKit.intOf v).toNat)
  case atStart => exact ⟨0, 0, Nat.zero_le _, rfl, rfl, by show _ = _; rfl⟩
  case round =>
    obtain ⟨i, k, hi, rfl, rfl, HK⟩ := hrel
    by_cases hlt : i < l.length
    · have hle := HS.out (i + 1) hlt
      rw [sum_range, ← HK.out] at hle
      have hx := Hl0.out i
      have HK2 : Hid (k + takes (l.getD i 0) = Hf.sm (fun i => takes (l.getD i 0)) (List.range (i + 1))) := by show _ = _; rw [sum_range, ← HK.out]
      obtain ⟨b1, o1, rfl, h1⟩ := HL.out.at (i := i) (by rw [nums_len]; exact hlt)
      have c1 := h1 i (by rw [nums_len]; exact hlt)
      rw [nums_get] at c1
      generalize l.getD i 0 = x at *
      have ii : (i : Int) < l.length := by omega
      clear h1
      by_cases h0 : x = 0
      · subst h0
        have HK3 : Hid (k = Hf.sm (fun i => takes (l.getD i 0)) (List.range (i + 1))) := by show _ = _; rw [← HK2.out]; rfl
        clear hle hx HK2
        go_wp2
        go_round
        case rel => exact ⟨i + 1, k, by omega, by go_num, rfl, HK3⟩
        case measure => simp [RowKit.intOf]; omega
      · have hp := HP.out (15 - x) (by omega)
        have et : takes x = 2 ^ (15 - x) := by unfold takes; rw [if_pos (by omega)]
        rw [et] at hle HK2
        generalize (2 : Nat) ^ (15 - x) = z at *
        obtain ⟨y, hy⟩ : ∃ y, y = 15 - x := ⟨_, rfl⟩
        rw [← hy] at hp
        have e15 : 15 - (x : Int) = (y : Int) := by omega
        have z1 : (1 : Int) ≤ x := by omega
        have z15 : (x : Int) ≤ 15 := by omega
        have zk : (k : Int) + z ≤ 4915200 := by omega
        clear hy hle hx h0 et
        go_wp2_with fail
        go_at_call 50
        refine hp.mono ?_
        rintro e w' ⟨rfl, rfl⟩
        clear hp
        go_wp2
        go_round
        case rel => exact ⟨i + 1, k + z, by omega, by go_num, by go_num, HK2⟩
        case measure => simp [RowKit.intOf]; omega
    · have e : i = l.length := by omega
      subst e
      go_wp2
      go_ret
      exact ⟨ret_int (by rw [HK.out]; rfl), rfl⟩
/-- lengths that may be -/
structure MayC (l : List Nat) : Prop where
  len : l.length ≤ 300
  le : ∀ i, l.getD i 0 ≤ 15
  kraft : Hf.kraftN l ≤ 32768
/-- a symbol's code: how many bits, and which -/
def codeOf (l : List Nat) (i : Nat) : Nat × Nat := if 1 ≤ l.getD i 0 then (l.getD i 0, bitsOf l i) else (0, 0)
def codesOf (l : List Nat) : List (Nat × Nat) := (List.range l.length).map (codeOf l)
theorem codesOf_length (l : List Nat) : (codesOf l).length = l.length := by simp [codesOf]
theorem codesOf_get (l : List Nat) {i : Nat} (h : i < l.length) : (codesOf l).getD i (0, 0) = codeOf l i := by
  unfold codesOf
  rw [List.getD_eq_getElem?_getD, List.getElem?_map, List.getElem?_range h]; rfl
/-- codes that lie from a place on -/
def CodesAt (w : World) (blk off : Nat) (E : List (Nat × Nat)) : Prop := ∀ i, i < E.length → w.cell? ⟨blk, off + i * 2, none⟩ = some (.int .i64 ((E.getD i (0, 0)).1 : Nat)) ∧ w.cell? ⟨blk, off + i * 2 + 1, none⟩ = some (.int .i64 ((E.getD i (0, 0)).2 : Nat))
theorem CodesAt.below {w w' : World} {blk off : Nat} {E : List (Nat × Nat)} (h : CodesAt w blk off E) (hb : Below w.heap.size w w') : CodesAt w' blk off E := fun i hi => by
  obtain ⟨h1, h2⟩ := h i hi
  exact ⟨by rw [hb.cell (p := ⟨blk, off + i * 2, none⟩) (World.block_lt_of_cell? w _ h1)]; exact h1, by rw [hb.cell (p := ⟨blk, off + i * 2 + 1, none⟩) (World.block_lt_of_cell? w _ h2)]; exact h2⟩
structure CodesLie (w : World) (p : Option Addr) (E : List (Nat × Nat)) (cap : Nat) : Prop where
  len : E.length ≤ cap
  cap : cap ≤ maxLen
  lies : E = [] ∨ ∃ blk off, p = some ⟨blk, off, none⟩ ∧ CodesAt w blk off E
theorem CodesLie.below {w w' : World} {p : Option Addr} {E : List (Nat × Nat)} {cap : Nat} (h : CodesLie w p E cap) (hb : Below w.heap.size w w') : CodesLie w' p E cap :=
  ⟨h.len, h.cap, h.lies.imp id fun ⟨blk, off, e, k⟩ => ⟨blk, off, e, k.below hb⟩⟩
theorem CodesLie.at {w : World} {p : Option Addr} {E : List (Nat × Nat)} {cap : Nat} (h : CodesLie w p E cap) {i : Nat} (hi : i < E.length) : ∃ blk off, p = some ⟨blk, off, none⟩ ∧ CodesAt w blk off E := by
  rcases h.lies with rfl | h
  · simp at hi
  · exact h
/-! ### rows of codes that the call has made -/
def cv (E : List (Nat × Nat)) : List Value := E.flatMap fun e => [Value.int .i64 (e.1 : Nat), .int .i64 (e.2 : Nat)]
theorem cv_length : ∀ E : List (Nat × Nat), (cv E).length = E.length * 2
  | [] => rfl
  | e :: E => by
    have := cv_length E
    unfold cv at *
    rw [List.flatMap_cons, List.length_append, this]; simp; omega
theorem cv_append (E F : List (Nat × Nat)) : cv (E ++ F) = cv E ++ cv F := by unfold cv; rw [List.flatMap_append]
theorem cv_at : ∀ (E : List (Nat × Nat)) (i : Nat), i < E.length → (cv E)[i * 2]? = some (.int .i64 ((E.getD i (0, 0)).1 : Nat)) ∧ (cv E)[i * 2 + 1]? = some (.int .i64 ((E.getD i (0, 0)).2 : Nat))
  | e :: E, 0, _ => ⟨rfl, rfl⟩
  | e :: E, i + 1, h => by
    have := cv_at E i (by simpa using h)
    show (_ :: _ :: cv E)[(i + 1) * 2]? = _ ∧ (_ :: _ :: cv E)[(i + 1) * 2 + 1]? = _
    rw [show (i + 1) * 2 = i * 2 + 1 + 1 by omega, show i * 2 + 1 + 1 + 1 = (i * 2 + 1) + 1 + 1 by omega, List.getElem?_cons_succ, List.getElem?_cons_succ, List.getElem?_cons_succ, List.getElem?_cons_succ]
    exact this
theorem cv_set : ∀ (E : List (Nat × Nat)) (i : Nat) (e : Nat × Nat), cv (E.set i e) = ((cv E).set (i * 2) (.int .i64 (e.1 : Nat))).set (i * 2 + 1) (.int .i64 (e.2 : Nat))
  | [], _, _ => rfl
  | x :: E, 0, e => rfl
  | x :: E, i + 1, e => by
    have := cv_set E i e
    show _ :: _ :: cv (E.set i e) = List.set (List.set (_ :: _ :: cv E) ((i + 1) * 2) _) ((i + 1) * 2 + 1) _
    rw [this, show (i + 1) * 2 = i * 2 + 1 + 1 by omega, show i * 2 + 1 + 1 + 1 = (i * 2 + 1) + 1 + 1 by omega, List.set_cons_succ, List.set_cons_succ, List.set_cons_succ, List.set_cons_succ]
theorem cv_one (E : List (Nat × Nat)) : ∀ u ∈ cv E, u.oneCell' = true := fun u hu => by
  unfold cv at hu
  obtain ⟨e, _, h⟩ := List.mem_flatMap.1 hu
  simp at h
  rcases h with rfl | rfl <;> rfl
theorem codes_own {w : World} {B n d : Nat} {q : Option Addr} {E : List (Nat × Nat)} (h : w.ownsRow B 58 2 (.slice q n d) n (cv E)) (hn : E.length = n) : CodesLie w q E d := by
  rcases h.2 with ⟨h1, h2⟩ | ⟨g', cap', cur, h1, h2, h3, h4, h5, h6⟩
  · cases h1
    exact ⟨by omega, Nat.zero_le _, Or.inl (List.length_eq_zero_iff.1 (by omega))⟩
  · cases h1
    refine ⟨by omega, h5, Or.inr ⟨g', 0, rfl, fun i hi => ?_⟩⟩
    obtain ⟨c1, c2⟩ := cv_at E i hi
    refine ⟨by rw [Nat.zero_add, h.cellAt (i * 2) (by omega)]; exact c1, by rw [Nat.zero_add, h.cellAt (i * 2 + 1) (by omega)]; exact c2⟩
/-! ### filling a list of codes, length by length -/
def filled (l : List Nat) (n i : Nat) : List (Nat × Nat) := (List.range l.length).map fun j => if 1 ≤ l.getD j 0 ∧ (l.getD j 0 < n ∨ l.getD j 0 = n ∧ j < i) then (l.getD j 0, bitsOf l j) else (0, 0)
theorem filled_length (l : List Nat) (n i : Nat) : (filled l n i).length = l.length := by simp [filled]
theorem filled_start (l : List Nat) : filled l 1 0 = List.replicate l.length (0, 0) := by
  unfold filled
  refine List.ext_getElem (by simp) fun j h1 h2 => ?_
  rw [List.getElem_map, List.getElem_range, List.getElem_replicate, if_neg (by omega)]
theorem filled_next (l : List Nat) (n : Nat) : filled l n l.length = filled l (n + 1) 0 := by
  unfold filled
  refine List.map_congr_left fun j hj => ?_
  have hj : j < l.length := List.mem_range.1 hj
  by_cases h : 1 ≤ l.getD j 0 ∧ (l.getD j 0 < n ∨ l.getD j 0 = n ∧ j < l.length)
  · rw [if_pos h, if_pos (by omega)]
  · rw [if_neg h, if_neg (by omega)]
theorem filled_end {l : List Nat} (h : ∀ i, l.getD i 0 ≤ 15) : filled l 16 0 = codesOf l := by
  unfold filled codesOf
  refine List.map_congr_left fun j _ => ?_
  have := h j
  unfold codeOf
  by_cases h1 : 1 ≤ l.getD j 0
  · rw [if_pos (by omega), if_pos h1]
  · rw [if_neg (by omega), if_neg h1]
theorem filled_get (l : List Nat) (n i j : Nat) (h : j < (filled l n i).length) : (filled l n i)[j] = if 1 ≤ l.getD j 0 ∧ (l.getD j 0 < n ∨ l.getD j 0 = n ∧ j < i) then (l.getD j 0, bitsOf l j) else (0, 0) := by
  have h' : j < l.length := by rw [filled_length] at h; exact h
  show (List.map _ (List.range l.length))[j]'(by simpa using h') = _
  rw [List.getElem_map, List.getElem_range]
theorem filled_set (l : List Nat) {n i : Nat} (h1 : 1 ≤ n) (_hi : i < l.length) (h : l.getD i 0 = n) : filled l n (i + 1) = (filled l n i).set i (n, base l n + cnt l n i) := by
  refine List.ext_getElem (by rw [List.length_set, filled_length, filled_length]) fun j h2 h3 => ?_
  rw [List.getElem_set, filled_get, filled_get]
  by_cases e : i = j
  · subst e
    rw [if_pos rfl, if_pos (by omega)]
    unfold bitsOf
    rw [h]
  · rw [if_neg e]
    by_cases h4 : 1 ≤ l.getD j 0 ∧ (l.getD j 0 < n ∨ l.getD j 0 = n ∧ j < i)
    · rw [if_pos h4, if_pos (by omega)]
    · rw [if_neg h4, if_neg (by omega)]
theorem filled_not (l : List Nat) {n i : Nat} (h : l.getD i 0 ≠ n) : filled l n (i + 1) = filled l n i := by
  unfold filled
  refine List.map_congr_left fun j _ => ?_
  by_cases h4 : 1 ≤ l.getD j 0 ∧ (l.getD j 0 < n ∨ l.getD j 0 = n ∧ j < i)
  · rw [if_pos h4, if_pos (by omega)]
  · rw [if_neg h4, if_neg (fun k => h4 ⟨k.1, k.2.imp id fun ⟨a, b⟩ => ⟨a, by
      by_cases e : j = i
      · subst e; exact absurd a h
      · omega⟩⟩)]
/-- behind all codes of n bits -/
def topC (l : List Nat) (n : Nat) : Nat := base l n + (if n = 0 then 0 else cnt l n l.length)
theorem base_top (l : List Nat) (n : Nat) : base l (n + 1) = 2 * topC l n := rfl
theorem cnt_le (l : List Nat) (n : Nat) : ∀ i, cnt l n i ≤ i
  | 0 => Nat.le_refl _
  | i + 1 => by
    have := cnt_le l n i
    show cnt l n i + (if _ then 1 else 0) ≤ _
    split <;> omega
theorem base_le {l : List Nat} (h : MayC l) {n : Nat} (hn : n ≤ 15) : base l n ≤ 32768 := by
  cases n with
  | zero => exact Nat.zero_le _
  | succ n =>
    have h1 := base_low l (n + 1) (by omega) hn
    have h2 := low_mono l (show n + 1 ≤ 16 by omega)
    rw [low_all h.le] at h2
    have h3 := h.kraft
    have h4 : base l (n + 1) * 1 ≤ base l (n + 1) * 2 ^ (15 - (n + 1)) := Nat.mul_le_mul_left _ (Nat.pow_pos (by decide))
    omega
theorem topC_le {l : List Nat} (h : MayC l) {n : Nat} (hn : n ≤ 15) : topC l n ≤ 33068 := by
  have h1 := base_le h hn
  have h2 := cnt_le l n l.length
  have h3 := h.len
  unfold topC
  split <;> omega
end Go.Proofs.Ythehjhckcblbdaa
/-
  The document's Codes.
-/
namespace Go.Proofs.Ythehjhckcblbdaa
open Go.RowKit Go.Lib Cn
set_option maxRecDepth 100000
theorem infoCode : (Try.prog.info? 58).map (fun i => (i.zero, i.size, i.bytes)) = some (some (.agg #[.int .i64 0, .int .i64 0]), 2, 16) := by kernel_rfl
theorem one_code (wr : World) (a b : Int) : ∀ j u, [Value.int .i64 a, .int .i64 b][j]? = some u → (wr.alloc (.cells #[.int .i64 a, .int .i64 b] 58)).cell? ((⟨wr.heap.size, 0, Option.none⟩ : Addr).add j) = some u := fun j u hj => by
  have e1 := heap_alloc_new wr (Obj.cells #[.int .i64 a, .int .i64 b] 58)
  rw [Addr.add_lit, Nat.zero_add, cell_of_row _ _ j _ 58 (0, 0) e1]
  simpa using hj
def lenI (x : Int) : Bool := decide (0 ≤ x) && decide (x ≤ 15)
theorem nums_len15 (L : List Int) (h : ∀ i (hi : i < L.length), 0 ≤ L[i] ∧ L[i] ≤ 15) : ∃ l : List Nat, L = nums l ∧ ∀ i, l.getD i 0 ≤ 15 := by
  refine ⟨L.map Int.toNat, ?_, fun i => ?_⟩
  · refine List.ext_getElem (by simp [nums]) fun i h1 h2 => ?_
    have := h i h1
    simp [nums]; omega
  · rw [List.getD_eq_getElem?_getD, List.getElem?_map]
    by_cases hi : i < L.length
    · have := h i hi
      rw [List.getElem?_eq_getElem hi]
      simp; omega
    · rw [List.getElem?_eq_none (by omega)]; exact Nat.zero_le _
theorem nums_inj {l m : List Nat} (h : nums l = nums m) : l = m := by
  unfold nums at h
  exact List.map_inj_right (fun a b e => by omega) |>.1 h
/-- a length that is none -/
theorem not_may {L : List Int} {i : Nat} (hi : i < L.length) (h : L[i] < 0 ∨ 15 < L[i]) : ∀ l, MayC l → L ≠ nums l := fun l hl e => by
  subst e
  rw [nums_get] at h
  have := hl.le i
  generalize l.getD i 0 = x at *
  omega
theorem own_form {w : World} {B n size : Nat} {e : TypeId} {v : Value} {xs : List Value} (h : w.ownsRow B e size v n xs) : ∃ q c, v = .slice q n c := by
  rcases h.2 with ⟨rfl, h1⟩ | ⟨g', cap', cur, h1, _⟩
  · exact ⟨none, 0, by rw [h1]⟩
  · exact ⟨_, _, h1⟩
set_option maxHeartbeats 4000000 in
theorem codes_doc (L : List Int) (n : Nat) (hn : L.length = n) (p : Option Addr) (c : Nat) (w : World) (h : IntsLie w p L c) (hl : n ≤ 281474976710656) :
    Calls Try.prog 71 #[.slice p n c] w fun e w' => Below w.heap.size w w' ∧
      ((∃ l, MayC l ∧ L = nums l ∧ ∃ q d, e = .returned (.tuple #[.slice q n d, .bool true]) ∧ CodesLie w' q (codesOf l) d) ∨
        ((∀ l, MayC l → L ≠ nums l) ∧ ∃ q d, d ≤ maxLen ∧ e = .returned (.tuple #[.slice q 0 d, .bool false]))) := by
  have HI := Lib.hid h
  have zl : (n : Int) ≤ 281474976710656 := by omega
  by_cases h3 : 300 < n
  · have HN := Lib.hid (show ∀ l, MayC l → L ≠ nums l from fun l hm e => by have := hm.len; rw [e, nums_len] at hn; omega)
    have z3 : (300 : Int) < n := by omega
    clear h h3 hl hn
    go_enter Try.func71, Try.ntmps71
    go_wp2
    go_ret2
    exact ⟨Below.refl _ _, .inr ⟨HN.out, _, 0, Nat.zero_le _, rfl⟩⟩
  have z3 : (n : Int) ≤ 300 := by omega
  have H3 := Lib.hid (show n ≤ 300 by omega)
  have Hn := Lib.hid hn
  obtain ⟨i0, hi0, hz0, hz1, hz2⟩ := info_parts infoCode
  have HR0 : Hid ((w.alloc (.cells #[] 58)).ownsRow w.heap.size 58 2 (.slice (some ⟨w.heap.size, 0, none⟩) 0 0) 0 (cv (List.replicate 0 (0, 0)))) :=
    World.ownsRow_made (base := w.heap.size) (e := 58) (size := 2) w #[] 0 (Nat.le_refl _) (by decide) rfl
  have HB0 := Lib.hid ((Below.refl w.heap.size w).alloc (Nat.le_refl _) (.cells #[] 58))
  have hcap : (n : Int) ≤ c := by have := h.len; omega
  clear h h3 hl hn
  go_enter Try.func71, Try.ntmps71
  go_wp2
  go_loopw [4, 5] (fun v i wr => ∃ k : Nat, i = .int .i64 k ∧ k ≤ n ∧ Hid (∀ j (hj : j < L.length), j < k → 0 ≤ L[j] ∧ L[j] ≤ 15) ∧ Hid (wr.ownsRow w.heap.size 58 2 v k (cv (List.replicate k (0, 0)))) ∧ Hid (Below w.heap.size w wr)) (fun _ i _ => n - (RowKit.intOf i).toNat)
  case atStart => exact ⟨0, rfl, Nat.zero_le _, fun j _ hj => by omega, HR0, HB0⟩
  case round =>
    clear HR0 HB0
    obtain ⟨k, rfl, hk, HA, HR, HB⟩ := hrel
    by_cases hlt0 : k < n
    · have hlt : k < L.length := by have := Hn.out; omega
      obtain ⟨blk, off, rfl, hc⟩ := (HI.out.below HB.out).at hlt
      have cx := hc k hlt
      have HNot := Lib.hid (not_may hlt)
      have HA2 := Lib.hid (show 0 ≤ L[k] ∧ L[k] ≤ 15 → ∀ j (hj : j < L.length), j < k + 1 → 0 ≤ L[j] ∧ L[j] ≤ 15 from fun hx j hj hj2 => by
        by_cases e : j = k
        · subst e; exact hx
        · exact HA.out j hj (by omega))
      generalize L[k] = x at cx HNot HA2
      have ii : (k : Int) < n := by omega
      clear hc
      by_cases h0 : x < 0
      · have HN := Lib.hid (HNot.out (Or.inl h0))
        clear HNot HA2 HR
        go_wp2
        go_ret2
        exact ⟨HB.out, .inr ⟨HN.out, _, 0, Nat.zero_le _, rfl⟩⟩
      · have h0' : 0 ≤ x := by omega
        by_cases h1 : 15 < x
        · have HN := Lib.hid (HNot.out (Or.inr h1))
          clear HNot HA2 HR h0
          go_wp2
          go_ret2
          exact ⟨HB.out, .inr ⟨HN.out, _, 0, Nat.zero_le _, rfl⟩⟩
        · have h1' : x ≤ 15 := by omega
          have HA3 := Lib.hid (HA2.out ⟨h0', h1'⟩)
          have o1 := fun O => (HR.out).alloc (w := wr) O
          have o2 := one_code wr 0 0
          have o3 : w.heap.size ≤ (wr.alloc (.cells #[.int .i64 0, .int .i64 0] 58)).heap.size := by have := HB.out.size; simp; omega
          have HBn := Lib.hid (fun (w3 : World) (row : Option Nat) (gr : World.grownBy (wr.alloc (.cells #[.int .i64 0, .int .i64 0] 58)) w3 row) (hr : ∀ b, row = some b → w.heap.size ≤ b) => (HB.out.alloc HB.out.size (.cells #[.int .i64 0, .int .i64 0] 58)).grown gr o3 hr)
          have HLt := Lib.hid (HR.out.lt)
          clear HNot HA2 h0 h1 HB HR HA
          go_wp2_with (first
            | (at_builtin; refine wpList_append_own _ rfl _ _ 53 rfl w.heap.size 58 i0 (.agg #[.int .i64 0, .int .i64 0]) 2 16 Try.underlying53 hi0 hz0 hz1 hz2 rfl (by decide) _ k (cv (List.replicate k (0, 0))) rfl (o1 _) ⟨wr.heap.size, 0, Option.none⟩ 1 1 [.int .i64 0, .int .i64 0] rfl rfl o2 (by simp [Value.oneCell']) (by unfold maxLen; omega) (by omega) o3 ?_)
            | go_in)
          intro v1 w3 own1 gr1 nn1
          have HB3 := Lib.hid (HBn.out w3 _ gr1 (fun b hb => (HLt.out b hb).1))
          have HR3 : Hid (w3.ownsRow w.heap.size 58 2 v1 (k + 1) (cv (List.replicate (k + 1) (0, 0)))) := by
            show World.ownsRow _ _ _ _ _ _ _
            rw [List.replicate_succ', cv_append]
            exact own1
          clear own1 gr1 nn1 o1 o2 o3 HBn HLt
          go_wp2
          go_roundw
          case measure => simp [RowKit.intOf]; omega
          case rel => exact ⟨k + 1, by go_num, by omega, HA3, HR3, HB3⟩
    · have e : k = n := by omega
      subst e
      obtain ⟨q, d, rfl⟩ := own_form HR.out
      obtain ⟨l, hL, h15⟩ := nums_len15 L (fun i hi => HA.out i hi (by rw [← Hn.out]; exact hi))
      have hll : l.length = k := by rw [← Hn.out, hL, nums_len]
      have Hll := Lib.hid hll
      have HL := Lib.hid hL
      have hI2 := HI.out.below HB.out
      rw [hL] at hI2
      have hR2 := HR.out
      have h300 : l.length ≤ 300 := by have := H3.out; omega
      have hkc := kraft_doc l p c wr h300 h15 hI2
      rw [hll] at hkc
      have HE := Lib.hid (fun (m : List Nat) (hm : MayC m) (e : L = nums m) => show Hf.kraftN l ≤ 32768 by rw [hL] at e; rw [nums_inj e]; exact hm.kraft)
      clear hL HA HR hlt0 hk
      by_cases hk2 : 32768 < Hf.kraftN l
      · have HN := Lib.hid (show ∀ m, MayC m → L ≠ nums m from fun m hm e => by have := HE.out m hm e; omega)
        generalize Hf.kraftN l = K at *
        have zk : (32768 : Int) < K := by omega
        clear hk2 HE h15 hI2 hR2 hll h300
        go_wp2_with fail
        go_at_call 91
        refine hkc.mono ?_
        rintro e w4 ⟨rfl, rfl⟩
        clear hkc
        go_wp2
        go_ret2
        exact ⟨HB.out, .inr ⟨HN.out, _, 0, Nat.zero_le _, rfl⟩⟩
      · have HM : Hid (MayC l) := ⟨h300, h15, by omega⟩
        have HR1 : Hid (wr.ownsRow w.heap.size 58 2 (.slice q k d) k (cv (filled l 1 0))) := by
          show World.ownsRow _ _ _ _ _ _ _
          rw [filled_start, hll]; exact hR2
        generalize Hf.kraftN l = K at *
        have zk : (K : Int) ≤ 32768 := by omega
        have HI2 := Lib.hid hI2
        clear hk2 HE h15 hI2 hR2 hll h300
        go_wp2_with fail
        go_at_call 91
        refine hkc.mono ?_
        rintro e w4 ⟨rfl, rfl⟩
        clear hkc
        go_wp2
        go_loopw [6, 7] (fun x m wr => ∃ m0 : Nat, m = .int .i64 ((m0 : Int) + 1) ∧ m0 ≤ 15 ∧ x = .int .i64 (topC l m0 : Nat) ∧ Hid (wr.ownsRow w.heap.size 58 2 (.slice q k d) k (cv (filled l (m0 + 1) 0))) ∧ Hid (Below w.heap.size w wr)) (fun _ m _ => 16 - (RowKit.intOf m).toNat)
        case atStart => exact ⟨0, rfl, by omega, rfl, HR1, HB⟩
        case round =>
          clear HR1 HB HI2
          obtain ⟨m0, rfl, hm0, rfl, HR, HB⟩ := hrel
          by_cases hlt : m0 < 15
          · obtain ⟨n, hn⟩ : ∃ n, n = m0 + 1 := ⟨_, rfl⟩
            have en : (m0 : Int) + 1 = (n : Int) := by omega
            have HT1 := topC_le HM.out (show m0 ≤ 15 by omega)
            have HBt : Hid (Cn.base l n = 2 * topC l m0) := by rw [hn]; exact base_top l m0
            have Hbl := Lib.hid (base_le HM.out (show n ≤ 15 by omega))
            rw [← hn] at HR
            have Hm0 := Lib.hid hn
            have zn15 : (n : Int) ≤ 15 := by omega
            have zn1 : (1 : Int) ≤ n := by omega
            rw [en]
            generalize topC l m0 = x at HT1 HBt ⊢
            clear hn en hlt hm0
            have zx : (x : Int) ≤ 33068 := by omega
            clear HT1
            go_wp2
            go_loopw [6, 8] (fun y i wr => ∃ j : Nat, i = .int .i64 j ∧ j ≤ k ∧ y = .int .i64 ((Cn.base l n + cnt l n j : Nat) : Int) ∧ Hid (wr.ownsRow w.heap.size 58 2 (.slice q k d) k (cv (filled l n j))) ∧ Hid (Below w.heap.size w wr)) (fun _ i _ => k - (RowKit.intOf i).toNat)
            case atStart => exact ⟨0, rfl, Nat.zero_le _, by rw [HBt.out]; go_num, HR, HB⟩
            case round =>
              clear HR HB
              obtain ⟨j, rfl, hj, rfl, HR, HB⟩ := hrel
              by_cases hjk : j < k
              · have hjl : j < l.length := by rw [Hll.out]; exact hjk
                obtain ⟨blk, off, rfl, hc⟩ := (HI.out.below HB.out).at (i := j) (by rw [Hn.out]; exact hjk)
                have cx : wr.cell? ⟨blk, off + j, none⟩ = some (.int .i64 (l.getD j 0 : Nat)) := by
                  have h1 := hc j (by rw [Hn.out]; exact hjk)
                  have h2 := nums_get l j (by rw [nums_len]; exact hjl)
                  rw [h1]
                  simp only [HL.out]
                  rw [h2]
                have ii : (j : Int) < k := by omega
                have hcnt := cnt_le l n j
                have zb : ((Cn.base l n + cnt l n j : Nat) : Int) ≤ 33068 := by have := Hbl.out; have := H3.out; omega
                clear hc hcnt
                by_cases hy : l.getD j 0 = n
                · obtain ⟨g, rfl, hBg⟩ : ∃ g, q = some ⟨g, 0, none⟩ ∧ w.heap.size ≤ g := by
                    rcases HR.out.2 with ⟨h1, h2⟩ | ⟨g', cap', cur, h1, h2, _⟩
                    · omega
                    · cases h1; exact ⟨_, rfl, h2⟩
                  rw [hy] at cx
                  have HF := Lib.hid (filled_set l (by omega : 1 ≤ n) hjl hy)
                  have HC := Lib.hid (cnt_step l hy)
                  have f1 := HR.out.frozenAt (j * 2)
                  have f2 := HR.out.frozenAt (j * 2 + 1)
                  obtain ⟨e1, e2⟩ := cv_at (filled l n j) j (by rw [filled_length]; exact hjl)
                  have c1 := (HR.out.cellAt (j * 2) (by omega)).trans e1
                  have c2 := (HR.out.cellAt (j * 2 + 1) (by omega)).trans e2
                  have hkc : (k : Int) ≤ d := by
                    rcases HR.out.2 with ⟨h1, _⟩ | ⟨g', cap', cur, h1, _, _, h2, _⟩
                    · cases h1
                    · cases h1; omega
                  have HR2 : Hid (((wr.setCell ⟨g, j * 2, none⟩ (.int .i64 (n : Nat))).setCell ⟨g, j * 2 + 1, none⟩ (.int .i64 ((Cn.base l n + cnt l n j : Nat) : Int))).ownsRow w.heap.size 58 2 (.slice (some ⟨g, 0, none⟩) k d) k (cv (filled l n (j + 1)))) := by
                    show World.ownsRow _ _ _ _ _ _ _
                    rw [HF.out, cv_set]
                    exact ((HR.out.stored (j * 2) (.int .i64 (n : Nat))).1.stored (j * 2 + 1) (.int .i64 ((Cn.base l n + cnt l n j : Nat) : Int))).1
                  have HB2 := Lib.hid ((HB.out.setCell (p := ⟨g, j * 2, none⟩) hBg (.int .i64 (n : Nat))).setCell (p := ⟨g, j * 2 + 1, none⟩) hBg (.int .i64 ((Cn.base l n + cnt l n j : Nat) : Int)))
                  have HC2 : Hid (Cn.base l n + cnt l n (j + 1) = Cn.base l n + cnt l n j + 1) := by show _ = _; rw [HC.out]; rfl
                  generalize Cn.base l n + cnt l n j = z at *
                  obtain ⟨v', hy'⟩ := cell?_setCell_some (w := wr) (p := ⟨g, j * 2, none⟩) (x := .int .i64 (n : Nat)) (q := ⟨g, j * 2 + 1, none⟩) c2
                  clear HR HB hy HF HC e1 e2
                  go_wp2
                  go_roundw
                  case measure => simp [RowKit.intOf]; omega
                  case rel => exact ⟨j + 1, by go_num, by omega, by rw [HC2.out]; go_num, HR2, HB2⟩
                · have HF := Lib.hid (filled_not l (n := n) (i := j) hy)
                  have HC : Hid (cnt l n (j + 1) = cnt l n j) := by
                    show cnt l n j + (if _ then 1 else 0) = _
                    rw [if_neg hy]; rfl
                  generalize l.getD j 0 = y at *
                  have hyn : ((y : Int) == (n : Int)) = false := by rw [beq_eq_false_iff_ne]; omega
                  clear hy
                  go_wp2
                  go_roundw
                  case measure => simp [RowKit.intOf]; omega
                  case rel => exact ⟨j + 1, by go_num, by omega, by rw [HC.out], by rw [HF.out]; exact HR, HB⟩
              · have e : j = k := by omega
                subst e
                have HT : Hid (Cn.base l n + cnt l n j = topC l n) := by
                  unfold topC
                  show _ = _
                  rw [if_neg (by omega), Hll.out]
                have HF : Hid (filled l n j = filled l (n + 1) 0) := by
                  show _ = _
                  rw [← Hll.out]; exact filled_next l n
                rw [HT.out]
                rw [HF.out] at HR
                clear hjk HF HT
                go_wp2
                go_roundw
                case measure => have := Hm0.out; simp [RowKit.intOf]; omega
                case rel => exact ⟨n, by go_num, by omega, rfl, HR, HB⟩
          · have e : m0 = 15 := by omega
            subst e
            rw [filled_end HM.out.le] at HR
            clear hlt hm0
            go_wp2
            go_ret2
            exact ⟨HB.out, .inl ⟨l, HM.out, HL.out, q, d, rfl, codes_own HR.out (by rw [codesOf_length]; exact Hll.out)⟩⟩
end Go.Proofs.Ythehjhckcblbdaa
/-
  What Codes, Write and Read must answer, told once for the package's functions and the document's; the document's answer so.
-/
namespace Go.Proofs.Ythehjhckcblbdaa
set_option maxRecDepth 100000
open Go.RowKit Go.Lib Cn
/-- what the three functions answer -/
structure SpecC (C W R : FuncId) : Prop where
  codes : ∀ (l : List Nat) (n : Nat) (p : Option Addr) (c : Nat) (w : World), MayC l → l.length = n → IntsLie w p (nums l) c →
    Calls Try.prog C #[.slice p n c] w fun e w' => Below w.heap.size w w' ∧ ∃ q d, e = .returned (.tuple #[.slice q n d, .bool true]) ∧ CodesLie w' q (codesOf l) d
  codes_no : ∀ (L : List Int) (n : Nat) (p : Option Addr) (c : Nat) (w : World), (∀ l, MayC l → L ≠ nums l) → L.length = n → n ≤ 281474976710656 → IntsLie w p L c →
    Calls Try.prog C #[.slice p n c] w fun e w' => Below w.heap.size w w' ∧ ∃ q d, d ≤ maxLen ∧ e = .returned (.tuple #[.slice q 0 d, .bool false])
  write : ∀ (l : List Nat) (n i : Nat) (p : Option Addr) (c : Nat) (w : World), MayC l → l.length = n → 1 ≤ l.getD i 0 → IntsLie w p (nums l) c →
    Calls Try.prog W #[.slice p n c, .int .i64 i] w fun e w' => Below w.heap.size w w' ∧ ∃ q d, e = .returned (.tuple #[.slice q (code l i).length d, .bool true]) ∧ FlagsLie w' q (code l i) d
  write_no : ∀ (L : List Int) (n : Nat) (x : Int) (p : Option Addr) (c : Nat) (w : World), (∀ l, MayC l → L = nums l → ∀ i : Nat, x = i → ¬ 1 ≤ l.getD i 0) → L.length = n → n ≤ 1000000 → IntsLie w p L c →
    Calls Try.prog W #[.slice p n c, .int .i64 x] w fun e w' => Below w.heap.size w w' ∧ ∃ q d, d ≤ maxLen ∧ e = .returned (.tuple #[.slice q 0 d, .bool false])
  read : ∀ (l : List Nat) (n : Nat) (b : List Bool) (m at_ i : Nat) (p q : Option Addr) (c d : Nat) (w : World), MayC l → l.length = n → b.length = m → m ≤ 100000 → hit l b at_ i = true → IntsLie w p (nums l) c → FlagsLie w q b d →
    Calls Try.prog R #[.slice p n c, .slice q m d, .int .i64 at_] w fun e w' => Below w.heap.size w w' ∧ e = .returned (.tuple #[.int .i64 i, .int .i64 ((at_ + l.getD i 0 : Nat) : Int), .bool true])
  read_no : ∀ (L : List Int) (n : Nat) (b : List Bool) (m : Nat) (x : Int) (p q : Option Addr) (c d : Nat) (w : World), (∀ l, MayC l → L = nums l → ∀ at_ : Nat, x = at_ → ∀ i, hit l b at_ i = false) → L.length = n → n ≤ 1000000 → b.length = m → m ≤ 100000 → IntsLie w p L c → FlagsLie w q b d →
    Calls Try.prog R #[.slice p n c, .slice q m d, .int .i64 x] w fun e w' => Below w.heap.size w w' ∧ e = .returned (.tuple #[.int .i64 0, .int .i64 0, .bool false])
theorem codes_ok (l : List Nat) (n : Nat) (p : Option Addr) (c : Nat) (w : World) (hm : MayC l) (hn : l.length = n) (h : IntsLie w p (nums l) c) :
    Calls Try.prog 71 #[.slice p n c] w fun e w' => Below w.heap.size w w' ∧ ∃ q d, e = .returned (.tuple #[.slice q n d, .bool true]) ∧ CodesLie w' q (codesOf l) d := by
  refine (codes_doc (nums l) n (by rw [nums_len]; exact hn) p c w h (by have := hm.len; omega)).mono ?_
  rintro e w' ⟨hb, ⟨m, _, e1, q, d, e2, e3⟩ | ⟨h1, _⟩⟩
  · rw [← nums_inj e1] at e3
    exact ⟨hb, q, d, e2, e3⟩
  · exact absurd rfl (h1 l hm)
theorem codes_no (L : List Int) (n : Nat) (p : Option Addr) (c : Nat) (w : World) (hm : ∀ l, MayC l → L ≠ nums l) (hn : L.length = n) (hl : n ≤ 281474976710656) (h : IntsLie w p L c) :
    Calls Try.prog 71 #[.slice p n c] w fun e w' => Below w.heap.size w w' ∧ ∃ q d, d ≤ maxLen ∧ e = .returned (.tuple #[.slice q 0 d, .bool false]) := by
  refine (codes_doc L n hn p c w h hl).mono ?_
  rintro e w' ⟨hb, ⟨m, h1, e1, _⟩ | ⟨_, h2⟩⟩
  · exact absurd e1 (hm m h1)
  · exact ⟨hb, h2⟩
theorem codeOf_one {l : List Nat} {i : Nat} (h : 1 ≤ l.getD i 0) : codeOf l i = (l.getD i 0, bitsOf l i) := by unfold codeOf; rw [if_pos h]
theorem codeOf_none {l : List Nat} {i : Nat} (h : ¬ 1 ≤ l.getD i 0) : codeOf l i = (0, 0) := by unfold codeOf; rw [if_neg h]
set_option maxHeartbeats 2000000 in
theorem write_ok (l : List Nat) (n i : Nat) (p : Option Addr) (c : Nat) (w : World) (hm : MayC l) (hn : l.length = n) (h1 : 1 ≤ l.getD i 0) (h : IntsLie w p (nums l) c) :
    Calls Try.prog 44 #[.slice p n c, .int .i64 i] w fun e w' => Below w.heap.size w w' ∧ ∃ q d, e = .returned (.tuple #[.slice q (code l i).length d, .bool true]) ∧ FlagsLie w' q (code l i) d := by
  have hi := there_lt h1
  have hc := codes_ok l n p c w hm hn h
  have hb := bits_lt hm.le hm.kraft h1
  have h15 := hm.le i
  have hcode : Hid (code l i = Mb.dig (bitsOf l i) (l.getD i 0)) := rfl
  have hget : (codesOf l).getD i (0, 0) = (l.getD i 0, bitsOf l i) := by rw [codesOf_get l hi, codeOf_one h1]
  have HG := Lib.hid hget
  have hlen : Hid (i < (codesOf l).length) := by show _ < _; rw [codesOf_length]; exact hi
  have HEl : Hid ((codesOf l).length = n) := by show _ = _; rw [codesOf_length]; exact hn
  obtain ⟨blk, off, rfl, hcl⟩ := h.at (i := i) (by rw [nums_len]; exact hi)
  have cx := hcl i (by rw [nums_len]; exact hi)
  rw [nums_get] at cx
  have CX := Lib.hid (fun (w' : World) (hb : Below w.heap.size w w') => show w'.cell? ⟨blk, off + i, none⟩ = some (.int .i64 (l.getD i 0 : Nat)) by rw [hb.cell (p := ⟨blk, off + i, none⟩) (World.block_lt_of_cell? w _ cx)]; exact cx)
  have hcap : (n : Int) ≤ c := by have := h.len; rw [nums_len] at this; omega
  have ii : (i : Int) < n := by omega
  have zn : (n : Int) ≤ 300 := by have := hm.len; omega
  generalize code l i = cd at *
  generalize codesOf l = E at *
  generalize bitsOf l i = bt at *
  generalize l.getD i 0 = y at *
  have z1 : (1 : Int) ≤ y := by omega
  clear hget cx hcl h hm hn hi
  go_enter Try.func44, Try.ntmps44
  go_wp2_with fail
  go_at_call 71
  refine hc.mono ?_
  rintro e w1 ⟨hb1, q, d, rfl, hE⟩
  obtain ⟨g, o, rfl, hA⟩ := hE.at hlen.out
  obtain ⟨a1, a2⟩ := hA i hlen.out
  rw [HG.out] at a1 a2
  have cy := CX.out w1 hb1
  have hcd : (n : Int) ≤ d := by have := hE.len; have := HEl.out; omega
  have HB1 := Lib.hid hb1
  have HP := Lib.hid (fun (w : World) => put_doc bt y (by omega) hb w)
  clear hc hE hA hb1 CX
  go_wp2
  have hp := HP.out w1.drew
  have i0 : (0 : Int) ≤ (i : Int) := by omega
  go_region_held3 (fun w' => w'.cell? ⟨g, o + i * 2, none⟩ = some (.int .i64 (y : Nat)) ∧ w'.cell? ⟨g, o + i * 2 + 1, none⟩ = some (.int .i64 (bt : Nat)))
    (first | go_keep | exact ⟨by rw [hF.below.cell (p := ⟨g, o + i * 2, none⟩) (World.block_lt_of_cell? w1 _ a1)]; exact a1, by rw [hF.below.cell (p := ⟨g, o + i * 2 + 1, none⟩) (World.block_lt_of_cell? w1 _ a2)]; exact a2⟩)
    (first | (go_at_call 70; refine hp.mono ?_; rintro e w2 ⟨g2, c2, rfl, hF⟩))
  have HF := Lib.hid hF
  have HBn := Lib.hid (HB1.out.drew.next hF.below)
  clear hp a1 a2 cy hF HP HB1
  simp only [Exit.then]
  go_wp2
  go_ret2
  exact ⟨HBn.out, some ⟨g2, 0, none⟩, c2, by rw [hcode.out]; rfl, by rw [hcode.out]; exact HF.out.lies⟩
set_option maxHeartbeats 2000000 in
theorem write_no (L : List Int) (n : Nat) (x : Int) (p : Option Addr) (c : Nat) (w : World) (hx : ∀ l, MayC l → L = nums l → ∀ i : Nat, x = i → ¬ 1 ≤ l.getD i 0) (hn : L.length = n) (hl : n ≤ 1000000) (h : IntsLie w p L c) :
    Calls Try.prog 44 #[.slice p n c, .int .i64 x] w fun e w' => Below w.heap.size w w' ∧ ∃ q d, d ≤ maxLen ∧ e = .returned (.tuple #[.slice q 0 d, .bool false]) := by
  by_cases hm : ∃ l, MayC l ∧ L = nums l
  · obtain ⟨l, hm, rfl⟩ := hm
    have hll : l.length = n := by rw [← hn, nums_len]
    have hc := codes_ok l n p c w hm hll h
    have zn : (n : Int) ≤ 300 := by have := hm.len; omega
    by_cases h0 : 0 ≤ x ∧ x < n
    · obtain ⟨i, rfl⟩ := Int.eq_ofNat_of_zero_le h0.1
      have hi : i < n := by omega
      have ii : (i : Int) < n := h0.2
      have hy := hx l hm rfl i rfl
      obtain ⟨blk, off, rfl, hcl⟩ := h.at (i := i) (by rw [nums_len, hll]; exact hi)
      have cx := hcl i (by rw [nums_len, hll]; exact hi)
      rw [nums_get, show l.getD i 0 = 0 by omega] at cx
      have CX := Lib.hid (fun (w' : World) (hb : Below w.heap.size w w') => show w'.cell? ⟨blk, off + i, none⟩ = some (.int .i64 ((0 : Nat) : Int)) by rw [hb.cell (p := ⟨blk, off + i, none⟩) (World.block_lt_of_cell? w _ cx)]; exact cx)
      have hcap : (n : Int) ≤ c := by have := h.len; rw [nums_len] at this; omega
      clear cx hcl h hm hn hi h0 hx hy hll hl
      go_enter Try.func44, Try.ntmps44
      go_wp2_with fail
      go_at_call 71
      refine hc.mono ?_
      rintro e w1 ⟨hb1, q, d, rfl, _⟩
      have cy := CX.out w1 hb1
      have HB1 := Lib.hid hb1
      clear hc hb1 CX
      go_wp2
      go_ret2
      exact ⟨HB1.out, _, 0, Nat.zero_le _, rfl⟩
    · clear h hm hn hx hll hl
      by_cases h1 : x < 0
      · clear h0
        go_enter Try.func44, Try.ntmps44
        go_wp2_with fail
        go_at_call 71
        refine hc.mono ?_
        rintro e w1 ⟨hb1, q, d, rfl, _⟩
        have HB1 := Lib.hid hb1
        clear hc hb1
        go_wp2
        go_ret2
        exact ⟨HB1.out, _, 0, Nat.zero_le _, rfl⟩
      · have h2 : 0 ≤ x := by omega
        have h3 : (n : Int) ≤ x := by omega
        clear h0 h1
        go_enter Try.func44, Try.ntmps44
        go_wp2_with fail
        go_at_call 71
        refine hc.mono ?_
        rintro e w1 ⟨hb1, q, d, rfl, _⟩
        have HB1 := Lib.hid hb1
        clear hc hb1
        go_wp2
        go_ret2
        exact ⟨HB1.out, _, 0, Nat.zero_le _, rfl⟩
  · have hc := codes_no L n p c w (fun l h1 h2 => hm ⟨l, h1, h2⟩) hn (by omega) h
    clear h hm hn hx
    go_enter Try.func44, Try.ntmps44
    go_wp2_with fail
    go_at_call 71
    refine hc.mono ?_
    rintro e w1 ⟨hb1, q, d, _, rfl⟩
    have HB1 := Lib.hid hb1
    clear hc hb1
    go_wp2
    go_ret2
    exact ⟨HB1.out, _, 0, Nat.zero_le _, rfl⟩
set_option maxHeartbeats 4000000 in
theorem read_may (l : List Nat) (n : Nat) (b : List Bool) (m : Nat) (x : Int) (p q : Option Addr) (c d : Nat) (w : World) (hm : MayC l) (hn : l.length = n) (hb : b.length = m) (hbm : m ≤ 100000) (h : IntsLie w p (nums l) c) (hq : FlagsLie w q b d)
    (ans : Value) (H1 : ∀ i at_ : Nat, x = at_ → hit l b at_ i = true → ans = .tuple #[.int .i64 i, .int .i64 ((at_ + l.getD i 0 : Nat) : Int), .bool true]) (H0 : (∀ i at_ : Nat, x = at_ → hit l b at_ i = false) → ans = .tuple #[.int .i64 0, .int .i64 0, .bool false]) :
    Calls Try.prog 52 #[.slice p n c, .slice q m d, .int .i64 x] w fun e w' => Below w.heap.size w w' ∧ e = .returned ans := by
  have hc := codes_ok l n p c w hm hn h
  have zn : (n : Int) ≤ 300 := by have := hm.len; omega
  have zm : (m : Int) ≤ 100000 := by omega
  have HQ := Lib.hid hq
  have HM := Lib.hid hm
  have Hn := Lib.hid hn
  have Hb := Lib.hid hb
  have HA1 := Lib.hid H1
  have HA0 := Lib.hid H0
  clear h hm hn hb hq H1 H0
  go_enter Try.func52, Try.ntmps52
  go_wp2_with fail
  go_at_call 71
  refine hc.mono ?_
  rintro e w1 ⟨hb1, q1, d1, rfl, hE⟩
  have HB1 := Lib.hid hb1
  have HE := Lib.hid hE
  have HQ1 := Lib.hid (HQ.out.below hb1)
  have hd1 : (n : Int) ≤ d1 := by have := hE.len; rw [codesOf_length, Hn.out] at this; omega
  clear hc hb1 hE HQ
  go_wp2
  go_loop [11] (fun v => ∃ i : Nat, i ≤ n ∧ v = .int .i64 i ∧ Hid (∀ j at_ : Nat, j < i → x = at_ → hit l b at_ j = false)) (fun v => n - (RowKit.intOf v).toNat)
  case atStart => exact ⟨0, Nat.zero_le _, rfl, fun j _ hj => by omega⟩
  case round =>
    obtain ⟨i, hi, rfl, HN⟩ := hrel
    by_cases hlt : i < n
    · have ii : (i : Int) < n := by omega
      obtain ⟨g, o, rfl, hA⟩ := HE.out.at (i := i) (by rw [codesOf_length, Hn.out]; exact hlt)
      obtain ⟨a1, a2⟩ := hA i (by rw [codesOf_length, Hn.out]; exact hlt)
      rw [codesOf_get l (by rw [Hn.out]; exact hlt)] at a1 a2
      have HS := Lib.hid (fun (hh : ∀ at_ : Nat, x = at_ → hit l b at_ i = false) => show ∀ j at_ : Nat, j < i + 1 → x = at_ → hit l b at_ j = false from fun j at_ hj hx => by
        by_cases e : j = i
        · subst e; exact hh at_ hx
        · exact HN.out j at_ (by omega) hx)
      clear hA
      by_cases h1 : 1 ≤ l.getD i 0
      · rw [codeOf_one h1] at a1 a2
        have h15 := HM.out.le i
        have z15 : ((l.getD i 0 : Nat) : Int) ≤ 15 := by omega
        have z1 : (1 : Int) ≤ ((l.getD i 0 : Nat) : Int) := by omega
        by_cases hr : x < 0 ∨ (m : Int) < x + (l.getD i 0 : Nat)
        · have ht := take_not b q d (l.getD i 0) x (by omega) (by rw [Hb.out]; exact hr) (by rw [Hb.out]; omega) w1
          have HN2 := Lib.hid (HS.out fun at_ hx => by
            cases hh : hit l b at_ i with
            | false => rfl
            | true =>
              have := hit_iff.1 hh
              have := Hb.out
              omega)
          rw [Hb.out] at ht
          clear HS HN hr h15
          generalize l.getD i 0 = y at *
          generalize bitsOf l i = bt at *
          go_wp2_with fail
          go_at_call 53
          refine ht.mono ?_
          rintro e w2 ⟨rfl, rfl⟩
          clear ht
          go_wp2
          go_round
          case rel => exact ⟨i + 1, by omega, by go_num, HN2⟩
          case measure => simp [RowKit.intOf]; omega
        · obtain ⟨at_, rfl⟩ := Int.eq_ofNat_of_zero_le (show 0 ≤ x by omega)
          have hle : at_ + l.getD i 0 ≤ b.length := by rw [Hb.out]; omega
          have ht := take_doc b q d at_ (l.getD i 0) (by omega) hle (by rw [Hb.out]; omega) w1 HQ1.out
          rw [Hb.out] at ht
          have HA := Lib.hid (fun hh => HA1.out i at_ rfl hh)
          have hhit : Hid (hit l b at_ i = decide (Mb.num ((b.drop at_).take (l.getD i 0)) = bitsOf l i)) := by
            show _ = _
            unfold hit
            rw [decide_eq_true (show 0 < l.getD i 0 by omega), decide_eq_true hle]; rfl
          have HSx := Lib.hid (fun (hh : hit l b at_ i = false) => HS.out fun at2 hx => by
            have : at_ = at2 := by omega
            rw [← this]; exact hh)
          rw [hhit.out] at HA HSx
          clear HS HN hr h15 hle hhit
          generalize l.getD i 0 = y at *
          generalize bitsOf l i = bt at *
          generalize Mb.num ((b.drop at_).take y) = nm at *
          by_cases hnb : nm = bt
          · subst hnb
            have HV := Lib.hid (HA.out (decide_eq_true rfl))
            clear HA HSx
            go_wp2_with fail
            go_at_call 53
            refine ht.mono ?_
            rintro e w2 ⟨rfl, rfl⟩
            clear ht
            go_wp2
            go_ret3
            exact ⟨HB1.out, by rw [HV.out]; rfl⟩
          · have HN2 := Lib.hid (HSx.out (decide_eq_false hnb))
            have hnz : ((nm : Int) == (bt : Int)) = false := by rw [beq_eq_false_iff_ne]; omega
            clear HA HSx hnb
            go_wp2_with fail
            go_at_call 53
            refine ht.mono ?_
            rintro e w2 ⟨rfl, rfl⟩
            clear ht
            go_wp2
            go_round
            case rel => exact ⟨i + 1, by omega, by go_num, HN2⟩
            case measure => simp [RowKit.intOf]; omega
      · rw [codeOf_none h1] at a1 a2
        have HN2 := Lib.hid (HS.out fun at_ _ => by
          cases hh : hit l b at_ i with
          | false => rfl
          | true => exact absurd (hit_iff.1 hh).1 (by omega))
        clear HS HN h1
        go_wp2
        go_round
        case rel => exact ⟨i + 1, by omega, by go_num, HN2⟩
        case measure => simp [RowKit.intOf]; omega
    · have e : i = n := by omega
      subst e
      have HV := Lib.hid (HA0.out fun j at_ hx => by
        by_cases hj : j < i
        · exact HN.out j at_ hj hx
        · cases hh : hit l b at_ j with
          | false => rfl
          | true =>
            have := there_lt (hit_iff.1 hh).1
            have := Hn.out
            omega)
      clear HN
      go_wp2
      go_ret3
      exact ⟨HB1.out, by rw [HV.out]; rfl⟩
theorem read_not (L : List Int) (n : Nat) (m : Nat) (x : Int) (p q : Option Addr) (c d : Nat) (w : World) (hm : ∀ l, MayC l → L ≠ nums l) (hn : L.length = n) (hl : n ≤ 1000000) (h : IntsLie w p L c) :
    Calls Try.prog 52 #[.slice p n c, .slice q m d, .int .i64 x] w fun e w' => Below w.heap.size w w' ∧ e = .returned (.tuple #[.int .i64 0, .int .i64 0, .bool false]) := by
  have hc := codes_no L n p c w hm hn (by omega) h
  clear h hm hn
  go_enter Try.func52, Try.ntmps52
  go_wp2_with fail
  go_at_call 71
  refine hc.mono ?_
  rintro e w1 ⟨hb1, q1, d1, _, rfl⟩
  have HB1 := Lib.hid hb1
  clear hc hb1
  go_wp2
  go_ret3
  exact ⟨HB1.out, rfl⟩
theorem specDoc : SpecC 71 44 52 where
  codes := codes_ok
  codes_no := codes_no
  write := write_ok
  write_no := write_no
  read := fun l n b m at_ i p q c d w hm hn hb hbm hh h hq => read_may l n b m at_ p q c d w hm hn hb hbm h hq _
    (fun j at2 hx hj => by
      have e : at_ = at2 := by omega
      subst e
      rw [hit_one hm.le hj hh])
    (fun h0 => by rw [h0 i at_ rfl] at hh; cases hh)
  read_no := fun L n b m x p q c d w hno hn hl hb hbm h hq => by
    by_cases hm : ∃ l, MayC l ∧ L = nums l
    · obtain ⟨l, hm, rfl⟩ := hm
      exact read_may l n b m x p q c d w hm (by rw [← hn, nums_len]) hb hbm h hq _
        (fun j at_ hx hj => by rw [hno l hm rfl at_ hx j] at hj; cases hj) (fun _ => rfl)
    · exact read_not L n m x p q c d w (fun l h1 h2 => hm ⟨l, h1, h2⟩) hn hl h
end Go.Proofs.Ythehjhckcblbdaa
