/-
  What the document's Write adds from step to step; put told with lengths.
-/
import Derived.Test.YthehjhckcblbdaaPacSm
namespace Go.Proofs.Ythehjhckcblbdaa.Pk
set_option maxRecDepth 100000
open Go.RowKit Mt Ma Mb Cn Hf Go.Lib
theorem freq_snoc (T : List Tok) (t : Tok) (h : symT t < 272) : freq (T ++ [t]) = (freq T).set (symT t) ((freq T).getD (symT t) 0 + 1) := by
  refine List.ext_getElem (by rw [List.length_set, freq_length, freq_length]) fun i h1 h2 => ?_
  have hi : i < 272 := by rw [freq_length] at h1; exact h1
  have e1 : ∀ (U : List Tok) (hu : i < (freq U).length), (freq U)[i] = (U.filter fun t => symT t == i).length := fun U hu => by
    have := freq_get U hi
    rw [List.getD_eq_getElem?_getD, List.getElem?_eq_getElem hu] at this
    exact this
  rw [List.getElem_set, e1, e1 T (by rw [freq_length]; exact hi), List.filter_append, List.length_append, freq_get T h]
  by_cases he : symT t = i
  · subst he
    rw [if_pos rfl]; simp
  · rw [if_neg he]; simp [he]
theorem freq_nil : freq [] = List.replicate 272 0 :=
  List.eq_replicate_iff.2 ⟨freq_length _, fun x hx => by
    unfold freq at hx
    obtain ⟨s, _, rfl⟩ := List.mem_map.1 hx
    rfl⟩
theorem many_succ (l : List Nat) (k : Nat) : manyS l 0 (k + 1) = manyS l 0 k + if 0 < l.getD k 0 then 1 else 0 := by
  unfold manyS
  rw [List.range'_1_concat, List.filter_append, List.length_append, Nat.zero_add]
  by_cases h : 0 < l.getD k 0
  · rw [if_pos h, List.filter_cons, decide_eq_true h]; rfl
  · rw [if_neg h, List.filter_cons, decide_eq_false h]; rfl
theorem head_succ (l : List Nat) (k : Nat) : headFrom l 0 (k + 1) = headFrom l 0 k ++ if 0 < l.getD k 0 then dig k 9 ++ dig (l.getD k 0) 4 else [] := by
  unfold headFrom
  rw [List.range'_1_concat, List.flatMap_append, Nat.zero_add]
  congr 1
  simp
theorem head_le (l : List Nat) (k : Nat) : (headFrom l 0 k).length ≤ 13 * k := by
  induction k with
  | zero => exact Nat.le_refl _
  | succ k ih =>
    rw [head_succ, List.length_append]
    split
    · rw [List.length_append, dig_length, dig_length]; omega
    · simp; omega
theorem body_succ (l : List Nat) (T : List Tok) (k : Nat) (h : k < T.length) : body l (T.take (k + 1)) = body l (T.take k) ++ tokBits l T[k] := by
  unfold body
  rw [List.take_succ_eq_append_getElem h, List.flatMap_append]
  simp
theorem body_le {l : List Nat} (hl : ∀ i, l.getD i 0 ≤ 15) (T : List Tok) : (body l T).length ≤ 23 * T.length := by
  induction T with
  | nil => exact Nat.le_refl _
  | cons t T ih =>
    have e : body l (t :: T) = tokBits l t ++ body l T := by unfold body; rw [List.flatMap_cons]
    rw [e, List.length_append, List.length_cons]
    have : (tokBits l t).length ≤ 23 := by
      unfold tokBits
      have h15 := hl (symT t)
      have hc : (code l (symT t)).length = l.getD (symT t) 0 := by unfold code; rw [dig_length]
      rw [List.length_append, hc]
      split
      · rw [List.length_nil]; omega
      · rw [dig_length]; omega
    omega
theorem putl_doc (b : List Bool) (k : Nat) (hb : b.length = k) (hk : k ≤ 1000000) (q : Option Addr) (d x n : Nat) (hn : n ≤ 30) (hx : x < 2 ^ n) (w : World) (h : FlagsLie w q b d) (hq0 : q = none → d = 0) :
    Calls Try.prog 43 #[.slice q k d, .int .i64 x, .int .i64 n] w fun e w' => ∃ g c, e = .returned (.slice (some ⟨g, 0, Option.none⟩) (k + n) c) ∧ FRow w.heap.size w w' g c (b ++ dig x n) := by
  have e : (b ++ dig x n).length = k + n := by rw [List.length_append, dig_length, hb]
  have := putp_doc b k hb hk q d x n hn hx w h hq0
  rw [e] at this
  exact this
end Go.Proofs.Ythehjhckcblbdaa.Pk
