/-
  Maths of copies: which copy is the longest, how a text is split, what tokens tell. No condition.
-/
import Derived.Test.YthehjhckcblbdaaRows
import Derived.Test.YthehjhckcblbdaaGe
namespace Go.Proofs.Ythehjhckcblbdaa.Mt
set_option maxRecDepth 100000
/-- a token: a byte, how far, how long -/
structure Tok where
  byte : Int
  dist : Int
  len : Int
deriving DecidableEq
def may (t : Tok) : Bool :=
  if t.len = 0 ∧ t.dist = 0 then decide (0 ≤ t.byte) && decide (t.byte ≤ 255)
  else decide (t.byte = 0) && decide (1 ≤ t.dist) && decide (t.dist ≤ 255) && decide (3 ≤ t.len) && decide (t.len ≤ 18)
def alike (s : List UInt8) (p d n : Nat) : Prop := p + n ≤ s.length ∧ 1 ≤ d ∧ d ≤ p ∧ ∀ i, i < n → s.getD (p + i) 0 = s.getD (p + i - d) 0
instance (s : List UInt8) (p d n : Nat) : Decidable (alike s p d n) := by unfold alike; infer_instance
theorem alike_less {s : List UInt8} {p d n m : Nat} (h : alike s p d n) (hm : m ≤ n) : alike s p d m := ⟨by have := h.1; omega, h.2.1, h.2.2.1, fun i hi => h.2.2.2 i (by omega)⟩
/-- what the document tells of the longest copy -/
structure Best (s : List UInt8) (p n d : Nat) : Prop where
  top : ∀ e m, e ≤ 255 → m ≤ 18 → 3 ≤ m → alike s p e m → m ≤ n
  hit : n = 0 ∧ d = 0 ∨ 3 ≤ n ∧ n ≤ 18 ∧ d ≤ 255 ∧ alike s p d n ∧ ∀ e, e < d → ¬ alike s p e n
theorem Best.one {s : List UInt8} {p n d n' d' : Nat} (h : Best s p n d) (h' : Best s p n' d') : n = n' ∧ d = d' := by
  rcases h.hit with ⟨a1, a2⟩ | ⟨a1, a2, a3, a4, a5⟩ <;> rcases h'.hit with ⟨b1, b2⟩ | ⟨b1, b2, b3, b4, b5⟩
  · exact ⟨by omega, by omega⟩
  · have := h.top d' n' b3 b2 b1 b4; omega
  · have := h'.top d n a3 a2 a1 a4; omega
  · have e1 := h.top d' n' b3 b2 b1 b4
    have e2 := h'.top d n a3 a2 a1 a4
    have e : n = n' := by omega
    subst e
    refine ⟨rfl, ?_⟩
    rcases Nat.lt_trichotomy d d' with h1 | h1 | h1
    · exact absurd a4 (b5 d h1)
    · exact h1
    · exact absurd b4 (a5 d' h1)
/-- the least distance from e on (k of them) at which n bytes are alike -/
def near (s : List UInt8) (p n : Nat) : Nat → Nat → Option Nat
  | _, 0 => none
  | e, k + 1 => if alike s p e n then some e else near s p n (e + 1) k
theorem near_some {s : List UInt8} {p n : Nat} : ∀ {k e d : Nat}, near s p n e k = some d → alike s p d n ∧ e ≤ d ∧ d < e + k ∧ ∀ x, e ≤ x → x < d → ¬ alike s p x n
  | 0, _, _, h => by simp [near] at h
  | k + 1, e, d, h => by
    unfold near at h
    split at h
    · rename_i ha
      simp only [Option.some.injEq] at h
      subst h
      exact ⟨ha, Nat.le_refl _, by omega, fun x h1 h2 => by omega⟩
    · rename_i ha
      obtain ⟨h1, h2, h3, h4⟩ := near_some h
      refine ⟨h1, by omega, by omega, fun x hx1 hx2 => ?_⟩
      by_cases e1 : x = e
      · subst e1; exact ha
      · exact h4 x (by omega) hx2
theorem near_none {s : List UInt8} {p n : Nat} : ∀ {k e : Nat}, near s p n e k = none → ∀ x, e ≤ x → x < e + k → ¬ alike s p x n
  | 0, _, _ => fun x h1 h2 => by omega
  | k + 1, e, h => by
    unfold near at h
    split at h
    · simp at h
    · rename_i ha
      intro x h1 h2
      by_cases e1 : x = e
      · subst e1; exact ha
      · exact near_none h x (by omega) (by omega)
def seek (s : List UInt8) (p : Nat) : Nat → Nat × Nat
  | 0 => (0, 0)
  | n + 1 => if n + 1 < 3 then (0, 0) else match near s p (n + 1) 1 255 with
    | some d => (n + 1, d)
    | none => seek s p n
def longest (s : List UInt8) (p : Nat) : Nat × Nat := seek s p 18
theorem seek_best {s : List UInt8} {p : Nat} : ∀ {n : Nat}, n ≤ 18 → (∀ e m, e ≤ 255 → m ≤ 18 → 3 ≤ m → alike s p e m → m ≤ n) → Best s p (seek s p n).1 (seek s p n).2
  | 0, _, h => ⟨h, .inl ⟨rfl, rfl⟩⟩
  | n + 1, hn, h => by
    unfold seek
    split
    · rename_i h3
      exact ⟨fun e m h1 h2 h4 h5 => by have := h e m h1 h2 h4 h5; omega, .inl ⟨rfl, rfl⟩⟩
    · split
      · rename_i d hd
        obtain ⟨h1, h2, h3, h4⟩ := near_some hd
        refine ⟨h, .inr ⟨by omega, by omega, by omega, h1, fun e he => ?_⟩⟩
        by_cases e0 : e = 0
        · subst e0; intro ha; have := ha.2.1; omega
        · exact h4 e (by omega) he
      · rename_i hd
        refine seek_best (by omega) fun e m h1 h2 h3 h4 => ?_
        have h5 := h e m h1 h2 h3 h4
        by_cases e1 : m = n + 1
        · subst e1
          exact absurd h4 (near_none hd e h4.2.1 (by omega))
        · omega
theorem longest_best (s : List UInt8) (p : Nat) : Best s p (longest s p).1 (longest s p).2 := seek_best (Nat.le_refl _) fun _ _ _ h _ _ => h
theorem best_longest {s : List UInt8} {p n d : Nat} (h : Best s p n d) : longest s p = (n, d) := by
  obtain ⟨h1, h2⟩ := (longest_best s p).one h
  exact Prod.ext h1 h2
/-- what one token does to the bytes so far -/
def copy (o : List UInt8) (d : Nat) : Nat → List UInt8
  | 0 => o
  | n + 1 => copy (o ++ [o.getD (o.length - d) 0]) d n
def add (o : List UInt8) (t : Tok) : List UInt8 := if t.len = 0 then o ++ [UInt8.ofNat t.byte.toNat] else copy o t.dist.toNat t.len.toNat
theorem copy_length (d : Nat) : ∀ (n : Nat) (o : List UInt8), (copy o d n).length = o.length + n
  | 0, _ => rfl
  | n + 1, o => by rw [copy, copy_length, List.length_append]; simp; omega
theorem copy_succ (d : Nat) : ∀ (n : Nat) (o : List UInt8), copy o d (n + 1) = copy o d n ++ [(copy o d n).getD (o.length + n - d) 0]
  | 0, o => by simp [copy]
  | n + 1, o => by rw [copy, copy_succ d n, copy, List.length_append]; simp only [List.length_cons, List.length_nil]; rw [show o.length + (0 + 1) + n - d = o.length + (n + 1) - d by omega]
/-- whether tokens tell bytes, and which; from front to back -/
def expand (most : Int) : List UInt8 → List Tok → Option (List UInt8)
  | o, [] => some o
  | o, t :: l => if may t = true ∧ t.dist ≤ (o.length : Int) ∧ ((add o t).length : Int) ≤ most then expand most (add o t) l else none
theorem expand_append (most : Int) (l r : List Tok) : ∀ o, expand most o (l ++ r) = (expand most o l).bind fun q => expand most q r := by
  induction l with
  | nil => intro o; rfl
  | cons t l ih =>
    intro o
    simp only [List.cons_append, expand]
    split
    · exact ih _
    · rfl
/-- how a text is split, from a place on -/
def split (s : List UInt8) : Nat → Nat → List Tok
  | 0, _ => []
  | k + 1, p => if s.length ≤ p then [] else
    if (longest s p).1 = 0 then ⟨(s.getD p 0).toNat, 0, 0⟩ :: split s k (p + 1)
    else ⟨0, (longest s p).2, (longest s p).1⟩ :: split s k (p + (longest s p).1)
def step1 (s : List UInt8) (p : Nat) : Tok := if (longest s p).1 = 0 then ⟨(s.getD p 0).toNat, 0, 0⟩ else ⟨0, (longest s p).2, (longest s p).1⟩
def next (s : List UInt8) (p : Nat) : Nat := if (longest s p).1 = 0 then p + 1 else p + (longest s p).1
theorem split_more (s : List UInt8) (k p : Nat) (h : p < s.length) : split s (k + 1) p = step1 s p :: split s k (next s p) := by
  rw [split, if_neg (by omega)]
  unfold step1 next
  split <;> rfl
theorem split_done (s : List UInt8) (k p : Nat) (h : s.length ≤ p) : split s k p = [] := by
  cases k with
  | zero => rfl
  | succ k => rw [split, if_pos h]
theorem next_gt (s : List UInt8) (p : Nat) : p < next s p := by
  unfold next
  split <;> omega
theorem next_le (s : List UInt8) (p : Nat) (h : p < s.length) : next s p ≤ s.length := by
  unfold next
  split
  · omega
  · rename_i h0
    rcases (longest_best s p).hit with ⟨h1, _⟩ | ⟨_, _, _, h4, _⟩
    · exact absurd h1 h0
    · exact h4.1
/-- enough rounds are enough -/
theorem split_fuel (s : List UInt8) : ∀ (k j p : Nat), s.length ≤ p + k → s.length ≤ p + j → split s k p = split s j p
  | 0, j, p, h, _ => by rw [split_done s j p (by omega)]; rfl
  | k + 1, 0, p, _, h => by rw [split_done s (k + 1) p (by omega)]; rfl
  | k + 1, j + 1, p, h1, h2 => by
    by_cases h : p < s.length
    · have := next_gt s p
      rw [split_more s k p h, split_more s j p h, split_fuel s k j (next s p) (by omega) (by omega)]
    · rw [split_done s _ p (by omega), split_done s _ p (by omega)]
theorem split_length (s : List UInt8) : ∀ (k p : Nat), (split s k p).length ≤ s.length - p
  | 0, p => by simp [split]
  | k + 1, p => by
    by_cases h : p < s.length
    · rw [split_more s k p h, List.length_cons]
      have h1 := split_length s k (next s p)
      have h2 := next_gt s p
      omega
    · rw [split_done s _ p (by omega)]; simp
theorem take_getD (s : List UInt8) (k : Nat) (h : k < s.length) : s.take (k + 1) = s.take k ++ [s.getD k 0] := by
  rw [List.take_succ_eq_append_getElem h]; simp [h]
theorem copy_take {s : List UInt8} {p d n : Nat} (h : alike s p d n) : copy (s.take p) d n = s.take (p + n) := by
  induction n with
  | zero => rfl
  | succ n ih =>
    have h1 := ih (alike_less h (by omega))
    have hl : (s.take p).length = p := by rw [List.length_take]; have := h.1; omega
    rw [copy_succ, h1, hl, show p + (n + 1) = p + n + 1 by omega, take_getD s (p + n) (by have := h.1; omega)]
    congr 2
    rw [List.getD_eq_getElem?_getD, List.getElem?_take, if_pos (by have := h.2.1; have := h.2.2.1; omega), ← List.getD_eq_getElem?_getD, h.2.2.2 n (by omega)]
theorem add_step (s : List UInt8) (p : Nat) (h : p < s.length) : add (s.take p) (step1 s p) = s.take (next s p) := by
  unfold step1 next add
  by_cases h0 : (longest s p).1 = 0
  · rw [if_pos h0, if_pos h0, if_pos rfl, take_getD s p h]
    simp
  · rw [if_neg h0, if_neg h0, if_neg (by simpa using h0)]
    rcases (longest_best s p).hit with ⟨h1, _⟩ | ⟨_, _, _, h4, _⟩
    · exact absurd h1 h0
    · simpa using copy_take h4
theorem step_may (s : List UInt8) (p : Nat) : may (step1 s p) = true := by
  unfold step1
  by_cases h0 : (longest s p).1 = 0
  · rw [if_pos h0]
    generalize s.getD p 0 = c
    have := c.toNat_lt
    simp [may]; omega
  · rw [if_neg h0]
    rcases (longest_best s p).hit with ⟨h1, _⟩ | ⟨h1, h2, h3, h4, _⟩
    · exact absurd h1 h0
    · have := h4.2.1
      simp [may, h0]; omega
theorem step_dist (s : List UInt8) (p : Nat) : (step1 s p).dist ≤ p := by
  unfold step1
  by_cases h0 : (longest s p).1 = 0
  · rw [if_pos h0]; simp
  · rw [if_neg h0]
    rcases (longest_best s p).hit with ⟨h1, _⟩ | ⟨_, _, _, h4, _⟩
    · exact absurd h1 h0
    · have := h4.2.2.1
      simp; omega
theorem split_may (s : List UInt8) : ∀ (k p : Nat), ∀ t ∈ split s k p, may t = true
  | 0, p => by simp [split]
  | k + 1, p => by
    by_cases h : p < s.length
    · rw [split_more s k p h]
      intro t ht
      rcases List.mem_cons.1 ht with rfl | ht
      · exact step_may s p
      · exact split_may s k _ t ht
    · rw [split_done s _ p (by omega)]; simp
/-- what is split is expanded to what it was -/
theorem expand_split (s : List UInt8) (most : Int) (hm : (s.length : Int) ≤ most) : ∀ (k p : Nat), s.length ≤ p + k → p ≤ s.length → expand most (s.take p) (split s k p) = some s
  | 0, p, h, hp => by
    rw [split, expand, List.take_of_length_le (by omega)]
  | k + 1, p, h, hp => by
    by_cases hlt : p < s.length
    · have h1 := next_gt s p
      have h2 := next_le s p hlt
      have hl : (s.take p).length = p := by rw [List.length_take]; omega
      rw [split_more s k p hlt, expand, add_step s p hlt, if_pos ⟨step_may s p, by rw [hl]; exact step_dist s p, by rw [List.length_take]; omega⟩]
      exact expand_split s most hm k (next s p) (by omega) h2
    · rw [split_done s _ p (by omega), expand, List.take_of_length_le (by omega)]
theorem add_len (o : List UInt8) (t : Tok) : (add o t).length = o.length + (if t.len = 0 then 1 else t.len.toNat) := by
  unfold add
  split
  · simp
  · rw [copy_length]
/-- the bytes that tokens tell are as many whatever room there is -/
theorem expand_room (most less : Int) : ∀ (l : List Tok) (o q r : List UInt8), expand most o l = some q → expand less o l = some r → q = r
  | [], o, q, r, h1, h2 => by simp [expand] at h1 h2; rw [← h1, ← h2]
  | t :: l, o, q, r, h1, h2 => by
    rw [expand] at h1 h2
    split at h1
    · split at h2
      · exact expand_room most less l _ q r h1 h2
      · simp at h2
    · simp at h1
theorem expand_most (most : Int) : ∀ (l : List Tok) (o q : List UInt8), expand most o l = some q → l ≠ [] → (q.length : Int) ≤ most
  | [], o, q, h1, h2 => absurd rfl h2
  | [t], o, q, h1, _ => by
    rw [expand] at h1
    split at h1
    · rename_i h; simp [expand] at h1; rw [← h1]; exact h.2.2
    · simp at h1
  | t :: u :: l, o, q, h1, _ => by
    rw [expand] at h1
    split at h1
    · exact expand_most most (u :: l) _ q h1 (by simp)
    · simp at h1
/-- with a byte less room it is not -/
theorem expand_less (s : List UInt8) (hs : s ≠ []) : expand ((s.length : Int) - 1) [] (split s s.length 0) = none := by
  cases h : expand ((s.length : Int) - 1) [] (split s s.length 0) with
  | none => rfl
  | some r =>
    have h0 := expand_split s s.length (Int.le_refl _) s.length 0 (by omega) (by omega)
    rw [List.take_zero] at h0
    have e := expand_room _ _ _ _ _ _ h0 h
    have hpos : 0 < s.length := List.length_pos_iff.2 hs
    obtain ⟨k, hk⟩ : ∃ k, s.length = k + 1 := ⟨s.length - 1, by omega⟩
    have hne : split s s.length 0 ≠ [] := by rw [hk, split_more s k 0 hpos]; simp
    have := expand_most _ _ _ _ h hne
    rw [← e] at this
    omega
/-! ### a byte, many times -/
theorem rep_get (c : UInt8) (n i : Nat) (h : i < n) : (List.replicate n c).getD i 0 = c := by simp [h]
theorem rep_first (c : UInt8) (n : Nat) : longest (List.replicate n c) 0 = (0, 0) :=
  best_longest ⟨fun e m h1 h2 h3 h4 => by have := h4.2.1; have := h4.2.2.1; omega, .inl ⟨rfl, rfl⟩⟩
theorem rep_long (c : UInt8) (n p : Nat) (h1 : 1 ≤ p) (h3 : p + 3 ≤ n) : longest (List.replicate n c) p = (min 18 (n - p), 1) := by
  refine best_longest ⟨fun e m e1 e2 e3 e4 => ?_, .inr ⟨by omega, by omega, by omega, ⟨?_, by omega, h1, fun i hi => ?_⟩, fun e he ha => ?_⟩⟩
  · have := e4.1; rw [List.length_replicate] at this; omega
  · rw [List.length_replicate]; omega
  · rw [rep_get c n _ (by omega), rep_get c n _ (by omega)]
  · have := ha.2.1; omega
theorem rep_short (c : UInt8) (n p : Nat) (h3 : n < p + 3) : longest (List.replicate n c) p = (0, 0) :=
  best_longest ⟨fun e m h1 h2 h3 h4 => by have := h4.1; rw [List.length_replicate] at this; omega, .inl ⟨rfl, rfl⟩⟩
def many (r : Nat) : Nat := r / 18 + (if 3 ≤ r % 18 then 1 else r % 18)
theorem rep_split (c : UInt8) (n : Nat) : ∀ (k p : Nat), 1 ≤ p → n ≤ p + k → (split (List.replicate n c) k p).length = many (n - p)
  | 0, p, h1, h2 => by
    rw [split, show n - p = 0 by omega]; rfl
  | k + 1, p, h1, h2 => by
    by_cases h : p < n
    · rw [split_more _ k p (by rw [List.length_replicate]; exact h), List.length_cons]
      unfold next
      by_cases h3 : p + 3 ≤ n
      · rw [rep_long c n p h1 h3]
        have h18 : min 18 (n - p) ≠ 0 := by omega
        simp only [if_neg h18]
        rw [rep_split c n k _ (by omega) (by omega)]
        unfold many
        by_cases h4 : 18 ≤ n - p
        · rw [show n - (p + min 18 (n - p)) = n - p - 18 by omega]
          have e1 : (n - p) / 18 = (n - p - 18) / 18 + 1 := by omega
          have e2 : (n - p) % 18 = (n - p - 18) % 18 := by omega
          rw [e1, e2]; omega
        · rw [show n - (p + min 18 (n - p)) = 0 by omega]
          have e1 : (n - p) / 18 = 0 := by omega
          have e2 : (n - p) % 18 = n - p := by omega
          rw [e1, e2, if_pos (by omega : 3 ≤ n - p)]; rfl
      · rw [rep_short c n p (by omega)]
        simp only [if_true]
        rw [rep_split c n k _ (by omega) (by omega)]
        unfold many
        have e1 : (n - p) / 18 = 0 := by omega
        have e2 : (n - p) % 18 = n - p := by omega
        have e3 : (n - (p + 1)) / 18 = 0 := by omega
        have e4 : (n - (p + 1)) % 18 = n - (p + 1) := by omega
        rw [e1, e2, e3, e4, if_neg (by omega), if_neg (by omega)]; omega
    · rw [split_done _ _ p (by rw [List.length_replicate]; omega), show n - p = 0 by omega]; rfl
theorem rep_count (c : UInt8) (n : Nat) (h : 0 < n) : (split (List.replicate n c) n 0).length = 1 + many (n - 1) := by
  obtain ⟨k, rfl⟩ : ∃ k, n = k + 1 := ⟨n - 1, by omega⟩
  rw [split_more _ k 0 (by rw [List.length_replicate]; exact h), List.length_cons]
  unfold next
  rw [rep_first]
  simp only [if_true, Nat.zero_add]
  rw [rep_split c (k + 1) k 1 (by omega) (by omega)]
  omega
theorem rep_second (c : UInt8) (n : Nat) (h : 4 ≤ n) : ∃ (b l : Int) (r : List Tok), split (List.replicate n c) n 0 = ⟨c.toNat, 0, 0⟩ :: ⟨b, 1, l⟩ :: r := by
  obtain ⟨k, rfl⟩ : ∃ k, n = k + 2 := ⟨n - 2, by omega⟩
  rw [split_more _ (k + 1) 0 (by rw [List.length_replicate]; omega)]
  have e : next (List.replicate (k + 2) c) 0 = 1 := by unfold next; rw [rep_first]; rfl
  rw [e, split_more _ k 1 (by rw [List.length_replicate]; omega)]
  refine ⟨0, (min 18 (k + 2 - 1) : Nat), split (List.replicate (k + 2) c) k (next (List.replicate (k + 2) c) 1), ?_⟩
  unfold step1
  rw [rep_first, rep_long c (k + 2) 1 (by omega) (by omega)]
  have h18 : min 18 (k + 2 - 1) ≠ 0 := by omega
  simp only [if_true, if_neg h18]
  rw [rep_get c _ 0 (by omega)]
  rfl
end Go.Proofs.Ythehjhckcblbdaa.Mt
/-
  Contract of the document's May.
-/
namespace Go.Proofs.Ythehjhckcblbdaa.Ma
set_option maxRecDepth 100000
open Go.RowKit Mt Go.Lib
def tokV (t : Tok) : Value := .agg #[.int .i64 t.byte, .int .i64 t.dist, .int .i64 t.len]
theorem ret_bool {a b : Bool} (h : a = b) : Ending.returned (.bool a) = .returned (.bool b) := by rw [h]
set_option maxHeartbeats 1000000 in
theorem may_ref (t : Tok) (w : World) : Calls Try.prog 40 #[tokV t] w fun e w' => e = .returned (.bool (may t)) ∧ Below w.heap.size w w' := by
  have hB := Lib.hid (fun o => (Below.refl w.heap.size w).alloc (Nat.le_refl _) o)
  obtain ⟨b, d, n⟩ := t
  unfold tokV
  generalize hv : may ⟨b, d, n⟩ = v
  have HV := Lib.hid hv
  clear hv
  go_enter Try.func40, Try.ntmps40
  go_wp2
  all_goals
    go_ret
    refine ⟨ret_bool ?_, hB.out _⟩
    rw [← HV.out]
    simp only [may]
    clear HV hB
    try simp only [beq_iff_eq, beq_eq_false_iff_ne, ne_eq] at *
    split <;> (rw [Bool.eq_iff_iff]; simp only [Bool.and_eq_true, decide_eq_true_eq, Bool.false_eq_true]; constructor <;> intro hx <;> first | exact hx.elim | omega)
end Go.Proofs.Ythehjhckcblbdaa.Ma
/-
  A row of bytes of the call's own; tokens that lie in memory; a token's box.
-/
namespace Go.Proofs.Ythehjhckcblbdaa.Ma
set_option maxRecDepth 100000
open Go.RowKit Mt Go.Lib
theorem info5 : (Try.prog.info? 5).map (fun i => (i.zero, i.size, i.bytes)) = some (some (.int .u8 0), 1, 1) := by kernel_rfl
def pb (o : List UInt8) : List Value := o.map fun x => Value.int .u8 (x.toNat : Int)
theorem pb_one (o : List UInt8) : ∀ u ∈ pb o, u.oneCell' = true := fun u hu => by
  obtain ⟨j, _, rfl⟩ := List.mem_map.1 hu
  rfl
/-- a row of bytes of the call's own -/
structure RowU (w0 w : World) (g cap : Nat) (o : List UInt8) : Prop where
  own : w.ownsRow w0.heap.size 5 1 (.slice (some ⟨g, 0, Option.none⟩) o.length cap) o.length (pb o)
  below : Below w0.heap.size w0 w
theorem RowU.text {o : List UInt8} {w0 w : World} {g cap : Nat} (h : RowU w0 w g cap o) : (convert 66 9 (.slice (some ⟨g, 0, Option.none⟩) o.length cap)).run Try.prog w = .ok (.string ⟨o.toArray⟩) w := by
  refine run_convert_bytes_back w 66 9 5 ⟨g, 0, Option.none⟩ cap o Try.underlying66 Try.underlying5 Try.underlying9 (fun j hj => ?_)
  exact h.own.cells (g := g) rfl j (.int .u8 (o[j].toNat : Int)) (by unfold pb; rw [List.getElem?_map, List.getElem?_eq_getElem hj]; rfl)
theorem RowU.cell {o : List UInt8} {w0 w : World} {g cap : Nat} (h : RowU w0 w g cap o) (j : Nat) (hj : j < o.length) : w.cell? ⟨g, j, Option.none⟩ = some (.int .u8 ((o.getD j 0).toNat : Int)) := by
  have := h.own.cells (g := g) rfl j (.int .u8 ((o.getD j 0).toNat : Int)) (by unfold pb; rw [List.getElem?_map, List.getElem?_eq_getElem hj]; simp [hj])
  rwa [Addr.add_lit, Nat.zero_add] at this
theorem RowU.cap {w0 w : World} {g cap : Nat} {o : List UInt8} (h : RowU w0 w g cap o) : o.length ≤ cap ∧ cap ≤ maxLen := by
  rcases h.own.2 with ⟨h1, _⟩ | ⟨g', cap', cur, h1, _, _, h2, h3, _⟩
  · cases h1
  · cases h1; exact ⟨h2, h3⟩
theorem RowU.more {w0 wr w2 w3 : World} {g cap : Nat} {l m : List UInt8} {v : Value} (h : RowU w0 wr g cap l) (hb : Below wr.heap.size wr w2)
    (own1 : w3.ownsRow w0.heap.size 5 1 v (l.length + m.length) (pb l ++ pb m)) (gr : w2.grownBy w3 (Value.slice (some ⟨g, 0, Option.none⟩) l.length cap).ownBlock)
    (nn : ¬ v = .slice Option.none 0 0) : ∃ g1 c1, v = .slice (some ⟨g1, 0, Option.none⟩) (l.length + m.length) c1 ∧ RowU w0 w3 g1 c1 (l ++ m) := by
  obtain ⟨g1, c1, rfl⟩ := own_some own1 nn
  refine ⟨g1, c1, rfl, by simpa [pb] using own1, ?_⟩
  have hb2 : Below w0.heap.size w0 w2 := h.below.trans (hb.mono h.below.size)
  exact hb2.grown gr hb2.size (fun b hb => (h.own.lt b hb).1)
theorem one_byte (wr : World) (x : UInt8) : ∀ j u, (pb [x])[j]? = some u → (wr.alloc (.cells #[.int .u8 (x.toNat : Int)] 5)).cell? ((⟨wr.heap.size, 0, Option.none⟩ : Addr).add j) = some u := fun j u hj => by
  match j, hj with
  | 0, hj => simp [pb] at hj; subst hj; simp [Addr.add]
  | j + 1, hj => simp [pb] at hj
/-- tokens that lie from a place on -/
structure ToksAt (w : World) (blk off : Nat) (T : List Tok) : Prop where
  byte : ∀ i (h : i < T.length), w.cell? ⟨blk, off + i * 3, Option.none⟩ = some (.int .i64 T[i].byte)
  dist : ∀ i (h : i < T.length), w.cell? ⟨blk, off + i * 3 + 1, Option.none⟩ = some (.int .i64 T[i].dist)
  len : ∀ i (h : i < T.length), w.cell? ⟨blk, off + i * 3 + 2, Option.none⟩ = some (.int .i64 T[i].len)
theorem ToksAt.below {w w' : World} {blk off : Nat} {T : List Tok} (h : ToksAt w blk off T) (hb : Below w.heap.size w w') : ToksAt w' blk off T :=
  ⟨fun i hi => by rw [hb.cell (p := ⟨blk, off + i * 3, Option.none⟩) (World.block_lt_of_cell? w _ (h.byte i hi))]; exact h.byte i hi,
   fun i hi => by rw [hb.cell (p := ⟨blk, off + i * 3 + 1, Option.none⟩) (World.block_lt_of_cell? w _ (h.dist i hi))]; exact h.dist i hi,
   fun i hi => by rw [hb.cell (p := ⟨blk, off + i * 3 + 2, Option.none⟩) (World.block_lt_of_cell? w _ (h.len i hi))]; exact h.len i hi⟩
theorem may_at {w0 w : World} {blk off : Nat} {T : List Tok} (h : ToksAt w0 blk off T) (hb : Below w0.heap.size w0 w) (i : Nat) (hi : i < T.length) :
    w.cell? ⟨blk, off + i * 3, Option.none⟩ = some (.int .i64 T[i].byte) ∧ w.cell? ⟨blk, off + i * 3 + 1, Option.none⟩ = some (.int .i64 T[i].dist) ∧ w.cell? ⟨blk, off + i * 3 + 2, Option.none⟩ = some (.int .i64 T[i].len) :=
  ⟨(h.below hb).byte i hi, (h.below hb).dist i hi, (h.below hb).len i hi⟩
end Go.Proofs.Ythehjhckcblbdaa.Ma
/-
  Contract of the document's Expand: what tokens tell.
-/
namespace Go.Proofs.Ythehjhckcblbdaa.Ma
set_option maxRecDepth 100000
open Go.RowKit Mt Go.Lib
def told (x : Option (List UInt8)) : Value := match x with
  | some q => .tuple #[.string ⟨q.toArray⟩, .bool true]
  | none => .tuple #[.string ⟨#[]⟩, .bool false]
theorem RowU.later {w0 wr w1 : World} {g cap : Nat} {o : List UInt8} (h : RowU w0 wr g cap o) (hb : Below wr.heap.size wr w1) : RowU w0 w1 g cap o :=
  ⟨h.own.kept (row := Option.none) ⟨hb.os, hb.tape, hb.output, hb.size, fun k hk _ => hb.block k hk⟩ (by simp [Value.ownBlock]), h.below.next hb⟩
/-- a token that is a byte -/
theorem may_byte (t : Tok) (a : may t = true) (h : t.len = 0) : ∃ x : UInt8, t.byte = (x.toNat : Int) ∧ t.dist = 0 ∧ True ∧ ∀ o, add o t = o ++ [x] := by
  obtain ⟨b, d, n⟩ := t
  simp only at h
  subst h
  by_cases hd : d = 0
  · subst hd
    simp [may] at a
    refine ⟨UInt8.ofNat b.toNat, by simp; omega, rfl, trivial, fun o => by simp [add]⟩
  · simp [may, hd] at a
/-- a token that is a copy -/
theorem may_copy (t : Tok) (a : may t = true) (h : ¬ t.len = 0) : ∃ d n : Nat, t.byte = 0 ∧ t.dist = (d : Int) ∧ t.len = (n : Int) ∧ 1 ≤ d ∧ 3 ≤ n ∧ n ≤ 18 := by
  obtain ⟨b, d, n⟩ := t
  simp only at h
  simp [may, h] at a
  obtain ⟨⟨⟨⟨h1, h2⟩, h3⟩, h4⟩, h5⟩ := a
  exact ⟨d.toNat, n.toNat, h1, by simp; omega, by simp; omega, by omega, by omega, by omega⟩
/-- a token's box, in a later world -/
theorem box_cells (wr : World) (t : Tok) (w1 : World) (hb : Below (wr.alloc (.cells #[.int .i64 t.byte, .int .i64 t.dist, .int .i64 t.len] 48)).heap.size (wr.alloc (.cells #[.int .i64 t.byte, .int .i64 t.dist, .int .i64 t.len] 48)) w1) :
    w1.heap[wr.heap.size]? = some (.cells #[.int .i64 t.byte, .int .i64 t.dist, .int .i64 t.len] 48 (0, 0)) ∧ w1.cell? ⟨wr.heap.size, 0, Option.none⟩ = some (.int .i64 t.byte) ∧ w1.cell? ⟨wr.heap.size, 1, Option.none⟩ = some (.int .i64 t.dist) ∧ w1.cell? ⟨wr.heap.size, 2, Option.none⟩ = some (.int .i64 t.len) := by
  have h0 : w1.heap[wr.heap.size]? = some (.cells #[.int .i64 t.byte, .int .i64 t.dist, .int .i64 t.len] 48 (0, 0)) := by
    rw [hb.block _ (by simp)]; exact heap_alloc_new wr _
  exact ⟨h0, by rw [cell_of_row w1 _ 0 _ 48 (0, 0) h0]; rfl, by rw [cell_of_row w1 _ 1 _ 48 (0, 0) h0]; rfl, by rw [cell_of_row w1 _ 2 _ 48 (0, 0) h0]; rfl⟩
theorem box_grown {b : Nat} {w1 w3 : World} {x y z : Value} {O : Obj} {row : Option Nat} (h : w1.heap[b]? = some (.cells #[x, y, z] 48 (0, 0))) (gr : (w1.alloc O).grownBy w3 row) (hne : ¬ row = some b) :
    w3.heap[b]? = some (.cells #[x, y, z] 48 (0, 0)) := by
  have hlt : b < w1.heap.size := (Array.getElem?_eq_some_iff.1 h).1
  rw [gr.block _ (by simp; omega) (fun e => hne e.symm), _root_.Go.heap_alloc_old w1 _ hlt]
  exact h
theorem box_cell1 {w : World} {b : Nat} {x y z : Value} (h : w.heap[b]? = some (.cells #[x, y, z] 48 (0, 0))) : w.cell? ⟨b, 1, Option.none⟩ = some y := by rw [cell_of_row w b 1 _ 48 (0, 0) h]; rfl
theorem box_cell2 {w : World} {b : Nat} {x y z : Value} (h : w.heap[b]? = some (.cells #[x, y, z] 48 (0, 0))) : w.cell? ⟨b, 2, Option.none⟩ = some z := by rw [cell_of_row w b 2 _ 48 (0, 0) h]; rfl
theorem RowU.apart {w0 w : World} {g c b : Nat} {o : List UInt8} {cs : Array Value} (h : RowU w0 w g c o) (hb : w.heap[b]? = some (.cells cs 48 (0, 0))) : ¬ g = b := by
  rintro rfl
  rcases h.own.2 with ⟨h1, _⟩ | ⟨g', cap', cur, h1, _, h2, _⟩
  · cases h1
  · cases h1
    rw [h2] at hb
    cases hb
set_option maxHeartbeats 1000000 in
theorem expand_ref (T : List Tok) (blk off cap : Nat) (most : Int) (hn : T.length ≤ 2000) (w : World) (hT : ToksAt w blk off T) :
    Calls Try.prog 27 #[.slice (some ⟨blk, off, Option.none⟩) T.length cap, .int .i64 most] w fun e w' => e = .returned (told (expand most [] T)) ∧ Below w.heap.size w w' := by
  have zn : (T.length : Int) ≤ 2000 := by omega
  have H0 : Hid (RowU w (w.alloc (.cells #[] 5)) w.heap.size 0 []) := ⟨World.ownsRow_made w #[] 0 (Nat.le_refl _) (by decide) rfl, (Below.refl _ _).alloc (Nat.le_refl _) _⟩
  obtain ⟨i0, hi0, hz0, hz1, hz2⟩ := info_parts info5
  have HT := Lib.hid hT
  clear hT
  generalize hR : expand most [] T = R
  have HR0 : Hid (expand most [] (T.drop 0) = R) := Lib.hid (by rw [List.drop_zero]; exact hR)
  clear hR
  go_enter Try.func27, Try.ntmps27
  go_wp2
  go_loopw [6, 7, 8, 9] (fun v n _ _ wr => ∃ (i g c L : Nat) (o : List UInt8), i ≤ T.length ∧ n = .int .i64 i ∧ v = .slice (some ⟨g, 0, Option.none⟩) L c ∧ Hid (L = o.length) ∧ L ≤ 18 * i ∧ Hid (RowU w wr g c o) ∧ Hid (expand most o (T.drop i) = R)) (fun _ n _ _ _ => T.length - (RowKit.intOf n).toNat)
  case atStart => exact ⟨0, _, 0, 0, [], by omega, rfl, rfl, Lib.hid rfl, by omega, H0, HR0⟩
  case round =>
    clear H0 HR0
    obtain ⟨i, g, c, L, o, hi, rfl, rfl, HL, hL, HS, HE⟩ := hrel
    by_cases hlt : i < T.length
    · obtain ⟨c1, c2, c3⟩ := may_at HT.out HS.out.below i hlt
      have HD : Hid (T.drop i = T[i] :: T.drop (i + 1)) := by show _ = _; exact List.drop_eq_getElem_cons hlt
      have ii : (i : Int) < T.length := by omega
      generalize T[i] = t at c1 c2 c3 HD
      have km : ∀ w, Calls Try.prog 40 #[.agg #[.int .i64 t.byte, .int .i64 t.dist, .int .i64 t.len]] w fun e w' => e = .returned (.bool (may t)) ∧ Below w.heap.size w w' := fun w => may_ref t w
      rw [HD.out, expand] at HE
      have arm : may t = false ∨ (may t = true ∧ (L : Int) < t.dist) ∨ (may t = true ∧ t.dist ≤ (L : Int) ∧ t.len = 0) ∨ (may t = true ∧ t.dist ≤ (L : Int) ∧ ¬ t.len = 0) := by
        cases may t
        · exact .inl rfl
        · by_cases h1 : t.dist ≤ (L : Int)
          · by_cases h2 : t.len = 0
            · exact .inr (.inr (.inl ⟨rfl, h1, h2⟩))
            · exact .inr (.inr (.inr ⟨rfl, h1, h2⟩))
          · exact .inr (.inl ⟨rfl, by omega⟩)
      rcases arm with a | ⟨a, a2⟩ | ⟨a, a2, a3⟩ | ⟨a, a2, a3⟩
      · have HR : Hid (R = none) := by show _ = _; rw [← HE.out, a]; rfl
        rw [a] at km
        clear a
        go_wp2_with (go_at_call 40; ((with_reducible refine (km _).mono ?_); rintro e w1 ⟨rfl, H1⟩; replace H1 := Lib.hid H1))
        go_ret2
        rw [HR.out]
        exact ⟨rfl, (belowNew HS.out.below _).next H1.out⟩
      · have HR : Hid (R = none) := by show _ = _; rw [← HE.out, if_neg (by rw [← HL.out]; omega)]
        rw [a] at km
        clear a
        have q := fun w1 (hb : Below (wr.alloc (Obj.cells #[Value.int IntKind.i64 t.byte, Value.int IntKind.i64 t.dist, Value.int IntKind.i64 t.len] 48)).heap.size (wr.alloc (Obj.cells #[Value.int IntKind.i64 t.byte, Value.int IntKind.i64 t.dist, Value.int IntKind.i64 t.len] 48)) w1) => box_cells wr t w1 hb
        go_wp2_with (go_at_call 40; ((with_reducible refine (km _).mono ?_); rintro e w1 ⟨rfl, H1⟩; obtain ⟨q0, q1, q2, q3⟩ := q _ H1; replace H1 := Lib.hid H1))
        go_ret2
        rw [HR.out]
        exact ⟨rfl, (belowNew HS.out.below _).next H1.out⟩
      · obtain ⟨x, hx1, hx2, hx3, hx4⟩ := may_byte t a a3
        have hx5 : t.dist ≤ (o.length : Int) := by rw [hx2]; omega
        obtain ⟨tb, td, tn⟩ := t
        simp only at hx1 hx2 a3
        subst hx1 hx2 a3
        have hxl : (x.toNat : Int) ≤ 255 := by have := x.toNat_lt; omega
        have hal : (add o ⟨x.toNat, 0, 0⟩).length = o.length + 1 := by rw [hx4]; simp
        rw [a] at km
        rw [hal, hx4] at HE
        have q := fun w1 hb => box_cells wr ⟨x.toNat, 0, 0⟩ w1 hb
        clear hx4 hal hx3
        have zL : L ≤ 36000 := by omega
        go_wp2_with (first
          | (go_at_call 40; ((with_reducible refine (km _).mono ?_); rintro e w1 ⟨rfl, H1⟩; obtain ⟨qb, q0, q1, q2⟩ := q _ H1; have HS1 := Lib.hid (HS.out.later ((Below.refl _ _).alloc (Nat.le_refl _) _ |>.next H1)); have o1 := (fun O => (HS1.out.own).alloc (w := w1) O); rw [← HL.out] at o1; have o2 := one_byte w1 x; have o3 : w.heap.size ≤ (w1.alloc (.cells #[.int .u8 (x.toNat : Int)] 5)).heap.size := (by have := HS1.out.below.size; simp; omega); replace H1 := Lib.hid H1))
          | (at_builtin; refine wpList_append_own _ rfl _ _ 66 rfl w.heap.size 5 i0 (.int .u8 0) 1 1 Try.underlying66 hi0 hz0 hz1 hz2 rfl (by decide) _ L (pb o) rfl (o1 _) ⟨_, 0, Option.none⟩ 1 1 (pb [x]) rfl rfl o2 (pb_one _) (by unfold maxLen; omega) (by omega) o3 ?_)
          | go_in)
        intro v1 w3 own1 gr1 nn1
        obtain ⟨g2, cc, hv1, HN⟩ := HS1.out.more (m := [x]) ((Below.refl _ _).alloc (Nat.le_refl _) (.cells #[.int .u8 (x.toNat : Int)] 5)) (by rw [← HL.out]; exact own1) (by rw [← HL.out]; exact gr1) nn1
        rw [← HL.out] at hv1
        replace hv1 : v1 = .slice (some ⟨g2, 0, Option.none⟩) (L + 1) cc := hv1
        subst hv1
        have hbx := box_grown qb gr1 (by have := (HS.out.own.lt g rfl).2; simp [Value.ownBlock]; omega)
        have qz := box_cell2 hbx
        replace HN := Lib.hid HN
        have HL2 : Hid (L + 1 = (o ++ [x]).length) := by show _ = _; rw [List.length_append, ← HL.out]; rfl
        clear own1 gr1 nn1 o1 o2 o3 HS HS1 H1 q0 q1 q2 km q c1 c2 c3 qb hbx
        go_wp2
        go_loopw [6, 9] (fun v k wz => v = .slice (some ⟨g2, 0, Option.none⟩) (L + 1) cc ∧ k = .int .i64 0 ∧ wz = w3) (fun _ _ _ => 0)
        case atStart => exact ⟨rfl, rfl, rfl⟩
        case round =>
        obtain ⟨rfl, rfl, rfl⟩ := hrel
        by_cases hm : (L : Int) + 1 ≤ most
        · rw [if_pos ⟨a, by omega, by rw [← HL.out]; omega⟩] at HE
          go_wp2
          go_roundw
          case rel => exact ⟨i + 1, g2, cc, _, o ++ [x], by omega, by go_num, rfl, HL2, by omega, HN, HE⟩
          case measure => simp [RowKit.intOf]; omega
        · have HR : Hid (R = none) := by show _ = _; rw [← HE.out, if_neg (by rw [← HL.out]; omega)]
          go_wp2
          go_ret2
          rw [HR.out]
          exact ⟨rfl, HN.out.below⟩
      · obtain ⟨d, n, hx1, hx2, hx3, hx4, hx5, hx6⟩ := may_copy t a a3
        obtain ⟨tb, td, tn⟩ := t
        simp only at hx1 hx2 hx3
        subst hx1 hx2 hx3
        have hdo : d ≤ o.length := by rw [← HL.out]; simp only at a2; omega
        have hal : add o ⟨0, d, n⟩ = copy o d n := by unfold add; rw [if_neg a3]; simp
        rw [a] at km
        rw [hal] at HE
        have hcl : (copy o d n).length = L + n := by rw [copy_length, HL.out]
        have q := fun w1 hb => box_cells wr ⟨0, d, n⟩ w1 hb
        have zL : L ≤ 36000 := by omega
        have zd : (1 : Int) ≤ d := by omega
        have zd2 : (d : Int) ≤ L := by rw [HL.out]; omega
        have zn2 : (n : Int) ≤ 18 := by omega
        have zn3 : ¬ ((n : Int) = 0) := by omega
        have zL2 : (L : Int) ≤ 36000 := by omega
        have f1 : decide (L < d) = false := decide_eq_false (by omega)
        have f2 : ((n : Int) == 0) = false := by simp; omega
        clear hal a2 a3
        go_wp2_with (first
          | (go_at_call 40; ((with_reducible refine (km _).mono ?_); rintro e w1 ⟨rfl, H1⟩; obtain ⟨qb, q0, q1, q2⟩ := q _ H1; have HS1 := Lib.hid (HS.out.later ((Below.refl _ _).alloc (Nat.le_refl _) _ |>.next H1)); replace H1 := Lib.hid H1))
          | go_in)
        clear km q HS c1 c2 c3
        generalize wr.heap.size = bx at *
        go_loopw [6, 9] (fun v k wz => ∃ (j g2 cc : Nat), j ≤ n ∧ v = .slice (some ⟨g2, 0, Option.none⟩) (L + j) cc ∧ k = .int .i64 j ∧ Hid (RowU w wz g2 cc (copy o d j)) ∧ Hid (wz.heap[bx]? = some (.cells #[.int .i64 0, .int .i64 d, .int .i64 n] 48 (0, 0)))) (fun _ k _ => n - (RowKit.intOf k).toNat)
        case atStart => exact ⟨0, g, c, by omega, rfl, rfl, HS1, Lib.hid qb⟩
        case round =>
          clear HS1 H1 q0 q1 q2 qb
          obtain ⟨j, g2, cc, hj, rfl, rfl, HS2, HQ⟩ := hrel
          have p1 := box_cell1 HQ.out
          have p2 := box_cell2 HQ.out
          by_cases hjn : j < n
          · have hlj : (copy o d j).length = L + j := by rw [copy_length, HL.out]
            obtain ⟨x, hx⟩ : ∃ x, x = (copy o d j).getD (L + j - d) 0 := ⟨_, rfl⟩
            have HP : Hid (copy o d (j + 1) = copy o d j ++ [x]) := by show _ = _; rw [copy_succ, hx, ← HL.out]
            have cx := HS2.out.cell (L + j - d) (by rw [hlj]; omega)
            rw [← hx] at cx
            obtain ⟨y, hy⟩ : ∃ y, y = L + j - d := ⟨_, rfl⟩
            rw [← hy] at cx
            have hyi : (L : Int) + j - d = y := by omega
            have hyl : (y : Int) < L + j := by omega
            have hcap : ((L + j : Nat) : Int) ≤ cc := by have := HS2.out.cap.1; omega
            have zj : (j : Int) < n := by omega
            have zj2 : (j : Int) ≤ 18 := by omega
            have o1 := (fun O => (HS2.out.own).alloc (w := wr) O)
            rw [hlj] at o1
            have o2 := one_byte wr x
            have o3 : w.heap.size ≤ (wr.alloc (.cells #[.int .u8 (x.toNat : Int)] 5)).heap.size := by have := HS2.out.below.size; simp; omega
            have hap := HS2.out.apart HQ.out
            have hylk : Hid (y < L + j) := by show _ < _; omega
            clear hx hy
            go_wp2_with (first
              | (at_builtin; refine wpList_append_own _ rfl _ _ 66 rfl w.heap.size 5 i0 (.int .u8 0) 1 1 Try.underlying66 hi0 hz0 hz1 hz2 rfl (by decide) _ (L + j) (pb (copy o d j)) rfl (o1 _) ⟨_, 0, Option.none⟩ 1 1 (pb [x]) rfl rfl o2 (pb_one _) (by unfold maxLen; omega) (by omega) o3 ?_)
              | go_in)
            intro v1 w3 own1 gr1 nn1
            have hbx := box_grown HQ.out gr1 (by simp [Value.ownBlock]; exact hap)
            obtain ⟨g3, cd, hv1, HN⟩ := HS2.out.more (m := [x]) ((Below.refl _ _).alloc (Nat.le_refl _) (.cells #[.int .u8 (x.toNat : Int)] 5)) (by rw [hlj]; exact own1) (by rw [hlj]; exact gr1) nn1
            rw [hlj] at hv1
            replace hv1 : v1 = .slice (some ⟨g3, 0, Option.none⟩) (L + (j + 1)) cd := hv1
            subst hv1
            rw [← HP.out] at HN
            replace HN := Lib.hid HN
            replace hbx := Lib.hid hbx
            clear own1 gr1 nn1 o1 o2 o3 HS2 HQ p1 p2 cx hlj hcap
            go_wp2
            go_roundw
            case rel => exact ⟨j + 1, g3, cd, by omega, rfl, by go_num, HN, hbx⟩
            case measure => simp [RowKit.intOf]; omega
          · have e : j = n := by omega
            subst e
            have HL2 : Hid (L + j = (copy o d j).length) := Lib.hid hcl.symm
            have hm' : ((copy o d j).length : Int) = L + j := by rw [hcl]; omega
            by_cases hm : (L : Int) + j ≤ most
            · rw [if_pos ⟨a, by omega, by rw [hm']; exact hm⟩] at HE
              clear hcl hm'
              go_wp2
              go_roundw
              case rel => exact ⟨i + 1, g2, cc, _, copy o d j, by omega, by go_num, rfl, HL2, by omega, HS2, HE⟩
              case measure => simp [RowKit.intOf]; omega
            · have HR : Hid (R = none) := by show _ = _; rw [← HE.out, if_neg (by rw [hm']; omega)]
              clear hcl hm'
              go_wp2
              go_ret2
              rw [HR.out]
              exact ⟨rfl, HS2.out.below⟩
    · have e : i = T.length := by omega
      have HR : Hid (R = some o) := by show _ = _; rw [← HE.out, e, List.drop_of_length_le (Nat.le_refl _)]; rfl
      have htx := HS.out.text
      rw [← HL.out] at htx
      subst e
      go_wp2
      go_ret2
      rw [HR.out]
      exact ⟨rfl, HS.out.below⟩
end Go.Proofs.Ythehjhckcblbdaa.Ma
/-
  A list of tokens, and where it lies.
-/
namespace Go.Proofs.Ythehjhckcblbdaa.Ma
set_option maxRecDepth 100000
open Go.RowKit Mt Go.Lib
/-- a list of tokens, and where it lies -/
def Lies (w : World) (p : Option Addr) (T : List Tok) (cap : Nat) : Prop := T.length ≤ cap ∧ cap ≤ maxLen ∧ (T = [] ∨ ∃ blk off, p = some ⟨blk, off, Option.none⟩ ∧ ToksAt w blk off T)
theorem Lies.below {w w' : World} {p : Option Addr} {T : List Tok} {cap : Nat} (h : Lies w p T cap) (hb : Below w.heap.size w w') : Lies w' p T cap := by
  refine ⟨h.1, h.2.1, ?_⟩
  rcases h.2.2 with k | ⟨blk, off, rfl, k⟩
  · exact .inl k
  · exact .inr ⟨blk, off, rfl, k.below hb⟩
end Go.Proofs.Ythehjhckcblbdaa.Ma
