/-
  Maths of copies: which copy is the longest, how a text is split, what tokens tell. No condition.
-/
import Derived.Test.YtdiimebcahhieaaRows
namespace Go.Proofs.Ytdiimebcahhieaa.Mt
/-- a token: a byte, how far, how long -/
structure Tok where
  byte : Int
  dist : Int
  len : Int
deriving DecidableEq
def may (t : Tok) : Bool :=
  if t.len = 0 ∧ t.dist = 0 then decide (0 ≤ t.byte) && decide (t.byte ≤ 255)
  else decide (t.byte = 0) && decide (1 ≤ t.dist) && decide (t.dist ≤ 255) && decide (3 ≤ t.len) && decide (t.len ≤ 18)
def alike (s : List UInt8) (p d n : Nat) : Prop := p + n ≤ s.length ∧ 1 ≤ d ∧ d ≤ p ∧ ∀ i, i < n → s.getD (p + i) 0 = s.getD (p + i - d) 0
instance (s : List UInt8) (p d n : Nat) : Decidable (alike s p d n) := by unfold alike; infer_instance
theorem alike_less {s : List UInt8} {p d n m : Nat} (h : alike s p d n) (hm : m ≤ n) : alike s p d m := ⟨by have := h.1; omega, h.2.1, h.2.2.1, fun i hi => h.2.2.2 i (by omega)⟩
/-- what the document tells of the longest copy -/
structure Best (s : List UInt8) (p n d : Nat) : Prop where
  top : ∀ e m, e ≤ 255 → m ≤ 18 → 3 ≤ m → alike s p e m → m ≤ n
  hit : n = 0 ∧ d = 0 ∨ 3 ≤ n ∧ n ≤ 18 ∧ d ≤ 255 ∧ alike s p d n ∧ ∀ e, e < d → ¬ alike s p e n
theorem Best.one {s : List UInt8} {p n d n' d' : Nat} (h : Best s p n d) (h' : Best s p n' d') : n = n' ∧ d = d' := by
  rcases h.hit with ⟨a1, a2⟩ | ⟨a1, a2, a3, a4, a5⟩ <;> rcases h'.hit with ⟨b1, b2⟩ | ⟨b1, b2, b3, b4, b5⟩
  · exact ⟨by omega, by omega⟩
  · have := h.top d' n' b3 b2 b1 b4; omega
  · have := h'.top d n a3 a2 a1 a4; omega
  · have e1 := h.top d' n' b3 b2 b1 b4
    have e2 := h'.top d n a3 a2 a1 a4
    have e : n = n' := by omega
    subst e
    refine ⟨rfl, ?_⟩
    rcases Nat.lt_trichotomy d d' with h1 | h1 | h1
    · exact absurd a4 (b5 d h1)
    · exact h1
    · exact absurd b4 (a5 d' h1)
/-- the least distance from e on (k of them) at which n bytes are alike -/
def near (s : List UInt8) (p n : Nat) : Nat → Nat → Option Nat
  | _, 0 => none
  | e, k + 1 => if alike s p e n then some e else near s p n (e + 1) k
theorem near_some {s : List UInt8} {p n : Nat} : ∀ {k e d : Nat}, near s p n e k = some d → alike s p d n ∧ e ≤ d ∧ d < e + k ∧ ∀ x, e ≤ x → x < d → ¬ alike s p x n
  | 0, _, _, h => by simp [near] at h
  | k + 1, e, d, h => by
    unfold near at h
    split at h
    · rename_i ha
      simp only [Option.some.injEq] at h
      subst h
      exact ⟨ha, Nat.le_refl _, by omega, fun x h1 h2 => by omega⟩
    · rename_i ha
      obtain ⟨h1, h2, h3, h4⟩ := near_some h
      refine ⟨h1, by omega, by omega, fun x hx1 hx2 => ?_⟩
      by_cases e1 : x = e
      · subst e1; exact ha
      · exact h4 x (by omega) hx2
theorem near_none {s : List UInt8} {p n : Nat} : ∀ {k e : Nat}, near s p n e k = none → ∀ x, e ≤ x → x < e + k → ¬ alike s p x n
  | 0, _, _ => fun x h1 h2 => by omega
  | k + 1, e, h => by
    unfold near at h
    split at h
    · simp at h
    · rename_i ha
      intro x h1 h2
      by_cases e1 : x = e
      · subst e1; exact ha
      · exact near_none h x (by omega) (by omega)
def seek (s : List UInt8) (p : Nat) : Nat → Nat × Nat
  | 0 => (0, 0)
  | n + 1 => if n + 1 < 3 then (0, 0) else match near s p (n + 1) 1 255 with
    | some d => (n + 1, d)
    | none => seek s p n
def longest (s : List UInt8) (p : Nat) : Nat × Nat := seek s p 18
theorem seek_best {s : List UInt8} {p : Nat} : ∀ {n : Nat}, n ≤ 18 → (∀ e m, e ≤ 255 → m ≤ 18 → 3 ≤ m → alike s p e m → m ≤ n) → Best s p (seek s p n).1 (seek s p n).2
  | 0, _, h => ⟨h, .inl ⟨rfl, rfl⟩⟩
  | n + 1, hn, h => by
    unfold seek
    split
    · rename_i h3
      exact ⟨fun e m h1 h2 h4 h5 => by have := h e m h1 h2 h4 h5; omega, .inl ⟨rfl, rfl⟩⟩
    · split
      · rename_i d hd
        obtain ⟨h1, h2, h3, h4⟩ := near_some hd
        refine ⟨h, .inr ⟨by omega, by omega, by omega, h1, fun e he => ?_⟩⟩
        by_cases e0 : e = 0
        · subst e0; intro ha; have := ha.2.1; omega
        · exact h4 e (by omega) he
      · rename_i hd
        refine seek_best (by omega) fun e m h1 h2 h3 h4 => ?_
        have h5 := h e m h1 h2 h3 h4
        by_cases e1 : m = n + 1
        · subst e1
          exact absurd h4 (near_none hd e h4.2.1 (by omega))
        · omega
theorem longest_best (s : List UInt8) (p : Nat) : Best s p (longest s p).1 (longest s p).2 := seek_best (Nat.le_refl _) fun _ _ _ h _ _ => h
theorem best_longest {s : List UInt8} {p n d : Nat} (h : Best s p n d) : longest s p = (n, d) := by
  obtain ⟨h1, h2⟩ := (longest_best s p).one h
  exact Prod.ext h1 h2
/-- what one token does to the bytes so far -/
def copy (o : List UInt8) (d : Nat) : Nat → List UInt8
  | 0 => o
  | n + 1 => copy (o ++ [o.getD (o.length - d) 0]) d n
def add (o : List UInt8) (t : Tok) : List UInt8 := if t.len = 0 then o ++ [UInt8.ofNat t.byte.toNat] else copy o t.dist.toNat t.len.toNat
theorem copy_length (d : Nat) : ∀ (n : Nat) (o : List UInt8), (copy o d n).length = o.length + n
  | 0, _ => rfl
  | n + 1, o => by rw [copy, copy_length, List.length_append]; simp; omega
theorem copy_succ (d : Nat) : ∀ (n : Nat) (o : List UInt8), copy o d (n + 1) = copy o d n ++ [(copy o d n).getD (o.length + n - d) 0]
  | 0, o => by simp [copy]
  | n + 1, o => by rw [copy, copy_succ d n, copy, List.length_append]; simp only [List.length_cons, List.length_nil]; rw [show o.length + (0 + 1) + n - d = o.length + (n + 1) - d by omega]
/-- whether tokens tell bytes, and which; from front to back -/
def expand (most : Int) : List UInt8 → List Tok → Option (List UInt8)
  | o, [] => some o
  | o, t :: l => if may t = true ∧ t.dist ≤ (o.length : Int) ∧ ((add o t).length : Int) ≤ most then expand most (add o t) l else none
theorem expand_append (most : Int) (l r : List Tok) : ∀ o, expand most o (l ++ r) = (expand most o l).bind fun q => expand most q r := by
  induction l with
  | nil => intro o; rfl
  | cons t l ih =>
    intro o
    simp only [List.cons_append, expand]
    split
    · exact ih _
    · rfl
/-- how a text is split, from a place on -/
def split (s : List UInt8) : Nat → Nat → List Tok
  | 0, _ => []
  | k + 1, p => if s.length ≤ p then [] else
    if (longest s p).1 = 0 then ⟨(s.getD p 0).toNat, 0, 0⟩ :: split s k (p + 1)
    else ⟨0, (longest s p).2, (longest s p).1⟩ :: split s k (p + (longest s p).1)
def step1 (s : List UInt8) (p : Nat) : Tok := if (longest s p).1 = 0 then ⟨(s.getD p 0).toNat, 0, 0⟩ else ⟨0, (longest s p).2, (longest s p).1⟩
def next (s : List UInt8) (p : Nat) : Nat := if (longest s p).1 = 0 then p + 1 else p + (longest s p).1
theorem split_more (s : List UInt8) (k p : Nat) (h : p < s.length) : split s (k + 1) p = step1 s p :: split s k (next s p) := by
  rw [split, if_neg (by omega)]
  unfold step1 next
  split <;> rfl
theorem split_done (s : List UInt8) (k p : Nat) (h : s.length ≤ p) : split s k p = [] := by
  cases k with
  | zero => rfl
  | succ k => rw [split, if_pos h]
theorem next_gt (s : List UInt8) (p : Nat) : p < next s p := by
  unfold next
  split <;> omega
theorem next_le (s : List UInt8) (p : Nat) (h : p < s.length) : next s p ≤ s.length := by
  unfold next
  split
  · omega
  · rename_i h0
    rcases (longest_best s p).hit with ⟨h1, _⟩ | ⟨_, _, _, h4, _⟩
    · exact absurd h1 h0
    · exact h4.1
/-- enough rounds are enough -/
theorem split_fuel (s : List UInt8) : ∀ (k j p : Nat), s.length ≤ p + k → s.length ≤ p + j → split s k p = split s j p
  | 0, j, p, h, _ => by rw [split_done s j p (by omega)]; rfl
  | k + 1, 0, p, _, h => by rw [split_done s (k + 1) p (by omega)]; rfl
  | k + 1, j + 1, p, h1, h2 => by
    by_cases h : p < s.length
    · have := next_gt s p
      rw [split_more s k p h, split_more s j p h, split_fuel s k j (next s p) (by omega) (by omega)]
    · rw [split_done s _ p (by omega), split_done s _ p (by omega)]
theorem split_length (s : List UInt8) : ∀ (k p : Nat), (split s k p).length ≤ s.length - p
  | 0, p => by simp [split]
  | k + 1, p => by
    by_cases h : p < s.length
    · rw [split_more s k p h, List.length_cons]
      have h1 := split_length s k (next s p)
      have h2 := next_gt s p
      omega
    · rw [split_done s _ p (by omega)]; simp
theorem take_getD (s : List UInt8) (k : Nat) (h : k < s.length) : s.take (k + 1) = s.take k ++ [s.getD k 0] := by
  rw [List.take_succ_eq_append_getElem h]; simp [h]
theorem copy_take {s : List UInt8} {p d n : Nat} (h : alike s p d n) : copy (s.take p) d n = s.take (p + n) := by
  induction n with
  | zero => rfl
  | succ n ih =>
    have h1 := ih (alike_less h (by omega))
    have hl : (s.take p).length = p := by rw [List.length_take]; have := h.1; omega
    rw [copy_succ, h1, hl, show p + (n + 1) = p + n + 1 by omega, take_getD s (p + n) (by have := h.1; omega)]
    congr 2
    rw [List.getD_eq_getElem?_getD, List.getElem?_take, if_pos (by have := h.2.1; have := h.2.2.1; omega), ← List.getD_eq_getElem?_getD, h.2.2.2 n (by omega)]
theorem add_step (s : List UInt8) (p : Nat) (h : p < s.length) : add (s.take p) (step1 s p) = s.take (next s p) := by
  unfold step1 next add
  by_cases h0 : (longest s p).1 = 0
  · rw [if_pos h0, if_pos h0, if_pos rfl, take_getD s p h]
    simp
  · rw [if_neg h0, if_neg h0, if_neg (by simpa using h0)]
    rcases (longest_best s p).hit with ⟨h1, _⟩ | ⟨_, _, _, h4, _⟩
    · exact absurd h1 h0
    · simpa using copy_take h4
theorem step_may (s : List UInt8) (p : Nat) : may (step1 s p) = true := by
  unfold step1
  by_cases h0 : (longest s p).1 = 0
  · rw [if_pos h0]
    generalize s.getD p 0 = c
    have := c.toNat_lt
    simp [may]; omega
  · rw [if_neg h0]
    rcases (longest_best s p).hit with ⟨h1, _⟩ | ⟨h1, h2, h3, h4, _⟩
    · exact absurd h1 h0
    · have := h4.2.1
      simp [may, h0]; omega
theorem step_dist (s : List UInt8) (p : Nat) : (step1 s p).dist ≤ p := by
  unfold step1
  by_cases h0 : (longest s p).1 = 0
  · rw [if_pos h0]; simp
  · rw [if_neg h0]
    rcases (longest_best s p).hit with ⟨h1, _⟩ | ⟨_, _, _, h4, _⟩
    · exact absurd h1 h0
    · have := h4.2.2.1
      simp; omega
theorem split_may (s : List UInt8) : ∀ (k p : Nat), ∀ t ∈ split s k p, may t = true
  | 0, p => by simp [split]
  | k + 1, p => by
    by_cases h : p < s.length
    · rw [split_more s k p h]
      intro t ht
      rcases List.mem_cons.1 ht with rfl | ht
      · exact step_may s p
      · exact split_may s k _ t ht
    · rw [split_done s _ p (by omega)]; simp
/-- what is split is expanded to what it was -/
theorem expand_split (s : List UInt8) (most : Int) (hm : (s.length : Int) ≤ most) : ∀ (k p : Nat), s.length ≤ p + k → p ≤ s.length → expand most (s.take p) (split s k p) = some s
  | 0, p, h, hp => by
    rw [split, expand, List.take_of_length_le (by omega)]
  | k + 1, p, h, hp => by
    by_cases hlt : p < s.length
    · have h1 := next_gt s p
      have h2 := next_le s p hlt
      have hl : (s.take p).length = p := by rw [List.length_take]; omega
      rw [split_more s k p hlt, expand, add_step s p hlt, if_pos ⟨step_may s p, by rw [hl]; exact step_dist s p, by rw [List.length_take]; omega⟩]
      exact expand_split s most hm k (next s p) (by omega) h2
    · rw [split_done s _ p (by omega), expand, List.take_of_length_le (by omega)]
theorem add_len (o : List UInt8) (t : Tok) : (add o t).length = o.length + (if t.len = 0 then 1 else t.len.toNat) := by
  unfold add
  split
  · simp
  · rw [copy_length]
/-- the bytes that tokens tell are as many whatever room there is -/
theorem expand_room (most less : Int) : ∀ (l : List Tok) (o q r : List UInt8), expand most o l = some q → expand less o l = some r → q = r
  | [], o, q, r, h1, h2 => by simp [expand] at h1 h2; rw [← h1, ← h2]
  | t :: l, o, q, r, h1, h2 => by
    rw [expand] at h1 h2
    split at h1
    · split at h2
      · exact expand_room most less l _ q r h1 h2
      · simp at h2
    · simp at h1
theorem expand_most (most : Int) : ∀ (l : List Tok) (o q : List UInt8), expand most o l = some q → l ≠ [] → (q.length : Int) ≤ most
  | [], o, q, h1, h2 => absurd rfl h2
  | [t], o, q, h1, _ => by
    rw [expand] at h1
    split at h1
    · rename_i h; simp [expand] at h1; rw [← h1]; exact h.2.2
    · simp at h1
  | t :: u :: l, o, q, h1, _ => by
    rw [expand] at h1
    split at h1
    · exact expand_most most (u :: l) _ q h1 (by simp)
    · simp at h1
/-- with a byte less room it is not -/
theorem expand_less (s : List UInt8) (hs : s ≠ []) : expand ((s.length : Int) - 1) [] (split s s.length 0) = none := by
  cases h : expand ((s.length : Int) - 1) [] (split s s.length 0) with
  | none => rfl
  | some r =>
    have h0 := expand_split s s.length (Int.le_refl _) s.length 0 (by omega) (by omega)
    rw [List.take_zero] at h0
    have e := expand_room _ _ _ _ _ _ h0 h
    have hpos : 0 < s.length := List.length_pos_iff.2 hs
    obtain ⟨k, hk⟩ : ∃ k, s.length = k + 1 := ⟨s.length - 1, by omega⟩
    have hne : split s s.length 0 ≠ [] := by rw [hk, split_more s k 0 hpos]; simp
    have := expand_most _ _ _ _ h hne
    rw [← e] at this
    omega
/-! ### a byte, many times -/
theorem rep_get (c : UInt8) (n i : Nat) (h : i < n) : (List.replicate n c).getD i 0 = c := by simp [h]
theorem rep_first (c : UInt8) (n : Nat) : longest (List.replicate n c) 0 = (0, 0) :=
  best_longest ⟨fun e m h1 h2 h3 h4 => by have := h4.2.1; have := h4.2.2.1; omega, .inl ⟨rfl, rfl⟩⟩
theorem rep_long (c : UInt8) (n p : Nat) (h1 : 1 ≤ p) (h3 : p + 3 ≤ n) : longest (List.replicate n c) p = (min 18 (n - p), 1) := by
  refine best_longest ⟨fun e m e1 e2 e3 e4 => ?_, .inr ⟨by omega, by omega, by omega, ⟨?_, by omega, h1, fun i hi => ?_⟩, fun e he ha => ?_⟩⟩
  · have := e4.1; rw [List.length_replicate] at this; omega
  · rw [List.length_replicate]; omega
  · rw [rep_get c n _ (by omega), rep_get c n _ (by omega)]
  · have := ha.2.1; omega
theorem rep_short (c : UInt8) (n p : Nat) (h3 : n < p + 3) : longest (List.replicate n c) p = (0, 0) :=
  best_longest ⟨fun e m h1 h2 h3 h4 => by have := h4.1; rw [List.length_replicate] at this; omega, .inl ⟨rfl, rfl⟩⟩
def many (r : Nat) : Nat := r / 18 + (if 3 ≤ r % 18 then 1 else r % 18)
theorem rep_split (c : UInt8) (n : Nat) : ∀ (k p : Nat), 1 ≤ p → n ≤ p + k → (split (List.replicate n c) k p).length = many (n - p)
  | 0, p, h1, h2 => by
    rw [split, show n - p = 0 by omega]; rfl
  | k + 1, p, h1, h2 => by
    by_cases h : p < n
    · rw [split_more _ k p (by rw [List.length_replicate]; exact h), List.length_cons]
      unfold next
      by_cases h3 : p + 3 ≤ n
      · rw [rep_long c n p h1 h3]
        have h18 : min 18 (n - p) ≠ 0 := by omega
        simp only [if_neg h18]
        rw [rep_split c n k _ (by omega) (by omega)]
        unfold many
        by_cases h4 : 18 ≤ n - p
        · rw [show n - (p + min 18 (n - p)) = n - p - 18 by omega]
          have e1 : (n - p) / 18 = (n - p - 18) / 18 + 1 := by omega
          have e2 : (n - p) % 18 = (n - p - 18) % 18 := by omega
          rw [e1, e2]; omega
        · rw [show n - (p + min 18 (n - p)) = 0 by omega]
          have e1 : (n - p) / 18 = 0 := by omega
          have e2 : (n - p) % 18 = n - p := by omega
          rw [e1, e2, if_pos (by omega : 3 ≤ n - p)]; rfl
      · rw [rep_short c n p (by omega)]
        simp only [if_true]
        rw [rep_split c n k _ (by omega) (by omega)]
        unfold many
        have e1 : (n - p) / 18 = 0 := by omega
        have e2 : (n - p) % 18 = n - p := by omega
        have e3 : (n - (p + 1)) / 18 = 0 := by omega
        have e4 : (n - (p + 1)) % 18 = n - (p + 1) := by omega
        rw [e1, e2, e3, e4, if_neg (by omega), if_neg (by omega)]; omega
    · rw [split_done _ _ p (by rw [List.length_replicate]; omega), show n - p = 0 by omega]; rfl
theorem rep_count (c : UInt8) (n : Nat) (h : 0 < n) : (split (List.replicate n c) n 0).length = 1 + many (n - 1) := by
  obtain ⟨k, rfl⟩ : ∃ k, n = k + 1 := ⟨n - 1, by omega⟩
  rw [split_more _ k 0 (by rw [List.length_replicate]; exact h), List.length_cons]
  unfold next
  rw [rep_first]
  simp only [if_true, Nat.zero_add]
  rw [rep_split c (k + 1) k 1 (by omega) (by omega)]
  omega
theorem rep_second (c : UInt8) (n : Nat) (h : 4 ≤ n) : ∃ (b l : Int) (r : List Tok), split (List.replicate n c) n 0 = ⟨c.toNat, 0, 0⟩ :: ⟨b, 1, l⟩ :: r := by
  obtain ⟨k, rfl⟩ : ∃ k, n = k + 2 := ⟨n - 2, by omega⟩
  rw [split_more _ (k + 1) 0 (by rw [List.length_replicate]; omega)]
  have e : next (List.replicate (k + 2) c) 0 = 1 := by unfold next; rw [rep_first]; rfl
  rw [e, split_more _ k 1 (by rw [List.length_replicate]; omega)]
  refine ⟨0, (min 18 (k + 2 - 1) : Nat), split (List.replicate (k + 2) c) k (next (List.replicate (k + 2) c) 1), ?_⟩
  unfold step1
  rw [rep_first, rep_long c (k + 2) 1 (by omega) (by omega)]
  have h18 : min 18 (k + 2 - 1) ≠ 0 := by omega
  simp only [if_true, if_neg h18]
  rw [rep_get c _ 0 (by omega)]
  rfl
end Go.Proofs.Ytdiimebcahhieaa.Mt
