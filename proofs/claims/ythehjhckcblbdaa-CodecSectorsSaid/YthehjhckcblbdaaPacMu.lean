/-
  Maths of tokens as bits, further: tokens read of bits; the bits of tokens; that they are read as they were written. No condition.
-/
import Derived.Test.YthehjhckcblbdaaPacMt
namespace Go.Proofs.Ythehjhckcblbdaa.Pk
set_option maxRecDepth 100000
open Hf Mb Cn Mt
theorem drop_part {b A R : List Bool} {p k : Nat} (h : b.drop p = A ++ R) (hk : A.length = k) : b.drop (p + k) = R := by
  rw [← List.drop_drop, h, ← hk, List.drop_left]
/-- a token's symbol -/
def symT (t : Tok) : Nat := if t.len = 0 then t.byte.toNat else 253 + t.len.toNat
/-- how many bytes a token tells -/
def many1 (t : Tok) : Nat := if t.len = 0 then 1 else t.len.toNat
theorem add_length (o : List UInt8) (t : Tok) : (add o t).length = o.length + many1 t := by
  unfold add many1
  split
  · simp
  · rw [copy_length]
/-- a token that may be: a byte, or a copy -/
theorem may_two {t : Tok} (h : may t = true) : (∃ x : Nat, x ≤ 255 ∧ t = ⟨x, 0, 0⟩) ∨ ∃ d n : Nat, 1 ≤ d ∧ d ≤ 255 ∧ 3 ≤ n ∧ n ≤ 18 ∧ t = ⟨0, d, n⟩ := by
  obtain ⟨x, d, n⟩ := t
  unfold may at h
  split at h
  · rename_i h0
    obtain ⟨rfl, rfl⟩ : n = 0 ∧ d = 0 := h0
    simp at h
    exact Or.inl ⟨x.toNat, by omega, by simp; omega⟩
  · simp at h
    obtain ⟨⟨⟨⟨h1, h2⟩, h3⟩, h4⟩, h5⟩ := h
    exact Or.inr ⟨d.toNat, n.toNat, by omega, by omega, by omega, by omega, by simp; omega⟩
theorem may_byte {x : Nat} (h : x ≤ 255) : may ⟨x, 0, 0⟩ = true := by simp [may]; omega
theorem may_copy {d n : Nat} (h1 : 1 ≤ d) (h2 : d ≤ 255) (h3 : 3 ≤ n) (h4 : n ≤ 18) : may ⟨0, d, n⟩ = true := by
  have : ¬ ((n : Int) = 0 ∧ (d : Int) = 0) := by omega
  simp only [may, if_neg this]
  simp; omega
theorem symT_lt {t : Tok} (h : may t = true) : symT t < 272 := by
  rcases may_two h with ⟨x, hx, rfl⟩ | ⟨d, n, _, _, h3, h4, rfl⟩
  · simp [symT]; omega
  · have : ¬ (n : Int) = 0 := by omega
    simp only [symT, if_neg this]
    simp; omega
/-! ### tokens read of bits -/
def rdToks (l : List Nat) (b : List Bool) (many : Nat) : Nat → Nat → Nat → Option (List Tok × Nat)
  | 0, told, p => if many ≤ told then some ([], p) else none
  | k + 1, told, p =>
    if many ≤ told then some ([], p)
    else match readN l b p with
      | none => none
      | some s =>
        if s < 256 then (rdToks l b many k (told + 1) (p + l.getD s 0)).map fun r => (⟨s, 0, 0⟩ :: r.1, r.2)
        else match takeN b (p + l.getD s 0) 8 with
          | none => none
          | some d =>
            if 1 ≤ d ∧ d ≤ told ∧ told + (s - 253) ≤ many then (rdToks l b many k (told + (s - 253)) (p + l.getD s 0 + 8)).map fun r => (⟨0, d, (s - 253 : Nat)⟩ :: r.1, r.2)
            else none
def decode (b : List Bool) (many : Nat) : Option (List Tok × Nat) :=
  if many ≤ 1000 then match rdHead b with
    | none => none
    | some (l, p) => rdToks l b many many 0 p
  else none
theorem take_lt {b : List Bool} {p w x : Nat} (h : takeN b p w = some x) : x < 2 ^ w := by
  obtain ⟨_, rfl⟩ := takeN_in h
  refine Nat.lt_of_lt_of_le (num_lt _) (Nat.pow_le_pow_right (by decide) (by rw [List.length_take]; omega))
theorem rdToks_end {l : List Nat} {b : List Bool} {many : Nat} (hl : l.length = 272) : ∀ {k told p : Nat} {T : List Tok} {e : Nat}, rdToks l b many k told p = some (T, e) → p ≤ b.length →
    p ≤ e ∧ e ≤ b.length ∧ (∀ o : List UInt8, o.length = told → told ≤ many → ∃ q, expand many o T = some q ∧ q.length = many)
  | 0, told, p, T, e, h, hp => by
    unfold rdToks at h
    split at h
    · simp only [Option.some.injEq, Prod.mk.injEq] at h
      obtain ⟨rfl, rfl⟩ := h
      exact ⟨Nat.le_refl _, hp, fun o ho hm => ⟨o, rfl, by omega⟩⟩
    · cases h
  | k + 1, told, p, T, e, h, hp => by
    unfold rdToks at h
    split at h
    · simp only [Option.some.injEq, Prod.mk.injEq] at h
      obtain ⟨rfl, rfl⟩ := h
      exact ⟨Nat.le_refl _, hp, fun o ho hm => ⟨o, rfl, by omega⟩⟩
    · rename_i hmt
      split at h
      · cases h
      · rename_i s hs
        have hh := hit_iff.1 (read_hit hs)
        have hs272 := there_lt (show 1 ≤ l.getD s 0 from hh.1)
        split at h
        · rename_i h256
          obtain ⟨⟨T2, e2⟩, h2, h3⟩ := Option.map_eq_some_iff.1 h
          simp only [Prod.mk.injEq] at h3
          obtain ⟨rfl, rfl⟩ := h3
          obtain ⟨a1, a2, a3⟩ := rdToks_end hl h2 hh.2.1
          refine ⟨by omega, a2, fun o ho hm => ?_⟩
          have hal : (add o ⟨s, 0, 0⟩).length = told + 1 := by rw [add_length, ho]; rfl
          obtain ⟨q, hq, hql⟩ := a3 (add o ⟨s, 0, 0⟩) hal (by omega)
          refine ⟨q, ?_, hql⟩
          unfold expand
          rw [if_pos ⟨may_byte (by omega), by simp, by rw [hal]; omega⟩]
          exact hq
        · rename_i h256
          split at h
          · cases h
          · rename_i d hd
            split at h
            · rename_i hc
              obtain ⟨⟨T2, e2⟩, h2, h3⟩ := Option.map_eq_some_iff.1 h
              simp only [Prod.mk.injEq] at h3
              obtain ⟨rfl, rfl⟩ := h3
              have hdl := take_lt hd
              obtain ⟨a1, a2, a3⟩ := rdToks_end hl h2 (takeN_in hd).1
              refine ⟨by omega, a2, fun o ho hm => ?_⟩
              have hne : ¬ (((s - 253 : Nat) : Int) = 0) := by omega
              have hal : (add o ⟨0, d, (s - 253 : Nat)⟩).length = told + (s - 253) := by
                rw [add_length, ho]
                unfold many1
                rw [if_neg hne]; simp
              obtain ⟨q, hq, hql⟩ := a3 (add o ⟨0, d, (s - 253 : Nat)⟩) hal (by omega)
              refine ⟨q, ?_, hql⟩
              unfold expand
              rw [if_pos ⟨may_copy hc.1 (by omega) (by omega) (by omega), by simp only; omega, by rw [hal]; omega⟩]
              exact hq
            · cases h
theorem rdToks_upto {l : List Nat} (hl : ok l) (hlen : l.length = 272) {b b' : List Bool} {many : Nat} : ∀ {k told p : Nat} {T : List Tok} {e : Nat}, rdToks l b many k told p = some (T, e) → p ≤ b.length → Upto b b' e → rdToks l b' many k told p = some (T, e)
  | 0, told, p, T, e, h, _, _ => by unfold rdToks at h ⊢; exact h
  | k + 1, told, p, T, e, h, hp, hu => by
    unfold rdToks at h ⊢
    split at h
    · rename_i hm
      rw [if_pos hm]; exact h
    · rename_i hm
      rw [if_neg hm]
      split at h
      · cases h
      · rename_i s hs
        have hi := read_hit hs
        have hh := hit_iff.1 hi
        split at h
        · rename_i h256
          obtain ⟨⟨T2, e2⟩, h2, h3⟩ := Option.map_eq_some_iff.1 h
          simp only [Prod.mk.injEq] at h3
          obtain ⟨rfl, rfl⟩ := h3
          obtain ⟨a1, _, _⟩ := rdToks_end hlen h2 hh.2.1
          rw [read_some hl.2.1 (hu.hit a1 hi)]
          simp only
          rw [if_pos h256, rdToks_upto hl hlen h2 hh.2.1 hu]
          rfl
        · rename_i h256
          split at h
          · cases h
          · rename_i d hd
            split at h
            · rename_i hc
              obtain ⟨⟨T2, e2⟩, h2, h3⟩ := Option.map_eq_some_iff.1 h
              simp only [Prod.mk.injEq] at h3
              obtain ⟨rfl, rfl⟩ := h3
              obtain ⟨a1, _, _⟩ := rdToks_end hlen h2 (takeN_in hd).1
              rw [read_some hl.2.1 (hu.hit (by omega) hi)]
              simp only
              rw [if_neg h256, hu.takeN a1 hd]
              simp only
              rw [if_pos hc, rdToks_upto hl hlen h2 (takeN_in hd).1 hu]
              rfl
            · cases h
theorem decode_end {b : List Bool} {many : Nat} {T : List Tok} {e : Nat} (h : decode b many = some (T, e)) : many ≤ 1000 ∧ 9 ≤ e ∧ e ≤ b.length ∧ ∃ q, expand many [] T = some q ∧ q.length = many := by
  unfold decode at h
  split at h
  · rename_i hm
    split at h
    · cases h
    · rename_i l p hr
      obtain ⟨h1, h2, h3, h4⟩ := rdHead_end hr
      obtain ⟨a1, a2, a3⟩ := rdToks_end h4 h h3
      exact ⟨hm, by omega, a2, a3 [] rfl (Nat.zero_le _)⟩
  · cases h
/-- what stands behind is of no moment -/
theorem decode_upto {b b' : List Bool} {many : Nat} {T : List Tok} {e : Nat} (h : decode b many = some (T, e)) (hu : Upto b b' e) : decode b' many = some (T, e) := by
  unfold decode at h ⊢
  split at h
  · rename_i hm
    rw [if_pos hm]
    split at h
    · cases h
    · rename_i l p hr
      obtain ⟨h1, h2, h3, h4⟩ := rdHead_end hr
      obtain ⟨a1, _, _⟩ := rdToks_end h4 h h3
      rw [rdHead_upto hr (hu.less a1)]
      exact rdToks_upto h1 h4 h h3 hu
  · cases h
/-! ### the bits of tokens -/
def freq (T : List Tok) : List Nat := (List.range 272).map fun s => (T.filter fun t => symT t == s).length
theorem freq_length (T : List Tok) : (freq T).length = 272 := by simp [freq]
theorem freq_get (T : List Tok) {s : Nat} (h : s < 272) : (freq T).getD s 0 = (T.filter fun t => symT t == s).length := by
  unfold freq
  rw [List.getD_eq_getElem?_getD, List.getElem?_map, List.getElem?_range h]; rfl
theorem freq_le (T : List Tok) (s : Nat) : (freq T).getD s 0 ≤ T.length := by
  by_cases h : s < 272
  · rw [freq_get T h]; exact List.length_filter_le _ _
  · rw [List.getD_eq_getElem?_getD, List.getElem?_eq_none (by rw [freq_length]; omega)]; exact Nat.zero_le _
def lensT (T : List Tok) : List Nat := lens (freq T)
theorem lensT_length (T : List Tok) : (lensT T).length = 272 := by unfold lensT; rw [lens_length, freq_length]
theorem lensT_ok (T : List Tok) : ok (lensT T) := by
  refine ⟨by rw [lensT_length]; decide, lens_le (by rw [freq_length]; decide), ?_⟩
  unfold lensT
  rw [kraft_lens (by rw [freq_length]; decide)]
  split
  · exact Nat.le_refl _
  · omega
theorem lensT_there {T : List Tok} {t : Tok} (ht : t ∈ T) (hm : may t = true) : 1 ≤ (lensT T).getD (symT t) 0 := by
  refine lens_there.2 (S0_mem.2 ⟨by rw [freq_length]; exact symT_lt hm, ?_⟩)
  rw [freq_get T (symT_lt hm)]
  exact List.length_pos_of_mem (List.mem_filter.2 ⟨ht, by simp⟩)
/-- the symbols from a place on, with their lengths -/
def headFrom (l : List Nat) (i k : Nat) : List Bool := (List.range' i k).flatMap fun s => if 0 < l.getD s 0 then dig s 9 ++ dig (l.getD s 0) 4 else []
def manyS (l : List Nat) (i k : Nat) : Nat := ((List.range' i k).filter fun s => decide (0 < l.getD s 0)).length
def tokBits (l : List Nat) (t : Tok) : List Bool := code l (symT t) ++ if t.len = 0 then [] else dig t.dist.toNat 8
def body (l : List Nat) (T : List Tok) : List Bool := T.flatMap (tokBits l)
def encode (T : List Tok) : List Bool := dig (manyS (lensT T) 0 272) 9 ++ (headFrom (lensT T) 0 272 ++ body (lensT T) T)
theorem manyS_le (l : List Nat) (i k : Nat) : manyS l i k ≤ k := by
  unfold manyS
  refine Nat.le_trans (List.length_filter_le _ _) ?_
  rw [List.length_range']; exact Nat.le_refl _
/-- what the lists have in common up to a place, and nothing from there on -/
def cutAt (l : List Nat) (i : Nat) : List Nat := l.take i ++ List.replicate (l.length - i) 0
theorem cut_zero {l : List Nat} {i : Nat} (hi : i < l.length) (h : l.getD i 0 = 0) : cutAt l (i + 1) = cutAt l i := by
  unfold cutAt
  rw [List.take_succ_eq_append_getElem hi]
  have e : l[i] = 0 := by rw [List.getD_eq_getElem?_getD, List.getElem?_eq_getElem hi] at h; exact h
  rw [e, List.append_assoc, show l.length - i = (l.length - (i + 1)) + 1 by omega, List.replicate_succ]
  rfl
theorem cut_set {l : List Nat} {i : Nat} (hi : i < l.length) : (cutAt l i).set i (l.getD i 0) = cutAt l (i + 1) := by
  unfold cutAt
  have hl : (l.take i).length = i := by rw [List.length_take]; omega
  rw [List.set_append, if_neg (by omega), hl, Nat.sub_self, show l.length - i = (l.length - (i + 1)) + 1 by omega, List.replicate_succ, List.set_cons_zero, List.take_succ_eq_append_getElem hi, List.append_assoc]
  have e : l[i] = l.getD i 0 := by rw [List.getD_eq_getElem?_getD, List.getElem?_eq_getElem hi]; rfl
  rw [e]
  rfl
theorem cut_all (l : List Nat) : cutAt l l.length = l := by unfold cutAt; simp
theorem head_back {l : List Nat} (hl : ∀ i, l.getD i 0 ≤ 15) (hlen : l.length = 272) {b more : List Bool} : ∀ (k i : Nat) (last : Int) (p : Nat), i + k = 272 → last < (i : Int) → p ≤ b.length → b.drop p = headFrom l i k ++ more →
    rdLens b (manyS l i k) last p (cutAt l i) = some (l, p + (headFrom l i k).length)
  | 0, i, last, p, hik, _, _, _ => by
    have : i = l.length := by omega
    show some (cutAt l i, p) = _
    rw [this, cut_all]; rfl
  | k + 1, i, last, p, hik, hla, hp, hb => by
    have hi : i < l.length := by omega
    unfold headFrom at hb
    rw [List.range'_succ, List.flatMap_cons] at hb
    have hhf : headFrom l i (k + 1) = (if 0 < l.getD i 0 then dig i 9 ++ dig (l.getD i 0) 4 else []) ++ headFrom l (i + 1) k := by
      unfold headFrom; rw [List.range'_succ, List.flatMap_cons]
    have hms : manyS l i (k + 1) = (if 0 < l.getD i 0 then 1 else 0) + manyS l (i + 1) k := by
      unfold manyS
      rw [List.range'_succ, List.filter_cons]
      by_cases h : 0 < l.getD i 0
      · rw [if_pos (by simpa using h), if_pos h, List.length_cons]; omega
      · rw [if_neg (by simpa using h), if_neg h]; omega
    rw [hhf, hms]
    by_cases h : 0 < l.getD i 0
    · rw [if_pos h] at hb ⊢
      rw [if_pos h]
      rw [List.append_assoc, List.append_assoc] at hb
      have h1 := takeN_dig hb hp (show i < 2 ^ 9 by omega)
      have hb2 : b.drop (p + 9) = dig (l.getD i 0) 4 ++ ((List.range' (i + 1) k).flatMap (fun s => if 0 < l.getD s 0 then dig s 9 ++ dig (l.getD s 0) 4 else []) ++ more) := drop_part hb (dig_length _ _)
      have hp2 := (takeN_in h1).1
      have h2 := takeN_dig hb2 hp2 (show l.getD i 0 < 2 ^ 4 by have := hl i; omega)
      have hb3 : b.drop (p + 9 + 4) = headFrom l (i + 1) k ++ more := drop_part hb2 (dig_length _ _)
      rw [show p + 9 + 4 = p + 13 by omega] at hb3
      have hp3 := (takeN_in h2).1
      rw [Nat.add_comm 1]
      unfold rdLens
      rw [h1, h2]
      simp only
      rw [if_pos ⟨hla, by omega, h⟩, cut_set hi, head_back hl hlen k (i + 1) i (p + 13) (by omega) (by omega) (by omega) hb3]
      rw [List.length_append, List.length_append, dig_length, dig_length]
      congr 2; omega
    · rw [if_neg h] at hb ⊢
      rw [if_neg h, Nat.zero_add, List.nil_append]
      rw [List.nil_append] at hb
      have h0 : l.getD i 0 = 0 := by omega
      rw [← cut_zero hi h0]
      exact head_back hl hlen k (i + 1) last p (by omega) (by omega) hp hb
theorem toks_back {l : List Nat} (hl : ok l) {b more : List Bool} {many : Nat} : ∀ (T : List Tok) (k told p : Nat) (o q : List UInt8), expand many o T = some q → q.length = many → o.length = told → many ≤ told + k → (∀ t ∈ T, 1 ≤ l.getD (symT t) 0) → p ≤ b.length → b.drop p = body l T ++ more →
    rdToks l b many k told p = some (T, p + (body l T).length)
  | [], k, told, p, o, q, he, hq, ho, hk, ht, hp, hb => by
    have hqo : o = q := by simpa [expand] using he
    have hm : many ≤ told := by rw [← hq, ← hqo]; omega
    cases k with
    | zero => unfold rdToks; rw [if_pos hm]; rfl
    | succ k => unfold rdToks; rw [if_pos hm]; rfl
  | t :: T, k, told, p, o, q, he, hq, ho, hk, ht, hp, hb => by
    unfold expand at he
    split at he
    · rename_i hc
      obtain ⟨hmay, hdist, hlen⟩ := hc
      rw [add_length, ho] at hlen
      have h1 := ht t (by simp)
      have hm1 : 1 ≤ many1 t := by
        rcases may_two hmay with ⟨x, _, rfl⟩ | ⟨d, n, _, _, h3, _, rfl⟩
        · exact Nat.le_refl 1
        · have : ¬ (n : Int) = 0 := by omega
          simp only [many1, if_neg this]
          simp; omega
      have hmt : ¬ many ≤ told := by omega
      obtain ⟨k, rfl⟩ : ∃ j, k = j + 1 := ⟨k - 1, by omega⟩
      have hbd : body l (t :: T) = tokBits l t ++ body l T := by unfold body; rw [List.flatMap_cons]
      have hb1 : b.drop p = code l (symT t) ++ ((if t.len = 0 then [] else dig t.dist.toNat 8) ++ (body l T ++ more)) := by
        rw [hb, hbd]; unfold tokBits; simp only [List.append_assoc]
      have hhit := code_hit hl.2.1 hl.2.2 h1 hb1 hp
      have hb2 : b.drop (p + l.getD (symT t) 0) = (if t.len = 0 then [] else dig t.dist.toNat 8) ++ (body l T ++ more) := drop_part hb1 (code_length _ _)
      have hp2 := (hit_iff.1 hhit).2.1
      have hal := add_length o t
      unfold rdToks
      rw [if_neg hmt, read_some hl.2.1 hhit]
      simp only
      rcases may_two hmay with ⟨x, hx, rfl⟩ | ⟨d, n, hd1, hd2, hn1, hn2, rfl⟩
      · have hs : symT ⟨x, 0, 0⟩ = x := by simp [symT]
        rw [hs] at hb2 hp2 h1 ⊢
        rw [if_pos rfl, List.nil_append] at hb2
        rw [if_pos (by omega), toks_back hl T k (told + 1) (p + l.getD x 0) _ q he hq (by rw [hal, ho]; rfl) (by omega) (fun t h => ht t (by simp [h])) hp2 hb2]
        rw [hbd]
        simp only [Option.map_some, Option.some.injEq, Prod.mk.injEq, true_and]
        rw [List.length_append]
        unfold tokBits
        rw [List.length_append, code_length, hs, if_pos rfl]
        simp only [List.length_nil]
        omega
      · have hn0 : ¬ (n : Int) = 0 := by omega
        have hs : symT ⟨0, d, n⟩ = 253 + n := by simp only [symT, if_neg hn0]; simp
        have hmn : many1 ⟨0, d, n⟩ = n := by simp only [many1, if_neg hn0]; simp
        rw [hs] at hb2 hp2 h1 ⊢
        rw [hmn] at hlen hal
        rw [if_neg hn0, show (d : Int).toNat = d by simp] at hb2
        have h3 := takeN_dig hb2 hp2 (show d < 2 ^ 8 by omega)
        have hb3 : b.drop (p + l.getD (253 + n) 0 + 8) = body l T ++ more := drop_part hb2 (dig_length _ _)
        rw [if_neg (by omega), h3]
        simp only at hdist
        simp only
        rw [show 253 + n - 253 = n by omega, if_pos ⟨hd1, by omega, by omega⟩, toks_back hl T k (told + n) (p + l.getD (253 + n) 0 + 8) _ q he hq (by rw [hal, ho]) (by omega) (fun t h => ht t (by simp [h])) (takeN_in h3).1 hb3]
        rw [hbd]
        simp only [Option.map_some, Option.some.injEq, Prod.mk.injEq, true_and]
        rw [List.length_append]
        unfold tokBits
        rw [List.length_append, code_length, hs, if_neg hn0, dig_length]
        omega
    · cases he
/-- tokens that may be -/
theorem expand_may {most : Int} : ∀ {T : List Tok} {o q : List UInt8}, expand most o T = some q → ∀ t ∈ T, may t = true
  | [], _, _, _, t, ht => by cases ht
  | x :: T, o, q, h, t, ht => by
    unfold expand at h
    split at h
    · rename_i hc
      rcases List.mem_cons.1 ht with rfl | ht
      · exact hc.1
      · exact expand_may h t ht
    · cases h
/-- what is written is read, whatever stands behind it -/
theorem decode_encode {T : List Tok} {many : Nat} {q : List UInt8} (he : expand many [] T = some q) (hq : q.length = many) (hm : many ≤ 1000) (more : List Bool) : decode (encode T ++ more) many = some (T, (encode T).length) := by
  have hok := lensT_ok T
  have hb : encode T ++ more = dig (manyS (lensT T) 0 272) 9 ++ (headFrom (lensT T) 0 272 ++ (body (lensT T) T ++ more)) := by unfold encode; simp only [List.append_assoc]
  have h1 : takeN (encode T ++ more) 0 9 = some (manyS (lensT T) 0 272) := takeN_dig (by rw [List.drop_zero]; exact hb) (Nat.zero_le _) (by have := manyS_le (lensT T) 0 272; omega)
  have hb2 : (encode T ++ more).drop 9 = headFrom (lensT T) 0 272 ++ (body (lensT T) T ++ more) := by
    rw [hb, List.drop_append_of_le_length (by rw [dig_length]; exact Nat.le_refl _), List.drop_of_length_le (by rw [dig_length]; exact Nat.le_refl _), List.nil_append]
  have h2 := head_back hok.2.1 (lensT_length T) 272 0 (-1) 9 (by omega) (by omega) (takeN_in h1).1 hb2
  have h0 : cutAt (lensT T) 0 = List.replicate 272 0 := by unfold cutAt; rw [lensT_length]; rfl
  rw [h0] at h2
  have hlen : (encode T).length = 9 + ((headFrom (lensT T) 0 272).length + (body (lensT T) T).length) := by unfold encode; rw [List.length_append, List.length_append, dig_length]
  have hb3 : (encode T ++ more).drop (9 + (headFrom (lensT T) 0 272).length) = body (lensT T) T ++ more := by
    rw [← List.drop_drop, hb2, List.drop_append_of_le_length (Nat.le_refl _), List.drop_length, List.nil_append]
  have h3 := toks_back hok T many 0 (9 + (headFrom (lensT T) 0 272).length) [] q he hq rfl (by omega) (fun t ht => lensT_there ht (expand_may he t ht)) (by rw [List.length_append, hlen]; omega) hb3
  unfold decode
  rw [if_pos hm]
  unfold rdHead
  rw [h1]
  simp only
  rw [h2]
  simp only
  rw [if_pos hok.2.2]
  simp only
  rw [h3, hlen, Nat.add_assoc]
/-- bits that are cut off ahead of their end are not read -/
theorem decode_cut {T : List Tok} {many : Nat} {q : List UInt8} (he : expand many [] T = some q) (hq : q.length = many) (hm : many ≤ 1000) {k : Nat} (hk : k < (encode T).length) : decode ((encode T).take k) many = none := by
  cases hd : decode ((encode T).take k) many with
  | none => rfl
  | some r =>
    obtain ⟨U, e⟩ := r
    obtain ⟨_, _, h2, _⟩ := decode_end hd
    rw [List.length_take] at h2
    have hu : Upto ((encode T).take k) (encode T ++ []) e := ⟨by rw [List.length_take]; omega, by rw [List.append_nil]; omega, by rw [List.append_nil, List.take_take, Nat.min_eq_left (by omega)]⟩
    have h3 := decode_upto hd hu
    rw [decode_encode he hq hm []] at h3
    simp only [Option.some.injEq, Prod.mk.injEq] at h3
    omega
/-- unlike tokens that tell as many bytes have unlike bits -/
theorem encode_inj {T U : List Tok} {many : Nat} {q r : List UInt8} (h1 : expand many [] T = some q) (hq : q.length = many) (h2 : expand many [] U = some r) (hr : r.length = many) (hm : many ≤ 1000) (h : encode T = encode U) : T = U := by
  have a := decode_encode h1 hq hm []
  rw [h, decode_encode h2 hr hm []] at a
  simp only [Option.some.injEq, Prod.mk.injEq] at a
  exact a.1.symm
/-- with more room the same bytes are told -/
theorem expand_room {most : Int} : ∀ {T : List Tok} {o q : List UInt8}, expand most o T = some q → expand (q.length : Int) o T = some q
  | [], _, _, h => h
  | x :: T, o, q, h => by
    unfold expand at h ⊢
    split at h
    · rename_i hc
      have hle : (add o x).length ≤ q.length := expand_le h
      rw [if_pos ⟨hc.1, hc.2.1, by omega⟩]
      exact expand_room h
    · cases h
where
  expand_le {most : Int} : ∀ {T : List Tok} {o q : List UInt8}, expand most o T = some q → o.length ≤ q.length
    | [], o, q, h => by
      have : o = q := by simpa [expand] using h
      rw [this]; exact Nat.le_refl _
    | x :: T, o, q, h => by
      unfold expand at h
      split at h
      · have := expand_le h
        rw [add_length] at this; omega
      · cases h
end Go.Proofs.Ythehjhckcblbdaa.Pk
