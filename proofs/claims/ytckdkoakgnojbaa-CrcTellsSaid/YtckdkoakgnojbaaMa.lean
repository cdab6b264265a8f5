/-
  The maths of the sum: one hv halves and turns (hv), a byte is eight of them; it is linear under xor, turns back at 0, and four bytes that stand together and leave no trace are all 0.
-/
import Derived.Test.YtckdkoakgnojbaaRows
namespace Go.Proofs.Ytckdkoakgnojbaa.Ma

/-- one halving: the lowest bit that falls out turns the rest -/
def hv (c : Nat) : Nat := if c % 2 = 1 then c / 2 ^^^ 3988292384 else c / 2
def hvs : Nat → Nat → Nat
  | 0, c => c
  | n + 1, c => hvs n (hv c)
/-- a byte more -/
def addN (c b : Nat) : Nat := hvs 8 (c ^^^ b)
def runN (c : Nat) (l : List Nat) : Nat := l.foldl addN c
def word : List Nat → Nat
  | [] => 0
  | b :: l => b ^^^ word l * 256

theorem xor_half (a b : Nat) : (a ^^^ b) / 2 = a / 2 ^^^ b / 2 := by
  have h := Nat.shiftRight_xor_distrib (a := a) (b := b) (i := 1)
  simpa [Nat.shiftRight_succ] using h
theorem hv_xor (a b : Nat) : hv (a ^^^ b) = hv a ^^^ hv b := by
  unfold hv
  rw [xor_half]
  have hm : (a ^^^ b) % 2 = (a % 2 + b % 2) % 2 := by
    have h0 : (a ^^^ b) % 2 = 1 ↔ ¬(a % 2 = 1 ↔ b % 2 = 1) := by simp
    omega
  rw [hm]
  rcases Nat.mod_two_eq_zero_or_one a with ha | ha <;> rcases Nat.mod_two_eq_zero_or_one b with hb | hb <;> simp [ha, hb]
  · ac_rfl
  · ac_rfl
  · have e : ∀ x y p : Nat, x ^^^ p ^^^ (y ^^^ p) = x ^^^ y := fun x y p => by
      rw [Nat.xor_assoc, Nat.xor_comm y p, ← Nat.xor_assoc p p y, Nat.xor_self, Nat.zero_xor]
    exact (e _ _ _).symm
theorem hvs_xor (n a b : Nat) : hvs n (a ^^^ b) = hvs n a ^^^ hvs n b := by
  induction n generalizing a b with
  | zero => rfl
  | succ n ih => simp only [hvs, hv_xor, ih]
theorem hv_lt {c : Nat} (h : c < 2 ^ 32) : hv c < 2 ^ 32 := by
  unfold hv
  split
  · exact Nat.xor_lt_two_pow (by omega) (by decide)
  · omega
theorem hvs_lt (n : Nat) {c : Nat} (h : c < 2 ^ 32) : hvs n c < 2 ^ 32 := by
  induction n generalizing c with
  | zero => exact h
  | succ n ih => exact ih (hv_lt h)
theorem addN_lt {c b : Nat} (h : c < 2 ^ 32) (hb : b < 256) : addN c b < 2 ^ 32 :=
  hvs_lt 8 (Nat.xor_lt_two_pow h (by omega))
theorem addN_xor (c d a b : Nat) : addN (c ^^^ d) (a ^^^ b) = addN c a ^^^ addN d b := by
  unfold addN
  rw [← hvs_xor]
  congr 1
  ac_rfl
theorem runN_lt (l : List Nat) (hl : ∀ b ∈ l, b < 256) {c : Nat} (h : c < 2 ^ 32) : runN c l < 2 ^ 32 := by
  induction l generalizing c with
  | nil => exact h
  | cons b l ih =>
    exact ih (fun x hx => hl x (List.mem_cons_of_mem _ hx)) (addN_lt h (hl b (List.mem_cons_self ..)))
theorem runN_xor (l m : List Nat) (h : l.length = m.length) (c d : Nat) : runN (c ^^^ d) (List.zipWith (· ^^^ ·) l m) = runN c l ^^^ runN d m := by
  induction l generalizing m c d with
  | nil => cases m with
    | nil => rfl
    | cons _ _ => simp at h
  | cons a l ih => cases m with
    | nil => simp at h
    | cons b m =>
      simp only [List.zipWith_cons_cons, runN, List.foldl_cons]
      have := ih m (by simpa using h) (addN c a) (addN d b)
      simp only [runN] at this
      rw [addN_xor, this]
theorem runN_append (c : Nat) (l m : List Nat) : runN c (l ++ m) = runN (runN c l) m := List.foldl_append

/-- what is small behind a hv was twice as large -/
theorem hv_back {c m : Nat} (hc : c < 2 ^ 32) (hm : m ≤ 31) (h : hv c < 2 ^ m) : c = 2 * hv c := by
  unfold hv at h ⊢
  split at h
  · exfalso
    have h1 : (c / 2 ^^^ 3988292384).testBit 31 = true := by
      rw [Nat.testBit_xor, Nat.testBit_lt_two_pow (show c / 2 < 2 ^ 31 by omega)]
      decide
    have h2 := Nat.testBit_lt_two_pow (Nat.lt_of_lt_of_le h (Nat.pow_le_pow_right (by decide) hm))
    rw [h1] at h2
    cases h2
  · rename_i hp
    rw [if_neg hp]
    omega
theorem hvs_back (n : Nat) {c m : Nat} (hc : c < 2 ^ 32) (hm : m + n ≤ 32) (h : hvs n c < 2 ^ m) : c = 2 ^ n * hvs n c := by
  induction n generalizing c m with
  | zero => simp [hvs]
  | succ n ih =>
    simp only [hvs] at h ⊢
    have h1 := ih (m := m) (hv_lt hc) (by omega) h
    have h2 : hv c < 2 ^ (m + n) := by
      rw [h1, Nat.pow_add, Nat.mul_comm]
      exact Nat.mul_lt_mul_of_pos_right h (Nat.two_pow_pos n)
    have h3 := hv_back hc (by omega : m + n ≤ 31) h2
    calc c = 2 * hv c := h3
      _ = 2 * (2 ^ n * hvs n (hv c)) := congrArg (2 * ·) h1
      _ = 2 ^ (n + 1) * hvs n (hv c) := by rw [Nat.pow_succ]; ac_rfl
theorem hvs_double (n y : Nat) : hvs n (2 ^ n * y) = y := by
  induction n generalizing y with
  | zero => simp [hvs]
  | succ n ih =>
    have e : 2 ^ (n + 1) * y = 2 * (2 ^ n * y) := by rw [Nat.pow_succ]; ac_rfl
    have h : hv (2 * (2 ^ n * y)) = 2 ^ n * y := by
      unfold hv
      rw [if_neg (by omega)]
      omega
    simp only [hvs]
    rw [e, h, ih]
theorem xor_cancel (a b c : Nat) (h : a ^^^ b = c) : a = b ^^^ c := by
  rw [← h, Nat.xor_comm a b, ← Nat.xor_assoc, Nat.xor_self, Nat.zero_xor]
theorem addN_back {c b m : Nat} (hc : c < 2 ^ 32) (hb : b < 256) (hm : m ≤ 24) (h : addN c b < 2 ^ m) : c = b ^^^ addN c b * 256 := by
  have h1 := hvs_back 8 (c := c ^^^ b) (m := m) (Nat.xor_lt_two_pow hc (by omega)) (by omega) h
  refine xor_cancel c b _ ?_
  rw [Nat.mul_comm]
  exact h1
theorem word_lt (l : List Nat) (hl : ∀ b ∈ l, b < 256) : word l < 2 ^ (8 * l.length) := by
  induction l with
  | nil => simp [word]
  | cons b l ih =>
    have h := ih (fun x hx => hl x (List.mem_cons_of_mem _ hx))
    have hb := hl b (List.mem_cons_self ..)
    have e : 2 ^ (8 * (b :: l).length) = 2 ^ (8 * l.length) * 256 := by
      rw [List.length_cons, Nat.mul_add, Nat.pow_add]
    refine Nat.xor_lt_two_pow ?_ ?_
    · rw [e]
      have := Nat.two_pow_pos (8 * l.length)
      omega
    · rw [e]
      omega
/-- what leaves no trace within four bytes began as these bytes -/
theorem runN_word (l : List Nat) (hl : ∀ b ∈ l, b < 256) (h4 : l.length ≤ 4) {c : Nat} (hc : c < 2 ^ 32) (h : runN c l = 0) : c = word l := by
  induction l generalizing c with
  | nil => exact h
  | cons b l ih =>
    have hl' : ∀ x ∈ l, x < 256 := fun x hx => hl x (List.mem_cons_of_mem _ hx)
    have hb := hl b (List.mem_cons_self ..)
    simp only [List.length_cons] at h4
    have h1 : addN c b = word l := ih hl' (by omega) (addN_lt hc hb) h
    have h2 := word_lt l hl'
    have h3 := addN_back (m := 8 * l.length) hc hb (by omega) (by rw [h1]; exact h2)
    rw [h1] at h3
    exact h3
theorem word_runN (l : List Nat) : runN (word l) l = 0 := by
  induction l with
  | nil => rfl
  | cons b l ih =>
    have h : addN (word (b :: l)) b = word l := by
      have e : word (b :: l) ^^^ b = 2 ^ 8 * word l := by
        rw [word, Nat.xor_comm b, Nat.xor_assoc, Nat.xor_self, Nat.xor_zero, Nat.mul_comm]
      rw [addN, e]
      exact hvs_double 8 _
    show runN (addN (word (b :: l)) b) l = 0
    rw [h, ih]
theorem word_zero (l : List Nat) (hl : ∀ b ∈ l, b < 256) (h : word l = 0) : ∀ b ∈ l, b = 0 := by
  induction l with
  | nil => simp
  | cons b l ih =>
    have hb := hl b (List.mem_cons_self ..)
    have e := xor_cancel b (word l * 256) 0 h
    rw [Nat.xor_zero] at e
    intro x hx
    rcases List.mem_cons.1 hx with rfl | hx
    · omega
    · exact ih (fun y hy => hl y (List.mem_cons_of_mem _ hy)) (by omega) x hx
theorem runN_zeros (l : List Nat) (hz : ∀ b ∈ l, b = 0) : runN 0 l = 0 := by
  induction l with
  | nil => rfl
  | cons b l ih =>
    obtain rfl := hz b (List.mem_cons_self ..)
    have e : addN 0 0 = 0 := by decide
    show runN (addN 0 0) l = 0
    rw [e]
    exact ih (fun y hy => hz y (List.mem_cons_of_mem _ hy))
theorem zeros_runN (l : List Nat) (hz : ∀ b ∈ l, b = 0) {c : Nat} (hc : c < 2 ^ 32) (h : runN c l = 0) : c = 0 := by
  induction l generalizing c with
  | nil => exact h
  | cons b l ih =>
    obtain rfl := hz b (List.mem_cons_self ..)
    have h1 : addN c 0 = 0 := ih (fun y hy => hz y (List.mem_cons_of_mem _ hy)) (addN_lt hc (by decide)) h
    have h3 := addN_back (m := 0) hc (by decide : (0 : Nat) < 256) (by decide) (by rw [h1]; decide)
    rw [h1] at h3
    simpa using h3
/-- A BURST: where all but four places that stand together are 0, and no trace is left, all are 0. -/
theorem burst (l : List Nat) (hl : ∀ b ∈ l, b < 256) (p : Nat) (hz : ∀ i b, l[i]? = some b → i < p ∨ p + 4 ≤ i → b = 0) (h : runN 0 l = 0) : ∀ b ∈ l, b = 0 := by
  have e : l = l.take p ++ ((l.drop p).take 4 ++ (l.drop p).drop 4) := by rw [List.take_append_drop, List.take_append_drop]
  have z1 : ∀ b ∈ l.take p, b = 0 := fun b hb => by
    obtain ⟨i, hi⟩ := List.mem_iff_getElem?.1 hb
    rw [List.getElem?_take] at hi
    by_cases h1 : i < p
    · rw [if_pos h1] at hi
      exact hz i b hi (.inl h1)
    · rw [if_neg h1] at hi
      cases hi
  have z3 : ∀ b ∈ (l.drop p).drop 4, b = 0 := fun b hb => by
    obtain ⟨i, hi⟩ := List.mem_iff_getElem?.1 hb
    rw [List.getElem?_drop, List.getElem?_drop] at hi
    exact hz _ b hi (.inr (by omega))
  have l2 : ∀ b ∈ (l.drop p).take 4, b < 256 := fun b hb => hl b (List.mem_of_mem_drop (List.mem_of_mem_take hb))
  have h' := h
  rw [e, runN_append, runN_append, runN_zeros _ z1] at h'
  have h2 := zeros_runN _ z3 (runN_lt _ l2 (by decide)) h'
  have h3 := runN_word _ l2 (by rw [List.length_take]; omega) (by decide) h2
  have z2 := word_zero _ l2 h3.symm
  intro b hb
  rw [e] at hb
  rcases List.mem_append.1 hb with hb | hb
  · exact z1 b hb
  · rcases List.mem_append.1 hb with hb | hb
    · exact z2 b hb
    · exact z3 b hb
end Go.Proofs.Ytckdkoakgnojbaa.Ma
