/-
  The maths of CrcTells: texts that differ within four bytes that stand together alone have unlike sums; and a sealed text that is turned so is sealed no more.
-/
import Derived.Test.YtckdkoakgnojbaaMm
namespace Go.Proofs.Ytckdkoakgnojbaa
open Go.RowKit Ma Go.Lib
/-- two texts are alike but within four places from p on -/
def Near (p : Nat) (s t : List UInt8) : Prop := s.length = t.length ∧ ∀ i, i < p ∨ p + 4 ≤ i → s[i]? = t[i]?
def diff (s t : List UInt8) : List Nat := List.zipWith (· ^^^ ·) (nums s) (nums t)
theorem nums_len (s : List UInt8) : (nums s).length = s.length := by simp [nums]
theorem diff_lt (s t : List UInt8) : ∀ b ∈ diff s t, b < 256 := by
  intro b hb
  unfold diff at hb
  obtain ⟨i, hi⟩ := List.mem_iff_getElem?.1 hb
  rw [List.getElem?_zipWith] at hi
  cases h1 : (nums s)[i]? with
  | none => rw [h1] at hi; simp at hi
  | some x => cases h2 : (nums t)[i]? with
    | none => rw [h1, h2] at hi; simp at hi
    | some y =>
      rw [h1, h2] at hi
      simp only [Option.some.injEq] at hi
      subst hi
      exact Nat.xor_lt_two_pow (n := 8) (nums_lt s x (List.mem_of_getElem? h1)) (nums_lt t y (List.mem_of_getElem? h2))
theorem diff_near {p : Nat} {s t : List UInt8} (h : Near p s t) : ∀ i b, (diff s t)[i]? = some b → i < p ∨ p + 4 ≤ i → b = 0 := by
  intro i b hi ho
  have he := h.2 i ho
  unfold diff nums at hi
  rw [List.getElem?_zipWith, List.getElem?_map, List.getElem?_map, he] at hi
  cases h2 : t[i]? with
  | none => rw [h2] at hi; simp at hi
  | some y =>
    rw [h2] at hi
    simp at hi
    exact hi.symm
theorem diff_zero (s t : List UInt8) (h : s.length = t.length) (hz : ∀ b ∈ diff s t, b = 0) : s = t := by
  apply List.ext_getElem h
  intro i h1 h2
  have hb : (diff s t)[i]? = some (s[i].toNat ^^^ t[i].toNat) := by
    unfold diff nums
    rw [List.getElem?_zipWith, List.getElem?_map, List.getElem?_map, List.getElem?_eq_getElem h1, List.getElem?_eq_getElem h2]
    rfl
  have h0 := hz _ (List.mem_of_getElem? hb)
  have h3 := xor_cancel _ _ _ h0
  rw [Nat.xor_zero] at h3
  exact UInt8.toNat_inj.1 h3
theorem st_diff (s t : List UInt8) (h : s.length = t.length) (c d : Nat) : Ma.runN (c ^^^ d) (diff s t) = Ma.runN c (nums s) ^^^ Ma.runN d (nums t) :=
  runN_xor _ _ (by rw [nums_len, nums_len, h]) c d
/-- WHAT IS TURNED IN FOUR BYTES THAT STAND TOGETHER TURNS THE SUM. -/
theorem near_sum {p : Nat} {s t : List UInt8} (h : Near p s t) (he : sumN s = sumN t) : s = t := by
  have h1 := stN_lt s
  have h2 := stN_lt t
  unfold sumN at he
  have e : stN s = stN t := by omega
  have hr := st_diff s t h.1 4294967295 4294967295
  unfold stN at e
  rw [e, Nat.xor_self, Nat.xor_self] at hr
  exact diff_zero s t h.1 (burst _ (diff_lt s t) p (diff_near h) hr)
theorem xor_cat (b x : Nat) (hb : b < 256) : b ^^^ x * 256 = b + x * 256 := by
  have e : b + x * 256 = 2 ^ 8 * x + b := by omega
  have e2 : x * 256 = 2 ^ 8 * x := by omega
  apply Nat.eq_of_testBit_eq
  intro j
  rw [e, e2, Nat.testBit_xor, Nat.testBit_two_pow_mul, Nat.testBit_two_pow_mul_add _ (show b < 2 ^ 8 from hb)]
  by_cases hj : j < 8
  · rw [if_pos hj, decide_eq_false (by omega : ¬ j ≥ 8)]; simp
  · rw [if_neg hj, Nat.testBit_lt_two_pow (x := b) (i := j) (Nat.lt_of_lt_of_le (show b < 2 ^ 8 from hb) (Nat.pow_le_pow_right (by decide) (by omega))), decide_eq_true (by omega : j ≥ 8)]; simp
theorem byte_nat (n : Nat) : (UInt8.ofNat n).toNat = n % 256 := by simp
theorem word_le4 (c : Nat) (hc : c < 2 ^ 32) : word (nums (le4 c)) = c := by
  unfold le4 nums
  simp only [List.map_cons, List.map_nil, byte_nat, word]
  rw [Nat.zero_mul, Nat.xor_zero, xor_cat _ _ (by omega), xor_cat _ _ (by omega), xor_cat _ _ (by omega)]
  omega
theorem word_xor (l m : List Nat) (h : l.length = m.length) : word (List.zipWith (· ^^^ ·) l m) = word l ^^^ word m := by
  induction l generalizing m with
  | nil => cases m with
    | nil => rfl
    | cons _ _ => simp at h
  | cons a l ih => cases m with
    | nil => simp at h
    | cons b m =>
      simp only [List.zipWith_cons_cons, word]
      rw [ih m (by simpa using h)]
      have e : (word l ^^^ word m) * 256 = word l * 256 ^^^ word m * 256 := by
        have h1 := Nat.shiftLeft_xor_distrib (a := word l) (b := word m) (i := 8)
        simpa [Nat.shiftLeft_eq] using h1
      rw [e]
      ac_rfl
theorem sealed_trace (s t : List UInt8) (h : s.length = t.length) : Ma.runN 0 (diff (s ++ le4 (sumN s)) (t ++ le4 (sumN t))) = 0 := by
  have e0 : diff (s ++ le4 (sumN s)) (t ++ le4 (sumN t)) = diff s t ++ List.zipWith (· ^^^ ·) (nums (le4 (sumN s))) (nums (le4 (sumN t))) := by
    unfold diff
    have e1 : ∀ a b : List UInt8, nums (a ++ b) = nums a ++ nums b := fun a b => by simp [nums]
    rw [e1, e1, List.zipWith_append (by rw [nums_len, nums_len, h])]
  have h1 := st_diff s t h 4294967295 4294967295
  rw [Nat.xor_self] at h1
  have h2 : Ma.runN 0 (diff s t) = word (List.zipWith (· ^^^ ·) (nums (le4 (sumN s))) (nums (le4 (sumN t)))) := by
    rw [word_xor _ _ (by rw [nums_len, nums_len]; rfl), word_le4 _ (sumN_lt s), word_le4 _ (sumN_lt t), h1]
    unfold sumN
    rw [all_xor _ (stN_lt s), all_xor _ (stN_lt t)]
    show stN s ^^^ stN t = _
    generalize stN s = a
    generalize stN t = b
    generalize (4294967295 : Nat) = f
    have e : f ^^^ a ^^^ (f ^^^ b) = (f ^^^ f) ^^^ (a ^^^ b) := by ac_rfl
    rw [e, Nat.xor_self, Nat.zero_xor]
  rw [e0, Ma.runN_append, h2]
  exact word_runN _
/-- A SEALED TEXT THAT IS TURNED SO IS OPENED NO MORE. -/
theorem near_seal {p : Nat} {s u : ByteArray} (h : Near p u.data.toList (sealB s).data.toList) (ho : opens u = true) : u = sealB s := by
  have hu := seal_open u ho
  have hl : (openB u).size = s.size := by
    have h1 := h.1
    rw [← hu] at h1
    rw [← Lib.size_eq, ← Lib.size_eq, seal_size, seal_size] at h1
    omega
  generalize openB u = t at hu hl
  subst hu
  have hlen : t.data.toList.length = s.data.toList.length := by rw [← Lib.size_eq, ← Lib.size_eq, hl]
  have hr := sealed_trace t.data.toList s.data.toList hlen
  rw [← seal_list, ← seal_list] at hr
  have e := diff_zero _ _ h.1 (burst _ (diff_lt _ _) p (diff_near h) hr)
  exact ByteArray.ext (Array.ext' e)
theorem near_opens {p : Nat} {s u : ByteArray} (h : Near p u.data.toList (sealB s).data.toList) : opens u = decide (u = sealB s) := by
  by_cases he : u = sealB s
  · rw [decide_eq_true he, he, opens_seal]
  · rw [decide_eq_false he]
    cases ho : opens u with
    | false => rfl
    | true => exact absurd (near_seal h ho) he
theorem near_sums {p : Nat} {s t : ByteArray} (h : Near p t.data.toList s.data.toList) : (sumN t.data.toList = sumN s.data.toList) ↔ t = s :=
  ⟨fun e => ByteArray.ext (Array.ext' (near_sum h e)), fun e => by rw [e]⟩
end Go.Proofs.Ytckdkoakgnojbaa
