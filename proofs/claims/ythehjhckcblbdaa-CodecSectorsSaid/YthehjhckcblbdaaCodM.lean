/-
  Maths of blocks: what a block is encoded to, and decoded from. No condition.
-/
import Derived.Test.YthehjhckcblbdaaPacMu
import Derived.Test.YthehjhckcblbdaaMatD
namespace Go.Proofs.Ythehjhckcblbdaa.Pk
set_option maxRecDepth 100000
open Mt Ma Mb
def splitS (s : ByteArray) : List Tok := split s.data.toList s.size 0
def encT (s : ByteArray) : List UInt8 := packL (encode (splitS s))
/-- what a block is encoded to, and whether it is packed -/
def encA (s : ByteArray) : ByteArray × Bool := if (encT s).length < 256 then (⟨(encT s).toArray⟩, true) else (s, false)
/-- what bytes are decoded to -/
def decA (s : ByteArray) (p : Bool) : Option (List UInt8) :=
  if p = false then (if s.size = 256 then some s.data.toList else none)
  else match decode (unpackL s.data.toList) 256 with
    | none => none
    | some (T, x) => if 8 * s.size - x < 8 ∧ (unpackL s.data.toList).drop x = List.replicate (8 * s.size - x) false then expand 256 [] T else none
theorem toList_mk (l : List UInt8) : (⟨l.toArray⟩ : ByteArray).data.toList = l := by simp
theorem size_mk (l : List UInt8) : (⟨l.toArray⟩ : ByteArray).size = l.length := by
  show l.toArray.size = _
  simp
theorem mk_toList (s : ByteArray) : (⟨s.data.toList.toArray⟩ : ByteArray) = s := by cases s; simp
theorem bytes_inj {s t : ByteArray} (h : s.data.toList = t.data.toList) : s = t := by rw [← mk_toList s, ← mk_toList t, h]
theorem size_toList (s : ByteArray) : s.data.toList.length = s.size := by simp
theorem splitS_length (s : ByteArray) : (splitS s).length ≤ s.size := by
  have := split_length s.data.toList s.size 0
  rw [size_toList] at this
  exact this
theorem splitS_may (s : ByteArray) : ∀ t ∈ splitS s, may t = true := split_may s.data.toList s.size 0
theorem splitS_expand (s : ByteArray) (h : s.size = 256) : expand 256 [] (splitS s) = some s.data.toList := by
  have := expand_split s.data.toList 256 (by rw [size_toList]; omega) s.size 0 (by rw [size_toList]; omega) (Nat.zero_le _)
  exact this
theorem dec_length {s : ByteArray} {p : Bool} {q : List UInt8} (h : decA s p = some q) : q.length = 256 := by
  unfold decA at h
  split at h
  · split at h
    · cases h; rw [size_toList]; assumption
    · cases h
  · split at h
    · cases h
    · rename_i T x hd
      split at h
      · obtain ⟨_, _, _, q', h1, h2⟩ := decode_end hd
        rw [show ((256 : Nat) : Int) = 256 from rfl] at h1
        rw [h] at h1
        cases h1
        exact h2
      · cases h
/-- what is encoded is decoded -/
theorem dec_enc (s : ByteArray) (h : s.size = 256) : decA (encA s).1 (encA s).2 = some s.data.toList := by
  unfold encA
  split
  · have hb := unpack_pack (encode (splitS s))
    have hd := decode_encode (many := 256) (splitS_expand s h) (by rw [size_toList]; exact h) (by omega) (List.replicate (8 * (((encode (splitS s)).length + 7) / 8) - (encode (splitS s)).length) false)
    unfold decA
    rw [if_neg (by simp), toList_mk]
    unfold encT
    rw [hb, hd]
    simp only
    rw [if_pos, splitS_expand s h]
    rw [size_mk, packL_length]
    refine ⟨by omega, ?_⟩
    rw [List.drop_left]
  · unfold decA
    rw [if_pos rfl, if_pos h]
theorem enc_size (s : ByteArray) (h : s.size = 256) : (encA s).1.size ≤ 256 ∧ (encA s).2 = decide ((encA s).1.size < 256) := by
  unfold encA
  split
  · rename_i hl
    rw [size_mk]
    exact ⟨by omega, (decide_eq_true hl).symm⟩
  · exact ⟨by rw [h]; exact Nat.le_refl _, by rw [h]; rfl⟩
theorem enc_pos (s : ByteArray) (h : s.size = 256) : 1 ≤ (encA s).1.size := by
  unfold encA
  split
  · rw [size_mk]
    unfold encT
    rw [packL_length]
    have : 9 ≤ (encode (splitS s)).length := by unfold encode; rw [List.length_append, dig_length]; omega
    omega
  · rw [h]; decide
theorem enc_inj {s t : ByteArray} (hs : s.size = 256) (ht : t.size = 256) (h : encA s = encA t) : s = t := by
  have h1 := dec_enc s hs
  have h2 := dec_enc t ht
  rw [h, h2] at h1
  exact bytes_inj (Option.some.inj h1).symm
theorem dec_pos {s : ByteArray} {p : Bool} {q : List UInt8} (h : decA s p = some q) : 1 ≤ s.size := by
  unfold decA at h
  split at h
  · split at h
    · omega
    · cases h
  · split at h
    · cases h
    · rename_i T x hd
      obtain ⟨_, h1, h2, _⟩ := decode_end hd
      rw [unpackL_length, size_toList] at h2
      omega
/-- a byte more is none -/
theorem dec_more {s t : ByteArray} {p : Bool} {q : List UInt8} (h : decA s p = some q) {x : UInt8} (ht : t.data.toList = s.data.toList ++ [x]) : decA t p = none := by
  have hz : t.size = s.size + 1 := by rw [← size_toList, ht, List.length_append, size_toList]; rfl
  unfold decA at h ⊢
  split at h
  · rename_i hp
    rw [if_pos hp]
    split at h
    · rw [if_neg (by omega)]
    · cases h
  · rename_i hp
    rw [if_neg hp]
    split at h
    · cases h
    · rename_i T e hd
      obtain ⟨_, h1, h2, _⟩ := decode_end hd
      have hu : Upto (unpackL s.data.toList) (unpackL t.data.toList) e := by
        rw [ht, unpackL_snoc]
        exact ⟨h2, by rw [List.length_append]; omega, by rw [List.take_append_of_le_length h2]⟩
      rw [decode_upto hd hu]
      simp only
      rw [unpackL_length, size_toList] at h2
      rw [if_neg (by omega)]
/-- a byte less is none -/
theorem dec_less {s t : ByteArray} {p : Bool} {q : List UInt8} (h : decA s p = some q) (ht : t.data.toList = s.data.toList.take (s.size - 1)) : decA t p = none := by
  have hp := dec_pos h
  have hz : t.size = s.size - 1 := by rw [← size_toList, ht, List.length_take, size_toList]; omega
  unfold decA at h ⊢
  split at h
  · rename_i hp
    rw [if_pos hp]
    split at h
    · rw [if_neg (by omega)]
    · cases h
  · rename_i hp
    rw [if_neg hp]
    split at h
    · cases h
    · rename_i T e hd
      split at h
      · rename_i hc
        cases hd2 : decode (unpackL t.data.toList) 256 with
        | none => rfl
        | some r =>
          obtain ⟨U, y⟩ := r
          obtain ⟨_, _, h2, _⟩ := decode_end hd2
          have hu : Upto (unpackL t.data.toList) (unpackL s.data.toList) y := by
            have e : unpackL s.data.toList = unpackL t.data.toList ++ unpackL (s.data.toList.drop (s.size - 1)) := by
              rw [ht]
              unfold unpackL
              rw [← List.flatMap_append, List.take_append_drop]
            rw [e]
            exact ⟨h2, by rw [List.length_append]; omega, by rw [List.take_append_of_le_length h2]⟩
          have h3 := decode_upto hd2 hu
          rw [hd] at h3
          cases h3
          rw [unpackL_length, size_toList] at h2
          omega
      · cases h
/-! ### sectors -/
def secI (n : Int) : Int := if n ≤ 0 then 0 else (n - 1) / 32 + 1
end Go.Proofs.Ythehjhckcblbdaa.Pk

