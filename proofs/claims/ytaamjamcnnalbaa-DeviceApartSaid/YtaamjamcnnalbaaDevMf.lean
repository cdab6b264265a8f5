/-
  Maths of a disk that is armed: so many writes, and what is kept of them. No condition.
-/
import Derived.Test.YtaamjamcnnalbaaDevMw
import Derived.Test.YtaamjamcnnalbaaDevSe
namespace Go.Proofs.Ytaamjamcnnalbaa.Dv
set_option maxRecDepth 100000
/-- what is written there -/
def wtext (i : Nat) : ByteArray := sectorB (UInt8.ofNat (i + 1))
def wcache (n : Nat) : List (Int × ByteArray) := (List.range n).map fun i : Nat => ((i : Int), wtext i)
/-- the disk behind i writes -/
def armed (n i : Nat) (K : List Bool) : Dsk := ⟨List.replicate 60 zero32, wcache i, (n : Int) - i, K, false⟩
theorem wcache_succ (i : Nat) : wcache (i + 1) = wcache i ++ [((i : Int), wtext i)] := by
  unfold wcache; rw [List.range_succ, List.map_append]; rfl
theorem wcache_length (i : Nat) : (wcache i).length = i := by unfold wcache; simp
theorem sectorB_size (b : UInt8) : (sectorB b).size = 32 := by
  show (List.replicate 32 b).toArray.size = 32
  simp
theorem zero32_size : zero32.size = 32 := by
  show (List.replicate 32 (0 : UInt8)).toArray.size = 32
  simp
theorem mayD_armed {n i : Nat} (hi : i ≤ n) (hn : n ≤ 50) (K : List Bool) : mayD (armed n i K) = true := by
  refine mayD_iff.2 ⟨by simp [armed], by simp [armed], by simp only [armed]; rw [wcache_length]; omega, by simp only [armed]; omega, fun t ht => ?_, fun p hp => ?_⟩
  · simp only [armed] at ht
    rw [List.eq_of_mem_replicate ht]; exact zero32_size
  · simp only [armed, wcache, List.mem_map, List.mem_range] at hp
    obtain ⟨j, hj, rfl⟩ := hp
    refine ⟨by simp only; omega, ?_, sectorB_size _⟩
    simp only [armed, List.length_replicate]; omega
theorem good_armed {n i : Nat} (hi : i ≤ n) (hn : n ≤ 50) (K : List Bool) (a : Nat) (ha : a < 60) (b : UInt8) : Good (armed n i K) a (sectorB b) :=
  ⟨there_iff.2 ⟨by omega, by simp only [armed, List.length_replicate]; omega⟩, sectorB_size b, by simp only [armed]; rw [wcache_length]; omega⟩
theorem write_armed {n i : Nat} (hi : i < n) (hn : n ≤ 50) (K : List Bool) : writeD (armed n i K) i (wtext i) = (armed n (i + 1) K, 0) := by
  rcases write_cases (mayD_armed (Nat.le_of_lt hi) hn K) i (wtext i) with ⟨h, _⟩ | ⟨_, g, _⟩ | ⟨_, _, h, _⟩ | ⟨_, _, _, e⟩
  · cases h
  · exact absurd (good_armed (Nat.le_of_lt hi) hn K i (by omega) _) g
  · simp only [armed] at h; omega
  · have hif : (if 0 < (armed n i K).fuse then (armed n i K).fuse - 1 else (armed n i K).fuse) = (n : Int) - ((i + 1 : Nat) : Int) := by
      have h0 : 0 < (armed n i K).fuse := by show 0 < (n : Int) - i; omega
      rw [if_pos h0]
      show (n : Int) - i - 1 = _
      omega
    rw [e, hif]
    show ((⟨List.replicate 60 zero32, wcache i ++ [((i : Int), wtext i)], (n : Int) - ((i + 1 : Nat) : Int), K, false⟩ : Dsk), (0 : Int)) = _
    rw [← wcache_succ]; rfl
/-- what it is when it died -/
def fallen (n : Nat) (K : List Bool) : Dsk := ⟨dieC (List.replicate 60 zero32) (wcache n ++ [((n : Int), sectorB 255)]) K, [], -1, [], true⟩
theorem write_fallen {n : Nat} (hn : n ≤ 50) (K : List Bool) : writeD (armed n n K) n (sectorB 255) = (fallen n K, 90) := by
  have hg := good_armed (Nat.le_refl n) hn K n (by omega) 255
  rcases write_cases (mayD_armed (Nat.le_refl n) hn K) n (sectorB 255) with ⟨h, _⟩ | ⟨_, g, _⟩ | ⟨_, _, _, e⟩ | ⟨_, _, h, _⟩
  · cases h
  · exact absurd hg g
  · rw [e, dieD_eq (mayD_snoc (mayD_armed (Nat.le_refl n) hn K) hg (mayD_fuse (mayD_armed (Nat.le_refl n) hn K)))]
    rfl
  · simp only [armed] at h; omega
/-- sectors written one behind the other, of which keep keeps -/
theorem die_rising (T : Nat → ByteArray) : ∀ (m i : Nat) (L : List ByteArray) (K : List Bool) (j : Nat), i + m ≤ L.length → j < L.length →
    (dieC L ((List.range' i m).map fun k : Nat => ((k : Int), T k)) K).getD j empty0 = if i ≤ j ∧ j < i + m ∧ K.getD (j - i) false = true then T j else L.getD j empty0
  | 0, i, L, K, j, _, _ => by
    rw [List.range'_zero, List.map_nil, if_neg (by omega)]
    unfold dieC; rfl
  | m + 1, i, L, [], j, _, _ => by
    rw [List.range'_succ, List.map_cons, if_neg (by simp)]
    unfold dieC; rfl
  | m + 1, i, L, b :: K, j, hL, hj => by
    rw [List.range'_succ, List.map_cons]
    unfold dieC
    have hs : ∀ x, (if b = true then setAt L (i : Int) x else L).length = L.length := fun x => by split <;> simp [setAt]
    rw [die_rising T m (i + 1) _ K j (by rw [hs]; omega) (by rw [hs]; exact hj)]
    by_cases hji : j = i
    · subst hji
      rw [if_neg (by omega), Nat.sub_self]
      cases b with
      | true =>
        rw [if_pos rfl, if_pos ⟨Nat.le_refl _, by omega, rfl⟩]
        exact setAt_get (by omega) (by omega) _ _
      | false => rw [if_neg (by decide), if_neg (by simp)]
    · have hget : (if b = true then setAt L (i : Int) (T i) else L).getD j empty0 = L.getD j empty0 := by
        split
        · unfold setAt
          rw [List.getD_eq_getElem?_getD, List.getElem?_set_ne (by simp; omega), ← List.getD_eq_getElem?_getD]
        · rfl
      rw [hget]
      by_cases h : i ≤ j ∧ j < i + (m + 1) ∧ (b :: K).getD (j - i) false = true
      · rw [if_pos h, if_pos]
        refine ⟨by omega, by omega, ?_⟩
        have := h.2.2
        rw [show j - i = (j - (i + 1)) + 1 by omega] at this
        simpa using this
      · rw [if_neg h, if_neg]
        intro h2
        refine h ⟨by omega, by omega, ?_⟩
        rw [show j - i = (j - (i + 1)) + 1 by omega]
        simpa using h2.2.2
theorem fallen_length (n : Nat) (K : List Bool) : (fallen n K).kept.length = 60 := by unfold fallen; simp only; rw [dieC_length, List.length_replicate]
def ftext (n i : Nat) : ByteArray := if i = n then sectorB 255 else wtext i
theorem fallen_kept (n : Nat) (hn : n ≤ 50) (K : List Bool) (j : Nat) (hj : j ≤ n) : (fallen n K).kept.getD j empty0 = if K.getD j false = true then ftext n j else zero32 := by
  have hc : wcache n ++ [((n : Int), sectorB 255)] = (List.range' 0 (n + 1)).map fun k : Nat => ((k : Int), ftext n k) := by
    rw [← List.range_eq_range', List.range_succ, List.map_append]
    congr 1
    · unfold wcache
      refine List.map_congr_left fun k hk => ?_
      have : ¬ k = n := by have := List.mem_range.1 hk; omega
      unfold ftext
      rw [if_neg this]
    · show _ = [((n : Int), ftext n n)]
      unfold ftext
      rw [if_pos rfl]
  unfold fallen
  simp only
  rw [hc, die_rising (ftext n) (n + 1) 0 _ K j (by rw [List.length_replicate]; omega) (by rw [List.length_replicate]; omega)]
  by_cases h : K.getD j false = true
  · rw [if_pos ⟨Nat.zero_le _, by omega, h⟩, if_pos h]
  · rw [if_neg (fun h2 => h h2.2.2), if_neg h, List.getD_eq_getElem?_getD, List.getElem?_replicate, if_pos (by omega)]; rfl
theorem sectorB_inj {a b : UInt8} (h : sectorB a = sectorB b) : a = b := by
  have := congrArg (fun s : ByteArray => s.data.toList) h
  simp only [sectorB] at this
  exact (List.replicate_inj.1 this).2.resolve_left (by decide)
theorem ftext_ne (n i : Nat) (hi : i ≤ n) (hn : n ≤ 50) : ftext n i ≠ zero32 := by
  have hz : zero32 = sectorB 0 := rfl
  unfold ftext
  rw [hz]
  split
  · intro h
    have := sectorB_inj h
    revert this; decide
  · intro h
    have h2 := congrArg UInt8.toNat (sectorB_inj h)
    simp at h2
    omega
end Go.Proofs.Ytaamjamcnnalbaa.Dv

