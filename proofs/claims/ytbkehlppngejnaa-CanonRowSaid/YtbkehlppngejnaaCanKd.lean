/-
  The document's Kraft; lists of codes that lie in memory, and their maths.
-/
import Derived.Test.YtbkehlppngejnaaCanPu
namespace Go.Proofs.Ytbkehlppngejnaa
open Go.RowKit Go.Lib Cn
theorem sum_range {g : Nat → Nat} (i : Nat) : Hf.sm g (List.range (i + 1)) = Hf.sm g (List.range i) + g i := by
  rw [List.range_succ, Hf.sm_append]; simp [Hf.sm]
theorem sum_up {g : Nat → Nat} {i n : Nat} (h : i ≤ n) : Hf.sm g (List.range i) ≤ Hf.sm g (List.range n) := by
  induction h with
  | refl => exact Nat.le_refl _
  | step _ ih => rw [sum_range]; omega
/-- what a length counts -/
def takes (x : Nat) : Nat := if 1 ≤ x then 2 ^ (15 - x) else 0
set_option maxHeartbeats 1000000 in
theorem kraft_doc (l : List Nat) (p : Option Addr) (c : Nat) (w : World) (hn : l.length ≤ 300) (hl15 : ∀ i, l.getD i 0 ≤ 15) (Il : IntsLie w p (nums l) c) :
    Calls Try.prog 17 #[.slice p l.length c] w fun e w' => e = .returned (.int .i64 (Hf.kraftN l : Nat)) ∧ w' = w := by
  have HL := Lib.hid Il
  have HS := Lib.hid (show ∀ i, i ≤ l.length → Hf.sm (fun i => takes (l.getD i 0)) (List.range i) ≤ 4915200 from fun i hi => Nat.le_trans (sum_up hi) (Hf.kraft_le hn))
  have Hl0 := Lib.hid hl15
  have hc1 : (l.length : Int) ≤ c := by have := Il.len; rw [nums_len] at this; omega
  have zn : (l.length : Int) ≤ 300 := by omega
  have HP := Lib.hid (fun (k : Nat) (hk : k ≤ 30) => power_any k hk w)
  clear Il hl15 hn
  go_enter Try.func17, Try.ntmps17
  go_wp2
  go_loop [3, 4] (fun s v => ∃ i k : Nat, i ≤ l.length ∧ v = .int .i64 i ∧ s = .int .i64 k ∧ Hid (k = Hf.sm (fun i => takes (l.getD i 0)) (List.range i))) (fun _ v => l.length - (RowKit.intOf v).toNat)
  case atStart => exact ⟨0, 0, Nat.zero_le _, rfl, rfl, by show _ = _; rfl⟩
  case round =>
    obtain ⟨i, k, hi, rfl, rfl, HK⟩ := hrel
    by_cases hlt : i < l.length
    · have hle := HS.out (i + 1) hlt
      rw [sum_range, ← HK.out] at hle
      have hx := Hl0.out i
      have HK2 : Hid (k + takes (l.getD i 0) = Hf.sm (fun i => takes (l.getD i 0)) (List.range (i + 1))) := by show _ = _; rw [sum_range, ← HK.out]
      obtain ⟨b1, o1, rfl, h1⟩ := HL.out.at (i := i) (by rw [nums_len]; exact hlt)
      have c1 := h1 i (by rw [nums_len]; exact hlt)
      rw [nums_get] at c1
      generalize l.getD i 0 = x at *
      have ii : (i : Int) < l.length := by omega
      clear h1
      by_cases h0 : x = 0
      · subst h0
        have HK3 : Hid (k = Hf.sm (fun i => takes (l.getD i 0)) (List.range (i + 1))) := by show _ = _; rw [← HK2.out]; rfl
        clear hle hx HK2
        go_wp2
        go_round
        case rel => exact ⟨i + 1, k, by omega, by go_num, rfl, HK3⟩
        case measure => simp [RowKit.intOf]; omega
      · have hp := HP.out (15 - x) (by omega)
        have et : takes x = 2 ^ (15 - x) := by unfold takes; rw [if_pos (by omega)]
        rw [et] at hle HK2
        generalize (2 : Nat) ^ (15 - x) = z at *
        obtain ⟨y, hy⟩ : ∃ y, y = 15 - x := ⟨_, rfl⟩
        rw [← hy] at hp
        have e15 : 15 - (x : Int) = (y : Int) := by omega
        have z1 : (1 : Int) ≤ x := by omega
        have z15 : (x : Int) ≤ 15 := by omega
        have zk : (k : Int) + z ≤ 4915200 := by omega
        clear hy hle hx h0 et
        go_wp2_with fail
        go_at_call 18
        refine hp.mono ?_
        rintro e w' ⟨rfl, rfl⟩
        clear hp
        go_wp2
        go_round
        case rel => exact ⟨i + 1, k + z, by omega, by go_num, by go_num, HK2⟩
        case measure => simp [RowKit.intOf]; omega
    · have e : i = l.length := by omega
      subst e
      go_wp2
      go_ret
      exact ⟨ret_int (by rw [HK.out]; rfl), rfl⟩
/-- lengths that may be -/
structure MayC (l : List Nat) : Prop where
  len : l.length ≤ 300
  le : ∀ i, l.getD i 0 ≤ 15
  kraft : Hf.kraftN l ≤ 32768
/-- a symbol's code: how many bits, and which -/
def codeOf (l : List Nat) (i : Nat) : Nat × Nat := if 1 ≤ l.getD i 0 then (l.getD i 0, bitsOf l i) else (0, 0)
def codesOf (l : List Nat) : List (Nat × Nat) := (List.range l.length).map (codeOf l)
theorem codesOf_length (l : List Nat) : (codesOf l).length = l.length := by simp [codesOf]
theorem codesOf_get (l : List Nat) {i : Nat} (h : i < l.length) : (codesOf l).getD i (0, 0) = codeOf l i := by
  unfold codesOf
  rw [List.getD_eq_getElem?_getD, List.getElem?_map, List.getElem?_range h]; rfl
/-- codes that lie from a place on -/
def CodesAt (w : World) (blk off : Nat) (E : List (Nat × Nat)) : Prop := ∀ i, i < E.length → w.cell? ⟨blk, off + i * 2, none⟩ = some (.int .i64 ((E.getD i (0, 0)).1 : Nat)) ∧ w.cell? ⟨blk, off + i * 2 + 1, none⟩ = some (.int .i64 ((E.getD i (0, 0)).2 : Nat))
theorem CodesAt.below {w w' : World} {blk off : Nat} {E : List (Nat × Nat)} (h : CodesAt w blk off E) (hb : Below w.heap.size w w') : CodesAt w' blk off E := fun i hi => by
  obtain ⟨h1, h2⟩ := h i hi
  exact ⟨by rw [hb.cell (p := ⟨blk, off + i * 2, none⟩) (World.block_lt_of_cell? w _ h1)]; exact h1, by rw [hb.cell (p := ⟨blk, off + i * 2 + 1, none⟩) (World.block_lt_of_cell? w _ h2)]; exact h2⟩
structure CodesLie (w : World) (p : Option Addr) (E : List (Nat × Nat)) (cap : Nat) : Prop where
  len : E.length ≤ cap
  cap : cap ≤ maxLen
  lies : E = [] ∨ ∃ blk off, p = some ⟨blk, off, none⟩ ∧ CodesAt w blk off E
theorem CodesLie.below {w w' : World} {p : Option Addr} {E : List (Nat × Nat)} {cap : Nat} (h : CodesLie w p E cap) (hb : Below w.heap.size w w') : CodesLie w' p E cap :=
  ⟨h.len, h.cap, h.lies.imp id fun ⟨blk, off, e, k⟩ => ⟨blk, off, e, k.below hb⟩⟩
theorem CodesLie.at {w : World} {p : Option Addr} {E : List (Nat × Nat)} {cap : Nat} (h : CodesLie w p E cap) {i : Nat} (hi : i < E.length) : ∃ blk off, p = some ⟨blk, off, none⟩ ∧ CodesAt w blk off E := by
  rcases h.lies with rfl | h
  · simp at hi
  · exact h
/-! ### rows of codes that the call has made -/
def cv (E : List (Nat × Nat)) : List Value := E.flatMap fun e => [Value.int .i64 (e.1 : Nat), .int .i64 (e.2 : Nat)]
theorem cv_length : ∀ E : List (Nat × Nat), (cv E).length = E.length * 2
  | [] => rfl
  | e :: E => by
    have := cv_length E
    unfold cv at *
    rw [List.flatMap_cons, List.length_append, this]; simp; omega
theorem cv_append (E F : List (Nat × Nat)) : cv (E ++ F) = cv E ++ cv F := by unfold cv; rw [List.flatMap_append]
theorem cv_at : ∀ (E : List (Nat × Nat)) (i : Nat), i < E.length → (cv E)[i * 2]? = some (.int .i64 ((E.getD i (0, 0)).1 : Nat)) ∧ (cv E)[i * 2 + 1]? = some (.int .i64 ((E.getD i (0, 0)).2 : Nat))
  | e :: E, 0, _ => ⟨rfl, rfl⟩
  | e :: E, i + 1, h => by
    have := cv_at E i (by simpa using h)
    show (_ :: _ :: cv E)[(i + 1) * 2]? = _ ∧ (_ :: _ :: cv E)[(i + 1) * 2 + 1]? = _
    rw [show (i + 1) * 2 = i * 2 + 1 + 1 by omega, show i * 2 + 1 + 1 + 1 = (i * 2 + 1) + 1 + 1 by omega, List.getElem?_cons_succ, List.getElem?_cons_succ, List.getElem?_cons_succ, List.getElem?_cons_succ]
    exact this
theorem cv_set : ∀ (E : List (Nat × Nat)) (i : Nat) (e : Nat × Nat), cv (E.set i e) = ((cv E).set (i * 2) (.int .i64 (e.1 : Nat))).set (i * 2 + 1) (.int .i64 (e.2 : Nat))
  | [], _, _ => rfl
  | x :: E, 0, e => rfl
  | x :: E, i + 1, e => by
    have := cv_set E i e
    show _ :: _ :: cv (E.set i e) = List.set (List.set (_ :: _ :: cv E) ((i + 1) * 2) _) ((i + 1) * 2 + 1) _
    rw [this, show (i + 1) * 2 = i * 2 + 1 + 1 by omega, show i * 2 + 1 + 1 + 1 = (i * 2 + 1) + 1 + 1 by omega, List.set_cons_succ, List.set_cons_succ, List.set_cons_succ, List.set_cons_succ]
theorem cv_one (E : List (Nat × Nat)) : ∀ u ∈ cv E, u.oneCell' = true := fun u hu => by
  unfold cv at hu
  obtain ⟨e, _, h⟩ := List.mem_flatMap.1 hu
  simp at h
  rcases h with rfl | rfl <;> rfl
theorem codes_own {w : World} {B n d : Nat} {q : Option Addr} {E : List (Nat × Nat)} (h : w.ownsRow B 42 2 (.slice q n d) n (cv E)) (hn : E.length = n) : CodesLie w q E d := by
  rcases h.2 with ⟨h1, h2⟩ | ⟨g', cap', cur, h1, h2, h3, h4, h5, h6⟩
  · cases h1
    exact ⟨by omega, Nat.zero_le _, Or.inl (List.length_eq_zero_iff.1 (by omega))⟩
  · cases h1
    refine ⟨by omega, h5, Or.inr ⟨g', 0, rfl, fun i hi => ?_⟩⟩
    obtain ⟨c1, c2⟩ := cv_at E i hi
    refine ⟨by rw [Nat.zero_add, h.cellAt (i * 2) (by omega)]; exact c1, by rw [Nat.zero_add, h.cellAt (i * 2 + 1) (by omega)]; exact c2⟩
/-! ### filling a list of codes, length by length -/
def filled (l : List Nat) (n i : Nat) : List (Nat × Nat) := (List.range l.length).map fun j => if 1 ≤ l.getD j 0 ∧ (l.getD j 0 < n ∨ l.getD j 0 = n ∧ j < i) then (l.getD j 0, bitsOf l j) else (0, 0)
theorem filled_length (l : List Nat) (n i : Nat) : (filled l n i).length = l.length := by simp [filled]
theorem filled_start (l : List Nat) : filled l 1 0 = List.replicate l.length (0, 0) := by
  unfold filled
  refine List.ext_getElem (by simp) fun j h1 h2 => ?_
  rw [List.getElem_map, List.getElem_range, List.getElem_replicate, if_neg (by omega)]
theorem filled_next (l : List Nat) (n : Nat) : filled l n l.length = filled l (n + 1) 0 := by
  unfold filled
  refine List.map_congr_left fun j hj => ?_
  have hj : j < l.length := List.mem_range.1 hj
  by_cases h : 1 ≤ l.getD j 0 ∧ (l.getD j 0 < n ∨ l.getD j 0 = n ∧ j < l.length)
  · rw [if_pos h, if_pos (by omega)]
  · rw [if_neg h, if_neg (by omega)]
theorem filled_end {l : List Nat} (h : ∀ i, l.getD i 0 ≤ 15) : filled l 16 0 = codesOf l := by
  unfold filled codesOf
  refine List.map_congr_left fun j _ => ?_
  have := h j
  unfold codeOf
  by_cases h1 : 1 ≤ l.getD j 0
  · rw [if_pos (by omega), if_pos h1]
  · rw [if_neg (by omega), if_neg h1]
theorem filled_get (l : List Nat) (n i j : Nat) (h : j < (filled l n i).length) : (filled l n i)[j] = if 1 ≤ l.getD j 0 ∧ (l.getD j 0 < n ∨ l.getD j 0 = n ∧ j < i) then (l.getD j 0, bitsOf l j) else (0, 0) := by
  have h' : j < l.length := by rw [filled_length] at h; exact h
  show (List.map _ (List.range l.length))[j]'(by simpa using h') = _
  rw [List.getElem_map, List.getElem_range]
theorem filled_set (l : List Nat) {n i : Nat} (h1 : 1 ≤ n) (_hi : i < l.length) (h : l.getD i 0 = n) : filled l n (i + 1) = (filled l n i).set i (n, base l n + cnt l n i) := by
  refine List.ext_getElem (by rw [List.length_set, filled_length, filled_length]) fun j h2 h3 => ?_
  rw [List.getElem_set, filled_get, filled_get]
  by_cases e : i = j
  · subst e
    rw [if_pos rfl, if_pos (by omega)]
    unfold bitsOf
    rw [h]
  · rw [if_neg e]
    by_cases h4 : 1 ≤ l.getD j 0 ∧ (l.getD j 0 < n ∨ l.getD j 0 = n ∧ j < i)
    · rw [if_pos h4, if_pos (by omega)]
    · rw [if_neg h4, if_neg (by omega)]
theorem filled_not (l : List Nat) {n i : Nat} (h : l.getD i 0 ≠ n) : filled l n (i + 1) = filled l n i := by
  unfold filled
  refine List.map_congr_left fun j _ => ?_
  by_cases h4 : 1 ≤ l.getD j 0 ∧ (l.getD j 0 < n ∨ l.getD j 0 = n ∧ j < i)
  · rw [if_pos h4, if_pos (by omega)]
  · rw [if_neg h4, if_neg (fun k => h4 ⟨k.1, k.2.imp id fun ⟨a, b⟩ => ⟨a, by
      by_cases e : j = i
      · subst e; exact absurd a h
      · omega⟩⟩)]
/-- behind all codes of n bits -/
def topC (l : List Nat) (n : Nat) : Nat := base l n + (if n = 0 then 0 else cnt l n l.length)
theorem base_top (l : List Nat) (n : Nat) : base l (n + 1) = 2 * topC l n := rfl
theorem cnt_le (l : List Nat) (n : Nat) : ∀ i, cnt l n i ≤ i
  | 0 => Nat.le_refl _
  | i + 1 => by
    have := cnt_le l n i
    show cnt l n i + (if _ then 1 else 0) ≤ _
    split <;> omega
theorem base_le {l : List Nat} (h : MayC l) {n : Nat} (hn : n ≤ 15) : base l n ≤ 32768 := by
  cases n with
  | zero => exact Nat.zero_le _
  | succ n =>
    have h1 := base_low l (n + 1) (by omega) hn
    have h2 := low_mono l (show n + 1 ≤ 16 by omega)
    rw [low_all h.le] at h2
    have h3 := h.kraft
    have h4 : base l (n + 1) * 1 ≤ base l (n + 1) * 2 ^ (15 - (n + 1)) := Nat.mul_le_mul_left _ (Nat.pow_pos (by decide))
    omega
theorem topC_le {l : List Nat} (h : MayC l) {n : Nat} (hn : n ≤ 15) : topC l n ≤ 33068 := by
  have h1 := base_le h hn
  have h2 := cnt_le l n l.length
  have h3 := h.len
  unfold topC
  split <;> omega
end Go.Proofs.Ytbkehlppngejnaa
