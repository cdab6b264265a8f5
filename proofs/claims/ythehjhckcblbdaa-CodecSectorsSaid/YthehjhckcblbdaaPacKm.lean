/-
  A map of codes, and which symbol each is: what is looked up, and what is stored.
-/
import Derived.Test.YthehjhckcblbdaaCanX
import Derived.WideKeyEntry
import Derived.Maps.OwnRows
import Derived.DeepKeys4
namespace Go.Proofs.Ythehjhckcblbdaa.Pk
set_option maxRecDepth 100000
open Go.RowKit Go.Lib Go.MapKept Go.ChangeMaps Go.WideElems Cn
theorem laidOutK : laidOutB Try.prog = true := by kernel_rfl
theorem row51 : (58 : TypeId) < Try.prog.types.size := of_decide_eq_true (by kernel_rfl)
theorem wide51 : (match Try.prog.underlying 58 with | some (.array _ _) | some (.struct _) => true | _ => false) = true := by rw [Try.underlying58]
theorem law51 : WideMaps.KeyLaw Try.prog 58 := deep_law_laid laidOutK (m := 2) (by omega) row51 (by kernel_rfl) wide51
/-- a code as a key -/
def CK (n v : Nat) : Value := .agg #[.int .i64 (n : Int), .int .i64 (v : Int)]
theorem CK_inj {n v m u : Nat} (h : CK n v = CK m u) : n = m ∧ v = u := by
  unfold CK at h
  simp only [Value.agg.injEq, Array.mk.injEq, List.cons.injEq, Value.int.injEq, true_and, and_true] at h
  omega
theorem key_is (a b : Nat) (ha : a ≤ 1000000) (hb : b ≤ 1000000) : ∃ l, keyOf Try.prog 58 (CK a b) = some l := by
  have hk : Try.prog.keyType 58 = true := by kernel_rfl
  have hc : Try.prog.cellsOf 58 = 2 := by kernel_rfl
  have hc3 : Try.prog.cellsOf 3 = 1 := by kernel_rfl
  have hu := Try.underlying58
  have hu3 := Try.underlying3
  have hs : ∃ m, Try.prog.types.size + 1 = m + 2 := ⟨Try.prog.types.size - 1, by have : (58 : Nat) < Try.prog.types.size := row51; omega⟩
  obtain ⟨m, hm⟩ := hs
  have h1 : (Lit.int .i64 (a : Int)).wf = true := WalkArith.wf_i64 (by omega)
  have h2 : (Lit.int .i64 (b : Int)).wf = true := WalkArith.wf_i64 (by omega)
  unfold keyOf CK
  simp only [hu]
  rw [if_pos (by simp [hk, Value.formed, hu, hc]), hm]
  unfold Program.keyLits
  simp only [hu, Value.cells]
  rw [if_pos (by refine ⟨by rw [hc]; rfl, by simp⟩)]
  simp [hc3, Program.keyLits, hu3, h1, h2]
/-- block b is a map of the first k symbols' codes -/
structure MapAt (w : World) (b : Nat) (l : List Nat) (k : Nat) (es : Array MapEntry) (clock : Nat) : Prop where
  heap : w.heap[b]? = some (.map es clock)
  stamped : Stamped es clock
  keys : ∀ x ∈ es.toList, ∃ l, keyOf Try.prog 58 x.key = some l
  vals : ∀ x ∈ es.toList, ∃ i, i < k ∧ 0 < l.getD i 0 ∧ x.key = CK (l.getD i 0) (bitsOf l i) ∧ x.val = .int .i64 (i : Nat)
  all : ∀ i, i < k → 0 < l.getD i 0 → ∃ x ∈ es.toList, x.key = CK (l.getD i 0) (bitsOf l i)
def MapL (w : World) (b : Nat) (l : List Nat) (k : Nat) : Prop := ∃ es clock, MapAt w b l k es clock
theorem MapL.made (w : World) (l : List Nat) : MapL (w.alloc (.map #[] 0)) w.heap.size l 0 :=
  ⟨#[], 0, (MapKept.heap_alloc w _).1, stamped_empty 0, by simp, by simp, fun i h => by omega⟩
theorem MapL.lt {w : World} {b k : Nat} {l : List Nat} (h : MapL w b l k) : b < w.heap.size := by
  obtain ⟨es, clock, h⟩ := h
  exact (Array.getElem?_eq_some_iff.1 h.heap).1
theorem MapL.kept {w w' : World} {b k : Nat} {l : List Nat} {row : Option Nat} (h : MapL w b l k) (hg : w.grownBy w' row) (hb : some b ≠ row) : MapL w' b l k := by
  obtain ⟨es, clock, h⟩ := h
  exact ⟨es, clock, (hg.block b (Array.getElem?_eq_some_iff.1 h.heap).1 hb).trans h.heap, h.stamped, h.keys, h.vals, h.all⟩
theorem MapL.skip {w : World} {b k : Nat} {l : List Nat} (h : MapL w b l k) (h0 : l.getD k 0 = 0) : MapL w b l (k + 1) := by
  obtain ⟨es, clock, h⟩ := h
  refine ⟨es, clock, h.heap, h.stamped, h.keys, fun x hx => ?_, fun i hi hp => ?_⟩
  · obtain ⟨i, h1, h2⟩ := h.vals x hx
    exact ⟨i, by omega, h2⟩
  · by_cases e : i = k
    · subst e; omega
    · exact h.all i (by omega) hp
theorem code_one {l : List Nat} (hl : ∀ i, l.getD i 0 ≤ 15) {i j : Nat} (hi : 0 < l.getD i 0) (h : CK (l.getD i 0) (bitsOf l i) = CK (l.getD j 0) (bitsOf l j)) : i = j := by
  obtain ⟨h1, h2⟩ := CK_inj h
  refine apart hl hi (by omega) (by omega) ?_
  rw [h1, Nat.sub_self, Nat.pow_zero, Nat.div_one, h2]
theorem bits_small {l : List Nat} (hl : ∀ i, l.getD i 0 ≤ 15) (hk : Hf.kraftN l ≤ 32768) {i : Nat} (h1 : 0 < l.getD i 0) : bitsOf l i ≤ 32767 := by
  have h2 := bits_lt hl hk h1
  have h3 : 2 ^ l.getD i 0 ≤ 2 ^ 15 := Nat.pow_le_pow_right (by decide) (hl i)
  omega
theorem MapL.hit {w : World} {b k i : Nat} {l : List Nat} (h : MapL w b l k) (hm : MayC l) (hi : i < k) (h0 : 0 < l.getD i 0) :
    (Instr.lookup 94 (.map (some b)) (CK (l.getD i 0) (bitsOf l i)) true).run Try.prog w = .ok (.tuple #[.int .i64 (i : Nat), .bool true]) w := by
  obtain ⟨es, clock, h⟩ := h
  obtain ⟨kl, hkey⟩ := key_is (l.getD i 0) (bitsOf l i) (by have := hm.le i; omega) (by have := bits_small hm.le hm.kraft h0; omega)
  rcases law51.find w hkey es.toList h.keys with ⟨h1, h2⟩ | ⟨j, e0, h1, h2, h3⟩
  · obtain ⟨x, hx, e⟩ := h.all i hi h0
    exact absurd e (h2 x hx)
  · obtain ⟨i2, _, hi2, e1, e2⟩ := h.vals e0 (List.mem_of_getElem? h2)
    have e := code_one hm.le h0 (h3.symm.trans e1)
    subst e
    have hh := h.heap
    clear e1 hi2 h0 h h3
    generalize CK (l.getD i 0) (bitsOf l i) = key at *
    simp [Instr.lookup, run_underlying Try.underlying94, MapKept.run_getObj_map hh, law51.check w _ hkey, h1, e2, Result.andThen]
theorem MapL.miss {w : World} {b k n v : Nat} {l : List Nat} (h : MapL w b l k) (hn : n ≤ 1000000) (hv : v ≤ 1000000) (hno : ∀ i, i < k → 0 < l.getD i 0 → ¬ (l.getD i 0 = n ∧ bitsOf l i = v)) :
    (Instr.lookup 94 (.map (some b)) (CK n v) true).run Try.prog w = .ok (.tuple #[.int .i64 0, .bool false]) w := by
  obtain ⟨es, clock, h⟩ := h
  obtain ⟨kl, hkey⟩ := key_is n v hn hv
  rcases law51.find w hkey es.toList h.keys with ⟨h1, h2⟩ | ⟨j, e0, h1, h2, h3⟩
  · simp [Instr.lookup, run_underlying Try.underlying94, MapKept.run_getObj_map h.heap, law51.check w _ hkey, h1, Result.andThen]
  · obtain ⟨i2, hi2, hp, e1, _⟩ := h.vals e0 (List.mem_of_getElem? h2)
    have e := CK_inj (h3.symm.trans e1)
    exact absurd ⟨e.1.symm, e.2.symm⟩ (hno i2 hi2 hp)
theorem MapL.store {w : World} {b k : Nat} {l : List Nat} (h : MapL w b l k) (hm : MayC l) (h0 : 0 < l.getD k 0) :
    ∃ w', (Instr.mapUpdate 94 (.map (some b)) (CK (l.getD k 0) (bitsOf l k)) (.int .i64 (k : Nat))).run Try.prog w = .ok () w' ∧ MapL w' b l (k + 1) ∧ w.grownBy w' (some b) := by
  obtain ⟨es, clock, h⟩ := h
  obtain ⟨kl, hkey⟩ := key_is (l.getD k 0) (bitsOf l k) (by have := hm.le k; omega) (by have := bits_small hm.le hm.kraft h0; omega)
  rcases law51.find w hkey es.toList h.keys with ⟨h1, h2⟩ | ⟨j, e0, h1, h2, h3⟩
  · refine ⟨setBlock w b (.map (es.push ⟨CK (l.getD k 0) (bitsOf l k), .int .i64 (k : Nat), clock⟩) (clock + 1)), ?_, ⟨_, _, heap_setBlock_same h.heap _, stamped_push h.stamped h2, ?_, ?_, ?_⟩, ?_⟩
    · have hh := h.heap
      clear h0 h h2
      generalize CK (l.getD k 0) (bitsOf l k) = key at *
      simp [Instr.mapUpdate, run_underlying Try.underlying94, MapKept.run_getObj_map hh, law51.check w _ hkey, h1, MapKept.run_setObj_map _ hh, Result.andThen, setBlock]
    · intro x hx
      rw [Array.toList_push, List.mem_append, List.mem_singleton] at hx
      rcases hx with hx | rfl
      · exact h.keys x hx
      · exact ⟨kl, hkey⟩
    · intro x hx
      rw [Array.toList_push, List.mem_append, List.mem_singleton] at hx
      rcases hx with hx | rfl
      · obtain ⟨i, i1, i2⟩ := h.vals x hx
        exact ⟨i, by omega, i2⟩
      · exact ⟨k, by omega, h0, rfl, rfl⟩
    · intro i hi hp
      by_cases e : i = k
      · subst e
        exact ⟨_, by rw [Array.toList_push]; exact List.mem_append_right _ (List.mem_singleton.2 rfl), rfl⟩
      · obtain ⟨x, hx, e⟩ := h.all i (by omega) hp
        exact ⟨x, by rw [Array.toList_push]; exact List.mem_append_left _ hx, e⟩
    · exact ⟨rfl, rfl, rfl, by simp [setBlock], fun i _ hi => heap_setBlock_other h.heap _ (fun e1 => hi (by rw [e1]))⟩
  · obtain ⟨i2, hi2, hp, e1, _⟩ := h.vals e0 (List.mem_of_getElem? h2)
    have e := code_one hm.le h0 (h3.symm.trans e1)
    omega
end Go.Proofs.Ythehjhckcblbdaa.Pk

