/-
  Lists of numbers, and of bits, that lie in memory; a walk that stands still at an append.
-/
import Derived.Test.YthehjhckcblbdaaGe
import Derived.BigQuiet
namespace Go.Proofs.Ythehjhckcblbdaa
set_option maxRecDepth 100000
open Go.RowKit Go.Lib
theorem ret_bool {a b : Bool} (h : a = b) : Ending.returned (.bool a) = .returned (.bool b) := by rw [h]
/-- a walk stands still here -/
def Stop (p : Prop) : Prop := p
theorem stop_append {P : Program} {ops : Array Oper} {rest : List Oper} {a : Act} {Q : Exit → Act → World → Prop} {w : World} {dst : Option Tmp} {ty : TypeId} {ps : String} {af : Array Edge} {t : TypeId} {x y : Operand}
    (h : Stop (wpList P ops Q (⟨dst, Op.call { callee := Callee.builtin Builtin.append, args := #[x, y], argTypes := #[t, t] }, ty, ps, af, none⟩ :: rest) a w)) :
    wpList P ops Q (⟨dst, Op.call { callee := Callee.builtin Builtin.append, args := #[x, y], argTypes := #[t, t] }, ty, ps, af, none⟩ :: rest) a w := h
/-- numbers that lie from a place on -/
def IntsAt (w : World) (blk off : Nat) (L : List Int) : Prop := ∀ i (h : i < L.length), w.cell? ⟨blk, off + i, none⟩ = some (.int .i64 L[i])
theorem IntsAt.below {w w' : World} {blk off : Nat} {L : List Int} (h : IntsAt w blk off L) (hb : Below w.heap.size w w') : IntsAt w' blk off L := fun i hi => by
  rw [hb.cell (p := ⟨blk, off + i, none⟩) (World.block_lt_of_cell? w _ (h i hi))]; exact h i hi
/-- a list of numbers, and where it lies -/
structure IntsLie (w : World) (p : Option Addr) (L : List Int) (cap : Nat) : Prop where
  len : L.length ≤ cap
  cap : cap ≤ maxLen
  lies : L = [] ∨ ∃ blk off, p = some ⟨blk, off, none⟩ ∧ IntsAt w blk off L
theorem IntsLie.below {w w' : World} {p : Option Addr} {L : List Int} {cap : Nat} (h : IntsLie w p L cap) (hb : Below w.heap.size w w') : IntsLie w' p L cap :=
  ⟨h.len, h.cap, h.lies.imp id fun ⟨blk, off, e, k⟩ => ⟨blk, off, e, k.below hb⟩⟩
theorem IntsLie.at {w : World} {p : Option Addr} {L : List Int} {cap : Nat} (h : IntsLie w p L cap) {i : Nat} (hi : i < L.length) : ∃ blk off, p = some ⟨blk, off, none⟩ ∧ IntsAt w blk off L := by
  rcases h.lies with rfl | h
  · simp at hi
  · exact h
def nums (f : List Nat) : List Int := f.map fun x : Nat => (x : Int)
theorem nums_len (f : List Nat) : (nums f).length = f.length := by unfold nums; rw [List.length_map]
theorem nums_get (f : List Nat) (i : Nat) (h : i < (nums f).length) : (nums f)[i] = ((f.getD i 0 : Nat) : Int) := by
  have h' : i < f.length := by rw [nums_len] at h; exact h
  show (f.map fun x : Nat => (x : Int))[i]'(by rw [List.length_map]; exact h') = _
  rw [List.getElem_map, List.getD_eq_getElem?_getD, List.getElem?_eq_getElem h']; rfl
theorem nums_at (D : List Nat) (i : Nat) (h : i < (nums D).length) : (nums D)[i] = ((D[i]'(by rw [nums_len] at h; exact h) : Nat) : Int) := List.getElem_map _
theorem lit_lie (w : World) (l : List Int) (h : l.length ≤ 100) : IntsLie (w.alloc (.cells (l.map fun x => Value.int .i64 x).toArray 3)) (some ⟨w.heap.size, 0, none⟩) l l.length := by
  refine ⟨Nat.le_refl _, by unfold maxLen; omega, .inr ⟨_, _, rfl, fun i hi => ?_⟩⟩
  rw [Nat.zero_add, cell_of_row _ _ i _ 3 (0, 0) (heap_alloc_new w _)]
  simp [hi]
theorem all_take {α : Type} (L : List α) (q : α → Bool) (i : Nat) (h : i < L.length) : (L.take (i + 1)).all q = ((L.take i).all q && q L[i]) := by
  rw [List.take_succ_eq_append_getElem h, List.all_append]; simp
def mayI (x : Int) : Bool := decide (0 ≤ x) && decide (x ≤ 100000)
/-- bits that lie from a place on -/
def FlagsAt (w : World) (blk off : Nat) (l : List Bool) : Prop := ∀ i, i < l.length → w.cell? ⟨blk, off + i, none⟩ = some (.bool (l.getD i false))
theorem FlagsAt.below {w w' : World} {blk off : Nat} {l : List Bool} (h : FlagsAt w blk off l) (hb : Below w.heap.size w w') : FlagsAt w' blk off l := fun i hi => by
  rw [hb.cell (p := ⟨blk, off + i, none⟩) (World.block_lt_of_cell? w _ (h i hi))]; exact h i hi
/-- a list of bits, and where it lies -/
structure FlagsLie (w : World) (p : Option Addr) (l : List Bool) (cap : Nat) : Prop where
  len : l.length ≤ cap
  cap : cap ≤ maxLen
  lies : l = [] ∨ ∃ blk off, p = some ⟨blk, off, none⟩ ∧ FlagsAt w blk off l
theorem FlagsLie.below {w w' : World} {p : Option Addr} {l : List Bool} {cap : Nat} (h : FlagsLie w p l cap) (hb : Below w.heap.size w w') : FlagsLie w' p l cap :=
  ⟨h.len, h.cap, h.lies.imp id fun ⟨blk, off, e, k⟩ => ⟨blk, off, e, k.below hb⟩⟩
theorem FlagsLie.at {w : World} {p : Option Addr} {l : List Bool} {cap : Nat} (h : FlagsLie w p l cap) {i : Nat} (hi : i < l.length) : ∃ blk off, p = some ⟨blk, off, none⟩ ∧ FlagsAt w blk off l := by
  rcases h.lies with rfl | h
  · simp at hi
  · exact h
end Go.Proofs.Ythehjhckcblbdaa
/-
  IndexFunc and ContainsFunc over a list of numbers, whatever the test.
-/
namespace Go.Proofs.Ythehjhckcblbdaa
set_option maxRecDepth 100000
open Go.RowKit Go.Lib
/-- a test of numbers: what its function answers -/
structure Tests (g : Nat) (pr : Int → Bool) : Prop where
  enter : ∀ args w, (callFunc g args).run Try.prog w = .ok (.enter g args) w
  calls : ∀ (x : Int) (w : World), Calls Try.prog g #[.int .i64 x] w fun e w' => e = .returned (.bool (pr x)) ∧ w' = w
set_option maxHeartbeats 1000000 in
theorem index_at (g : Nat) (pr : Int → Bool) (T : Tests g pr) (L : List Int) (p : Option Addr) (cap : Nat) (w : World) (h : IntsLie w p L cap) (hl : L.length ≤ 281474976710656) :
    Calls Try.prog 85 #[.slice p L.length cap, .func (.func g) #[] #[]] w fun e w' => (∃ k : Int, e = .returned (.int .i64 k) ∧ Hid (decide (0 ≤ k) = L.any pr)) ∧ w' = w := by
  have HI := Lib.hid h
  have zl : (L.length : Int) ≤ 281474976710656 := by omega
  have eg := T.enter
  have hT := T.calls
  clear h hl T
  go_enter Try.func85, Try.ntmps85
  go_wp2
  go_loop [8] (fun v => ∃ i : Nat, i ≤ L.length ∧ v = .int .i64 i ∧ Hid ((L.take i).any pr = false)) (fun v => L.length - (RowKit.intOf v).toNat)
  case atStart => exact ⟨0, Nat.zero_le _, rfl, by show _ = _; rfl⟩
  case round =>
    obtain ⟨i, hi, rfl, HA⟩ := hrel
    by_cases hlt : i < L.length
    · obtain ⟨blk, off, rfl, hc⟩ := HI.out.at hlt
      have c := hc i hlt
      have HS : Hid ((L.take (i + 1)).any pr = ((L.take i).any pr || pr L[i])) := by
        show _ = _
        rw [List.take_succ_eq_append_getElem hlt, List.any_append]; simp
      have HM := Lib.hid (fun (hx : pr L[i] = true) => show L.any pr = true from List.any_eq_true.2 ⟨L[i], List.getElem_mem hlt, hx⟩)
      generalize L[i] = x at c HS HM
      have ii : (i : Int) < L.length := by omega
      have hcap : (L.length : Int) ≤ cap := by have := HI.out.len; omega
      have hcall := hT x w
      clear hc hT
      cases hq : pr x with
      | true =>
        rw [hq] at hcall
        have HF := Lib.hid (HM.out hq)
        clear HM HS hq
        go_wp2_with fail
        refine hcall.mono ?_
        rintro e w' ⟨rfl, rfl⟩
        go_wp2
        go_ret
        exact ⟨⟨_, rfl, by show _ = _; rw [HF.out]; simp⟩, rfl⟩
      | false =>
        rw [hq] at hcall HS
        have HF : Hid ((L.take (i + 1)).any pr = false) := by show _ = _; rw [HS.out, HA.out]; rfl
        clear HM HS hq
        go_wp2_with fail
        refine hcall.mono ?_
        rintro e w' ⟨rfl, rfl⟩
        go_wp2
        go_round
        case rel => exact ⟨i + 1, by omega, by go_num, HF⟩
        case measure => simp [RowKit.intOf]; omega
    · have e : i = L.length := by omega
      subst e
      have HT : Hid (L.any pr = false) := by have := HA.out; rw [List.take_length] at this; exact this
      clear HA
      go_wp2
      go_ret
      exact ⟨⟨_, rfl, by show _ = _; rw [HT.out]; rfl⟩, rfl⟩
theorem contains_at (g : Nat) (pr : Int → Bool) (T : Tests g pr) (L : List Int) (p : Option Addr) (cap : Nat) (w : World) (h : IntsLie w p L cap) (hl : L.length ≤ 281474976710656) :
    Calls Try.prog 59 #[.slice p L.length cap, .func (.func g) #[] #[]] w fun e w' => e = .returned (.bool (L.any pr)) ∧ w' = w := by
  have hc := index_at g pr T L p cap w h hl
  clear h hl
  go_enter Try.func59, Try.ntmps59
  go_wp2_with (go_at_call 85; refine hc.mono ?_; rintro e w' ⟨⟨k, rfl, hk⟩, rfl⟩)
  go_ret
  exact ⟨ret_bool hk.out, rfl⟩
end Go.Proofs.Ythehjhckcblbdaa
