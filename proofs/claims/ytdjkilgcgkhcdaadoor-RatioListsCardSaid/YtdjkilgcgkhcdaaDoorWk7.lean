/-
  Contract of ratio.Order, given what the stable sort leaves.
-/
import Derived.Test.YtdjkilgcgkhcdaaDoorWk6
namespace Go.Proofs.YtdjkilgcgkhcdaaDoor
open Go.RowKit Go.Fl Go.Sort Go.Lib
theorem info3 : (Tryd.prog.info? 3).map (fun i => (i.zero, i.size, i.bytes)) = some (some (.int .i64 0), 1, 8) := by kernel_rfl
theorem make_ints (n : Nat) (hn : n * 8 ≤ 140737488351232) (w : World) :
    (Instr.makeSlice 33 (.int .i64 n) (.int .i64 n)).run Tryd.prog w = .ok (.slice (some ⟨w.heap.size, 0, none⟩) n n) (w.alloc (.cells (madeCells #[.int .i64 0] n) 3)) := by
  obtain ⟨i0, hi, hz0, hz1, hz2⟩ := info_parts info3
  have h := run_make (P := Tryd.prog) w 33 3 i0 (.int .i64 0) Tryd.underlying33 hi hz0 .i64 .i64 n n (by omega) (Int.le_refl _) (by rw [hz2]; omega) (by omega)
  simp only [Int.toNat_natCast, hz1, Nat.mul_one] at h
  exact h
/-- The places as far as they are laid. -/
structure Filled (w : World) (bP n k bb : Nat) (s : Value) (B : Nat) (wr : World) : Prop where
  cell : ∀ i, i < n → wr.cell? ⟨bP, i, none⟩ = some (.int .i64 (if i < k then (i : Int) else 0))
  frozen : ∀ i, i < n → wr.frozen? ⟨bP, i, none⟩ = false
  box : wr.cell? ⟨bb, 0, none⟩ = some s
  size : bP < wr.heap.size
  below : Below B w wr
theorem Filled.next {w : World} {bP n k bb : Nat} {s : Value} {B : Nat} {wr : World} (h : Filled w bP n k bb s B wr) (hk : k < n) (hne : bb ≠ bP) (hB : B ≤ bP) :
    Filled w bP n (k + 1) bb s B (wr.setCell ⟨bP, k, none⟩ (.int .i64 k)) where
  cell i hi := by
    by_cases e : i = k
    · subst e
      rw [World.cell?_setCell_same _ _ _ (h.cell i hi), if_pos (by omega)]
    · rw [World.cell?_setCell_other _ _ _ _ (by intro e'; simp only [Addr.mk.injEq] at e'; omega), h.cell i hi]
      congr 2
      split <;> split <;> omega
  frozen i hi := by rw [World.frozen?_setCell]; exact h.frozen i hi
  box := by rw [World.cell?_setCell_other _ _ _ _ (by intro e'; simp only [Addr.mk.injEq] at e'; omega)]; exact h.box
  size := by simp; exact h.size
  below := h.below.setCell hB _
theorem SW_below {α : Type} [Inhabited α] {enc : α → Value} {w0 W : World} {blk off : Nat} {dk : Array α} (h : SW enc w0 blk off dk W) (B : Nat) (hB : B ≤ blk) (h0 : B ≤ w0.heap.size) : Below B w0 W := by
  obtain ⟨n, os, rfl⟩ := h
  refine ⟨rfl, rfl, rfl, ?_, fun k hk => ?_⟩
  · unfold sortWorld; rw [size_grow, size_putRow]; show w0.heap.size ≤ w0.heap.size + _; omega
  · unfold sortWorld
    rw [heap_grow_old _ _ (by rw [size_putRow]; exact Nat.lt_of_lt_of_le hk h0)]
    unfold putRow mapBlock
    simp only [Array.getElem?_modify]
    rw [if_neg (by omega)]
    rfl
theorem made_cell (w : World) (o : Obj) (n i : Nat) (T : TypeId) (hi : i < n) : ((w.alloc o).alloc (.cells (madeCells #[.int .i64 0] n) T)).cell? ⟨w.heap.size + 1, i, none⟩ = some (.int .i64 (if i < 0 then (i : Int) else 0)) := by
  have hz : (w.alloc o).heap.size = w.heap.size + 1 := by simp
  rw [← hz]
  rw [if_neg (by omega)]
  have e : (madeCells #[Value.int .i64 0] n)[i]? = some (.int .i64 0) := by unfold madeCells; simp [hi, Nat.mod_one]
  generalize madeCells #[Value.int .i64 0] n = c at e
  generalize w.alloc o = w1
  rw [World.cell?_alloc_new]
  exact e
theorem made_frozen (w : World) (o : Obj) (n i : Nat) (T : TypeId) : ((w.alloc o).alloc (.cells (madeCells #[.int .i64 0] n) T)).frozen? ⟨w.heap.size + 1, i, none⟩ = false := by
  have hz : (w.alloc o).heap.size = w.heap.size + 1 := by simp
  rw [← hz]
  generalize w.alloc o = w1
  rw [World.frozen?_alloc_new]
/-- All places of a list, in order. -/
def places (n : Nat) : Array (Fin n) := Array.ofFn id
theorem places_size (n : Nat) : (places n).size = n := Array.size_ofFn
theorem places_at (n : Nat) [Inhabited (Fin n)] (i : Nat) (h : i < n) : (places n)[i]! = ⟨i, h⟩ := by
  rw [getElem!_pos _ i (by rw [places_size]; exact h)]
  unfold places
  simp
/-- What a call of the stable sort leaves. -/
def Sorts (l : List Nat) [Inhabited (Fin l.length)] (r : Array (Fin l.length)) : Prop :=
  ∀ (bP cap : Nat) (cb : Array Value) (w : World), CmpLays1 Tryd.prog 33 cb encF (cfF l) bP 0 l.length w → Holds encF w bP 0 (places l.length) → bP < w.heap.size →
    Calls Tryd.prog 32 #[.slice (some ⟨bP, 0, none⟩) l.length cap, .func (.func 33) #[] cb] w fun e w' => e = .returned (.tuple #[]) ∧ SW encF w bP 0 r w'
structure Ordered (l : List Nat) [Inhabited (Fin l.length)] (r : Array (Fin l.length)) (w : World) (e : Ending) (w' : World) (bP : Nat) : Prop where
  ret : e = .returned (.slice (some ⟨bP, 0, none⟩) l.length l.length)
  holds : Holds encF w' bP 0 r
  new : w.heap.size ≤ bP
  old : bP < w'.heap.size
  below : Below w.heap.size w w'
set_option maxHeartbeats 800000 in
theorem order_any (l : List Nat) [Inhabited (Fin l.length)] (r : Array (Fin l.length)) (hS : Sorts l r) (hr : r.size = l.length) (hl0 : 0 < l.length) (hl : l.length * 8 ≤ 140737488351232) (blk off cap : Nat) (w : World) (hblk : blk < w.heap.size) (hF : FloatsAt w blk off l) :
    Calls Tryd.prog 21 #[.slice (some ⟨blk, off, none⟩) l.length cap] w fun e w' => ∃ bP, Ordered l r w e w' bP := by
  have hmk := fun w => make_ints l.length hl w
  have HF := Lib.hid hF
  have HS := Lib.hid hS
  have HR := Lib.hid hr
  have HL := Lib.hid hl
  clear hF hS hr hl
  go_enter Tryd.func21, Tryd.ntmps21
  go_wp2
  have F0 : Hid (Filled w (w.heap.size + 1) l.length 0 w.heap.size (.slice (some ⟨blk, off, none⟩) l.length cap) w.heap.size ((w.alloc (.cells #[Value.slice (some ⟨blk, off, none⟩) l.length cap] 30)).alloc (.cells (madeCells #[.int .i64 0] l.length) 3))) := by
    refine ⟨fun i hi => ?_, fun i hi => ?_, ?_, ?_, ?_⟩
    · exact made_cell w _ _ _ _ hi
    · exact made_frozen w _ _ _ _
    · rw [World.cell?_alloc_old _ _ _ (by simp)]; simp
    · simp
    · exact ((Below.refl _ _).alloc (Nat.le_refl _) _).alloc (by simp) _
  generalize ((w.alloc (.cells #[Value.slice (some ⟨blk, off, none⟩) l.length cap] 30)).alloc (.cells (madeCells #[.int .i64 0] l.length) 3)) = w0 at F0 ⊢
  go_loopw [4, 10] (fun _ v wr => ∃ k : Nat, k ≤ l.length ∧ v = .int .i64 k ∧ Hid (Filled w (w.heap.size + 1) l.length k w.heap.size (.slice (some ⟨blk, off, none⟩) l.length cap) w.heap.size wr)) (fun _ v _ => l.length - (intOf v).toNat)
  case atStart => exact ⟨0, by omega, rfl, F0⟩
  case round =>
    obtain ⟨k, hk, rfl, HK⟩ := hrel
    have hz : (l.length : Int) ≤ 9223372036854775807 := by have := HL.out; omega
    by_cases hlt : k < l.length
    · have c := HK.out.cell k hlt
      have f := HK.out.frozen k hlt
      go_wp2
      go_roundw
      case rel => exact ⟨k + 1, by omega, by go_num, HK.out.next hlt (by omega) (by omega)⟩
      case measure => simp [intOf]; omega
    · have e : k = l.length := by omega
      subst e
      have hH : Hid (Holds encF wr (w.heap.size + 1) 0 (places l.length)) := fun j hj => by
        rw [places_size] at hj
        rw [places_at _ j hj, Nat.zero_add]
        exact ⟨by rw [HK.out.cell j hj, if_pos hj]; rfl, HK.out.frozen j hj⟩
      have hb := Lib.hid HK.out.below
      have hs := Lib.hid HK.out.size
      have hC : Hid (CmpLays1 Tryd.prog 33 #[.pointer (some ⟨w.heap.size, 0, none⟩)] encF (cfF l) (w.heap.size + 1) 0 l.length wr) :=
        cmp_lays l w.heap.size blk off cap _ wr (by omega) (by omega) (by have := hs.out; omega) (by have := hs.out; omega) HK.out.box
          ⟨fun i hi => by rw [hb.out.cell (p := ⟨blk, off + i, none⟩) hblk]; exact HF.out.cell i hi, HF.out.lt⟩
      have hc := HS.out _ l.length _ _ hC.out hH.out hs.out
      go_wp2_with (go_at_call 32; ((with_reducible refine hc.mono ?_); rintro e w' ⟨rfl, hs2⟩))
      go_ret
      refine ⟨_, rfl, hs2.holds hs.out hH.out (by rw [HR.out, places_size]), by omega, Nat.lt_of_lt_of_le hs.out hs2.le, hb.out.trans (SW_below hs2 _ (by omega) (by have := hs.out; omega))⟩
end Go.Proofs.YtdjkilgcgkhcdaaDoor
