/-
  The document's Turn, of any text and a place in it: a text that is as it was but for that place.
-/
import Derived.Test.YtckdkoakgnojbaaBu
import Derived.Laws.IdiomStrings
namespace Go.Proofs.Ytckdkoakgnojbaa
open Go.RowKit Ma Go.Lib
/-- a text, its byte at a place another one -/
def putB (s : ByteArray) (p : Nat) (x : UInt8) : ByteArray := ⟨(s.data.toList.set p x).toArray⟩
theorem turn1 (a b : UInt8) : bits .xor .u8 (a.toNat : Int) (b.toNat : Int) = (((a ^^^ b).toNat : Nat) : Int) := by
  rw [u8_xor_nat _ _ (by have := a.toNat_lt; omega) (by have := b.toNat_lt; omega), UInt8.toNat_xor]
theorem row_at (s : ByteArray) (cap j : Nat) (hj : j < s.size) : (bytesRow s cap)[j]? = some (.int .u8 ((s.data.toList.getD j 0).toNat : Int)) := by
  have hj' : j < s.data.size := hj
  rw [bytesRow_at s cap j hj']
  have e : s.data.toList.getD j 0 = s.data[j] := by
    rw [List.getD_eq_getElem?_getD, List.getElem?_eq_getElem (by simpa using hj')]; rfl
  rw [e]
theorem row_size (s : ByteArray) (cap : Nat) (h : s.size ≤ cap) : (bytesRow s cap).size = cap := by
  have h' : s.data.size ≤ cap := h
  unfold bytesRow
  simp
  omega
set_option maxHeartbeats 1000000 in
theorem turn_any (s : ByteArray) (p : Nat) (b : UInt8) (hp : p < s.size) (hs : s.size ≤ 200000) (w : World) :
    Calls Try.prog 17 #[.string s, .int .i64 p, .int .u8 b.toNat] w fun e w' => e = .returned (.string (putB s p (s.data.toList.getD p 0 ^^^ b))) ∧ Below w.heap.size w w' := by
  have hconv := run_bytes_of_string (P := Try.prog) w 9 33 5 s Try.underlying9 Try.underlying33 Try.underlying5
  have hge := grownCap_ge w s.size 0 5
  generalize grownCap w s.size 0 5 = cap at hconv hge
  have hcell := row_at s cap
  have hsz := row_size s cap hge
  generalize bytesRow s cap = C at hconv hcell hsz
  rw [hsz] at hconv
  have c0 : (w.alloc (.cells C 5 (cap, cap + 1))).cell? ⟨w.heap.size, p, none⟩ = some (.int .u8 ((s.data.toList.getD p 0).toNat : Int)) := by
    rw [World.cell?_alloc_mark]; exact hcell p hp
  have z0 : (w.alloc (.cells C 5 (cap, cap + 1))).frozen? ⟨w.heap.size, p, none⟩ = false := by
    rw [World.frozen?_alloc_mark, decide_eq_false (by omega : ¬ cap ≤ p)]; rfl
  have hx := turn1 (s.data.toList.getD p 0) b
  generalize s.data.toList.getD p 0 ^^^ b = x at hx ⊢
  have hback : (convert 33 9 (.slice (some ⟨w.heap.size, 0, none⟩) s.size cap)).run Try.prog ((w.alloc (.cells C 5 (cap, cap + 1))).setCell ⟨w.heap.size, p, none⟩ (.int .u8 (x.toNat : Int))).drew =
      .ok (.string (putB s p x)) ((w.alloc (.cells C 5 (cap, cap + 1))).setCell ⟨w.heap.size, p, none⟩ (.int .u8 (x.toNat : Int))).drew := by
    have hl : (s.data.toList.set p x).length = s.size := by rw [List.length_set, ← Lib.size_eq]
    have h := run_convert_bytes_back (P := Try.prog) ((w.alloc (.cells C 5 (cap, cap + 1))).setCell ⟨w.heap.size, p, none⟩ (.int .u8 (x.toNat : Int))).drew 33 9 5 ⟨w.heap.size, 0, none⟩ cap (s.data.toList.set p x) Try.underlying33 Try.underlying5 Try.underlying9 (fun j hj => by
      rw [hl] at hj
      rw [Addr.add_lit, Nat.zero_add]
      show ((w.alloc (.cells C 5 (cap, cap + 1))).setCell ⟨w.heap.size, p, none⟩ (.int .u8 (x.toNat : Int))).cell? ⟨w.heap.size, j, none⟩ = _
      by_cases e : j = p
      · subst e
        rw [World.cell?_setCell_same (h := c0), List.getElem_set_self]
      · rw [World.cell?_setCell_other (h := show (⟨w.heap.size, p, none⟩ : Addr) ≠ ⟨w.heap.size, j, none⟩ from fun h => e (by cases h; rfl)), World.cell?_alloc_mark, hcell j hj, List.getElem_set_ne (by omega), List.getD_eq_getElem?_getD, List.getElem?_eq_getElem (by rw [← Lib.size_eq]; exact hj)]
        rfl)
    rw [hl] at h
    exact h
  have HB : Hid (∀ v, Below w.heap.size w ((w.alloc (.cells C 5 (cap, cap + 1))).setCell ⟨w.heap.size, p, none⟩ v)) := fun v => ((Below.refl _ w).alloc (Nat.le_refl _) _).setCell (Nat.le_refl _) v
  have hs' : (s.size : Int) ≤ 200000 := by omega
  clear hcell hsz
  generalize putB s p x = r at *
  generalize (s.data.toList.getD p 0).toNat = y at c0 hx
  go_enter Try.func17, Try.ntmps17
  go_wp2
  go_ret
  exact ⟨rfl, (HB.out _).drew⟩
theorem put_size (s : ByteArray) (p : Nat) (x : UInt8) : (putB s p x).size = s.size := by
  rw [Lib.size_eq, Lib.size_eq]
  show (s.data.toList.set p x).length = _
  rw [List.length_set]
theorem put_near (s : ByteArray) (p q : Nat) (x : UInt8) (v : List UInt8) (h : Near p s.data.toList v) (hq : p ≤ q ∧ q < p + 4) : Near p (putB s q x).data.toList v := by
  refine ⟨?_, fun i hi => ?_⟩
  · show (s.data.toList.set q x).length = _
    rw [List.length_set]; exact h.1
  · show (s.data.toList.set q x)[i]? = _
    rw [List.getElem?_set_ne (by omega)]; exact h.2 i hi
theorem near_refl (p : Nat) (v : List UInt8) : Near p v v := ⟨rfl, fun _ _ => rfl⟩
end Go.Proofs.Ytckdkoakgnojbaa
