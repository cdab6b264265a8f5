/-
  The reader: need, number.
-/
import Derived.Test.YthehjhckcblbdaaPacKm
import Derived.Test.YthehjhckcblbdaaPacTk
import Derived.Deep.QuietTactic
import Derived.Defers
import Derived.Recover
namespace Go.Proofs.Ythehjhckcblbdaa.Pk
set_option maxRecDepth 100000
open Go.RowKit Go.Lib Mb Cd
/-- a panic of bits that are none -/
def noneP : List PanicEntry := [{ v := .iface 112 (.agg #[]), recovered := false }]
/-- where a reader lies -/
structure Rdr (w : World) (g : Nat) (q : Option Addr) (m d x : Nat) : Prop where
  bits : w.cell? ⟨g, 0, none⟩ = some (.slice q m d)
  place : w.cell? ⟨g, 1, none⟩ = some (.int .i64 (x : Nat))
  open1 : w.frozen? ⟨g, 1, none⟩ = false
theorem Rdr.lt {w : World} {g m d x : Nat} {q : Option Addr} (h : Rdr w g q m d x) : g < w.heap.size := World.block_lt_of_cell? w ⟨g, 0, none⟩ h.bits
theorem Rdr.kept {w w' : World} {g m d x : Nat} {q : Option Addr} {row : Option Nat} (h : Rdr w g q m d x) (hg : w.grownBy w' row) (hne : some g ≠ row) : Rdr w' g q m d x :=
  have e := hg.block g h.lt hne
  ⟨(World.cell?_of_block (a := ⟨g, 0, none⟩) e).trans h.bits, (World.cell?_of_block (a := ⟨g, 1, none⟩) e).trans h.place, (World.frozen?_of_block (a := ⟨g, 1, none⟩) e).trans h.open1⟩
theorem grown_of {w w' : World} (hb : Below w.heap.size w w') (row : Option Nat) : w.grownBy w' row := ⟨hb.os, hb.tape, hb.output, hb.size, fun k hk _ => hb.block k hk⟩
theorem Rdr.below {w w' : World} {g m d x : Nat} {q : Option Addr} (h : Rdr w g q m d x) (hb : Below w.heap.size w w') : Rdr w' g q m d x := h.kept (grown_of hb none) (by simp)
theorem grown_cell {w w' : World} {row : Option Nat} (h : w.grownBy w' row) {b : Nat} (hb : b < w.heap.size) (hne : some b ≠ row) (o : Nat) : w'.cell? ⟨b, o, none⟩ = w.cell? ⟨b, o, none⟩ :=
  World.cell?_of_block (a := ⟨b, o, none⟩) (h.block b hb hne)
theorem grown_fro {w w' : World} {row : Option Nat} (h : w.grownBy w' row) {b : Nat} (hb : b < w.heap.size) (hne : some b ≠ row) (o : Nat) : w'.frozen? ⟨b, o, none⟩ = w.frozen? ⟨b, o, none⟩ :=
  World.frozen?_of_block (a := ⟨b, o, none⟩) (h.block b hb hne)
theorem grown_below {B : Nat} {w0 w w' : World} {g : Nat} (h : Below B w0 w) (hB : B ≤ w.heap.size) (hg : w.grownBy w' (some g)) (hBg : B ≤ g) : Below B w0 w' := h.grown hg hB (fun b hb => by cases hb; exact hBg)
theorem need_yes (w : World) : Calls Try.prog 93 #[.bool true] w fun e w' => e = .returned (.tuple #[]) ∧ w' = w := by
  go_enter Try.func93, Try.ntmps93
  go_wp2
  go_end0
  exact ⟨rfl, rfl⟩
theorem need_no (w : World) : Calls Try.prog 93 #[.bool false] w fun e w' => e = .panicked noneP ∧ w' = w := by
  go_enter Try.func93, Try.ntmps93
  go_wp2
  exact ⟨rfl, rfl, rfl⟩
set_option maxHeartbeats 1000000 in
theorem number_out (b : List Bool) (g : Nat) (q : Option Addr) (m d x n : Nat) (w : World) (hR : Rdr w g q m d x) (hq : FlagsLie w q b d) (hb : b.length = m) (hn : n ≤ 30) (ho : m < x + n) :
    Calls Try.prog 100 #[.pointer (some ⟨g, 0, none⟩), .int .i64 n] w fun e w' => e = .panicked noneP ∧ w.grownBy w' (some g) := by
  have ht := fun k => take_lies b m q d x n (w.drewN k) (hq.below (drawn_below (Below.refl _ _) k)) hb hn
  have hV : tkV b x n = .tuple #[.int .i64 0, .int .i64 0, .bool false] := by unfold tkV; rw [if_neg (by rw [hb]; omega)]
  rw [hV] at ht
  obtain ⟨c1, c2, _⟩ := hR
  have zn : (n : Int) ≤ 30 := by omega
  clear hq hb hV
  have hx := need_no
  have HX := Lib.hid hx
  clear hx
  go_enter Try.func100, Try.ntmps100
  go_wp2
  have HT := Lib.hid ht
  clear ht
  go_quiet ((go_at_call 104; exact Calls.quiet_of_same (HT.out _)))
  go_wp2_with fail
  go_at_call 93
  refine (HX.out _).mono ?_
  rintro e w' ⟨rfl, rfl⟩
  go_wp2
  exact ⟨rfl, rfl, grown_of (drawn_below (Below.refl _ _) _) _⟩
set_option maxHeartbeats 1000000 in
theorem number_yes (b : List Bool) (g : Nat) (q : Option Addr) (m d x n : Nat) (w : World) (hR : Rdr w g q m d x) (hq : FlagsLie w q b d) (hb : b.length = m) (hn : n ≤ 30) (ho : x + n ≤ m) :
    Calls Try.prog 100 #[.pointer (some ⟨g, 0, none⟩), .int .i64 n] w fun e w' => e = .returned (.int .i64 (num ((b.drop x).take n) : Nat)) ∧ w.grownBy w' (some g) ∧ Rdr w' g q m d (x + n) := by
  have ht := fun k => take_lies b m q d x n (w.drewN k) (hq.below (drawn_below (Below.refl _ _) k)) hb hn
  have hV : tkV b x n = .tuple #[.int .i64 (num ((b.drop x).take n) : Nat), .int .i64 ((x + n : Nat) : Int), .bool true] := by unfold tkV; rw [if_pos (by rw [hb]; omega)]; rfl
  rw [hV] at ht
  have HR := Lib.hid hR
  obtain ⟨c1, c2, f2⟩ := hR
  have zn : (n : Int) ≤ 30 := by omega
  generalize num ((b.drop x).take n) = v at *
  clear hq hb hV
  have HT := Lib.hid ht
  have HX := Lib.hid need_yes
  clear ht
  go_enter Try.func100, Try.ntmps100
  go_wp2
  go_quiet ((go_at_call 104; exact Calls.quiet_of_same (HT.out _)))
  go_wp2_with fail
  go_at_call 93
  refine (HX.out _).mono ?_
  rintro e w' ⟨rfl, rfl⟩
  go_wp2
  go_ret
  refine ⟨rfl, ⟨rfl, rfl, rfl, by simp, fun j hj hne => ?_⟩, ?_, ?_, ?_⟩
  · exact heap_setCell_other _ ⟨g, 1, none⟩ j _ (fun e => hne (by simp [e]))
  · exact (World.cell?_setCell_other _ _ _ _ (by simp)).trans c1
  · exact World.cell?_setCell_same _ _ _ c2
  · exact (World.frozen?_setCell _ _ _ _).trans f2
end Go.Proofs.Ythehjhckcblbdaa.Pk

