/-
  Package device's plain functions: isNoSector, has, sector, restart; IndexFunc, ContainsFunc over texts and writes.
-/
import Derived.Test.YtaamjamcnnalbaaDvC
namespace Go.Proofs.Ytaamjamcnnalbaa.Dv
set_option maxRecDepth 100000
open Go.RowKit Go.Lib
theorem isno (s : ByteArray) (w : World) : Calls Try.prog 34 #[.string s] w fun e w' => e = .returned (.bool (!textMay s)) ∧ w' = w := by
  by_cases h : s.size = 32
  · have e : textMay s = true := decide_eq_true h
    have z : (s.size : Int) = 32 := by omega
    rw [e]
    clear e h
    go_enter Try.func34, Try.ntmps34
    go_wp2
    go_ret
    exact ⟨ret_bool (by simp), rfl⟩
  · have e : textMay s = false := decide_eq_false h
    have z : ((s.size : Int) == 32) = false := by rw [beq_eq_false_iff_ne]; omega
    rw [e]
    clear e h
    go_enter Try.func34, Try.ntmps34
    go_wp2
    go_ret
    exact ⟨ret_bool (by simp [z, bne]), rfl⟩
theorem has_code (p0 : Option Addr) (n c0 : Nat) (p1 : Option Addr) (m c1 : Nat) (fuse : Int) (p3 : Option Addr) (k c3 : Nat) (dead : Bool) (a : Int) (w : World) :
    Calls Try.prog 30 #[.agg #[.slice p0 n c0, .slice p1 m c1, .int .i64 fuse, .slice p3 k c3, .bool dead], .int .i64 a] w fun e w' => e = .returned (.bool (decide (0 ≤ a) && decide (a < n))) ∧ Below w.heap.size w w' := by
  have hbx := box_new w p0 n c0 p1 m c1 fuse p3 k c3 dead
  have B1 := Lib.hid ((Below.refl w.heap.size w).alloc (Nat.le_refl _) (.cells #[.slice p0 n c0, .slice p1 m c1, .int .i64 fuse, .slice p3 k c3, .bool dead] 26))
  generalize hw1 : w.alloc (.cells #[.slice p0 n c0, .slice p1 m c1, .int .i64 fuse, .slice p3 k c3, .bool dead] 26) = w1 at *
  have b0 := hbx.kept
  clear hbx
  by_cases h : 0 ≤ a
  · have e : decide (0 ≤ a) = true := decide_eq_true h
    rw [e, Bool.true_and]
    go_enter Try.func30, Try.ntmps30
    go_wp2
    go_ret
    exact ⟨rfl, B1.out⟩
  · have e : decide (0 ≤ a) = false := decide_eq_false h
    rw [e, Bool.false_and]
    go_enter Try.func30, Try.ntmps30
    go_wp2
    go_ret
    exact ⟨rfl, B1.out⟩
def cut (s : ByteArray) (i : Nat) : ByteArray := (s.extract (i * 32) s.size).extract 0 32
theorem sector_code (s : ByteArray) (i : Nat) (h : i * 32 + 32 ≤ s.size) (hs : s.size ≤ 281474976710656) (w : World) : Calls Try.prog 42 #[.string s, .int .i64 i] w fun e w' => e = .returned (.string (cut s i)) ∧ w' = w := by
  have z1 : (i : Int) * 32 + 32 ≤ s.size := by omega
  have z2 : (s.size : Int) ≤ 281474976710656 := by omega
  go_enter Try.func42, Try.ntmps42
  go_wp2
  go_ret
  exact ⟨rfl, rfl⟩
set_option maxHeartbeats 1000000 in
theorem restart_code (p0 : Option Addr) (n c0 : Nat) (p1 : Option Addr) (m c1 : Nat) (fuse : Int) (p3 : Option Addr) (k c3 : Nat) (dead b : Bool) (w : World) :
    Calls Try.prog 36 #[.agg #[.slice p0 n c0, .slice p1 m c1, .int .i64 fuse, .slice p3 k c3, .bool dead], .bool b] w fun e w' => e = .returned (.agg #[.slice p0 n c0, .slice none 0 0, .int .i64 (-1), .slice none 0 0, .bool b]) ∧ Below w.heap.size w w' := by
  have hbg := begun w p0 n c0 p1 m c1 fuse p3 k c3 dead
  generalize hw2 : (w.alloc (.cells #[.slice p0 n c0, .slice p1 m c1, .int .i64 fuse, .slice p3 k c3, .bool dead] 26)).alloc (.cells #[.slice none 0 0, .slice none 0 0, .int .i64 0, .slice none 0 0, .bool false] 26) = w2 at *
  have HG := Lib.hid hbg
  have b0 := hbg.box.kept
  obtain ⟨⟨r0, e0⟩, ⟨r1, e1⟩, ⟨r2, e2⟩, ⟨r3, e3⟩, ⟨r4, e4⟩, f0, f1, f2, f3, f4⟩ := hbg.res.get
  clear hbg
  go_enter Try.func36, Try.ntmps36
  go_wp2
  have HBf := put5_below HG.out.below (b := w.heap.size + 1) (by omega) (.slice p0 n c0) (.slice none 0 0) (.int .i64 (-1)) (.slice none 0 0) (.bool b)
  refine bodyPost_ret (res_one rfl _ _ (w.heap.size + 1) (.slice p0 n c0) (.slice none 0 0) (.int .i64 (-1)) (.slice none 0 0) (.bool b) rfl (put5_heap HG.out.res _ _ _ _ _)) rfl ?_
  exact ⟨rfl, HBf⟩
end Go.Proofs.Ytaamjamcnnalbaa.Dv
