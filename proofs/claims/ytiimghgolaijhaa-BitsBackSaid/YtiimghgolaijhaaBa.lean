/-
  The walks of BitsBack where the first number does not go, or the list is long: it returns true.
-/
import Derived.Test.YtiimghgolaijhaaMn
import Derived.Test.YtiimghgolaijhaaOn
namespace Go.Proofs.Ytiimghgolaijhaa
open Go.RowKit Mb Go.Lib
theorem put_lay {w w2 : World} {p : Option Addr} {l : List Bool} {cap : Nat} (h : Lay w p l cap) (hb : Below w.heap.size w w2) (x y : Int) (hf : fits x y = true) :
    Calls Try.prog 7 #[.slice p l.length cap, .int .i64 x, .int .i64 y] w2 fun e w' => ∃ g' c', e = .returned (.tuple #[.slice (some ⟨g', 0, Option.none⟩) (l ++ dig x.toNat y.toNat).length c', .bool true]) ∧ Held w' g' c' (l ++ dig x.toNat y.toNat) ∧ Below w2.heap.size w2 w' := by
  obtain ⟨a, b, rfl, rfl, h1, h2, _⟩ := fits_nat hf
  rw [Int.toNat_natCast, Int.toNat_natCast]
  rcases h.2.2.2 with ⟨rfl, rfl, rfl⟩ | ⟨ad, rfl, hc⟩
  · exact (put_nil a b h1 h2 w2).mono fun e w' ⟨g', c', k1, k2⟩ => ⟨g', c', by simpa using k1, ⟨_, _, k2⟩, k2.below⟩
  · refine (put_some l ad cap a b h1 h2 (by have := h.2.2.1; omega) w2 (fun i hi => ?_)).mono fun e w' ⟨g', c', k1, k2⟩ => ⟨g', c', k1, ⟨_, _, k2⟩, k2.below⟩
    rw [hb.cell (World.block_lt_of_cell? w _ (hc i hi))]
    exact hc i hi
theorem two_boxes (w : World) (o1 o2 : Obj) : Below w.heap.size w ((w.alloc o1).alloc o2) := belowNew ((Below.refl _ _).alloc (Nat.le_refl _) _) _
set_option maxHeartbeats 1000000 in
theorem back_no (p : Option Addr) (l : List Bool) (cap : Nat) (x1 x2 x3 y1 y2 y3 : Int) (w : World) (hl : Lay w p l cap) (hf : fits x1 x2 = false) :
    Calls Try.prog 3 #[.slice p l.length cap, num3 x1 x2 x3, num3 y1 y2 y3] w fun e w' => e = .returned (.bool true) ∧ Below w.heap.size w w' := by
  have hp := fun w => put_no (.slice p l.length cap) x1 x2 hf w
  have zl : (l.length : Int) ≤ 140737488351232 := by have := hl.2.2.1; omega
  have hB := Lib.hid (two_boxes w (.cells #[.int .i64 x1, .int .i64 x2, .int .i64 x3] 24) (.cells #[.int .i64 y1, .int .i64 y2, .int .i64 y3] 24))
  unfold num3
  clear hl hf
  go_enter Try.func3, Try.ntmps3
  go_wp2_with (first
    | (go_at_call 7; ((with_reducible refine (hp _).mono ?_); rintro e w' ⟨rfl, h'⟩; cases h'))
    | (go_at_call 8; ((with_reducible refine (fixed_any ((w.alloc _).alloc _)).mono ?_); rintro e w1 ⟨rfl, H1⟩; replace H1 := Lib.hid H1))
    | (go_at_call 8; ((with_reducible refine (fixed_any _).mono ?_); rintro e w2 ⟨rfl, H2⟩; replace H2 := Lib.hid H2)))
  go_ret
  exact ⟨rfl, (hB.out.next H1.out).next H2.out⟩
set_option maxHeartbeats 1000000 in
theorem back_long (p : Option Addr) (l : List Bool) (cap : Nat) (x1 x2 x3 y1 y2 y3 : Int) (w : World) (hl : Lay w p l cap) (hf : fits x1 x2 = true) (hn : 5000 < l.length) :
    Calls Try.prog 3 #[.slice p l.length cap, num3 x1 x2 x3, num3 y1 y2 y3] w fun e w' => e = .returned (.bool true) ∧ Below w.heap.size w w' := by
  have hp := fun w2 hb => put_lay (w2 := w2) hl hb x1 x2 hf
  have zl : (l.length : Int) ≤ 140737488351232 := by have := hl.2.2.1; omega
  have zn : 5000 < (l.length : Int) := by omega
  have hB := Lib.hid (two_boxes w (.cells #[.int .i64 x1, .int .i64 x2, .int .i64 x3] 24) (.cells #[.int .i64 y1, .int .i64 y2, .int .i64 y3] 24))
  unfold num3
  clear hl hf
  go_enter Try.func3, Try.ntmps3
  go_wp2_with (first
    | (go_at_call 7; ((with_reducible refine (hp _ hB.out).mono ?_); rintro e w0 ⟨g, c, rfl, HH, H0⟩; replace HH := Lib.hid HH; replace H0 := Lib.hid H0))
    | (go_at_call 8; ((with_reducible refine (fixed_any w0).mono ?_); rintro e w1 ⟨rfl, H1⟩; replace H1 := Lib.hid H1))
    | (go_at_call 8; ((with_reducible refine (fixed_any _).mono ?_); rintro e w2 ⟨rfl, H2⟩; replace H2 := Lib.hid H2)))
  go_ret
  exact ⟨rfl, ((hB.out.next H0.out).next H1.out).next H2.out⟩
end Go.Proofs.Ytiimghgolaijhaa
