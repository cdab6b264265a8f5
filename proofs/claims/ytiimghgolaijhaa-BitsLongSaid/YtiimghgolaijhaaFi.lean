/-
  Contract of the calls whose answers the document fixes: they answer true; and contracts of reads of a row, told from a later world.
-/
import Derived.Test.YtiimghgolaijhaaPk
namespace Go.Proofs.Ytiimghgolaijhaa
open Go.RowKit Mb Go.Lib
theorem RowB.later {base : Nat} {w0 w1 w2 : World} {g c : Nat} {l : List Bool} (h : RowB base w0 w1 g c l) (hb : Below w1.heap.size w1 w2) : BoolsAt w2 g 0 l := h.at.below hb
theorem pack_row {base : Nat} {w0 w1 w2 : World} {g c : Nat} {l : List Bool} (h : RowB base w0 w1 g c l) (hb : Below w1.heap.size w1 w2) (hl : l.length ≤ 100000) :
    Calls Try.prog 11 #[.slice (some ⟨g, 0, Option.none⟩) l.length c] w2 fun e w' => e = .returned (.string ⟨(packL l).toArray⟩) ∧ Below w2.heap.size w2 w' :=
  pack_lit l g 0 c hl h.cap.1 h.cap.2 w2 (h.later hb) (Nat.lt_of_lt_of_le h.lt.2 hb.size)
theorem take_row {base : Nat} {w0 w1 w2 : World} {g c : Nat} {l : List Bool} (h : RowB base w0 w1 g c l) (hb : Below w1.heap.size w1 w2) (p n : Nat) (hn : n ≤ 30) (hp : p + n ≤ l.length) :
    Calls Try.prog 9 #[.slice (some ⟨g, 0, Option.none⟩) l.length c, .int .i64 p, .int .i64 n] w2 fun e w' => e = .returned (.tuple #[.int .i64 (num ((l.drop p).take n) : Int), .int .i64 ((p + n : Nat) : Int), .bool true]) ∧ w' = w2 :=
  take_in l p n g 0 c hn (Nat.le_trans h.cap.1 h.cap.2) hp h.cap.1 h.cap.2 w2 (h.later hb)
theorem put_row {base : Nat} {w0 w1 w2 : World} {g c : Nat} {l : List Bool} (h : RowB base w0 w1 g c l) (hb : Below w1.heap.size w1 w2) (x n : Nat) (hn : n ≤ 30) (hx : x < 2 ^ n) (hl : l.length ≤ 100000) :
    Calls Try.prog 7 #[.slice (some ⟨g, 0, Option.none⟩) l.length c, .int .i64 x, .int .i64 n] w2 fun e w' => ∃ g' c', e = .returned (.tuple #[.slice (some ⟨g', 0, Option.none⟩) (l ++ dig x n).length c', .bool true]) ∧ RowB w2.heap.size w2 w' g' c' (l ++ dig x n) :=
  put_some l ⟨g, 0, Option.none⟩ c x n hn hx (by omega) w2 (fun i hi => by rw [Addr.add_lit]; exact (h.later hb).cell i hi)
theorem same_row {b1 b2 : Nat} {u1 u2 w1 w2 w : World} {g1 c1 g2 c2 : Nat} {l m : List Bool} (h1 : RowB b1 u1 w1 g1 c1 l) (h2 : RowB b2 u2 w2 g2 c2 m) (k1 : Below w1.heap.size w1 w) (k2 : Below w2.heap.size w2 w) :
    Calls Try.prog 12 #[.slice (some ⟨g1, 0, Option.none⟩) l.length c1, .slice (some ⟨g2, 0, Option.none⟩) m.length c2] w fun e w' => e = .returned (.bool (decide (l = m))) ∧ Below w.heap.size w w' :=
  same_any l m (Nat.le_trans h1.cap.1 h1.cap.2) (Nat.le_trans h2.cap.1 h2.cap.2) g1 0 c1 g2 0 c2 w (h1.later k1) (h2.later k2)
def four : List Bool := [false, true, false, true]
theorem lit_four (w : World) : BoolsAt (w.alloc (.cells #[.bool false, .bool true, .bool false, .bool true] 4)) w.heap.size 0 four := ⟨fun i hi => by
  match i, hi with
  | 0, _ => simp [four]
  | 1, _ => simp [four]
  | 2, _ => simp [four]
  | 3, _ => simp [four]
  | i + 4, hi => simp [four] at hi; omega⟩
theorem fix_put (w : World) : Calls Try.prog 7 #[.slice Option.none 0 0, .int .i64 5, .int .i64 4] w fun e w' => ∃ g c, e = .returned (.tuple #[.slice (some ⟨g, 0, Option.none⟩) 4 c, .bool true]) ∧ RowB w.heap.size w w' g c four := put_nil 5 4 (by decide) (by decide) w
theorem fix_no (w : World) : Calls Try.prog 7 #[.slice Option.none 0 0, .int .i64 16, .int .i64 4] w fun e w' => e = .returned (.tuple #[.slice Option.none 0 0, .bool false]) ∧ w' = w := put_no _ 16 4 (by decide) w
theorem fix_take {base : Nat} {w0 w1 : World} {g c : Nat} (h : RowB base w0 w1 g c four) :
    Calls Try.prog 9 #[.slice (some ⟨g, 0, Option.none⟩) 4 c, .int .i64 1, .int .i64 3] w1 fun e w' => e = .returned (.tuple #[.int .i64 5, .int .i64 4, .bool true]) ∧ w' = w1 :=
  take_row h (Below.refl _ _) 1 3 (by decide) (by decide)
theorem fix_never (g c : Nat) (w : World) :
    Calls Try.prog 9 #[.slice (some ⟨g, 0, Option.none⟩) 4 c, .int .i64 2, .int .i64 3] w fun e w' => e = .returned (.tuple #[.int .i64 0, .int .i64 0, .bool false]) ∧ w' = w :=
  take_no four 2 3 g 0 c (by decide) (by decide) (by decide) (by decide) w
theorem fix_same {base : Nat} {w0 w1 : World} {g c : Nat} (h : RowB base w0 w1 g c four) :
    Calls Try.prog 12 #[.slice (some ⟨g, 0, Option.none⟩) 4 c, .slice (some ⟨w1.heap.size, 0, Option.none⟩) 4 4] (w1.alloc (.cells #[.bool false, .bool true, .bool false, .bool true] 4)) fun e w' => e = .returned (.bool true) ∧ Below w1.heap.size w1 w' :=
  (same_any four four (by decide) (by decide) g 0 c w1.heap.size 0 4 _ (h.later ((Below.refl _ _).alloc (Nat.le_refl _) _)) (lit_four w1)).mono fun e w' ⟨h1, h2⟩ => ⟨by rw [h1]; rfl, ((Below.refl w1.heap.size w1).alloc (Nat.le_refl _) _).trans (h2.mono (by simp))⟩
theorem fix_pack {base : Nat} {w0 w1 w2 : World} {g c : Nat} (h : RowB base w0 w1 g c four) (hb : Below w1.heap.size w1 w2) :
    Calls Try.prog 11 #[.slice (some ⟨g, 0, Option.none⟩) 4 c] w2 fun e w' => e = .returned (.string ⟨#[80]⟩) ∧ Below w2.heap.size w2 w' := pack_row h hb (by decide)
theorem fix_unpack (w : World) : Calls Try.prog 10 #[.string ⟨#[80]⟩] w fun e w' => ∃ g c, e = .returned (.slice (some ⟨g, 0, Option.none⟩) 8 c) ∧ Below w.heap.size w w' :=
  (unpack_any ⟨#[80]⟩ (by decide) w).mono fun _ _ ⟨g, c, h1, h2⟩ => ⟨g, c, h1, h2.below⟩
theorem fixed_any (w : World) : Calls Try.prog 8 #[] w fun e w' => e = .returned (.bool true) ∧ Below w.heap.size w w' := by
  go_enter Try.func8, Try.ntmps8
  go_wp2_with (first
    | (go_at_call 7; ((with_reducible refine (fix_put _).mono ?_); rintro e w1 ⟨g, c, rfl, HR⟩; replace HR := Lib.hid HR))
    | (go_at_call 7; ((with_reducible refine (fix_no _).mono ?_); rintro e w' ⟨rfl, h'⟩; cases h'))
    | (go_at_call 9; ((with_reducible refine (fix_take HR.out).mono ?_); rintro e w' ⟨rfl, h'⟩; cases h'))
    | (go_at_call 9; ((with_reducible refine (fix_never _ _ _).mono ?_); rintro e w' ⟨rfl, h'⟩; cases h'))
    | (go_at_call 12; ((with_reducible refine (fix_same HR.out).mono ?_); rintro e w3 ⟨rfl, HS⟩; replace HS := Lib.hid HS))
    | (go_at_call 11; ((with_reducible refine (fix_pack HR.out HS.out).mono ?_); rintro e w4 ⟨rfl, HP⟩; replace HP := Lib.hid HP))
    | (go_at_call 10; ((with_reducible refine (fix_unpack _).mono ?_); rintro e w5 ⟨g', c', rfl, HU⟩; replace HU := Lib.hid HU)))
  go_ret
  exact ⟨rfl, (HR.out.below.next HS.out).next HP.out |>.next HU.out⟩
end Go.Proofs.Ytiimghgolaijhaa
