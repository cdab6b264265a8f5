/-
  The calls whose answers the document fixes are answered so.
-/
import Derived.Test.YtdjkilgcgkhcdaaDoorWk8
import Derived.Lib.SmallJoins
namespace Go.Proofs.YtdjkilgcgkhcdaaDoor
open Go.RowKit Go.Fl Go.Sort Go.Lib
/-- The table that numbers are told by stands as it was, and so does all that was there. -/
structure Std (w0 w : World) : Prop where
  tab : Lib.TabIs Tryd.prog w0 "internal/strconv.uint64pow10" .u64 Lib.pow10Tab
  below : Below w0.heap.size w0 w
theorem tab_gl : ∃ g, Tryd.prog.globalNamed "internal/strconv.uint64pow10" = some g := Option.isSome_iff_exists.1 (by kernel_rfl)
theorem Std.tabAt {w0 w : World} (h : Std w0 w) : Lib.TabIs Tryd.prog w "internal/strconv.uint64pow10" .u64 Lib.pow10Tab := by
  obtain ⟨g, hg⟩ := tab_gl
  exact Joins.tab_stays hg h.tab h.below (Nat.le_refl _)
theorem Std.next {w0 w w' : World} (h : Std w0 w) (hb : Below w.heap.size w w') : Std w0 w' := ⟨h.tab, h.below.trans (hb.mono h.below.size)⟩
theorem text_at (x : Nat) (s : List UInt8) (hx : x < 2 ^ 64) (hs : textL x = s) (w0 w : World) (h : Std w0 w) :
    Calls Tryd.prog 14 #[.float .f64 x] w fun e w' => e = .returned (.string ⟨s.toArray⟩) ∧ Std w0 w' :=
  (text_any x hx w h.tabAt).mono fun _ _ ⟨he, hb⟩ => ⟨by rw [he, hs], h.next hb⟩
theorem part_at (a b : Int) (r : Nat) (hp : partW a b = some r) (w0 w : World) (h : Std w0 w) :
    Calls Tryd.prog 11 #[.int .i64 a, .int .i64 b] w fun e w' => e = .returned (.float .f64 r) ∧ Std w0 w' :=
  (part_any a b w).mono fun _ _ ⟨z, he, hz, hb⟩ => ⟨by rw [he, hz.eq r hp], h.next hb⟩
theorem part_none_at (a b : Int) (hp : partW a b = none) (w0 w : World) (h : Std w0 w) :
    Calls Tryd.prog 11 #[.int .i64 a, .int .i64 b] w fun e w' => ∃ z, e = .returned (.float .f64 z) ∧ (z < 2 ^ 64 ∧ textL z = [110, 97, 110]) ∧ Std w0 w' :=
  (part_any a b w).mono fun _ _ ⟨z, he, hz, hb⟩ => ⟨z, he, ⟨hz.lt, by unfold textL; rw [if_pos (kindOf_none z (hz.none hp))]⟩, h.next hb⟩

theorem part13 : partW 1 3 = some 4599676419421066581 := by kernel_rfl
theorem part00 : partW 0 0 = none := by kernel_rfl
theorem partm10 : partW (-1) 0 = some 18442240474082181120 := by kernel_rfl
theorem dot_of (n : Nat) (l d : List UInt8) (h : Lib.decDigits n = l) (hd : (pad4 l).take ((pad4 l).length - 3) ++ 46 :: (pad4 l).drop ((pad4 l).length - 3) = d) : dotL n = d := by
  unfold dotL; rw [Lib.itoa_nonneg, h]; exact hd
theorem text_num (x n : Nat) (s d : List UInt8) (hk : kindOf x ≠ 6 ∧ kindOf x ≠ 5 ∧ kindOf x ≠ 0)
    (h4 : (FloatKind.f64.format.order x 4696837146684686336 == some .gt || FloatKind.f64.format.order x 4696837146684686336 == some .eq) = false)
    (h5 : (FloatKind.f64.format.order x 13920209183539462144 == some .lt || FloatKind.f64.format.order x 13920209183539462144 == some .eq) = false)
    (hs : (if lessB x 0 then [45] else []) = s) (hn : thN x = n) (hd : dotL n = d) : textL x = s ++ d := by
  unfold textL
  rw [if_neg hk.1, if_neg hk.2.1, if_neg hk.2.2, if_neg (by rw [h4]; decide), if_neg (by rw [h5]; decide), hn, hd, hs]
theorem tx13 : textL 4599676419421066581 = [48, 46, 51, 51, 51] :=
  text_num _ 333 [] _ (by rw [show kindOf 4599676419421066581 = 4 by kernel_rfl]; decide) (by kernel_rfl) (by kernel_rfl) (by kernel_rfl) (by kernel_rfl) (dot_of 333 [51, 51, 51] _ (by simp [Lib.decDigits]) (by decide))
theorem txinf : textL 18442240474082181120 = [45, 105, 110, 102] := by
  have e : kindOf 18442240474082181120 = 0 := by kernel_rfl
  unfold textL; rw [e]; decide
theorem tx5 : textL 4557750909289998844 = [48, 46, 48, 48, 49] :=
  text_num _ 1 [] _ (by rw [show kindOf 4557750909289998844 = 4 by kernel_rfl]; decide) (by kernel_rfl) (by kernel_rfl) (by kernel_rfl) (by kernel_rfl) (dot_of 1 [49] _ (by simp [Lib.decDigits]) (by decide))
theorem txmz : textL 9223372036854775808 = [45, 48, 46, 48, 48, 48] :=
  text_num _ 0 [45] _ (by rw [show kindOf 9223372036854775808 = 2 by kernel_rfl]; decide) (by kernel_rfl) (by kernel_rfl) (by kernel_rfl) (by kernel_rfl) (dot_of 0 [48] _ (by simp [Lib.decDigits]) (by decide))
theorem tx15 : textL 13832806255468478464 = [45, 49, 46, 53, 48, 48] :=
  text_num _ 1500 [45] _ (by rw [show kindOf 13832806255468478464 = 1 by kernel_rfl]; decide) (by kernel_rfl) (by kernel_rfl) (by kernel_rfl) (by kernel_rfl) (dot_of 1500 [49, 53, 48, 48] _ (by simp [Lib.decDigits]) (by decide))
theorem lz1 : lessB 9223372036854775808 0 = true := by kernel_rfl
theorem lz2 : lessB 0 9223372036854775808 = false := by kernel_rfl
/-- The list of the document's example. -/
def exL (z : Nat) : List Nat := [z, 4607182418800017408, 9223372036854775808, 0]
def rk (i : Nat) : Nat := if i = 0 then 3 else if i = 1 then 2 else if i = 2 then 0 else 1
instance (z : Nat) : Inhabited (Fin (exL z).length) := ⟨⟨0, by show 0 < 4; omega⟩⟩
theorem lt_ex (z : Nat) (hz : val z = none) : ltOf (cfF (exL z)) = fun i j => decide (rk i.val < rk j.val) := by
  have k0 : key z = 2 * top + 5 := by unfold key; rw [hz]
  have k1 : key 4607182418800017408 = 2 * U := by kernel_rfl
  have k2 : key 9223372036854775808 = 0 := by kernel_rfl
  have k3 : key 0 = 1 := by kernel_rfl
  have hU : 0 < U := U_pos
  have hUt : U < top := by
    have e : pw 1075 = 2 * pw 1074 := by rw [pw_add 1074 1, show pw 1 = 2 from rfl, Int.mul_comm]
    have : pw 1075 ≤ top := pw_le (by omega)
    have : 0 < pw 1074 := pw_pos _
    show pw 1074 < top
    omega
  funext ⟨i, hi⟩ ⟨j, hj⟩
  have hi : i < 4 := hi
  have hj : j < 4 := hj
  unfold ltOf cfF cfI lessB
  rcases (by omega : i = 0 ∨ i = 1 ∨ i = 2 ∨ i = 3) with rfl | rfl | rfl | rfl <;>
  rcases (by omega : j = 0 ∨ j = 1 ∨ j = 2 ∨ j = 3) with rfl | rfl | rfl | rfl <;>
  simp only [exL, List.getD_cons_zero, List.getD_cons_succ, k0, k1, k2, k3, rk] <;> simp <;> omega
theorem ins_ex (z : Nat) (hz : val z = none) : (Sort.insertionSort (ltOf (cfF (exL z))) (places (exL z).length) 0 (exL z).length) = #[⟨2, by show 2 < 4; omega⟩, ⟨3, by show 3 < 4; omega⟩, ⟨1, by show 1 < 4; omega⟩, ⟨0, by show 0 < 4; omega⟩] := by
  rw [lt_ex z hz]
  show Sort.insertionSort (fun (i j : Fin 4) => decide (rk i.val < rk j.val)) (places 4) 0 4 = #[(2 : Fin 4), 3, 1, 0]
  unfold Sort.insertionSort
  rw [insOuter, if_pos (by decide), insOuter, if_pos (by decide), insOuter, if_pos (by decide), insOuter, if_neg (by decide)]
  decide +kernel
theorem order_at (z : Nat) (hz : val z = none) (blk : Nat) (w0 w : World) (h : Std w0 w) (hblk : blk < w.heap.size) (hF : FloatsAt w blk 0 (exL z)) :
    Calls Tryd.prog 21 #[.slice (some ⟨blk, 0, none⟩) 4 4] w fun e w' => ∃ bP, (e = .returned (.slice (some ⟨bP, 0, none⟩) 4 4) ∧ bP < w'.heap.size ∧ ∀ i, i < 4 → w'.cell? ⟨bP, 0 + i, none⟩ = some (.int .i64 ([2, 3, 1, 0].getD i 0))) ∧ Std w0 w' := by
  have hs := sorts_small (exL z) (by show 4 < 20; omega)
  rw [ins_ex z hz] at hs
  refine (order_any (exL z) _ hs rfl (by show 0 < 4; omega) (by show 4 * 8 ≤ _; omega) blk 0 4 w hblk hF).mono fun e w' ⟨bP, hO⟩ => ⟨bP, ⟨hO.ret, hO.old, fun i hi => ?_⟩, h.next hO.below⟩
  have hc := (hO.holds i hi).1
  rw [hc]
  rcases (by omega : i = 0 ∨ i = 1 ∨ i = 2 ∨ i = 3) with rfl | rfl | rfl | rfl <;> rfl
theorem floats_ex (w : World) (z : Nat) (hz : z < 2 ^ 64) (T : TypeId) : FloatsAt (w.alloc (.cells #[.float .f64 z, .float .f64 4607182418800017408, .float .f64 9223372036854775808, .float .f64 0] T)) w.heap.size 0 (exL z) where
  cell i hi := by
    have hi : i < 4 := hi
    rw [World.cell?_alloc_new]
    rcases (by omega : i = 0 ∨ i = 1 ∨ i = 2 ∨ i = 3) with rfl | rfl | rfl | rfl <;> rfl
  lt i := by
    by_cases hi : i < 4
    · rcases (by omega : i = 0 ∨ i = 1 ∨ i = 2 ∨ i = 3) with rfl | rfl | rfl | rfl
      · exact hz
      · show (4607182418800017408 : Nat) < 2 ^ 64; decide
      · show (9223372036854775808 : Nat) < 2 ^ 64; decide
      · show (0 : Nat) < 2 ^ 64; decide
    · have : (exL z).getD i 0 = 0 := by
        rw [List.getD_eq_getElem?_getD, List.getElem?_eq_none (by show 4 ≤ i; omega)]; rfl
      rw [this]; decide
theorem order_arm (w0 w1 : World) (h : Std w0 w1) :
    Calls Tryd.prog 21 #[.slice (some ⟨w1.heap.size, 0, none⟩) 4 4] (w1.alloc (.cells #[.float .f64 (nanW w1 0 0), .float .f64 4607182418800017408, .float .f64 9223372036854775808, .float .f64 0] 22)).drew fun e w' =>
      ∃ bP, (e = .returned (.slice (some ⟨bP, 0, none⟩) 4 4) ∧ bP < w'.heap.size ∧ ∀ i, i < 4 → w'.cell? ⟨bP, 0 + i, none⟩ = some (.int .i64 ([2, 3, 1, 0].getD i 0))) ∧ Std w0 w' :=
  order_at (nanW w1 0 0) (nanW_facts w1 0 0).2 w1.heap.size w0 _ (h.next ((Below.refl _ w1).alloc (Nat.le_refl _) _).drew) (by simp) ⟨fun i hi => (floats_ex w1 _ (nanW_facts w1 0 0).1 22).cell i hi, (floats_ex w1 _ (nanW_facts w1 0 0).1 22).lt⟩
theorem ints_arm (w0 w1 : World) (bP : Nat) (h : Std w0 w1) (hb : bP < w1.heap.size) (hc : ∀ i, i < 4 → w1.cell? ⟨bP, 0 + i, none⟩ = some (.int .i64 ([2, 3, 1, 0].getD i 0))) :
    Calls Tryd.prog 20 #[.slice (some ⟨bP, 0, none⟩) 4 4, .slice (some ⟨w1.heap.size, 0, none⟩) 4 4] (w1.alloc (.cells #[.int .i64 2, .int .i64 3, .int .i64 1, .int .i64 0] 3)) fun e w' => e = .returned (.bool true) ∧ Std w0 w' := by
  refine (ints_true 4 bP 0 4 w1.heap.size 0 4 (fun i => [2, 3, 1, 0].getD i 0) _ (by omega) (fun i hi => ?_) (fun i hi => ?_)).mono fun e w' ⟨he, q, hq⟩ => ⟨he, ?_⟩
  · rw [World.cell?_alloc_lt (h := hb)]; exact hc i hi
  · rw [Nat.zero_add, World.cell?_alloc_new]
    rcases (by omega : i = 0 ∨ i = 1 ∨ i = 2 ∨ i = 3) with rfl | rfl | rfl | rfl <;> rfl
  · rw [hq]; exact h.next (below_drewN ((Below.refl _ _).alloc (Nat.le_refl _) _) q)
theorem less_arm (w : World) : Calls Tryd.prog 16 #[.float .f64 9223372036854775808, .float .f64 0] w fun e w' => e = .returned (.bool true) ∧ w = w' :=
  (less_any _ _ w (by decide) (by decide)).mono fun _ _ h => ⟨by rw [h.1, lz1], h.2⟩
theorem same_arm (w : World) : Calls Tryd.prog 10 #[.float .f64 9223372036854775808, .float .f64 0] w fun e w' => e = .returned (.bool false) ∧ w = w' :=
  (same_any _ _ w (by decide) (by decide)).mono fun _ _ h => ⟨by rw [h.1, lz1, lz2]; rfl, h.2⟩
set_option maxHeartbeats 4000000 in
set_option maxRecDepth 100000 in
theorem fixed_any (w : World) (htab : Lib.TabIs Tryd.prog w "internal/strconv.uint64pow10" .u64 Lib.pow10Tab) :
    Calls Tryd.prog 9 #[] w fun e w' => e = .returned (.bool true) ∧ Below w.heap.size w w' := by
  have d1 := fun w => run_float_arith (P := Tryd.prog) w .quo 22 .f64 4607182418800017408 0 9218868437227405312 (by kernel_rfl)
  have d2 := fun w => run_float_arith (P := Tryd.prog) w .quo 22 .f64 13830554455654793216 9218868437227405312 9223372036854775808 (by kernel_rfl)
  have d3 := fun w => run_float_none w 22 0 0 (by kernel_rfl)
  have S0 : Std w w := ⟨htab, Below.refl _ _⟩
  clear htab
  go_enter Tryd.func9, Tryd.ntmps9
  go_wp2_with (first
    | (go_at_call 11; ((with_reducible refine (part_at 1 3 _ part13 w _ (by assumption)).mono ?_); rintro e w' ⟨rfl, hS⟩))
    | (go_at_call 11; ((with_reducible refine (part_none_at 0 0 part00 w _ (by assumption)).mono ?_); rintro e w' ⟨z, rfl, hz, hS⟩))
    | (go_at_call 11; ((with_reducible refine (part_at (-1) 0 _ partm10 w _ (by assumption)).mono ?_); rintro e w' ⟨rfl, hS⟩))
    | (go_at_call 14; ((with_reducible refine (text_at _ _ (by decide) tx13 w _ (by assumption)).mono ?_); rintro e w' ⟨rfl, hS⟩))
    | (go_at_call 14; ((with_reducible refine (text_at _ _ hz.1 hz.2 w _ (by assumption)).mono ?_); rintro e w' ⟨rfl, hS⟩))
    | (go_at_call 14; ((with_reducible refine (text_at _ _ (by decide) txinf w _ (by assumption)).mono ?_); rintro e w' ⟨rfl, hS⟩))
    | (go_at_call 14; ((with_reducible refine (text_at _ _ (by decide) tx5 w _ (by assumption)).mono ?_); rintro e w' ⟨rfl, hS⟩))
    | (go_at_call 14; ((with_reducible refine (text_at _ _ (by decide) txmz w _ (by assumption)).mono ?_); rintro e w' ⟨rfl, hS⟩))
    | (go_at_call 14; ((with_reducible refine (text_at _ _ (by decide) tx15 w _ (by assumption)).mono ?_); rintro e w' ⟨rfl, hS⟩))
    | (go_at_call 16; ((with_reducible refine (less_arm _).mono ?_); rintro e w' ⟨rfl, rfl⟩))
    | (go_at_call 10; ((with_reducible refine (same_arm _).mono ?_); rintro e w' ⟨rfl, rfl⟩))
    | (go_at_call 21; ((with_reducible refine (order_arm w _ (by assumption)).mono ?_); rintro e w' ⟨bP, ⟨rfl, hO⟩, hS⟩; have HO := Lib.hid hO; clear hO))
    | (go_at_call 20; ((with_reducible refine (ints_arm w _ _ (by assumption) HO.out.1 HO.out.2).mono ?_); rintro e w' ⟨rfl, hS⟩)))
  go_ret
  exact ⟨rfl, by rename_i hS; exact hS.below⟩
end Go.Proofs.YtdjkilgcgkhcdaaDoor
