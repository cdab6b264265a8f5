/-
  RatioTells returns true, by its walk.
-/
import Derived.Test.YtdjkilgcgkhcdaaDoorRy
namespace Go.Proofs.YtdjkilgcgkhcdaaDoor
open Go.RowKit Go.Fl Go.Sort Go.Lib
theorem part_less {a b : Int} {z1 z2 : Nat} (h1 : PartIs a b z1) (h2 : PartIs a b z2) : lessB z1 z2 = false := by
  cases hp : partW a b with
  | some r => rw [h1.eq r hp, h2.eq r hp]; unfold lessB; simp
  | none =>
    unfold lessB key
    rw [h1.none hp, h2.none hp]; simp
def ptext (a b : Int) : List UInt8 := match partW a b with | some r => textL r | none => [110, 97, 110]
theorem part_text {a b : Int} {z : Nat} (h : PartIs a b z) : textL z = ptext a b := by
  unfold ptext
  cases hp : partW a b with
  | some r => rw [h.eq r hp]
  | none => simp only; unfold textL; rw [if_pos (kindOf_none z (h.none hp))]
theorem part_std (a b : Int) (w0 w : World) (h : Std w0 w) : Calls Tryd.prog 11 #[.int .i64 a, .int .i64 b] w fun e w' => ∃ z, e = .returned (.float .f64 z) ∧ PartIs a b z ∧ Std w0 w' :=
  (part_any a b w).mono fun _ _ ⟨z, he, hz, hb⟩ => ⟨z, he, hz, h.next hb⟩
theorem rpart_std (a b : Int) (w0 w : World) (h : Std w0 w) : Calls Tryd.prog 12 #[.int .i64 a, .int .i64 b] w fun e w' => ∃ z, e = .returned (.float .f64 z) ∧ PartIs a b z ∧ Std w0 w' :=
  (rpart_any a b w).mono fun _ _ ⟨z, he, hz, hb⟩ => ⟨z, he, hz, h.next hb⟩
theorem same_part (a b : Int) (z1 z2 : Nat) (h1 : PartIs a b z1) (h2 : PartIs a b z2) (w : World) : Calls Tryd.prog 10 #[.float .f64 z1, .float .f64 z2] w fun e w' => e = .returned (.bool true) ∧ w = w' :=
  (same_any z1 z2 w h1.lt h2.lt).mono fun _ _ h => ⟨by rw [h.1, part_less h1 h2, part_less h2 h1]; rfl, h.2⟩
theorem rsame_part (a b : Int) (z1 z2 : Nat) (h1 : PartIs a b z1) (h2 : PartIs a b z2) (w : World) : Calls Tryd.prog 13 #[.float .f64 z1, .float .f64 z2] w fun e w' => e = .returned (.bool true) ∧ w = w' :=
  (rsame_any z1 z2 w h1.lt h2.lt).mono fun _ _ h => ⟨by rw [h.1, part_less h1 h2, part_less h2 h1]; rfl, h.2⟩
theorem text_part (a b : Int) (z : Nat) (hz : PartIs a b z) (w0 w : World) (h : Std w0 w) : Calls Tryd.prog 14 #[.float .f64 z] w fun e w' => e = .returned (.string ⟨(ptext a b).toArray⟩) ∧ Std w0 w' :=
  text_at z _ hz.lt (part_text hz) w0 w h
theorem rtext_at (x : Nat) (s : List UInt8) (hx : x < 2 ^ 64) (hs : textL x = s) (w0 w : World) (h : Std w0 w) :
    Calls Tryd.prog 15 #[.float .f64 x] w fun e w' => e = .returned (.string ⟨s.toArray⟩) ∧ Std w0 w' :=
  (rtext_any x hx w).mono fun _ _ ⟨he, hb⟩ => ⟨by rw [he, hs], h.next hb⟩
theorem rtext_part (a b : Int) (z : Nat) (hz : PartIs a b z) (w0 w : World) (h : Std w0 w) : Calls Tryd.prog 15 #[.float .f64 z] w fun e w' => e = .returned (.string ⟨(ptext a b).toArray⟩) ∧ Std w0 w' :=
  rtext_at z _ hz.lt (part_text hz) w0 w h
set_option maxHeartbeats 4000000 in
set_option maxRecDepth 100000 in
theorem tells_core (a b : Int) (x y : Nat) (hx : x < 2 ^ 64) (hy : y < 2 ^ 64) (p q : Bool) (hp : lessB x y = p) (hq : lessB y x = q) (w : World) (S : Std w w) :
    Calls Tryd.prog 3 #[.agg #[.int .i64 a, .int .i64 b, .float .f64 x, .float .f64 y]] w fun e w' => e = .returned (.bool true) ∧ Std w w' := by
  have HX := Lib.hid hx
  have HY := Lib.hid hy
  have tx := fun w1 (h : Std w w1) => text_at x (textL x) hx rfl w w1 h
  have rx := fun w1 (h : Std w w1) => rtext_at x (textL x) hx rfl w w1 h
  generalize textL x = s at tx rx
  have tp := fun z (hz : PartIs a b z) w1 (h : Std w w1) => text_part a b z hz w w1 h
  have rp := fun z (hz : PartIs a b z) w1 (h : Std w w1) => rtext_part a b z hz w w1 h
  generalize ptext a b = t at tp rp
  clear hx hy
  have SB : ∀ o, Std w (w.alloc o) := fun o => S.next ((Below.refl _ _).alloc (Nat.le_refl _) o)
  cases p <;> cases q
  all_goals
    go_enter Tryd.func3, Tryd.ntmps3
    go_wp2
    go_quiet (fail)
    simp only [Exit.then]
    have hS1 : Std w ((w.alloc (.cells #[.int .i64 a, .int .i64 b, .float .f64 x, .float .f64 y] 24)).drewN nq) := ⟨S.tab, below_drewN (SB _).below nq⟩
    generalize (w.alloc (.cells #[.int .i64 a, .int .i64 b, .float .f64 x, .float .f64 y] 24)).drewN nq = w1 at hS1 ⊢
    clear SB
    go_wp2_with (first
      | (go_at_call 9; ((with_reducible refine (fixed_at w _ (by assumption)).mono ?_); rintro e w' ⟨rfl, hS⟩))
      | (go_at_call 11; ((with_reducible refine (part_std _ _ w _ (by assumption)).mono ?_); rintro e w' ⟨z, rfl, hz, hS⟩))
      | (go_at_call 12; ((with_reducible refine (rpart_std _ _ w _ (by assumption)).mono ?_); rintro e w' ⟨z, rfl, hz, hS⟩))
      | (go_at_call 10; ((with_reducible refine (same_part a b _ _ (by assumption) (by assumption) _).mono ?_); rintro e w' ⟨rfl, rfl⟩))
      | (go_at_call 13; ((with_reducible refine (rsame_part a b _ _ (by assumption) (by assumption) _).mono ?_); rintro e w' ⟨rfl, rfl⟩))
      | (go_at_call 14; ((with_reducible refine (tx _ (by assumption)).mono ?_); rintro e w' ⟨rfl, hS⟩))
      | (go_at_call 15; ((with_reducible refine (rx _ (by assumption)).mono ?_); rintro e w' ⟨rfl, hS⟩))
      | (go_at_call 14; ((with_reducible refine (tp _ (by assumption) _ (by assumption)).mono ?_); rintro e w' ⟨rfl, hS⟩))
      | (go_at_call 15; ((with_reducible refine (rp _ (by assumption) _ (by assumption)).mono ?_); rintro e w' ⟨rfl, hS⟩))
      | (go_at_call 16; ((with_reducible refine (less_any _ _ _ HX.out HY.out).mono ?_); rintro e w' ⟨rfl, rfl⟩))
      | (go_at_call 17; ((with_reducible refine (rless_any _ _ HX.out HY.out _).mono ?_); rintro e w' ⟨rfl, rfl⟩))
      | (go_at_call 10; ((with_reducible refine (same_any _ _ _ HX.out HY.out).mono ?_); rintro e w' ⟨rfl, rfl⟩))
      | (go_at_call 13; ((with_reducible refine (rsame_any _ _ _ HX.out HY.out).mono ?_); rintro e w' ⟨rfl, rfl⟩)))
    go_ret
    exact ⟨rfl, by assumption⟩
end Go.Proofs.YtdjkilgcgkhcdaaDoor
