/-
  RatioOrder returns true, given how the three floats stand.
-/
import Derived.Test.YtdjkilgcgkhcdaaDoorWk9
namespace Go.Proofs.YtdjkilgcgkhcdaaDoor
open Go.RowKit Go.Fl Go.Sort Go.Lib
theorem fixed_at (w0 w : World) (h : Std w0 w) : Calls Tryd.prog 9 #[] w fun e w' => e = .returned (.bool true) ∧ Std w0 w' :=
  (fixed_any w h.tabAt).mono fun _ _ ⟨he, hb⟩ => ⟨he, h.next hb⟩
theorem less_of {x y : Nat} : lessB x y = decide (key x < key y) := rfl
set_option maxHeartbeats 2000000 in
set_option maxRecDepth 100000 in
theorem order_core (a b c : Nat) (ha : a < 2 ^ 64) (hb : b < 2 ^ 64) (hc : c < 2 ^ 64) (w : World) (S : Std w w) (p q r s t u v : Bool)
    (ab : lessB a b = p) (ba : lessB b a = q) (bc : lessB b c = r) (cb : lessB c b = s) (ac : lessB a c = t) (ca : lessB c a = u) (aa : lessB a a = v)
    (hv : v = false) (h1 : (p && q) = false) (h2 : (p && r && !t) = false) (h3 : (!p && !q && !r && !s && (t || u)) = false) :
    Calls Tryd.prog 5 #[.float .f64 a, .float .f64 b, .float .f64 c] w fun e w' => e = .returned (.bool true) ∧ Std w w' := by
  subst hv
  cases p <;> cases q <;> cases r <;> cases s <;> cases t <;> cases u <;> first | (exact absurd h1 (by decide)) | (exact absurd h2 (by decide)) | (exact absurd h3 (by decide)) | skip
  all_goals
    clear h1 h2 h3
    go_enter Tryd.func5, Tryd.ntmps5
    go_wp2_with (first
      | (go_at_call 9; ((with_reducible refine (fixed_at w _ (by assumption)).mono ?_); rintro e w' ⟨rfl, hS⟩))
      | (go_at_call 16; ((with_reducible refine (less_any _ _ _ (by assumption) (by assumption)).mono ?_); rintro e w' ⟨rfl, rfl⟩))
      | (go_at_call 10; ((with_reducible refine (same_any _ _ _ (by assumption) (by assumption)).mono ?_); rintro e w' ⟨rfl, rfl⟩)))
    go_ret
    exact ⟨rfl, by assumption⟩
end Go.Proofs.YtdjkilgcgkhcdaaDoor
