/-
  Contract of the document's Greatest: the same fold as the program's, begun at whichever bits of no number.
-/
import Derived.Test.YtdjkilgcgkhcdaaDoorSo
import Derived.Test.YtdjkilgcgkhcdaaDoorSe
import Derived.Test.YtdjkilgcgkhcdaaDoorRf
namespace Go.Proofs.YtdjkilgcgkhcdaaDoor
open Go.RowKit Go.Fl Go.Sort Go.Lib
theorem ord_none (x : Nat) (hx : x < 2 ^ 64) : (FloatKind.f64.format.order x x != some .eq) = (kindOf x == 6) := by
  rw [order_val]
  match h : val x with
  | none => rw [kindOf_none x h]; rfl
  | some v =>
    have h6 : kindOf x ≠ 6 := fun e => by have := (kind_six x hx).1 e; simp [this] at h
    have e : (kindOf x == 6) = false := by simpa using h6
    rw [e]; simp [cmpExt]
/-- The document's greatest one, its fold begun at whichever bits of no number. -/
theorem fold_nan (l : List Nat) (hl : ∀ x ∈ l, x < 2 ^ 64) (z z' : Nat) (h : kindOf z = 6) (h' : kindOf z' = 6) :
    l.foldl gstep z = l.foldl gstep z' ∨ (kindOf (l.foldl gstep z) = 6 ∧ kindOf (l.foldl gstep z') = 6) := by
  induction l generalizing z z' with
  | nil => exact .inr ⟨h, h'⟩
  | cons a t ih =>
    rw [List.foldl_cons, List.foldl_cons]
    by_cases ha : kindOf a = 6
    · have e1 : gstep z a = z := by unfold gstep; simp [ha]
      have e2 : gstep z' a = z' := by unfold gstep; simp [ha]
      rw [e1, e2]
      exact ih (fun x hx => hl x (List.mem_cons_of_mem _ hx)) z z' h h'
    · have e1 : gstep z a = a := by unfold gstep; simp [ha, h]
      have e2 : gstep z' a = a := by unfold gstep; simp [ha, h']
      rw [e1, e2]
      exact .inl rfl
set_option maxHeartbeats 1000000 in
theorem rgreatest_any (l : List Nat) (blk off cap : Nat) (w : World) (hz : l.length ≤ 4611686018427387903) (hF : FloatsAt w blk off l) :
    Calls Tryd.prog 19 #[.slice (some ⟨blk, off, none⟩) l.length cap] w fun e w' => ∃ z, e = .returned (.float .f64 (l.foldl gstep z)) ∧ z < 2 ^ 64 ∧ kindOf z = 6 ∧ Below w.heap.size w w' := by
  have d3 := fun w => run_float_none w 22 0 0 (by kernel_rfl)
  have HF := Lib.hid (show FloatsAt w.drew blk off l from ⟨fun i hi => by simpa using hF.cell i hi, hF.lt⟩)
  have zl : (l.length : Int) ≤ 4611686018427387903 := by omega
  have HZ : Hid (nanW w 0 0 < 2 ^ 64 ∧ kindOf (nanW w 0 0) = 6) := ⟨(nanW_facts w 0 0).1, kindOf_none _ (nanW_facts w 0 0).2⟩
  have HB : Hid (Below w.heap.size w w.drew) := (Below.refl _ _).drew
  clear hF hz
  go_enter Tryd.func19, Tryd.ntmps19
  go_wp2
  generalize nanW w 0 0 = z at *
  generalize w.drew = w1 at *
  go_loop [4, 5] (fun g v => ∃ k : Nat, k ≤ l.length ∧ v = .int .i64 k ∧ g = .float .f64 ((l.take k).foldl gstep z)) (fun _ v => l.length - (intOf v).toNat)
  case atStart => exact ⟨0, by omega, rfl, rfl⟩
  case round =>
    obtain ⟨k, hk, rfl, rfl⟩ := hrel
    by_cases hlt : k < l.length
    · have c := HF.out.cell k hlt
      have HX := Lib.hid (HF.out.lt k)
      have HG : Hid ((l.take k).foldl gstep z < 2 ^ 64) := fold_lt _ (fun x hx => getD_mem_lt HF.out.lt x (List.mem_of_mem_take hx)) _ HZ.out.1
      have HT : Hid ((l.take (k + 1)).foldl gstep z = gstep ((l.take k).foldl gstep z) (l.getD k 0)) := by
        show _ = _
        rw [take_getD l k hlt, List.foldl_append]; rfl
      generalize l.getD k 0 = x at *
      generalize (l.take k).foldl gstep z = g at *
      have e1 := Lib.hid (ord_none x HX.out)
      have e2 := Lib.hid (ord_none g HG.out)
      cases h1 : (FloatKind.f64.format.order x x != some .eq) <;> cases h2 : (FloatKind.f64.format.order g g != some .eq) <;> cases h3 : lessB g x
      all_goals
        go_wp2_with (first
          | (go_at_call 28; ((with_reducible refine (rnone_any _ _).mono ?_); rintro e w' ⟨rfl, rfl⟩))
          | (go_at_call 17; ((with_reducible refine (rless_any _ _ HG.out HX.out _).mono ?_); rintro e w' ⟨rfl, rfl⟩)))
        go_round
        case rel => exact ⟨k + 1, by omega, by go_num, by rw [HT.out]; have := e1.out; have := e2.out; unfold gstep; simp_all⟩
        case measure => simp [intOf]; omega
    · have e : k = l.length := by omega
      subst e
      go_wp2
      go_ret
      exact ⟨z, by simp, HZ.out.1, HZ.out.2, HB.out⟩
end Go.Proofs.YtdjkilgcgkhcdaaDoor
