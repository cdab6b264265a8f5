/-
  The document's trees as they lie in memory; which one is the least; all but one.
-/
import Derived.Test.YtgkmmflamnijdaaHufRm
import Derived.Deep.Slices
namespace Go.Proofs.Ytgkmmflamnijdaa
set_option maxRecDepth 100000
open Go.RowKit Go.Lib
/-- a tree, and where the list of its symbols lies -/
structure El where
  t : Hf.T
  b : Nat
  cap : Nat
def ec (e : El) : List Value := [.int .i64 e.t.w, .int .i64 e.t.n, .slice (some ⟨e.b, 0, none⟩) e.t.syms.length e.cap]
def ecs (E : List El) : List Value := E.flatMap ec
theorem ecs_length (E : List El) : (ecs E).length = E.length * 3 := by
  induction E with
  | nil => rfl
  | cons e E ih => unfold ecs at ih ⊢; rw [List.flatMap_cons, List.length_append, ih, List.length_cons]; simp [ec]; omega
theorem ecs_append (E F : List El) : ecs (E ++ F) = ecs E ++ ecs F := by unfold ecs; rw [List.flatMap_append]
theorem ecs_one (E : List El) : ∀ u ∈ ecs E, u.oneCell' = true := by
  intro u hu
  unfold ecs at hu
  obtain ⟨e, _, he⟩ := List.mem_flatMap.1 hu
  simp [ec] at he
  rcases he with rfl | rfl | rfl <;> rfl
theorem ecs_drop (E : List El) (k : Nat) : (ecs E).drop (k * 3) = ecs (E.drop k) := by
  induction E generalizing k with
  | nil => simp [ecs]
  | cons e E ih =>
    cases k with
    | zero => rw [Nat.zero_mul, List.drop_zero, List.drop_zero]
    | succ k =>
      have h : ecs (e :: E) = ec e ++ ecs E := by unfold ecs; rw [List.flatMap_cons]
      rw [h, List.drop_succ_cons, ← ih k, show (k + 1) * 3 = (ec e).length + k * 3 by simp [ec]; omega, List.drop_append]
      rw [List.drop_of_length_le (by omega), List.nil_append]
      congr 1; omega
theorem ecs_take (E : List El) (k : Nat) : (ecs E).take (k * 3) = ecs (E.take k) := by
  induction E generalizing k with
  | nil => simp [ecs]
  | cons e E ih =>
    cases k with
    | zero => rw [Nat.zero_mul, List.take_zero, List.take_zero]; rfl
    | succ k =>
      have h : ∀ E, ecs (e :: E) = ec e ++ ecs E := fun E => by unfold ecs; rw [List.flatMap_cons]
      rw [h, List.take_succ_cons, h, ← ih k, show (k + 1) * 3 = (ec e).length + k * 3 by simp [ec]; omega, List.take_append]
      rw [List.take_of_length_le (by omega)]
      congr 2; omega
theorem ecs_get (E : List El) : ∀ i (h : i < E.length), (ecs E)[i * 3]? = some (.int .i64 E[i].t.w) ∧ (ecs E)[i * 3 + 1]? = some (.int .i64 E[i].t.n) ∧ (ecs E)[i * 3 + 2]? = some (.slice (some ⟨E[i].b, 0, none⟩) E[i].t.syms.length E[i].cap) := by
  induction E with
  | nil => intro i h; simp at h
  | cons e E ih =>
    intro i h
    have e1 : ecs (e :: E) = .int .i64 e.t.w :: .int .i64 e.t.n :: .slice (some ⟨e.b, 0, none⟩) e.t.syms.length e.cap :: ecs E := by unfold ecs; rw [List.flatMap_cons]; rfl
    rw [e1]
    cases i with
    | zero => exact ⟨rfl, rfl, rfl⟩
    | succ i =>
      have := ih i (by simpa using h)
      rw [show (i + 1) * 3 = i * 3 + 3 by omega]
      exact this
/-- trees that lie from a row's head on -/
def ElsAt (w : World) (g : Nat) (E : List El) : Prop := ∀ j u, (ecs E)[j]? = some u → w.cell? ⟨g, j, none⟩ = some u
theorem ElsAt.below {w w' : World} {g : Nat} {E : List El} (h : ElsAt w g E) (hb : Below w.heap.size w w') : ElsAt w' g E := fun j u hj => by
  rw [hb.cell (p := ⟨g, j, none⟩) (World.block_lt_of_cell? w _ (h j u hj))]; exact h j u hj
theorem ElsAt.of {w : World} {B g n cap : Nat} {E : List El} (h : w.ownsRow B 92 3 (.slice (some ⟨g, 0, none⟩) n cap) n (ecs E)) : ElsAt w g E := fun j u hj => by
  have := h.cells (g := g) rfl j u hj
  rwa [Addr.add_lit, Nat.zero_add] at this
theorem ElsAt.get {w : World} {g : Nat} {E : List El} (h : ElsAt w g E) (i : Nat) (hi : i < E.length) :
    w.cell? ⟨g, i * 3, none⟩ = some (.int .i64 E[i].t.w) ∧ w.cell? ⟨g, i * 3 + 1, none⟩ = some (.int .i64 E[i].t.n) ∧ w.cell? ⟨g, i * 3 + 2, none⟩ = some (.slice (some ⟨E[i].b, 0, none⟩) E[i].t.syms.length E[i].cap) :=
  ⟨h _ _ (ecs_get E i hi).1, h _ _ (ecs_get E i hi).2.1, h _ _ (ecs_get E i hi).2.2⟩
theorem lt_trans {x y z : Hf.T} (h : x.lt y) (k : y.lt z) : x.lt z := by unfold Hf.T.lt at *; omega
set_option maxHeartbeats 1000000 in
theorem least_doc (E : List El) (hn : E.length ≤ 300) (h0 : 0 < E.length) (g cap : Nat) (hc : E.length ≤ cap) (w : World) (h : ElsAt w g E) :
    Calls Try.prog 65 #[.slice (some ⟨g, 0, none⟩) E.length cap] w fun e w' => ∃ (k : Nat) (hk : k < E.length), e = .returned (.int .i64 k) ∧ (∀ j (hj : j < E.length), ¬ Hf.T.lt E[j].t E[k].t) ∧ Below w.heap.size w w' := by
  have HE := Lib.hid h
  have zn : (E.length : Int) ≤ 300 := by omega
  have z0 : (1 : Int) ≤ E.length := by omega
  have zc : (E.length : Int) ≤ cap := by omega
  have H0 : Hid (∀ j (_ : j < 1) (hj : j < E.length), ¬ Hf.T.lt E[j].t E[0].t) := Lib.hid fun j h1 hj => by
    obtain rfl : j = 0 := by omega
    unfold Hf.T.lt; omega
  have HB := Lib.hid (Below.refl w.heap.size w)
  have HC := Lib.hid hc
  clear h hc
  go_enter Try.func65, Try.ntmps65
  go_wp2
  go_loopw [3, 4] (fun a v wr => ∃ (k i : Nat) (_ : k < E.length), 1 ≤ i ∧ i ≤ E.length ∧ a = .int .i64 k ∧ v = .int .i64 i ∧ Hid (∀ j (_ : j < i) (hj : j < E.length), ¬ Hf.T.lt E[j].t E[k].t) ∧ Hid (Below w.heap.size w wr)) (fun _ v _ => E.length - (RowKit.intOf v).toNat)
  case atStart => exact ⟨0, 1, h0, Nat.le_refl _, by omega, rfl, rfl, H0, HB⟩
  case round =>
    clear H0 HB
    obtain ⟨k, i, hk, h1, hi, rfl, rfl, HA, HW⟩ := hrel
    by_cases hlt : i < E.length
    · have ii : (i : Int) < E.length := by omega
      have kk : (k : Int) < E.length := by omega
      obtain ⟨a1, a2, a3⟩ := (HE.out.below HW.out).get i hlt
      obtain ⟨b1, b2, b3⟩ := (HE.out.below HW.out).get k hk
      have keep : Hid (¬ Hf.T.lt E[i].t E[k].t → ∀ j (_ : j < i + 1) (hj : j < E.length), ¬ Hf.T.lt E[j].t E[k].t) := Lib.hid fun hx j hj1 hj => by
        by_cases e : j = i
        · subst e; exact hx
        · exact HA.out j (by omega) hj
      have turn : Hid (Hf.T.lt E[i].t E[k].t → ∀ j (_ : j < i + 1) (hj : j < E.length), ¬ Hf.T.lt E[j].t E[i].t) := Lib.hid fun hx j hj1 hj hj2 => by
        by_cases e : j = i
        · subst e; unfold Hf.T.lt at hj2; omega
        · exact HA.out j (by omega) hj (lt_trans hj2 hx)
      have hwi : Hid (∀ x y : Nat, E[i].t.w = x → E[k].t.w = y → ∀ u v : Nat, E[i].t.n = u → E[k].t.n = v → (Hf.T.lt E[i].t E[k].t ↔ x < y ∨ x = y ∧ u < v)) := Lib.hid fun x y e1 e2 u v e3 e4 => by unfold Hf.T.lt; rw [e1, e2, e3, e4]
      obtain ⟨wi, ewi⟩ : ∃ x, E[i].t.w = x := ⟨_, rfl⟩
      obtain ⟨wk, ewk⟩ : ∃ x, E[k].t.w = x := ⟨_, rfl⟩
      obtain ⟨ni, eni⟩ : ∃ x, E[i].t.n = x := ⟨_, rfl⟩
      obtain ⟨nk, enk⟩ : ∃ x, E[k].t.n = x := ⟨_, rfl⟩
      have HLt := Lib.hid (hwi.out wi wk ewi ewk ni nk eni enk)
      rw [ewi] at a1
      rw [eni] at a2
      rw [ewk] at b1
      rw [enk] at b2
      clear hwi ewi ewk eni enk
      have hki : Hid (k < E.length ∧ i < E.length ∧ 1 ≤ i) := Lib.hid ⟨hk, hlt, h1⟩
      clear a3 b3 h1 hi
      by_cases hw1 : wi < wk
      · have F := Lib.hid (turn.out (HLt.out.2 (.inl hw1)))
        have zw : (wi : Int) < wk := by omega
        clear keep turn HLt hw1
        go_wp2_with fail
        go_quiet (fail)
        simp only [Exit.then]
        go_wp2
        go_roundw
        case rel => exact ⟨i, i + 1, hki.out.2.1, by omega, by have := hki.out; omega, rfl, by go_num, F, Lib.hid (below_drewN HW.out _)⟩
        case measure => have := hki.out; simp [RowKit.intOf]; omega
      · by_cases hw2 : wi = wk
        · subst hw2
          by_cases hn1 : ni < nk
          · have F := Lib.hid (turn.out (HLt.out.2 (.inr ⟨rfl, hn1⟩)))
            have zw : (ni : Int) < nk := by omega
            clear keep turn HLt hw1 hn1
            go_wp2_with fail
            go_quiet (fail)
            simp only [Exit.then]
            go_wp2
            go_roundw
            case rel => exact ⟨i, i + 1, hki.out.2.1, by omega, by have := hki.out; omega, rfl, by go_num, F, Lib.hid (below_drewN HW.out _)⟩
            case measure => have := hki.out; simp [RowKit.intOf]; omega
          · have F := Lib.hid (keep.out (fun hx => by have := HLt.out.1 hx; omega))
            have zw : decide (ni < nk) = false := by simp; omega
            clear keep turn HLt hw1 hn1
            go_wp2_with fail
            go_quiet (fail)
            simp only [Exit.then]
            go_wp2
            go_roundw
            case rel => exact ⟨k, i + 1, hki.out.1, by omega, by have := hki.out; omega, rfl, by go_num, F, Lib.hid (below_drewN HW.out _)⟩
            case measure => have := hki.out; simp [RowKit.intOf]; omega
        · have F := Lib.hid (keep.out (fun hx => by have := HLt.out.1 hx; omega))
          have zw : decide (wi < wk) = false := by simp; omega
          have zw2 : ((wi : Int) == wk) = false := by simp; omega
          have zw3 : decide (wi = wk) = false := by simp; omega
          clear keep turn HLt hw1 hw2
          go_wp2_with fail
          go_quiet (fail)
          simp only [Exit.then]
          go_wp2
          go_roundw
          case rel => exact ⟨k, i + 1, hki.out.1, by omega, by have := hki.out; omega, rfl, by go_num, F, Lib.hid (below_drewN HW.out _)⟩
          case measure => have := hki.out; simp [RowKit.intOf]; omega
    · have e : i = E.length := by omega
      subst e
      go_wp2
      go_ret
      exact ⟨k, hk, rfl, fun j hj => HA.out j hj hj, HW.out⟩
end Go.Proofs.Ytgkmmflamnijdaa

