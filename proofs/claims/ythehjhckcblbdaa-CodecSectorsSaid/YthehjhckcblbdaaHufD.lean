/-
  The document's May and Deep.
-/
import Derived.Test.YthehjhckcblbdaaLstX
import Derived.Test.YthehjhckcblbdaaHufM
import Derived.Deep.Slices
import Derived.Maps.AppendAt
namespace Go.Proofs.Ythehjhckcblbdaa
set_option maxRecDepth 100000
open Go.RowKit Go.Lib
set_option maxHeartbeats 1000000 in
theorem may_doc (L : List Int) (p : Option Addr) (cap : Nat) (w : World) (h : IntsLie w p L cap) (hl : L.length ≤ 281474976710656) :
    Calls Try.prog 67 #[.slice p L.length cap] w fun e w' => e = .returned (.bool (L.all mayI && decide (L.length ≤ 300))) ∧ w' = w := by
  have HI := Lib.hid h
  have zl : (L.length : Int) ≤ 281474976710656 := by omega
  clear h hl
  go_enter Try.func67, Try.ntmps67
  go_wp2
  go_loop [3] (fun v => ∃ i : Nat, i ≤ L.length ∧ v = .int .i64 i ∧ Hid ((L.take i).all mayI = true)) (fun v => L.length - (RowKit.intOf v).toNat)
  case atStart => exact ⟨0, Nat.zero_le _, rfl, by show _ = _; rfl⟩
  case round =>
    obtain ⟨i, hi, rfl, HA⟩ := hrel
    by_cases hlt : i < L.length
    · obtain ⟨blk, off, rfl, hc⟩ := HI.out.at hlt
      have c := hc i hlt
      have HS := Lib.hid (all_take L mayI i hlt)
      have HM := Lib.hid (fun (hx : mayI L[i] = false) => show L.all mayI = false from List.all_eq_false.2 ⟨L[i], List.getElem_mem hlt, by rw [hx]; simp⟩)
      generalize L[i] = x at c HS HM
      have ii : (i : Int) < L.length := by omega
      have hcap : (L.length : Int) ≤ cap := by have := HI.out.len; omega
      clear hc
      by_cases h0 : x < 0
      · have HF := Lib.hid (HM.out (by simp [mayI]; omega))
        clear HM HS
        go_wp2
        go_ret
        exact ⟨ret_bool (by rw [HF.out]; rfl), rfl⟩
      · by_cases h1 : 100000 < x
        · have HF := Lib.hid (HM.out (by simp [mayI]; omega))
          have h0' : 0 ≤ x := by omega
          clear HM HS h0
          go_wp2
          go_ret
          exact ⟨ret_bool (by rw [HF.out]; rfl), rfl⟩
        · have HT : Hid ((L.take (i + 1)).all mayI = true) := by
            show _ = _
            rw [HS.out, HA.out]; simp [mayI]; omega
          have h0' : 0 ≤ x := by omega
          have h1' : x ≤ 100000 := by omega
          clear HM HS h0 h1
          go_wp2
          go_round
          case rel => exact ⟨i + 1, by omega, by go_num, HT⟩
          case measure => simp [RowKit.intOf]; omega
    · have e : i = L.length := by omega
      subst e
      have HT : Hid (L.all mayI = true) := by have := HA.out; rw [List.take_length] at this; exact this
      clear HA
      go_wp2
      go_ret
      exact ⟨ret_bool (by rw [HT.out]; simp; omega), rfl⟩
set_option maxHeartbeats 1000000 in
theorem deep_doc (L : List Int) (p : Option Addr) (cap : Nat) (w : World) (h : IntsLie w p L cap) (hl : L.length ≤ 281474976710656) :
    Calls Try.prog 69 #[.slice p L.length cap] w fun e w' => e = .returned (.bool (L.any fun x => decide (15 < x))) ∧ w' = w := by
  have HI := Lib.hid h
  have zl : (L.length : Int) ≤ 281474976710656 := by omega
  clear h hl
  go_enter Try.func69, Try.ntmps69
  go_wp2
  go_loop [3] (fun v => ∃ i : Nat, i ≤ L.length ∧ v = .int .i64 i ∧ Hid ((L.take i).any (fun x => decide (15 < x)) = false)) (fun v => L.length - (RowKit.intOf v).toNat)
  case atStart => exact ⟨0, Nat.zero_le _, rfl, by show _ = _; rfl⟩
  case round =>
    obtain ⟨i, hi, rfl, HA⟩ := hrel
    by_cases hlt : i < L.length
    · obtain ⟨blk, off, rfl, hc⟩ := HI.out.at hlt
      have c := hc i hlt
      have HS : Hid ((L.take (i + 1)).any (fun x => decide (15 < x)) = ((L.take i).any (fun x => decide (15 < x)) || decide (15 < L[i]))) := by
        show _ = _
        rw [List.take_succ_eq_append_getElem hlt, List.any_append]; simp
      have HM := Lib.hid (fun (hx : 15 < L[i]) => show L.any (fun x => decide (15 < x)) = true from List.any_eq_true.2 ⟨L[i], List.getElem_mem hlt, by simpa using hx⟩)
      generalize L[i] = x at c HS HM
      have ii : (i : Int) < L.length := by omega
      have hcap : (L.length : Int) ≤ cap := by have := HI.out.len; omega
      clear hc
      by_cases h1 : 15 < x
      · have HF := Lib.hid (HM.out h1)
        clear HM HS
        go_wp2
        go_ret
        exact ⟨ret_bool (by rw [HF.out]), rfl⟩
      · have HT : Hid ((L.take (i + 1)).any (fun x => decide (15 < x)) = false) := by
          show _ = _
          rw [HS.out, HA.out]; simp; omega
        have h1' : x ≤ 15 := by omega
        clear HM HS h1
        go_wp2
        go_round
        case rel => exact ⟨i + 1, by omega, by go_num, HT⟩
        case measure => simp [RowKit.intOf]; omega
    · have e : i = L.length := by omega
      subst e
      have HT : Hid (L.any (fun x => decide (15 < x)) = false) := by have := HA.out; rw [List.take_length] at this; exact this
      clear HA
      go_wp2
      go_ret
      exact ⟨ret_bool (by rw [HT.out]), rfl⟩
end Go.Proofs.Ythehjhckcblbdaa
/-
  The document's trees as they lie in memory; which one is the least; all but one.
-/
namespace Go.Proofs.Ythehjhckcblbdaa
set_option maxRecDepth 100000
open Go.RowKit Go.Lib
/-- a tree, and where the list of its symbols lies -/
structure El where
  t : Hf.T
  b : Nat
  cap : Nat
def ec (e : El) : List Value := [.int .i64 e.t.w, .int .i64 e.t.n, .slice (some ⟨e.b, 0, none⟩) e.t.syms.length e.cap]
def ecs (E : List El) : List Value := E.flatMap ec
theorem ecs_length (E : List El) : (ecs E).length = E.length * 3 := by
  induction E with
  | nil => rfl
  | cons e E ih => unfold ecs at ih ⊢; rw [List.flatMap_cons, List.length_append, ih, List.length_cons]; simp [ec]; omega
theorem ecs_append (E F : List El) : ecs (E ++ F) = ecs E ++ ecs F := by unfold ecs; rw [List.flatMap_append]
theorem ecs_one (E : List El) : ∀ u ∈ ecs E, u.oneCell' = true := by
  intro u hu
  unfold ecs at hu
  obtain ⟨e, _, he⟩ := List.mem_flatMap.1 hu
  simp [ec] at he
  rcases he with rfl | rfl | rfl <;> rfl
theorem ecs_drop (E : List El) (k : Nat) : (ecs E).drop (k * 3) = ecs (E.drop k) := by
  induction E generalizing k with
  | nil => simp [ecs]
  | cons e E ih =>
    cases k with
    | zero => rw [Nat.zero_mul, List.drop_zero, List.drop_zero]
    | succ k =>
      have h : ecs (e :: E) = ec e ++ ecs E := by unfold ecs; rw [List.flatMap_cons]
      rw [h, List.drop_succ_cons, ← ih k, show (k + 1) * 3 = (ec e).length + k * 3 by simp [ec]; omega, List.drop_append]
      rw [List.drop_of_length_le (by omega), List.nil_append]
      congr 1; omega
theorem ecs_take (E : List El) (k : Nat) : (ecs E).take (k * 3) = ecs (E.take k) := by
  induction E generalizing k with
  | nil => simp [ecs]
  | cons e E ih =>
    cases k with
    | zero => rw [Nat.zero_mul, List.take_zero, List.take_zero]; rfl
    | succ k =>
      have h : ∀ E, ecs (e :: E) = ec e ++ ecs E := fun E => by unfold ecs; rw [List.flatMap_cons]
      rw [h, List.take_succ_cons, h, ← ih k, show (k + 1) * 3 = (ec e).length + k * 3 by simp [ec]; omega, List.take_append]
      rw [List.take_of_length_le (by omega)]
      congr 2; omega
theorem ecs_get (E : List El) : ∀ i (h : i < E.length), (ecs E)[i * 3]? = some (.int .i64 E[i].t.w) ∧ (ecs E)[i * 3 + 1]? = some (.int .i64 E[i].t.n) ∧ (ecs E)[i * 3 + 2]? = some (.slice (some ⟨E[i].b, 0, none⟩) E[i].t.syms.length E[i].cap) := by
  induction E with
  | nil => intro i h; simp at h
  | cons e E ih =>
    intro i h
    have e1 : ecs (e :: E) = .int .i64 e.t.w :: .int .i64 e.t.n :: .slice (some ⟨e.b, 0, none⟩) e.t.syms.length e.cap :: ecs E := by unfold ecs; rw [List.flatMap_cons]; rfl
    rw [e1]
    cases i with
    | zero => exact ⟨rfl, rfl, rfl⟩
    | succ i =>
      have := ih i (by simpa using h)
      rw [show (i + 1) * 3 = i * 3 + 3 by omega]
      exact this
/-- trees that lie from a row's head on -/
def ElsAt (w : World) (g : Nat) (E : List El) : Prop := ∀ j u, (ecs E)[j]? = some u → w.cell? ⟨g, j, none⟩ = some u
theorem ElsAt.below {w w' : World} {g : Nat} {E : List El} (h : ElsAt w g E) (hb : Below w.heap.size w w') : ElsAt w' g E := fun j u hj => by
  rw [hb.cell (p := ⟨g, j, none⟩) (World.block_lt_of_cell? w _ (h j u hj))]; exact h j u hj
theorem ElsAt.of {w : World} {B g n cap : Nat} {E : List El} (h : w.ownsRow B 108 3 (.slice (some ⟨g, 0, none⟩) n cap) n (ecs E)) : ElsAt w g E := fun j u hj => by
  have := h.cells (g := g) rfl j u hj
  rwa [Addr.add_lit, Nat.zero_add] at this
theorem ElsAt.get {w : World} {g : Nat} {E : List El} (h : ElsAt w g E) (i : Nat) (hi : i < E.length) :
    w.cell? ⟨g, i * 3, none⟩ = some (.int .i64 E[i].t.w) ∧ w.cell? ⟨g, i * 3 + 1, none⟩ = some (.int .i64 E[i].t.n) ∧ w.cell? ⟨g, i * 3 + 2, none⟩ = some (.slice (some ⟨E[i].b, 0, none⟩) E[i].t.syms.length E[i].cap) :=
  ⟨h _ _ (ecs_get E i hi).1, h _ _ (ecs_get E i hi).2.1, h _ _ (ecs_get E i hi).2.2⟩
theorem lt_trans {x y z : Hf.T} (h : x.lt y) (k : y.lt z) : x.lt z := by unfold Hf.T.lt at *; omega
set_option maxHeartbeats 1000000 in
theorem least_doc (E : List El) (hn : E.length ≤ 300) (h0 : 0 < E.length) (g cap : Nat) (hc : E.length ≤ cap) (w : World) (h : ElsAt w g E) :
    Calls Try.prog 89 #[.slice (some ⟨g, 0, none⟩) E.length cap] w fun e w' => ∃ (k : Nat) (hk : k < E.length), e = .returned (.int .i64 k) ∧ (∀ j (hj : j < E.length), ¬ Hf.T.lt E[j].t E[k].t) ∧ Below w.heap.size w w' := by
  have HE := Lib.hid h
  have zn : (E.length : Int) ≤ 300 := by omega
  have z0 : (1 : Int) ≤ E.length := by omega
  have zc : (E.length : Int) ≤ cap := by omega
  have H0 : Hid (∀ j (_ : j < 1) (hj : j < E.length), ¬ Hf.T.lt E[j].t E[0].t) := Lib.hid fun j h1 hj => by
    obtain rfl : j = 0 := by omega
    unfold Hf.T.lt; omega
  have HB := Lib.hid (Below.refl w.heap.size w)
  have HC := Lib.hid hc
  clear h hc
  go_enter Try.func89, Try.ntmps89
  go_wp2
  go_loopw [3, 4] (fun a v wr => ∃ (k i : Nat) (_ : k < E.length), 1 ≤ i ∧ i ≤ E.length ∧ a = .int .i64 k ∧ v = .int .i64 i ∧ Hid (∀ j (_ : j < i) (hj : j < E.length), ¬ Hf.T.lt E[j].t E[k].t) ∧ Hid (Below w.heap.size w wr)) (fun _ v _ => E.length - (RowKit.intOf v).toNat)
  case atStart => exact ⟨0, 1, h0, Nat.le_refl _, by omega, rfl, rfl, H0, HB⟩
  case round =>
    clear H0 HB
    obtain ⟨k, i, hk, h1, hi, rfl, rfl, HA, HW⟩ := hrel
    by_cases hlt : i < E.length
    · have ii : (i : Int) < E.length := by omega
      have kk : (k : Int) < E.length := by omega
      obtain ⟨a1, a2, a3⟩ := (HE.out.below HW.out).get i hlt
      obtain ⟨b1, b2, b3⟩ := (HE.out.below HW.out).get k hk
      have keep : Hid (¬ Hf.T.lt E[i].t E[k].t → ∀ j (_ : j < i + 1) (hj : j < E.length), ¬ Hf.T.lt E[j].t E[k].t) := Lib.hid fun hx j hj1 hj => by
        by_cases e : j = i
        · subst e; exact hx
        · exact HA.out j (by omega) hj
      have turn : Hid (Hf.T.lt E[i].t E[k].t → ∀ j (_ : j < i + 1) (hj : j < E.length), ¬ Hf.T.lt E[j].t E[i].t) := Lib.hid fun hx j hj1 hj hj2 => by
        by_cases e : j = i
        · subst e; unfold Hf.T.lt at hj2; omega
        · exact HA.out j (by omega) hj (lt_trans hj2 hx)
      have hwi : Hid (∀ x y : Nat, E[i].t.w = x → E[k].t.w = y → ∀ u v : Nat, E[i].t.n = u → E[k].t.n = v → (Hf.T.lt E[i].t E[k].t ↔ x < y ∨ x = y ∧ u < v)) := Lib.hid fun x y e1 e2 u v e3 e4 => by unfold Hf.T.lt; rw [e1, e2, e3, e4]
      obtain ⟨wi, ewi⟩ : ∃ x, E[i].t.w = x := ⟨_, rfl⟩
      obtain ⟨wk, ewk⟩ : ∃ x, E[k].t.w = x := ⟨_, rfl⟩
      obtain ⟨ni, eni⟩ : ∃ x, E[i].t.n = x := ⟨_, rfl⟩
      obtain ⟨nk, enk⟩ : ∃ x, E[k].t.n = x := ⟨_, rfl⟩
      have HLt := Lib.hid (hwi.out wi wk ewi ewk ni nk eni enk)
      rw [ewi] at a1
      rw [eni] at a2
      rw [ewk] at b1
      rw [enk] at b2
      clear hwi ewi ewk eni enk
      have hki : Hid (k < E.length ∧ i < E.length ∧ 1 ≤ i) := Lib.hid ⟨hk, hlt, h1⟩
      clear a3 b3 h1 hi
      by_cases hw1 : wi < wk
      · have F := Lib.hid (turn.out (HLt.out.2 (.inl hw1)))
        have zw : (wi : Int) < wk := by omega
        clear keep turn HLt hw1
        go_wp2_with fail
        go_quiet (fail)
        simp only [Exit.then]
        go_wp2
        go_roundw
        case rel => exact ⟨i, i + 1, hki.out.2.1, by omega, by have := hki.out; omega, rfl, by go_num, F, Lib.hid (below_drewN HW.out _)⟩
        case measure => have := hki.out; simp [RowKit.intOf]; omega
      · by_cases hw2 : wi = wk
        · subst hw2
          by_cases hn1 : ni < nk
          · have F := Lib.hid (turn.out (HLt.out.2 (.inr ⟨rfl, hn1⟩)))
            have zw : (ni : Int) < nk := by omega
            clear keep turn HLt hw1 hn1
            go_wp2_with fail
            go_quiet (fail)
            simp only [Exit.then]
            go_wp2
            go_roundw
            case rel => exact ⟨i, i + 1, hki.out.2.1, by omega, by have := hki.out; omega, rfl, by go_num, F, Lib.hid (below_drewN HW.out _)⟩
            case measure => have := hki.out; simp [RowKit.intOf]; omega
          · have F := Lib.hid (keep.out (fun hx => by have := HLt.out.1 hx; omega))
            have zw : decide (ni < nk) = false := by simp; omega
            clear keep turn HLt hw1 hn1
            go_wp2_with fail
            go_quiet (fail)
            simp only [Exit.then]
            go_wp2
            go_roundw
            case rel => exact ⟨k, i + 1, hki.out.1, by omega, by have := hki.out; omega, rfl, by go_num, F, Lib.hid (below_drewN HW.out _)⟩
            case measure => have := hki.out; simp [RowKit.intOf]; omega
        · have F := Lib.hid (keep.out (fun hx => by have := HLt.out.1 hx; omega))
          have zw : decide (wi < wk) = false := by simp; omega
          have zw2 : ((wi : Int) == wk) = false := by simp; omega
          have zw3 : decide (wi = wk) = false := by simp; omega
          clear keep turn HLt hw1 hw2
          go_wp2_with fail
          go_quiet (fail)
          simp only [Exit.then]
          go_wp2
          go_roundw
          case rel => exact ⟨k, i + 1, hki.out.1, by omega, by have := hki.out; omega, rfl, by go_num, F, Lib.hid (below_drewN HW.out _)⟩
          case measure => have := hki.out; simp [RowKit.intOf]; omega
    · have e : i = E.length := by omega
      subst e
      go_wp2
      go_ret
      exact ⟨k, hk, rfl, fun j hj => HA.out j hj hj, HW.out⟩
end Go.Proofs.Ythehjhckcblbdaa
/-
  The document's list of trees without one.
-/
namespace Go.Proofs.Ythehjhckcblbdaa
set_option maxRecDepth 100000
open Go.RowKit Go.Lib
theorem info45 : (Try.prog.info? 108).map (fun i => (i.zero, i.size, i.bytes)) = some (some (.agg #[.int .i64 0, .int .i64 0, .slice none 0 0]), 3, 40) := by kernel_rfl
theorem els_take {w w1 : World} {g : Nat} {E : List El} (h : ElsAt w g E) (hb : Below w.heap.size w w1) (k : Nat) : ∀ j u, (ecs (E.take k))[j]? = some u → w1.cell? ((⟨g, 0, Option.none⟩ : Addr).add j) = some u := fun j u hj => by
  rw [Addr.add_lit, Nat.zero_add]
  refine (h.below hb) j u ?_
  rw [← ecs_take, List.getElem?_take] at hj
  split at hj
  · exact hj
  · cases hj
theorem els_drop {w w1 : World} {g : Nat} {E : List El} (h : ElsAt w g E) (hb : Below w.heap.size w w1) (k : Nat) : ∀ j u, (ecs (E.drop k))[j]? = some u → w1.cell? ((⟨g, k * 3, Option.none⟩ : Addr).add j) = some u := fun j u hj => by
  rw [Addr.add_lit]
  refine (h.below hb) _ u ?_
  rwa [← ecs_drop, List.getElem?_drop] at hj
set_option maxHeartbeats 1000000 in
theorem without_doc (E : List El) (k : Nat) (hk : k < E.length) (hn : E.length ≤ 300) (g cap : Nat) (hc : E.length ≤ cap) (hm : cap ≤ maxLen) (w : World) (h : ElsAt w g E) :
    Calls Try.prog 90 #[.slice (some ⟨g, 0, none⟩) E.length cap, .int .i64 k] w fun e w' => ∃ v, e = .returned v ∧ w'.ownsRow w.heap.size 108 3 v (E.length - 1) (ecs (E.eraseIdx k)) ∧ Below w.heap.size w w' := by
  obtain ⟨i0, hi0, hz0, hz1, hz2⟩ := info_parts info45
  have zn : (E.length : Int) ≤ 300 := by omega
  have zc : (E.length : Int) ≤ cap := by omega
  have zk : (k : Int) < E.length := by omega
  have zm : (cap : Int) ≤ 9223372036854775807 := by unfold maxLen at hm; omega
  have HE := Lib.hid h
  have HK : Hid (k < E.length ∧ E.length ≤ 300 ∧ E.length ≤ cap ∧ cap ≤ maxLen) := Lib.hid ⟨hk, hn, hc, hm⟩
  have B1 := Lib.hid ((Below.refl w.heap.size w).alloc (Nat.le_refl _) (.cells #[] 108))
  have O1 : Hid ((w.alloc (.cells #[] 108)).ownsRow w.heap.size 108 3 (.slice (some ⟨w.heap.size, 0, none⟩) 0 0) 0 []) := Lib.hid (World.ownsRow_made w #[] 0 (Nat.le_refl _) (by decide) rfl)
  have lt1 : (E.take k).length = k := by rw [List.length_take]; omega
  have ld1 : (E.drop (k + 1)).length = E.length - (k + 1) := List.length_drop
  have he : E.eraseIdx k = E.take k ++ E.drop (k + 1) := List.eraseIdx_eq_take_drop_succ ..
  rw [he, ecs_append]
  clear h hk hn hc hm he
  go_enter Try.func90, Try.ntmps90
  go_wp2_with (with_reducible refine stop_append ?_)
  unfold Stop
  refine wpList_append_own _ rfl _ _ 106 rfl w.heap.size 108 i0 (.agg #[.int .i64 0, .int .i64 0, .slice none 0 0]) 3 40 Try.underlying106 hi0 hz0 hz1 hz2 rfl (by decide) _ 0 [] rfl O1.out ⟨g, 0, Option.none⟩ k cap (ecs (E.take k)) rfl (by rw [ecs_length, lt1]) (els_take HE.out B1.out k) (ecs_one _) (by unfold maxLen; omega) (by omega) (by simp) ?_
  intro v1 w1 own1 gr1 nn1
  have B2 := Lib.hid (B1.out.grown gr1 (by simp) (fun b hb => (O1.out.lt b hb).1))
  rw [Nat.zero_add, List.nil_append] at own1
  replace own1 := Lib.hid own1
  clear gr1 nn1 lt1
  have hb1 : w.heap.size ≤ w1.heap.size := B2.out.size
  by_cases hkc : k + 1 < cap
  · have zkc : (k : Int) + 1 < cap := by omega
    have e2 : Hid (E.length - (k + 1) + k = E.length - 1) := by show _ = _; have := HK.out; omega
    replace ld1 := Lib.hid ld1
    clear hkc
    go_wp2_with (with_reducible refine stop_append ?_)
    unfold Stop
    refine wpList_append_own _ rfl _ _ 106 rfl w.heap.size 108 i0 (.agg #[.int .i64 0, .int .i64 0, .slice none 0 0]) 3 40 Try.underlying106 hi0 hz0 hz1 hz2 rfl (by decide) _ k _ rfl own1.out ⟨g, (k + 1) * 3, Option.none⟩ (E.length - (k + 1)) (cap - (k + 1)) (ecs (E.drop (k + 1))) rfl (by rw [ecs_length, ld1.out]) (els_drop HE.out B2.out (k + 1)) (ecs_one _) (by unfold maxLen; omega) (by omega) hb1 ?_
    intro v2 w2 own2 gr2 nn2
    have B3 := Lib.hid (B2.out.grown gr2 hb1 (fun b hb => (own1.out.lt b hb).1))
    rw [Nat.add_comm, e2.out] at own2
    replace own2 := Lib.hid own2
    clear gr2 nn2 ld1 e2 hb1
    go_wp2
    go_ret
    exact ⟨v2, rfl, own2.out, B3.out⟩
  · have hkc2 : k + 1 = cap := by have := HK.out; omega
    have hE : Hid (E.drop (k + 1) = []) := by show _ = _; exact List.drop_of_length_le (by have := HK.out; omega)
    have hl : Hid (E.length = k + 1) := by show _ = _; have := HK.out; omega
    have hl2 : (E.length : Int) ≤ (k : Int) + 1 := by have := HK.out; omega
    have hk2 : (k : Int) ≤ 299 := by have := HK.out; omega
    subst hkc2
    clear hkc ld1 zc zm
    go_wp2_with (with_reducible refine stop_append ?_)
    unfold Stop
    refine wpList_append_own _ rfl _ _ 106 rfl w.heap.size 108 i0 (.agg #[.int .i64 0, .int .i64 0, .slice none 0 0]) 3 40 Try.underlying106 hi0 hz0 hz1 hz2 rfl (by decide) _ k _ rfl own1.out ⟨g, 0, Option.none⟩ (E.length - (k + 1)) 0 (ecs (E.drop (k + 1))) rfl (by rw [ecs_length, List.length_drop]) (by rw [hE.out]; intro j u hj; simp [ecs] at hj) (ecs_one _) (by unfold maxLen; omega) (by omega) hb1 ?_
    intro v2 w2 own2 gr2 nn2
    have B3 := Lib.hid (B2.out.grown gr2 hb1 (fun b hb => (own1.out.lt b hb).1))
    rw [show k + (E.length - (k + 1)) = E.length - 1 by have := hl.out; omega] at own2
    replace own2 := Lib.hid own2
    clear gr2 nn2 hb1
    go_wp2
    go_ret
    exact ⟨v2, rfl, own2.out, B3.out⟩
end Go.Proofs.Ythehjhckcblbdaa
/-
  The document's trees on their way: the row of bits, the row of trees, the rows of symbols.
-/
namespace Go.Proofs.Ythehjhckcblbdaa
set_option maxRecDepth 100000
open Go.RowKit Go.Lib
theorem info3 : (Try.prog.info? 3).map (fun i => (i.zero, i.size, i.bytes)) = some (some (.int .i64 0), 1, 8) := by kernel_rfl
def ints (D : List Nat) : List Value := D.map fun x : Nat => Value.int .i64 (x : Int)
theorem ints_len (D : List Nat) : (ints D).length = D.length * 1 := by unfold ints; rw [List.length_map, Nat.mul_one]
theorem ints_one (D : List Nat) : ∀ u ∈ ints D, u.oneCell' = true := fun u hu => by
  unfold ints at hu
  obtain ⟨x, _, rfl⟩ := List.mem_map.1 hu
  rfl
theorem row_block {w : World} {B e n s : Nat} {v : Value} {xs : List Value} (h : w.ownsRow B e s v n xs) {g : Nat} (hg : v.ownBlock = some g) : B ≤ g ∧ g < w.heap.size ∧ ∃ c, w.heap[g]? = some (.cells c e (0, 0)) := by
  have hl := h.lt g hg
  rcases h.2 with ⟨rfl, _⟩ | ⟨g', cap, cur, rfl, hb, hh, _⟩
  · cases hg
  · cases hg; exact ⟨hb, hl.2, cur, hh⟩
/-- rows of different kinds lie apart -/
theorem row_kinds {w : World} {B B' e e' n n' s s' : Nat} {v v' : Value} {xs xs' : List Value} (h : w.ownsRow B e s v n xs) (h' : w.ownsRow B' e' s' v' n' xs') (hne : e ≠ e') : v.ownBlock = none ∨ v.ownBlock ≠ v'.ownBlock := by
  cases hv : v.ownBlock with
  | none => exact .inl rfl
  | some g =>
    refine .inr fun e1 => ?_
    obtain ⟨_, _, c, h1⟩ := row_block h hv
    obtain ⟨_, _, c', h2⟩ := row_block h' e1.symm
    rw [h1] at h2
    cases h2
    exact hne rfl
theorem row_later {B e size n : Nat} {w w1 : World} {v : Value} {xs : List Value} (h : w.ownsRow B e size v n xs) (hb : Below w.heap.size w w1) : w1.ownsRow B e size v n xs :=
  h.kept (row := Option.none) ⟨hb.os, hb.tape, hb.output, hb.size, fun k hk _ => hb.block k hk⟩ (by cases h : v.ownBlock <;> simp)
/-- the list of a tree's symbols -/
def inV (e : El) : Value := .slice (some ⟨e.b, 0, none⟩) e.t.syms.length e.cap
structure St (w0 w : World) (v3 v4 : Value) (D : List Nat) (E : List El) : Prop where
  out : w.ownsRow w0.heap.size 3 1 v3 D.length (ints D)
  row : w.ownsRow w0.heap.size 108 3 v4 E.length (ecs E)
  ins : ∀ e ∈ E, w.ownsRow w0.heap.size 3 1 (inV e) e.t.syms.length (ints e.t.syms)
  apart : ∀ e ∈ E, v3.ownBlock ≠ some e.b
  below : Below w0.heap.size w0 w
variable {w0 w w' : World} {v3 v4 : Value} {D : List Nat} {E : List El}
theorem St.later (h : St w0 w v3 v4 D E) (hb : Below w.heap.size w w') : St w0 w' v3 v4 D E :=
  ⟨row_later h.out hb, row_later h.row hb, fun e he => row_later (h.ins e he) hb, h.apart, h.below.next hb⟩
/-- the row of bits grows -/
theorem St.grow {v : Value} (h : St w0 w v3 v4 D E) (gr : w.grownBy w' v3.ownBlock) (hl : v.ownBlock = v3.ownBlock ∨ v.ownBlock = some w.heap.size) (D' : List Nat) (ho : w'.ownsRow w0.heap.size 3 1 v D'.length (ints D')) : St w0 w' v v4 D' E := by
  refine ⟨ho, h.row.kept gr (row_kinds h.row h.out (by decide)), fun e he => (h.ins e he).kept gr (.inr fun e1 => h.apart e he e1.symm), fun e he => ?_, h.below.grown gr h.below.size fun b hb => (h.out.lt b hb).1⟩
  rcases hl with h1 | h1
  · rw [h1]; exact h.apart e he
  · rw [h1]
    intro e1
    have := (row_block (h.ins e he) (g := e.b) rfl).2.1
    have e2 := Option.some.inj e1
    omega
/-- the row of trees grows by one -/
theorem St.put {v : Value} (h : St w0 w v3 v4 D E) (gr : w.grownBy w' v4.ownBlock) (E' : List El) (ho : w'.ownsRow w0.heap.size 108 3 v E'.length (ecs E')) (hi : ∀ e ∈ E', w.ownsRow w0.heap.size 3 1 (inV e) e.t.syms.length (ints e.t.syms)) (ha : ∀ e ∈ E', v3.ownBlock ≠ some e.b) : St w0 w' v3 v D E' :=
  ⟨h.out.kept gr (row_kinds h.out h.row (by decide)), ho, fun e he => (hi e he).kept gr (row_kinds (hi e he) h.row (by decide)), ha, h.below.grown gr h.below.size fun b hb => (h.row.lt b hb).1⟩
/-- another row of trees, of some of them -/
theorem St.other {v : Value} (h : St w0 w v3 v4 D E) (E' : List El) (hs : ∀ e ∈ E', e ∈ E) (ho : w.ownsRow w0.heap.size 108 3 v E'.length (ecs E')) : St w0 w v3 v D E' :=
  ⟨h.out, ho, fun e he => h.ins e (hs e he), fun e he => h.apart e (hs e he), h.below⟩
theorem row_form {B e s n : Nat} {v : Value} {xs : List Value} (h : w.ownsRow B e s v n xs) (hn : 0 < n) : ∃ g cap, v = .slice (some ⟨g, 0, none⟩) n cap ∧ n ≤ cap ∧ cap ≤ maxLen ∧ g < w.heap.size ∧ B ≤ g := by
  have h0 := h
  rcases h.2 with ⟨_, h0⟩ | ⟨g, cap, cur, rfl, hb, hg, h1, h2, _⟩
  · omega
  · exact ⟨g, cap, rfl, h1, h2, (Array.getElem?_eq_some_iff.1 hg).1, hb⟩
theorem ints_get {B n g cap : Nat} (h : w.ownsRow B 3 1 (.slice (some ⟨g, 0, none⟩) n cap) n (ints D)) {i : Nat} (hi : i < D.length) : w.cell? ⟨g, i, none⟩ = some (.int .i64 (D[i] : Nat)) := by
  have := h.cells (g := g) rfl i (.int .i64 (D[i] : Nat)) (by unfold ints; simp [hi])
  rwa [Addr.add_lit, Nat.zero_add] at this
theorem one_int (w : World) (x : Nat) : ∀ j u, (ints [x])[j]? = some u → (w.alloc (.cells #[.int .i64 (x : Int)] 3)).cell? ((⟨w.heap.size, 0, Option.none⟩ : Addr).add j) = some u := fun j u hj => by
  match j, hj with
  | 0, hj => simp [ints] at hj; subst hj; simp [Addr.add]
  | j + 1, hj => simp [ints] at hj
/-- leaves of the first symbols -/
def firsts (f : List Nat) (i : Nat) : List Hf.T := ((List.range i).filter fun j => decide (0 < f.getD j 0)).map fun j => Hf.T.leaf j (f.getD j 0)
theorem firsts_succ (f : List Nat) (i : Nat) : firsts f (i + 1) = firsts f i ++ (if 0 < f.getD i 0 then [Hf.T.leaf i (f.getD i 0)] else []) := by
  unfold firsts
  rw [List.range_succ, List.filter_append, List.map_append]
  congr 1
  by_cases h : 0 < f.getD i 0
  · rw [if_pos h, List.filter_cons, decide_eq_true h]; rfl
  · rw [if_neg h, List.filter_cons, decide_eq_false h]; rfl
theorem firsts_all (f : List Nat) : firsts f f.length = Hf.leaves f := rfl
end Go.Proofs.Ythehjhckcblbdaa
