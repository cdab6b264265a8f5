/-
  The document's list of trees without one.
-/
import Derived.Test.YtgkmmflamnijdaaHufRb
namespace Go.Proofs.Ytgkmmflamnijdaa
set_option maxRecDepth 100000
open Go.RowKit Go.Lib
theorem info45 : (Try.prog.info? 92).map (fun i => (i.zero, i.size, i.bytes)) = some (some (.agg #[.int .i64 0, .int .i64 0, .slice none 0 0]), 3, 40) := by kernel_rfl
theorem els_take {w w1 : World} {g : Nat} {E : List El} (h : ElsAt w g E) (hb : Below w.heap.size w w1) (k : Nat) : ∀ j u, (ecs (E.take k))[j]? = some u → w1.cell? ((⟨g, 0, Option.none⟩ : Addr).add j) = some u := fun j u hj => by
  rw [Addr.add_lit, Nat.zero_add]
  refine (h.below hb) j u ?_
  rw [← ecs_take, List.getElem?_take] at hj
  split at hj
  · exact hj
  · cases hj
theorem els_drop {w w1 : World} {g : Nat} {E : List El} (h : ElsAt w g E) (hb : Below w.heap.size w w1) (k : Nat) : ∀ j u, (ecs (E.drop k))[j]? = some u → w1.cell? ((⟨g, k * 3, Option.none⟩ : Addr).add j) = some u := fun j u hj => by
  rw [Addr.add_lit]
  refine (h.below hb) _ u ?_
  rwa [← ecs_drop, List.getElem?_drop] at hj
set_option maxHeartbeats 1000000 in
theorem without_doc (E : List El) (k : Nat) (hk : k < E.length) (hn : E.length ≤ 300) (g cap : Nat) (hc : E.length ≤ cap) (hm : cap ≤ maxLen) (w : World) (h : ElsAt w g E) :
    Calls Try.prog 66 #[.slice (some ⟨g, 0, none⟩) E.length cap, .int .i64 k] w fun e w' => ∃ v, e = .returned v ∧ w'.ownsRow w.heap.size 92 3 v (E.length - 1) (ecs (E.eraseIdx k)) ∧ Below w.heap.size w w' := by
  obtain ⟨i0, hi0, hz0, hz1, hz2⟩ := info_parts info45
  have zn : (E.length : Int) ≤ 300 := by omega
  have zc : (E.length : Int) ≤ cap := by omega
  have zk : (k : Int) < E.length := by omega
  have zm : (cap : Int) ≤ 9223372036854775807 := by unfold maxLen at hm; omega
  have HE := Lib.hid h
  have HK : Hid (k < E.length ∧ E.length ≤ 300 ∧ E.length ≤ cap ∧ cap ≤ maxLen) := Lib.hid ⟨hk, hn, hc, hm⟩
  have B1 := Lib.hid ((Below.refl w.heap.size w).alloc (Nat.le_refl _) (.cells #[] 92))
  have O1 : Hid ((w.alloc (.cells #[] 92)).ownsRow w.heap.size 92 3 (.slice (some ⟨w.heap.size, 0, none⟩) 0 0) 0 []) := Lib.hid (World.ownsRow_made w #[] 0 (Nat.le_refl _) (by decide) rfl)
  have lt1 : (E.take k).length = k := by rw [List.length_take]; omega
  have ld1 : (E.drop (k + 1)).length = E.length - (k + 1) := List.length_drop
  have he : E.eraseIdx k = E.take k ++ E.drop (k + 1) := List.eraseIdx_eq_take_drop_succ ..
  rw [he, ecs_append]
  clear h hk hn hc hm he
  go_enter Try.func66, Try.ntmps66
  go_wp2_with (with_reducible refine stop_append ?_)
  unfold Stop
  refine wpList_append_own _ rfl _ _ 90 rfl w.heap.size 92 i0 (.agg #[.int .i64 0, .int .i64 0, .slice none 0 0]) 3 40 Try.underlying90 hi0 hz0 hz1 hz2 rfl (by decide) _ 0 [] rfl O1.out ⟨g, 0, Option.none⟩ k cap (ecs (E.take k)) rfl (by rw [ecs_length, lt1]) (els_take HE.out B1.out k) (ecs_one _) (by unfold maxLen; omega) (by omega) (by simp) ?_
  intro v1 w1 own1 gr1 nn1
  have B2 := Lib.hid (B1.out.grown gr1 (by simp) (fun b hb => (O1.out.lt b hb).1))
  rw [Nat.zero_add, List.nil_append] at own1
  replace own1 := Lib.hid own1
  clear gr1 nn1 lt1
  have hb1 : w.heap.size ≤ w1.heap.size := B2.out.size
  by_cases hkc : k + 1 < cap
  · have zkc : (k : Int) + 1 < cap := by omega
    have e2 : Hid (E.length - (k + 1) + k = E.length - 1) := by show _ = _; have := HK.out; omega
    replace ld1 := Lib.hid ld1
    clear hkc
    go_wp2_with (with_reducible refine stop_append ?_)
    unfold Stop
    refine wpList_append_own _ rfl _ _ 90 rfl w.heap.size 92 i0 (.agg #[.int .i64 0, .int .i64 0, .slice none 0 0]) 3 40 Try.underlying90 hi0 hz0 hz1 hz2 rfl (by decide) _ k _ rfl own1.out ⟨g, (k + 1) * 3, Option.none⟩ (E.length - (k + 1)) (cap - (k + 1)) (ecs (E.drop (k + 1))) rfl (by rw [ecs_length, ld1.out]) (els_drop HE.out B2.out (k + 1)) (ecs_one _) (by unfold maxLen; omega) (by omega) hb1 ?_
    intro v2 w2 own2 gr2 nn2
    have B3 := Lib.hid (B2.out.grown gr2 hb1 (fun b hb => (own1.out.lt b hb).1))
    rw [Nat.add_comm, e2.out] at own2
    replace own2 := Lib.hid own2
    clear gr2 nn2 ld1 e2 hb1
    go_wp2
    go_ret
    exact ⟨v2, rfl, own2.out, B3.out⟩
  · have hkc2 : k + 1 = cap := by have := HK.out; omega
    have hE : Hid (E.drop (k + 1) = []) := by show _ = _; exact List.drop_of_length_le (by have := HK.out; omega)
    have hl : Hid (E.length = k + 1) := by show _ = _; have := HK.out; omega
    have hl2 : (E.length : Int) ≤ (k : Int) + 1 := by have := HK.out; omega
    have hk2 : (k : Int) ≤ 299 := by have := HK.out; omega
    subst hkc2
    clear hkc ld1 zc zm
    go_wp2_with (with_reducible refine stop_append ?_)
    unfold Stop
    refine wpList_append_own _ rfl _ _ 90 rfl w.heap.size 92 i0 (.agg #[.int .i64 0, .int .i64 0, .slice none 0 0]) 3 40 Try.underlying90 hi0 hz0 hz1 hz2 rfl (by decide) _ k _ rfl own1.out ⟨g, 0, Option.none⟩ (E.length - (k + 1)) 0 (ecs (E.drop (k + 1))) rfl (by rw [ecs_length, List.length_drop]) (by rw [hE.out]; intro j u hj; simp [ecs] at hj) (ecs_one _) (by unfold maxLen; omega) (by omega) hb1 ?_
    intro v2 w2 own2 gr2 nn2
    have B3 := Lib.hid (B2.out.grown gr2 hb1 (fun b hb => (own1.out.lt b hb).1))
    rw [show k + (E.length - (k + 1)) = E.length - 1 by have := hl.out; omega] at own2
    replace own2 := Lib.hid own2
    clear gr2 nn2 hb1
    go_wp2
    go_ret
    exact ⟨v2, rfl, own2.out, B3.out⟩
end Go.Proofs.Ytgkmmflamnijdaa

