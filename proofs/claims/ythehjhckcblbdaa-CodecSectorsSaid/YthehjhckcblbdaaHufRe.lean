/-
  The document's Once: how many bits each symbol has, if nothing is halved.
-/
import Derived.Test.YthehjhckcblbdaaHufD
import Derived.Test.YthehjhckcblbdaaHufM
namespace Go.Proofs.Ythehjhckcblbdaa
open Go.RowKit Go.Lib
theorem zeros_succ (i : Nat) : ints (List.replicate i 0) ++ ints [0] = ints (List.replicate (i + 1) 0) := by
  unfold ints
  rw [← List.map_append, ← List.replicate_succ']
theorem el_new (w : World) (e : El) : ∀ j u, (ecs [e])[j]? = some u → (w.alloc (.cells #[.int .i64 e.t.w, .int .i64 e.t.n, .slice (some ⟨e.b, 0, none⟩) e.t.syms.length e.cap] 108)).cell? ((⟨w.heap.size, 0, Option.none⟩ : Addr).add j) = some u := by
  intro j u hj
  have e1 := heap_alloc_new w (Obj.cells #[.int .i64 e.t.w, .int .i64 e.t.n, .slice (some ⟨e.b, 0, none⟩) e.t.syms.length e.cap] 108)
  rw [Addr.add_lit, Nat.zero_add, cell_of_row _ _ j _ 108 (0, 0) e1]
  have e2 : #[Value.int .i64 e.t.w, .int .i64 e.t.n, .slice (some ⟨e.b, 0, none⟩) e.t.syms.length e.cap] = (ecs [e]).toArray := rfl
  rw [e2, List.getElem?_toArray]
  exact hj
theorem row_mono {w : World} {B B' e s n : Nat} {v : Value} {xs : List Value} (h : w.ownsRow B e s v n xs) (hb : B' ≤ B) : w.ownsRow B' e s v n xs :=
  ⟨h.1, h.2.imp id fun ⟨g, cap, cur, h1, h2, h3⟩ => ⟨g, cap, cur, h1, Nat.le_trans hb h2, h3⟩⟩
theorem box_new (w : World) (x y z : Value) (w1 : World) (hb : Below (w.alloc (.cells #[x, y, z] 108)).heap.size (w.alloc (.cells #[x, y, z] 108)) w1) : w1.heap[w.heap.size]? = some (.cells #[x, y, z] 108 (0, 0)) := by
  rw [hb.block _ (by simp)]; exact heap_alloc_new w _
theorem box_at {w : World} {b : Nat} {x y z : Value} (h : w.heap[b]? = some (.cells #[x, y, z] 108 (0, 0))) : w.cell? ⟨b, 0, none⟩ = some x ∧ w.cell? ⟨b, 1, none⟩ = some y ∧ w.cell? ⟨b, 2, none⟩ = some z :=
  ⟨by rw [cell_of_row w b 0 _ 108 (0, 0) h]; rfl, by rw [cell_of_row w b 1 _ 108 (0, 0) h]; rfl, by rw [cell_of_row w b 2 _ 108 (0, 0) h]; rfl⟩
theorem box_below {w w' : World} {b : Nat} {c : Array Value} (h : w.heap[b]? = some (.cells c 108 (0, 0))) (hb : Below w.heap.size w w') : w'.heap[b]? = some (.cells c 108 (0, 0)) := by
  rw [hb.block _ (Array.getElem?_eq_some_iff.1 h).1]; exact h
theorem row_any {B e s n : Nat} {w : World} {v : Value} {xs : List Value} (h : w.ownsRow B e s v n xs) : ∃ ao c, v = .slice ao n c := by
  rcases h.2 with ⟨rfl, rfl⟩ | ⟨g, cap, cur, rfl, _⟩
  · exact ⟨_, _, rfl⟩
  · exact ⟨_, _, rfl⟩
theorem two_syms (a b : Hf.T) (r : List Hf.T) : Hf.syms (a :: b :: r) = (a.syms ++ b.syms) ++ Hf.syms r := by
  unfold Hf.syms; simp [List.flatMap_cons, List.append_assoc]
theorem dep_start (f : List Nat) (i : Nat) : Hf.dep (Hf.F0 f) i = 0 := by
  unfold Hf.dep
  have : Hf.sm (fun t => t.dep i) (Hf.F0 f) = Hf.sm (fun _ => 0) (Hf.F0 f) := Hf.sm_congr fun t ht => by
    obtain ⟨j, _, rfl⟩ := Hf.F0_mem.1 ht; rfl
  rw [this, Hf.sm_const, Nat.mul_zero]
/-- the least tree of a row, as the sorted forest's first -/
theorem least_first (E : List El) (a : Hf.T) (rest : List Hf.T) (HP : (E.map El.t).Perm (a :: rest)) (Hs : (a :: rest).Pairwise Hf.T.lt) (hn : E.length ≤ 300) (g cap : Nat) (hc : E.length ≤ cap) (w : World) (h : ElsAt w g E) :
    Calls Try.prog 89 #[.slice (some ⟨g, 0, none⟩) E.length cap] w fun e w' => ∃ (k : Nat) (x : El), e = .returned (.int .i64 k) ∧ k < E.length ∧ x ∈ E ∧ x.t = a ∧ (∀ y ∈ E.eraseIdx k, y ∈ E) ∧ ((E.eraseIdx k).map El.t).Perm rest ∧
      w'.cell? ⟨g, k * 3, none⟩ = some (.int .i64 x.t.w) ∧ w'.cell? ⟨g, k * 3 + 1, none⟩ = some (.int .i64 x.t.n) ∧ w'.cell? ⟨g, k * 3 + 2, none⟩ = some (.slice (some ⟨x.b, 0, none⟩) x.t.syms.length x.cap) ∧ Below w.heap.size w w' := by
  have h0 : 0 < E.length := by have := HP.length_eq; simp at this; omega
  refine (least_doc E hn h0 g cap hc w h).mono ?_
  rintro e w' ⟨k, hk, rfl, hmin, hb⟩
  have hx : E[k].t = a := Hf.first_is HP Hs (List.mem_map.2 ⟨E[k], List.getElem_mem hk, rfl⟩) (fun y hy => by
    obtain ⟨z, hz, rfl⟩ := List.mem_map.1 hy
    obtain ⟨j, hj, rfl⟩ := List.mem_iff_getElem.1 hz
    exact hmin j hj)
  obtain ⟨q0, q1, q2⟩ := (h.below hb).get k hk
  have hpe := Hf.erase_perm E k hk
  refine ⟨k, E[k], rfl, hk, List.getElem_mem hk, hx, fun y hy => hpe.mem_iff.2 (by simp [hy]), ?_, q0, q1, q2, hb⟩
  have h1 := (hpe.map El.t).symm.trans HP
  rw [List.map_cons, hx] at h1
  exact h1.cons_inv
def lenV : Value → Nat
  | .slice _ n _ => n
  | _ => 0
set_option maxRecDepth 100000 in
set_option maxHeartbeats 4000000 in
theorem once_doc (f : List Nat) (hn : f.length ≤ 300) (hm : ∀ i, f.getD i 0 ≤ 100000) (p : Option Addr) (cap : Nat) (w : World) (h : IntsLie w p (nums f) cap) :
    Calls Try.prog 68 #[.slice p f.length cap] w fun e w' => ∃ v, e = .returned v ∧ w'.ownsRow w.heap.size 3 1 v f.length (ints ((List.range f.length).map (Hf.once f))) ∧ Below w.heap.size w w' := by
  obtain ⟨i0, hi0, hz0, hz1, hz2⟩ := info_parts info3
  obtain ⟨i5, hi5, hy0, hy1, hy2⟩ := info_parts info45
  have HI := Lib.hid h
  have HM := Lib.hid hm
  have zn : (f.length : Int) ≤ 300 := by omega
  have hcap : (f.length : Int) ≤ cap := by have := h.len; rw [nums_len] at this; omega
  have hn2 := Lib.hid hn
  have H0 : Hid (St w ((w.alloc (.cells #[] 3)).alloc (.cells #[] 108)) (.slice (some ⟨w.heap.size, 0, none⟩) 0 0) (.slice (some ⟨w.heap.size + 1, 0, none⟩) 0 0) [] []) := by
    have hs : (w.alloc (.cells #[] 3)).heap.size = w.heap.size + 1 := by simp
    refine Lib.hid ⟨(World.ownsRow_made w #[] 0 (Nat.le_refl _) (by decide) rfl).alloc _, ?_, by simp, by simp, ((Below.refl _ _).alloc (Nat.le_refl _) _).alloc (by simp) _⟩
    have := World.ownsRow_made (base := w.heap.size) (e := 108) (size := 3) (w.alloc (.cells #[] 3)) #[] 0 (by simp) (by decide) rfl
    rw [hs] at this
    exact this
  clear h hm hn
  go_enter Try.func68, Try.ntmps68
  go_wp2
  go_loopw [3, 4, 5] (fun v3 v4 v5 wr => ∃ (i : Nat) (E : List El), i ≤ f.length ∧ v5 = .int .i64 i ∧ E.length ≤ i ∧ Hid (E.map El.t = firsts f i) ∧ Hid (St w wr v3 v4 (List.replicate i 0) E)) (fun _ _ v _ => f.length - (RowKit.intOf v).toNat)
  case atStart => exact ⟨0, [], Nat.zero_le _, rfl, Nat.le_refl _, by show _ = _; rfl, H0⟩
  case round =>
    clear H0
    obtain ⟨i, E, hi, rfl, hEi, HE, HS⟩ := hrel
    by_cases hlt : i < f.length
    · have ii : (i : Int) < f.length := by omega
      have i3 : (i : Int) ≤ 299 := by omega
      have eL : (E.length : Int) ≤ 299 := by omega
      obtain ⟨blk, off, rfl, _⟩ := HI.out.at (i := i) (by rw [nums_len]; exact hlt)
      have cx : ∀ w1, Below w.heap.size w w1 → w1.cell? ⟨blk, off + i, none⟩ = some (.int .i64 (f.getD i 0 : Nat)) := fun w1 hb => by
        obtain ⟨b2, o2, e2, hc⟩ := (HI.out.below hb).at (i := i) (by rw [nums_len]; exact hlt)
        cases e2
        have := hc i (by rw [nums_len]; exact hlt)
        rw [nums_get] at this
        exact this
      have HF := Lib.hid (firsts_succ f i)
      have hx1 := HM.out i
      obtain ⟨x, hx⟩ : ∃ x, f.getD i 0 = x := ⟨_, rfl⟩
      rw [hx] at HF hx1
      simp only [hx] at cx
      clear hx
      replace cx := Lib.hid cx
      have S1 := Lib.hid (HS.out.later ((Below.refl _ _).alloc (Nat.le_refl _) (.cells #[.int .i64 (0 : Int)] 3)))
      have hws := HS.out.below.size
      go_wp2_with (with_reducible refine stop_append ?_)
      unfold Stop
      refine wpList_append_own_at _ rfl _ _ 50 rfl w.heap.size 3 i0 (.int .i64 0) 1 8 Try.underlying50 hi0 hz0 hz1 hz2 rfl (by decide) u3 i (ints (List.replicate i 0)) rfl (by have := S1.out.out; rw [List.length_replicate] at this; exact this) ⟨wr.heap.size, 0, Option.none⟩ 1 1 (ints [0]) rfl rfl (one_int wr 0) (ints_one _) (by unfold maxLen; omega) (by omega) (by simp; omega) ?_
      intro v3 w3 own3 gr3 nn3 loc3
      rw [zeros_succ] at own3
      have S3 := S1.out.grow gr3 loc3 (List.replicate (i + 1) 0) (by rw [List.length_replicate]; exact own3)
      have c3 := cx.out w3 S3.below
      replace S3 := Lib.hid S3
      clear own3 gr3 nn3 loc3 S1 HS hws
      by_cases h0 : 0 < x
      · have zx : (1 : Int) ≤ x := by omega
        have zx2 : (x : Int) ≤ 100000 := by omega
        rw [if_pos h0] at HF
        have HA := Lib.hid ((Below.refl w3.heap.size w3).alloc (Nat.le_refl _) (.cells #[.int .i64 (i : Int)] 3))
        have HA2 := Lib.hid (HA.out.alloc (by simp) (.cells #[.int .i64 (x : Int), .int .i64 (i : Int), .slice (some ⟨w3.heap.size, 0, none⟩) 1 1] 108))
        have S4 := Lib.hid (S3.out.later HA2.out)
        have hin : Hid (((w3.alloc (.cells #[.int .i64 (i : Int)] 3)).alloc (.cells #[.int .i64 (x : Int), .int .i64 (i : Int), .slice (some ⟨w3.heap.size, 0, none⟩) 1 1] 108)).ownsRow w.heap.size 3 1 (.slice (some ⟨w3.heap.size, 0, none⟩) 1 1) 1 (ints [i])) :=
          Lib.hid ((World.ownsRow_lit w3 #[.int .i64 (i : Int)] 1 S3.out.below.size (by decide) rfl).alloc _)
        have hnb : Hid (v3.ownBlock ≠ some w3.heap.size) := Lib.hid fun e1 => by have := (row_block S3.out.out e1).2.1; omega
        have hel := el_new (w3.alloc (.cells #[.int .i64 (i : Int)] 3)) ⟨.leaf i x, w3.heap.size, 1⟩
        rw [show (w3.alloc (.cells #[.int .i64 (i : Int)] 3)).heap.size = w3.heap.size + 1 by simp] at hel
        have hsz := S3.out.below.size
        clear h0
        go_wp2_with (with_reducible refine stop_append ?_)
        unfold Stop
        refine wpList_append_own _ rfl _ _ 106 rfl w.heap.size 108 i5 (.agg #[.int .i64 0, .int .i64 0, .slice none 0 0]) 3 40 Try.underlying106 hi5 hy0 hy1 hy2 rfl (by decide) u4 E.length (ecs E) rfl S4.out.row ⟨w3.heap.size + 1, 0, Option.none⟩ 1 1 (ecs [⟨.leaf i x, w3.heap.size, 1⟩]) rfl rfl hel (ecs_one _) (by unfold maxLen; omega) (by omega) (by simp; omega) ?_
        intro v4 w5 own5 gr5 nn5
        rw [← ecs_append] at own5
        have S5 := Lib.hid (S4.out.put gr5 (E ++ [⟨.leaf i x, w3.heap.size, 1⟩]) (by rw [List.length_append]; exact own5) (fun e he => by
          rcases List.mem_append.1 he with h1 | h1
          · exact S4.out.ins e h1
          · rw [List.mem_singleton] at h1; subst h1; exact hin.out) (fun e he => by
          rcases List.mem_append.1 he with h1 | h1
          · exact S4.out.apart e h1
          · rw [List.mem_singleton] at h1; subst h1; exact hnb.out))
        have HE5 : Hid ((E ++ [(⟨.leaf i x, w3.heap.size, 1⟩ : El)]).map El.t = firsts f (i + 1)) := by
          show _ = _
          rw [HF.out, List.map_append, HE.out]; rfl
        have hl5 : Hid ((E ++ [(⟨.leaf i x, w3.heap.size, 1⟩ : El)]).length ≤ i + 1) := by show _ ≤ _; rw [List.length_append, List.length_singleton]; omega
        clear own5 gr5 nn5 S4 hin hnb hel hsz HA HA2 S3 c3 cx
        go_wp2
        go_roundw
        case rel => exact ⟨i + 1, _, by omega, by go_num, hl5.out, HE5, S5⟩
        case measure => simp [RowKit.intOf]; omega
      · have x0 : x = 0 := by omega
        subst x0
        have HE5 : Hid (E.map El.t = firsts f (i + 1)) := by
          show _ = _
          rw [HF.out, HE.out, if_neg h0, List.append_nil]
        clear h0 hx1
        go_wp2
        go_roundw
        case rel => exact ⟨i + 1, E, by omega, by go_num, by omega, HE5, S3⟩
        case measure => simp [RowKit.intOf]; omega
    · have e : i = f.length := by omega
      subst e
      have hz := HS.out
      have hlen : E.length = (Hf.S0 f).length := by
        have h1 := congrArg List.length HE.out
        rw [List.length_map, firsts_all] at h1
        rw [h1]; unfold Hf.leaves; rw [List.length_map]
      by_cases h1 : E.length = 1
      · obtain ⟨e, rfl⟩ := List.length_eq_one_iff.1 h1
        have hleaf : Hf.leaves f = [e.t] := by rw [← firsts_all, ← HE.out]; rfl
        obtain ⟨j, hj⟩ := List.length_eq_one_iff.1 (hlen.symm.trans h1)
        have het : e.t = .leaf j (f.getD j 0) := by
          unfold Hf.leaves at hleaf; rw [hj] at hleaf; simpa using hleaf.symm
        have hjn : j < f.length := (Hf.S0_mem.1 (by rw [hj]; simp)).1
        obtain ⟨g4, c4, rfl, h41, h42, _, _⟩ := row_form hz.row (by simp)
        have ho := hz.out
        rw [List.length_replicate] at ho
        obtain ⟨g3, c3, rfl, h31, h32, _, _⟩ := row_form ho (by omega)
        have n4 := (ElsAt.of hz.row).get 0 (by simp)
        have n41 := n4.2.1
        simp only [List.getElem_cons_zero, het, Hf.T.n] at n41
        have f3 : wr.cell? ⟨g3, j, none⟩ = some (.int .i64 0) := by
          have := ints_get ho (i := j) (by rw [List.length_replicate]; exact hjn)
          simpa using this
        have fz := ho.frozenAt j
        obtain ⟨st1, st2⟩ := ho.stored j (.int .i64 1)
        have hD : ints ((List.range f.length).map (Hf.once f)) = (ints (List.replicate f.length 0)).set j (.int .i64 1) := by
          unfold ints
          rw [show (Value.int .i64 1) = (fun x : Nat => Value.int .i64 (x : Int)) 1 from rfl, ← List.map_set]
          congr 1
          refine List.ext_getElem (by simp) fun i a1 a2 => ?_
          have hi' : i < f.length := by simpa using a1
          rw [List.getElem_map, List.getElem_range, List.getElem_set]
          unfold Hf.once
          rw [if_pos (by rw [hj]; rfl), hj]
          by_cases hij : j = i
          · subst hij; simp
          · rw [if_neg hij, if_neg (by simp; exact fun e => hij e.symm), List.getElem_replicate]
        rw [← hD] at st1
        have hb5 : Hid (Below w.heap.size w (wr.setCell ⟨g3, j, none⟩ (.int .i64 1))) := Lib.hid (hz.below.grown st2 hz.below.size fun b hb => by cases hb; exact (ho.lt g3 rfl).1)
        replace st1 := Lib.hid st1
        have zj : (j : Int) < f.length := by omega
        have z41 : (1 : Int) ≤ c4 := by simp at h41; omega
        have z31 : (f.length : Int) ≤ c3 := by omega
        clear hleaf het hj hjn n4 hD st2 ho hz h1 hlen HS HE hEi
        go_wp2
        generalize wr.setCell ⟨g3, j, none⟩ (.int .i64 1) = w6 at *
        go_loopw [4] (fun v wz => v = .slice (some ⟨g4, 0, none⟩) [e].length c4 ∧ wz = w6) (fun _ _ => 0)
        case atStart => exact ⟨rfl, rfl⟩
        case round =>
          obtain ⟨rfl, rfl⟩ := hrel
          go_wp2
          go_ret
          exact ⟨_, rfl, st1.out, hb5.out⟩
      · have hE1 : ¬ ((E.length : Int) = 1) := by omega
        have zE : (E.length : Int) ≤ 300 := by omega
        have W0 : Hid (Hf.Way f (Hf.F0 f)) := Lib.hid (Hf.way_start f)
        have P0 : Hid ((E.map El.t).Perm (Hf.F0 f)) := by
          show List.Perm _ _
          rw [HE.out, firsts_all]; exact (Hf.sortT_perm _).symm
        have D0 : Hid (List.replicate f.length 0 = (List.range f.length).map (Hf.dep (Hf.F0 f))) := by
          show _ = _
          refine List.ext_getElem (by simp) fun i a1 a2 => ?_
          rw [List.getElem_replicate, List.getElem_map]
          exact (dep_start f _).symm
        have M0 : Hid (∀ x ∈ List.replicate f.length 0, x + E.length ≤ 300) := Lib.hid fun x hx => by
          have := (List.mem_replicate.1 hx).2; omega
        have hone : Hid ((Hf.S0 f).length ≠ 1) := Lib.hid (by rw [← hlen]; exact h1)
        have HW := Lib.hid (Hf.tot_le HM.out hn2.out)
        replace hlen := Lib.hid hlen
        clear h1 HE hz
        obtain ⟨ao, c0, rfl⟩ := row_any HS.out.row
        go_wp2
        rw [show ((E.length : Int) == 1) = false by simp; omega]
        go_loopw [4] (fun v4 wz => ∃ (D : List Nat) (E : List El) (F : List Hf.T), Hid (Hf.Way f F) ∧ Hid ((E.map El.t).Perm F) ∧ Hid (D = (List.range f.length).map (Hf.dep F)) ∧ Hid (St w wz u3 v4 D E) ∧ E.length ≤ 300 ∧ Hid (∀ x ∈ D, x + E.length ≤ 300)) (fun v _ => lenV v)
        case atStart => exact ⟨_, E, _, W0, P0, D0, HS, by omega, M0⟩
        case round =>
          clear W0 P0 D0 M0 HS hE1 zE hlen hEi
          obtain ⟨D, E, F, HWay, HP, HD, HS, hE300, HM3⟩ := hrel
          have zE : (E.length : Int) ≤ 300 := by omega
          have hlF : Hid (F.length = E.length) := by show _ = _; rw [← HP.out.length_eq, List.length_map]
          by_cases h2 : 2 ≤ E.length
          · obtain ⟨g4, c4, rfl, h41, h42, h43, h44⟩ := row_form HS.out.row (by omega)
            obtain ⟨a, b, r, rfl⟩ : ∃ a b r, F = a :: b :: r := by
              match F, hlF.out with
              | [], h => simp at h; omega
              | [_], h => simp at h; omega
              | a :: b :: r, _ => exact ⟨a, b, r, rfl⟩
            have z2 : (2 : Int) ≤ E.length := by omega
            have hl1 := least_first E a (b :: r) HP.out HWay.out.strict.sorted hE300 g4 c4 h41 wr (ElsAt.of HS.out.row)
            have hel := Lib.hid (ElsAt.of HS.out.row)
            replace h2 := Lib.hid h2
            replace h41 := Lib.hid h41
            replace h42 := Lib.hid h42
            clear h43 h44
            have z41 : (E.length : Int) ≤ c4 := by have := h41.out; omega
            go_wp2_with (first
              | (go_at_call 89; ((with_reducible refine hl1.mono ?_); rintro e w1 ⟨k1, xa, rfl, hk1, hxa, hat, hsub, hra, q0, q1, q2, H1⟩; have zk1 : (k1 : Int) < E.length := (by omega); replace hk1 := Lib.hid hk1; replace hra := Lib.hid hra; replace hxa := Lib.hid hxa; replace hat := Lib.hid hat; replace hsub := Lib.hid hsub; have J1 := Lib.hid (H1.alloc H1.size (.cells #[.int .i64 xa.t.w, .int .i64 xa.t.n, .slice (some ⟨xa.b, 0, none⟩) xa.t.syms.length xa.cap] 108)); replace H1 := Lib.hid H1))
              | (go_at_call 90; ((with_reducible refine (without_doc E k1 hk1.out hE300 g4 c4 h41.out h42.out _ (hel.out.below J1.out)).mono ?_); rintro e w2 ⟨v5, rfl, own2, H2⟩; replace own2 := Lib.hid own2; replace H2 := Lib.hid H2)))
            have hlen1 : (E.eraseIdx k1).length = E.length - 1 := List.length_eraseIdx_of_lt hk1.out
            rw [← hlen1] at own2
            have S2 := Lib.hid ((HS.out.later (J1.out.next H2.out)).other (E.eraseIdx k1) hsub.out (row_mono own2.out (by have := HS.out.below.size; have := J1.out.size; omega)))
            have X1 : Hid (w2.heap[w1.heap.size]? = some (.cells #[.int .i64 xa.t.w, .int .i64 xa.t.n, .slice (some ⟨xa.b, 0, none⟩) xa.t.syms.length xa.cap] 108 (0, 0))) := Lib.hid (box_new w1 _ _ _ w2 H2.out)
            have hia := Lib.hid (row_later (HS.out.ins xa hxa.out) (J1.out.next H2.out))
            have hl3 : (E.eraseIdx k1).length ≤ 299 := by omega
            have hl4 : Hid (E.length = (E.eraseIdx k1).length + 1) := by show _ = _; have := h2.out; omega
            have hx0 := HS.out.out
            generalize E.eraseIdx k1 = E1 at *
            obtain ⟨g5, c5, rfl, h51, h52, _, _⟩ := row_form own2.out (by have := h2.out; have := hl4.out; omega)
            have z51 : (E1.length : Int) ≤ c5 := by omega
            have zE1 : (E1.length : Int) ≤ 299 := by omega
            have hl2 := least_first E1 b r hra.out (List.pairwise_cons.1 HWay.out.strict.sorted).2 (by omega) g5 c5 h51 w2 (ElsAt.of own2.out)
            have hel2 := Lib.hid (ElsAt.of own2.out)
            replace h51 := Lib.hid h51
            replace h52 := Lib.hid h52
            replace hl3 := Lib.hid hl3
            clear hl1 q0 q1 q2 HS own2 hel h41 h42 z41 zk1 hk1 hlen1 hx0
            refine hl2.mono ?_
            rintro e w3 ⟨k2, xb, rfl, hk2, hxb, hbt, hsub2, hrb, q0, q1, q2, H3⟩
            have zk2 : (k2 : Int) < E1.length := by omega
            have J3 := Lib.hid (H3.alloc H3.size (.cells #[.int .i64 xb.t.w, .int .i64 xb.t.n, .slice (some ⟨xb.b, 0, none⟩) xb.t.syms.length xb.cap] 108))
            replace hk2 := Lib.hid hk2
            replace hxb := Lib.hid hxb
            replace hbt := Lib.hid hbt
            replace hsub2 := Lib.hid hsub2
            replace hrb := Lib.hid hrb
            replace H3 := Lib.hid H3
            clear hl2
            simp only []
            go_wp2_with (go_at_call 90; ((with_reducible refine (without_doc E1 k2 hk2.out (by have := hl3.out; omega) g5 c5 h51.out h52.out _ (hel2.out.below J3.out)).mono ?_); rintro e w4 ⟨v6, rfl, own4, H4⟩; replace own4 := Lib.hid own4; replace H4 := Lib.hid H4))
            have hlen2 : (E1.eraseIdx k2).length = E1.length - 1 := List.length_eraseIdx_of_lt hk2.out
            rw [← hlen2] at own4
            have B24 := Lib.hid (J3.out.next H4.out)
            have S4 := Lib.hid ((S2.out.later B24.out).other (E1.eraseIdx k2) hsub2.out (row_mono own4.out (by have := S2.out.below.size; have := J3.out.size; omega)))
            have X2 := box_below X1.out B24.out
            have X3 := box_new w3 _ _ _ w4 H4.out
            have hia4 := Lib.hid (row_later hia.out B24.out)
            have hib4 := Lib.hid (row_later (S2.out.ins xb hxb.out) B24.out)
            have hba : Hid (w1.heap.size < w4.heap.size) := Lib.hid (Array.getElem?_eq_some_iff.1 X2).1
            have hbb : Hid (w3.heap.size < w4.heap.size) := Lib.hid (Array.getElem?_eq_some_iff.1 X3).1
            have hl5 : Hid (E1.length = (E1.eraseIdx k2).length + 1) := by show _ = _; have := h2.out; have := hl4.out; omega
            generalize E1.eraseIdx k2 = E2 at *
            obtain ⟨_, a2, a3⟩ := box_at X2
            obtain ⟨_, b2, b3⟩ := box_at X3
            generalize w1.heap.size = ba at *
            generalize w3.heap.size = bb at *
            replace X2 := Lib.hid X2
            replace X3 := Lib.hid X3
            have NEW : Hid ((w4.alloc (.cells #[] 3)).drew.ownsRow w4.heap.size 3 1 (.slice (some ⟨w4.heap.size, 0, none⟩) 0 0) 0 []) := Lib.hid (World.ownsRow_made w4 #[] 0 (Nat.le_refl _) (by decide) rfl)
            have BN : Hid (Below w4.heap.size w4 (w4.alloc (.cells #[] 3)).drew) := Lib.hid (((Below.refl w4.heap.size w4).alloc (Nat.le_refl _) _).drew)
            obtain ⟨_, a4, a5⟩ := box_at (box_below X2.out (((Below.refl w4.heap.size w4).alloc (Nat.le_refl _) (.cells #[] 3))))
            obtain ⟨_, b4, b5⟩ := box_at (box_below X3.out (((Below.refl w4.heap.size w4).alloc (Nat.le_refl _) (.cells #[] 3))))
            have hcA : Hid (∀ W, Below w4.heap.size w4 W → ∀ j u, (ints xa.t.syms)[j]? = some u → W.cell? ((⟨xa.b, 0, none⟩ : Addr).add j) = some u) := Lib.hid fun W hW => (row_later hia4.out hW).cells rfl
            have hcB : Hid (∀ W, Below w4.heap.size w4 W → ∀ j u, (ints xb.t.syms)[j]? = some u → W.cell? ((⟨xb.b, 0, none⟩ : Addr).add j) = some u) := Lib.hid fun W hW => (row_later hib4.out hW).cells rfl
            clear S2 hel2 h51 h52 own4 X1 hia hxa hlen2
            have hsy := HWay.out.syms
            have hnd := HWay.out.grove.nodup
            have hsyl : (xa.t.syms ++ xb.t.syms).length ≤ 300 := by
              have e1 : (xa.t.syms ++ xb.t.syms).length ≤ (Hf.syms (a :: b :: r)).length := by
                rw [hat.out, hbt.out, two_syms, @List.length_append _ (a.syms ++ b.syms) (Hf.syms r)]; omega
              have e2 : (Hf.S0 f).length ≤ f.length := by
                unfold Hf.S0; refine Nat.le_trans (List.length_filter_le _ _) ?_; rw [List.length_range]; exact Nat.le_refl _
              have e3 := hsy.length_eq
              have := hn2.out
              omega
            have hin : Hid (∀ i ∈ xa.t.syms ++ xb.t.syms, i < f.length) := Lib.hid fun i hi => by
              have : i ∈ Hf.syms (a :: b :: r) := by
                rw [hat.out, hbt.out] at hi; rw [two_syms]; exact List.mem_append_left _ hi
              exact (Hf.S0_mem.1 (hsy.mem_iff.1 this)).1
            have hndab : Hid ((xa.t.syms ++ xb.t.syms).Nodup) := Lib.hid (by
              rw [hat.out, hbt.out]
              rw [two_syms] at hnd
              exact (List.nodup_append.1 hnd).1)
            have hpos : Hid (0 < xa.t.syms.length) := Lib.hid (by obtain ⟨i, hi⟩ := Hf.syms_some xa.t; exact List.length_pos_of_mem hi)
            have zsa : xa.t.syms.length ≤ 300 := by rw [List.length_append] at hsyl; omega
            have zsb : xb.t.syms.length ≤ 300 := by rw [List.length_append] at hsyl; omega
            clear hsy hnd
            go_region_law (first
              | (refine step_append_mine rfl (.tmp 69) (.tmp 71) 50 rfl w4.heap.size 3 i0 (.int .i64 0) 1 8 Try.underlying50 hi0 hz0 hz1 hz2 rfl (by decide) (.slice (some ⟨w4.heap.size, 0, none⟩) 0 0) 0 [] rfl NEW.out ⟨xa.b, 0, none⟩ xa.t.syms.length xa.cap (ints xa.t.syms) rfl (ints_len _) (hcA.out _ BN.out) (ints_one _) (by unfold maxLen; omega) (by omega) (by simp) ?_
                 intro v7 w7 own7 gr7 nn7
                 rw [Nat.zero_add, List.nil_append] at own7
                 have B7 : Below w4.heap.size w4 w7 := BN.out.grown gr7 (by simp) (fun b hb => (NEW.out.lt b hb).1)
                 obtain ⟨_, b7, b8⟩ := box_at (box_below X3.out B7)
                 replace own7 := Lib.hid own7
                 replace B7 := Lib.hid B7
                 clear gr7 nn7)
              | (refine step_append_mine rfl (.tmp 72) (.tmp 74) 50 rfl w4.heap.size 3 i0 (.int .i64 0) 1 8 Try.underlying50 hi0 hz0 hz1 hz2 rfl (by decide) v7 xa.t.syms.length (ints xa.t.syms) rfl own7.out ⟨xb.b, 0, none⟩ xb.t.syms.length xb.cap (ints xb.t.syms) rfl (ints_len _) (hcB.out _ B7.out) (ints_one _) (by unfold maxLen; omega) (by omega) B7.out.size ?_
                 intro v8 w8 own8 gr8 nn8
                 have B8 : Below w4.heap.size w4 w8 := B7.out.grown gr8 B7.out.size (fun b hb => (own7.out.lt b hb).1)
                 replace own8 := Lib.hid own8
                 replace B8 := Lib.hid B8
                 clear gr8 nn8))
            all_goals
              obtain ⟨sy, hsye⟩ : ∃ sy, sy = xa.t.syms ++ xb.t.syms := ⟨_, rfl⟩
              have e8 : ints xa.t.syms ++ ints xb.t.syms = ints sy := by rw [hsye]; unfold ints; rw [List.map_append]
              have l8 : xa.t.syms.length + xb.t.syms.length = sy.length := by rw [hsye, List.length_append]
              have own9 := own8.out
              rw [e8, l8] at own9
              have hp8 : 0 < sy.length := by have := hpos.out; omega
              rw [← hsye] at hsyl hin hndab
              have hDn : D.length = f.length := by rw [HD.out]; simp
              have hi0 : 0 < f.length := by
                obtain ⟨i, hi⟩ : ∃ i, i ∈ sy := ⟨sy[0], List.getElem_mem hp8⟩
                have := hin.out i hi; omega
              have S8 := S4.out.later B8.out
              obtain ⟨g8, c8, rfl, h81, h82, _, h84⟩ := row_form own9 hp8
              obtain ⟨g3, c3, rfl, h31, h32, _, _⟩ := row_form S8.out (by omega)
              have hg38 : g8 ≠ g3 := by
                have := (row_block S4.out.out (g := g3) rfl).2.1
                omega
              have S9 : Hid (St w w8 (.slice (some ⟨g3, 0, none⟩) D.length c3) v6 (Hf.plus D (sy.take 0)) E2) := Lib.hid S8
              have I9 := Lib.hid (row_mono own9 (B' := w.heap.size) (by have := S4.out.below.size; omega))
              have Y2 := Lib.hid (box_below X2.out B8.out)
              have Y3 := Lib.hid (box_below X3.out B8.out)
              have zsy : (sy.length : Int) ≤ 300 := by omega
              have z81 : (sy.length : Int) ≤ c8 := by omega
              have z31 : (D.length : Int) ≤ c3 := by omega
              replace hsye := Lib.hid hsye
              replace hDn := Lib.hid hDn
              replace hg38 := Lib.hid hg38
              clear own7 B7 own8 own9 S8 e8 l8 hi0 hp8 h81 h82 h31 h32 a2 a3 b2 b3 a4 a5 b4 b5 b7 b8
              simp only [Exit.then]
              go_wp2
              go_loopw [11] (fun v wz => ∃ j : Nat, j ≤ sy.length ∧ v = .int .i64 j ∧ Hid (St w wz (.slice (some ⟨g3, 0, none⟩) D.length c3) v6 (Hf.plus D (sy.take j)) E2) ∧ Hid (wz.ownsRow w.heap.size 3 1 (.slice (some ⟨g8, 0, none⟩) sy.length c8) sy.length (ints sy)) ∧ Hid (wz.heap[ba]? = some (.cells #[.int .i64 xa.t.w, .int .i64 xa.t.n, .slice (some ⟨xa.b, 0, none⟩) xa.t.syms.length xa.cap] 108 (0, 0))) ∧ Hid (wz.heap[bb]? = some (.cells #[.int .i64 xb.t.w, .int .i64 xb.t.n, .slice (some ⟨xb.b, 0, none⟩) xb.t.syms.length xb.cap] 108 (0, 0)))) (fun v _ => sy.length - (RowKit.intOf v).toNat)
              case atStart => exact ⟨0, Nat.zero_le _, rfl, S9, I9, Y2, Y3⟩
              case round =>
                clear S9 I9 Y2 Y3 X2 X3 S4 B8 NEW BN hcA hcB hia4 hib4
                obtain ⟨j, hj, rfl, S9, I9, Y2, Y3⟩ := hrel
                by_cases hlt : j < sy.length
                · obtain ⟨i, hi⟩ : ∃ i, sy[j] = i := ⟨_, rfl⟩
                  have hin1 : i < f.length := hin.out i (by rw [← hi]; exact List.getElem_mem hlt)
                  have hiD : i < D.length := by rw [hDn.out]; exact hin1
                  have ci := ints_get I9.out hlt
                  rw [hi] at ci
                  have htk : Hid (sy.take (j + 1) = sy.take j ++ [i]) := by show _ = _; rw [List.take_succ_eq_append_getElem hlt, hi]
                  have hndt : (sy.take j).Nodup := (List.take_sublist j sy).nodup hndab.out
                  have hpg := Hf.plus_get (sy.take j) D i hndt hiD
                  have hDi : D.getD i 0 ≤ 300 := by
                    have := HM3.out D[i] (List.getElem_mem hiD)
                    rw [List.getD_eq_getElem?_getD, List.getElem?_eq_getElem hiD]
                    show D[i] ≤ 300
                    omega
                  have hpl := Hf.plus_length (sy.take j) D
                  have hps := Hf.plus_snoc (sy.take j) D i
                  rw [← htk.out] at hps
                  obtain ⟨Dn, hDn2⟩ : ∃ Dn, Dn = Hf.plus D (sy.take (j + 1)) := ⟨_, rfl⟩
                  obtain ⟨Dj, hDj⟩ : ∃ Dj, Dj = Hf.plus D (sy.take j) := ⟨_, rfl⟩
                  rw [← hDj] at S9 hpg hpl hps
                  rw [← hDn2] at hps
                  have ho := S9.out.out
                  rw [hpl] at ho
                  have hiDj : i < Dj.length := by omega
                  have co := ints_get ho hiDj
                  have fz := ho.frozenAt i
                  obtain ⟨x, hx⟩ : ∃ x, Dj[i] = x := ⟨_, rfl⟩
                  have hxg : Dj.getD i 0 = x := by rw [List.getD_eq_getElem?_getD, List.getElem?_eq_getElem hiDj]; exact hx
                  rw [hxg] at hpg hps
                  rw [hx] at co
                  have hx301 : x ≤ 301 := by rw [hpg]; split <;> omega
                  obtain ⟨st1, st2⟩ := ho.stored i (.int .i64 ((x + 1 : Nat) : Int))
                  have hset : (ints Dj).set i (.int .i64 ((x + 1 : Nat) : Int)) = ints Dn := by
                    rw [hps]; unfold ints; rw [List.map_set]
                  rw [hset] at st1
                  have hDnl : D.length = Dn.length := by rw [hps, List.length_set, hpl]
                  rw [show ((x + 1 : Nat) : Int) = (x : Int) + 1 by omega] at st1 st2
                  have T9 := Lib.hid (S9.out.grow (v := .slice (some ⟨g3, 0, none⟩) D.length c3) st2 (.inl rfl) Dn (by rw [← hDnl]; exact st1))
                  rw [hDn2] at T9
                  have K9 := Lib.hid (I9.out.kept st2 (.inr (by simp [Value.ownBlock]; exact hg38.out)))
                  have hg3t := (row_block ho (g := g3) rfl).2.2
                  have box9 : ∀ (bx : Nat) (cs : Array Value), wr.heap[bx]? = some (.cells cs 108 (0, 0)) → (wr.setCell ⟨g3, i, none⟩ (.int .i64 ((x : Int) + 1))).heap[bx]? = some (.cells cs 108 (0, 0)) := fun bx cs hbx => by
                    rw [st2.block bx (Array.getElem?_eq_some_iff.1 hbx).1 (fun e1 => by
                      cases e1
                      obtain ⟨c, hc⟩ := hg3t
                      rw [hc] at hbx; cases hbx)]
                    exact hbx
                  have Z2 := Lib.hid (box9 _ _ Y2.out)
                  have Z3 := Lib.hid (box9 _ _ Y3.out)
                  have zj : (j : Int) < sy.length := by omega
                  have zi : (i : Int) < D.length := by omega
                  have zx : (x : Int) ≤ 301 := by omega
                  clear hi hin1 hiD hndt hpg hDi hpl hps hDn2 hDj ho hiDj hx hxg st1 st2 hset hDnl hg3t box9 S9 I9 Y2 Y3 hx301
                  go_wp2
                  go_roundw
                  case rel => exact ⟨j + 1, by omega, by go_num, T9, K9, Z2, Z3⟩
                  case measure => simp [RowKit.intOf]; omega
                · have e : j = sy.length := by omega
                  subst e
                  rw [List.take_length] at S9
                  obtain ⟨e9, he9⟩ : ∃ e9 : El, (⟨.node xa.t xb.t, g8, c8⟩ : El) = e9 := ⟨_, rfl⟩
                  have h1n : e9.t.w = xa.t.w + xb.t.w := by rw [← he9]; rfl
                  have h3n : e9.t.syms.length = sy.length := by rw [← he9, hsye.out]; rfl
                  have hsy9 : e9.t.syms = sy := by rw [← he9, hsye.out]; rfl
                  have hbc9 : e9.b = g8 ∧ e9.cap = c8 := by rw [← he9]; exact ⟨rfl, rfl⟩
                  have ht9 : e9.t = .node a b := by rw [← he9, hat.out, hbt.out]
                  have hww : (xa.t.w : Int) + xb.t.w ≤ 30000000 := by
                    have h1 := HWay.out.weight
                    have h2 := HW.out
                    rw [hat.out, hbt.out]
                    simp only [Hf.sm] at h1
                    omega
                  have zwa : (xa.t.w : Int) ≤ 30000000 := by omega
                  have zwb : (xb.t.w : Int) ≤ 30000000 := by omega
                  obtain ⟨p0, p1, p2⟩ := box_at Y2.out
                  obtain ⟨r0, r1, r2⟩ := box_at Y3.out
                  have L9 : Hid ((E2 ++ [e9]).length = E.length - 1) := by show _ = _; rw [List.length_append, List.length_singleton]; have := hl4.out; have := hl5.out; omega
                  have zE2 : (E2.length : Int) ≤ 298 := by have := hl4.out; have := hl5.out; omega
                  have P9 : Hid (((E2 ++ [e9]).map El.t).Perm (Hf.ins (.node a b) r)) := by
                    show List.Perm _ _
                    rw [List.map_append, List.map_singleton, ht9]
                    exact (List.perm_append_comm.trans (hrb.out.cons _)).trans (Hf.ins_perm _ _).symm
                  have D9 : Hid (Hf.plus D sy = (List.range f.length).map (Hf.dep (Hf.ins (.node a b) r))) := by
                    show _ = _
                    rw [HD.out, hsye.out, hat.out, hbt.out]
                    exact Hf.depths_step (by have := hndab.out; rw [hsye.out, hat.out, hbt.out] at this; exact this)
                  have M9 : Hid (∀ x ∈ Hf.plus D sy, x + (E2 ++ [e9]).length ≤ 300) := Lib.hid fun x hx => by
                    obtain ⟨i, hi, rfl⟩ := List.mem_iff_getElem.1 hx
                    have hiD : i < D.length := by rw [Hf.plus_length] at hi; exact hi
                    have hpg := Hf.plus_get sy D i hndab.out hiD
                    rw [List.getD_eq_getElem?_getD, List.getElem?_eq_getElem hi, List.getD_eq_getElem?_getD, List.getElem?_eq_getElem hiD] at hpg
                    simp only [Option.getD_some] at hpg
                    have h1 := HM3.out D[i] (List.getElem_mem hiD)
                    have h2 := L9.out
                    have h3 := hl4.out
                    have h4 : (if i ∈ sy then 1 else 0) ≤ 1 := by split <;> omega
                    omega
                  have hap : Hid (∀ e ∈ E2 ++ [e9], (Value.slice (some ⟨g3, 0, none⟩) D.length c3).ownBlock ≠ some e.b) := Lib.hid fun e he => by
                    rcases List.mem_append.1 he with h1 | h1
                    · exact S9.out.apart e h1
                    · rw [List.mem_singleton] at h1; subst h1; rw [hbc9.1]; simp [Value.ownBlock]; exact fun e => hg38.out e.symm
                  have hws := S9.out.below.size
                  have T9 : Hid (St w (wr.alloc (.cells #[.int .i64 ((xa.t.w : Int) + xb.t.w), .int .i64 e9.t.n, .slice (some ⟨g8, 0, none⟩) sy.length c8] 108)) (.slice (some ⟨g3, 0, none⟩) D.length c3) v6 (Hf.plus D sy) E2) := Lib.hid (S9.out.later ((Below.refl _ _).alloc (Nat.le_refl _) _))
                  have hins : Hid (∀ e ∈ E2 ++ [e9], (wr.alloc (.cells #[.int .i64 ((xa.t.w : Int) + xb.t.w), .int .i64 e9.t.n, .slice (some ⟨g8, 0, none⟩) sy.length c8] 108)).ownsRow w.heap.size 3 1 (inV e) e.t.syms.length (ints e.t.syms)) := Lib.hid fun e he => by
                    rcases List.mem_append.1 he with h1 | h1
                    · exact T9.out.ins e h1
                    · rw [List.mem_singleton] at h1; subst h1
                      unfold inV
                      rw [hsy9, hbc9.1, hbc9.2]
                      exact I9.out.alloc _
                  have hel := el_new wr e9
                  rw [hbc9.1, hbc9.2] at hel
                  clear hsy9 hbc9 ht9 S9 I9 Y2 Y3
                  by_cases hab : xa.t.n ≤ xb.t.n
                  · have zab : (xa.t.n : Int) ≤ xb.t.n := by omega
                    have h2n : e9.t.n = xa.t.n := by rw [← he9]; exact Nat.min_eq_left (by omega)
                    rw [h1n, h2n, h3n, Int.natCast_add] at hel
                    go_wp2_with (with_reducible refine stop_append ?_)
                    unfold Stop
                    refine wpList_append_own _ rfl _ _ 106 rfl w.heap.size 108 i5 (.agg #[.int .i64 0, .int .i64 0, .slice none 0 0]) 3 40 Try.underlying106 hi5 hy0 hy1 hy2 rfl (by decide) v6 E2.length (ecs E2) rfl (by have := T9.out.row; rw [h2n] at this; exact this) ⟨wr.heap.size, 0, Option.none⟩ 1 1 (ecs [e9]) rfl rfl hel (ecs_one _) (by unfold maxLen; omega) (by omega) (by simp; omega) ?_
                    intro v10 w10 own10 gr10 nn10
                    rw [← ecs_append] at own10
                    have F9 := Lib.hid ((by have := T9.out; rw [h2n] at this; exact this : St w (wr.alloc (.cells #[.int .i64 ((xa.t.w : Int) + xb.t.w), .int .i64 xa.t.n, .slice (some ⟨g8, 0, none⟩) sy.length c8] 108)) _ v6 _ E2).put gr10 (E2 ++ [e9]) (by rw [List.length_append]; exact own10) (by have := hins.out; rw [h2n] at this; exact this) hap.out)
                    obtain ⟨ao2, c2, rfl⟩ := row_any own10
                    clear own10 gr10 nn10 hel T9 hins h1n h2n h3n
                    go_wp2
                    go_roundw
                    case rel => exact ⟨Hf.plus D sy, E2 ++ [e9], Hf.ins (.node a b) r, Lib.hid (Hf.way_step HWay.out), P9, D9, F9, by have := L9.out; omega, M9⟩
                    case measure => have := L9.out; simp [lenV]; have := hl4.out; have := hl5.out; omega
                  · have zab : (xb.t.n : Int) < xa.t.n := by omega
                    have h2n : e9.t.n = xb.t.n := by rw [← he9]; exact Nat.min_eq_right (by omega)
                    rw [h1n, h2n, h3n, Int.natCast_add] at hel
                    go_wp2_with (with_reducible refine stop_append ?_)
                    unfold Stop
                    refine wpList_append_own _ rfl _ _ 106 rfl w.heap.size 108 i5 (.agg #[.int .i64 0, .int .i64 0, .slice none 0 0]) 3 40 Try.underlying106 hi5 hy0 hy1 hy2 rfl (by decide) v6 E2.length (ecs E2) rfl (by have := T9.out.row; rw [h2n] at this; exact this) ⟨wr.heap.size, 0, Option.none⟩ 1 1 (ecs [e9]) rfl rfl hel (ecs_one _) (by unfold maxLen; omega) (by omega) (by simp; omega) ?_
                    intro v10 w10 own10 gr10 nn10
                    rw [← ecs_append] at own10
                    have F9 := Lib.hid ((by have := T9.out; rw [h2n] at this; exact this : St w (wr.alloc (.cells #[.int .i64 ((xa.t.w : Int) + xb.t.w), .int .i64 xb.t.n, .slice (some ⟨g8, 0, none⟩) sy.length c8] 108)) _ v6 _ E2).put gr10 (E2 ++ [e9]) (by rw [List.length_append]; exact own10) (by have := hins.out; rw [h2n] at this; exact this) hap.out)
                    obtain ⟨ao2, c2, rfl⟩ := row_any own10
                    clear own10 gr10 nn10 hel T9 hins h1n h2n h3n
                    go_wp2
                    go_roundw
                    case rel => exact ⟨Hf.plus D sy, E2 ++ [e9], Hf.ins (.node a b) r, Lib.hid (Hf.way_step HWay.out), P9, D9, F9, by have := L9.out; omega, M9⟩
                    case measure => have := L9.out; simp [lenV]; have := hl4.out; have := hl5.out; omega
          · have hl1 : F.length ≤ 1 := by rw [hlF.out]; omega
            have hDo : Hid (D = (List.range f.length).map (Hf.once f)) := by
              show _ = _
              rw [HD.out]
              exact List.map_congr_left fun i _ => Hf.way_end HWay.out hl1 hone.out i
            obtain ⟨ao2, c2, rfl⟩ := row_any HS.out.row
            have hno := HS.out.out
            have hbz := Lib.hid HS.out.below
            rw [hDo.out] at hno
            rw [show ((List.range f.length).map (Hf.once f)).length = f.length by simp] at hno
            replace hno := Lib.hid hno
            have zz : (E.length : Int) ≤ 1 := by omega
            clear h2 HS hl1
            go_wp2
            go_ret
            exact ⟨_, rfl, hno.out, hbz.out⟩
end Go.Proofs.Ythehjhckcblbdaa

