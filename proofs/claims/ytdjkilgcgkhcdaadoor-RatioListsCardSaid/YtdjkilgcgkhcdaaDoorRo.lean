/-
  Contract of the document's Order: the places of a list in their order, in a row of its own.
-/
import Derived.Test.YtdjkilgcgkhcdaaDoorIn
import Derived.Test.YtdjkilgcgkhcdaaDoorGr
import Derived.Laws.AppendOwn
namespace Go.Proofs.YtdjkilgcgkhcdaaDoor
open Go.RowKit Go.Fl Go.Sort Go.Lib
/-- The values of places. -/
def pv (o : List Nat) : List Value := o.map fun (j : Nat) => Value.int .i64 (j : Int)
/-- What the walk of the document's Order keeps in sight. -/
structure Heap22 (l o : List Nat) (i : Nat) (w wr : World) (g cap blk off : Nat) : Prop where
  ins : Ins l o i
  own : wr.ownsRow w.heap.size 3 1 (.slice (some ⟨g, 0, none⟩) i cap) i (pv o)
  below : Below w.heap.size w wr
  fl : FloatsAt wr blk off l
theorem Heap22.cell {l o : List Nat} {i : Nat} {w wr : World} {g cap blk off : Nat} (h : Heap22 l o i w wr g cap blk off) (k : Nat) (hk : k < i) : wr.cell? ⟨g, k, none⟩ = some (.int .i64 (o.getD k 0)) := by
  have := h.own.cells (g := g) rfl k (.int .i64 (o.getD k 0)) (by
    have hl := h.ins.length
    unfold pv
    rw [List.getElem?_map, List.getElem?_eq_getElem (by omega), List.getD_eq_getElem?_getD, List.getElem?_eq_getElem (by omega)]; rfl)
  rwa [Addr.add_lit, Nat.zero_add] at this
theorem Heap22.cap {l o : List Nat} {i : Nat} {w wr : World} {g cap blk off : Nat} (h : Heap22 l o i w wr g cap blk off) : i ≤ cap ∧ cap ≤ maxLen := by
  rcases h.own.2 with ⟨h1, _⟩ | ⟨g', cap', cur, h1, _, _, h2, h3, _⟩
  · cases h1
  · cases h1; exact ⟨h2, h3⟩
theorem Heap22.drewN {l o : List Nat} {i : Nat} {w wr : World} {g cap blk off : Nat} (h : Heap22 l o i w wr g cap blk off) (n : Nat) : Heap22 l o i w (wr.drewN n) g cap blk off :=
  ⟨h.ins, h.own, below_drewN h.below n, ⟨h.fl.cell, h.fl.lt⟩⟩
theorem rless_is (x y : Nat) (v : Bool) (hx : x < 2 ^ 64) (hy : y < 2 ^ 64) (h : lessB x y = v) (w : World) : Calls Tryd.prog 17 #[.float .f64 x, .float .f64 y] w fun e w' => e = .returned (.bool v) ∧ w' = w :=
  (rless_any x y hx hy w).mono fun _ _ ⟨h1, h2⟩ => ⟨by rw [h1, h], h2.symm⟩
theorem pv_one (o : List Nat) : ∀ u ∈ pv o, u.oneCell' = true := fun u hu => by
  obtain ⟨j, _, rfl⟩ := List.mem_map.1 hu
  rfl
/-- The cells of a part of the row, in whichever world that keeps its block. -/
theorem Heap22.part {l o : List Nat} {i : Nat} {w wr w' : World} {g cap blk off : Nat} (h : Heap22 l o i w wr g cap blk off) (hb : Below wr.heap.size wr w') (s : Nat) (news : List Nat) (hn : ∀ j, j < news.length → s + j < i ∧ news.getD j 0 = o.getD (s + j) 0) :
    ∀ j u, (pv news)[j]? = some u → w'.cell? ((⟨g, s, none⟩ : Addr).add j) = some u := fun j u hu => by
  have hg := (h.own.lt g rfl).2
  unfold pv at hu
  rw [List.getElem?_map] at hu
  by_cases hj : j < news.length
  · rw [List.getElem?_eq_getElem hj] at hu
    simp only [Option.map_some, Option.some.injEq] at hu
    obtain ⟨h1, h2⟩ := hn j hj
    rw [List.getD_eq_getElem?_getD, List.getElem?_eq_getElem hj, Option.getD_some] at h2
    rw [Addr.add_lit, hb.cell (p := ⟨g, s + j, none⟩) hg, h.cell (s + j) h1, ← hu, h2]
  · rw [List.getElem?_eq_none (by omega)] at hu; simp at hu
theorem own_some {w : World} {base n : Nat} {v : Value} {xs : List Value} (h : w.ownsRow base 3 1 v n xs) (hn : ¬ v = .slice none 0 0) : ∃ g c, v = .slice (some ⟨g, 0, none⟩) n c := by
  rcases h.2 with ⟨h1, _⟩ | ⟨g, c, _, h1, _⟩
  · exact absurd h1 hn
  · exact ⟨g, c, h1⟩
theorem own_mono {w : World} {base base' n : Nat} {v : Value} {xs : List Value} (h : w.ownsRow base 3 1 v n xs) (hb : base' ≤ base) : w.ownsRow base' 3 1 v n xs := by
  refine ⟨h.1, ?_⟩
  rcases h.2 with h1 | ⟨g, c, cur, h1, h2, h3⟩
  · exact .inl h1
  · exact .inr ⟨g, c, cur, h1, by omega, h3⟩
set_option maxHeartbeats 2000000 in
set_option maxRecDepth 100000 in
theorem rorder_any (l : List Nat) (hl : l.length ≤ 300) (blk off cap0 : Nat) (w : World) (hblk : blk < w.heap.size) (hF : FloatsAt w blk off l) :
    Calls Tryd.prog 22 #[.slice (some ⟨blk, off, none⟩) l.length cap0] w fun e w' => ∃ (o : List Nat) (g cap : Nat), e = .returned (.slice (some ⟨g, 0, none⟩) l.length cap) ∧ Heap22 l o l.length w w' g cap blk off := by
  have zl : (l.length : Int) ≤ 300 := by omega
  have H0 : Hid (Heap22 l [] 0 w (w.alloc (.cells #[] 3)) w.heap.size 0 blk off) := ⟨Ins.nil l, World.ownsRow_made w #[] 0 (Nat.le_refl _) (by decide) rfl, (Below.refl _ _).alloc (Nat.le_refl _) _, ⟨fun i hi => by rw [World.cell?_alloc_old _ _ _ (by show blk ≠ w.heap.size; omega)]; exact hF.cell i hi, hF.lt⟩⟩
  obtain ⟨i0, hi0, hz0, hz1, hz2⟩ := info_parts info3
  have HBl := Lib.hid hblk
  clear hl hF hblk
  go_enter Tryd.func22, Tryd.ntmps22
  go_wp2
  go_loopw [3, 4, 5, 6] (fun v n _ _ wr => ∃ (i : Nat) (o : List Nat) (g cap : Nat), i ≤ l.length ∧ n = .int .i64 i ∧ v = .slice (some ⟨g, 0, none⟩) i cap ∧ Hid (Heap22 l o i w wr g cap blk off)) (fun _ n _ _ _ => l.length - (intOf n).toNat)
  case atStart => exact ⟨0, [], _, 0, by omega, rfl, rfl, H0⟩
  case round =>
    clear H0
    obtain ⟨i, o, g, cap, hi, rfl, rfl, HS⟩ := hrel
    by_cases hlt : i < l.length
    · have hcap : (i : Int) ≤ cap := by have := HS.out.cap.1; omega
      have zi : (i : Int) < 300 := by omega
      go_wp2
      go_loopw [5] (fun v wr => ∃ p : Nat, v = .int .i64 p ∧ p ≤ i ∧ Hid (Heap22 l o i w wr g cap blk off) ∧ Hid (∀ k, p ≤ k → k < i → lessB (l.getD i 0) (l.getD (o.getD k 0) 0) = true)) (fun v _ => (intOf v).toNat)
      case atStart => exact ⟨i, rfl, by omega, HS, fun k h1 h2 => by omega⟩
      case round =>
        clear HS
        obtain ⟨p, rfl, hp, HS, HK⟩ := hrel
        have arm : p = 0 ∨ (∃ q, p = q + 1 ∧ lessB (l.getD i 0) (l.getD (o.getD q 0) 0) = false) ∨ (∃ q, p = q + 1 ∧ lessB (l.getD i 0) (l.getD (o.getD q 0) 0) = true) := by
          match p with
          | 0 => exact .inl rfl
          | q + 1 => cases h : lessB (l.getD i 0) (l.getD (o.getD q 0) 0); exact .inr (.inl ⟨q, rfl, h⟩); exact .inr (.inr ⟨q, rfl, h⟩)
        rcases arm with h0 | ⟨q, h0, hls⟩ | ⟨q, h0, hls⟩
        case' inr.inr =>
          subst h0
          have HL := Lib.hid hls
          have fi := HS.out.fl.cell i hlt
          have cq := HS.out.cell q (by omega)
          have hoq := HS.out.ins.at_lt q (by omega)
          have fo := HS.out.fl.cell (o.getD q 0) (by omega)
          have H1 := Lib.hid (fun w => rless_is _ _ true (HS.out.fl.lt i) (HS.out.fl.lt (o.getD q 0)) hls w)
          have zo : (o.getD q 0 : Int) < l.length := by omega
          have zq : (q : Int) < i := by omega
          have zq' : (q : Int) + 1 ≤ i := by omega
          have zq3 : (q : Int) ≤ 300 := by omega
          clear hls
          generalize l.getD (o.getD q 0) 0 = y at fo H1
          generalize l.getD i 0 = x at fi H1 HL HK
          generalize o.getD q 0 = r at cq fo zo hoq
          go_wp2_with fail
          go_quiet ((go_at_call 17; exact Calls.quiet_of_same (H1.out _)))
          simp only [Exit.then]
          have HS2 : Hid (Heap22 l o i w (wr.drewN nq) g cap blk off) := HS.out.drewN nq
          generalize wr.drewN nq = w2 at HS2 ⊢
          clear fi cq fo HS
          go_wp2
          go_roundw
          case rel => exact ⟨q, by go_num, by omega, HS2, Lib.hid fun k h1 h2 => by
            by_cases e : k = q
            · subst e; exact HL.out
            · exact HK.out k (by omega) h2⟩
          case measure => simp [intOf]
        case' inl =>
          have HN : Hid (Ins l (o.take p ++ ([i] ++ o.drop p)) (i + 1)) := HS.out.ins.step hp HK.out (.inl h0)
          have pz : decide (0 < p) = false := decide_eq_false (by omega)
          clear h0
          go_wp2_with fail
          go_quiet (fail)
          simp only [Exit.then]
          have HS2 : Hid (Heap22 l o i w (wr.drewN nq) g cap blk off) := HS.out.drewN nq
          generalize wr.drewN nq = w2 at HS2 ⊢
          clear HS
        case' inr.inl =>
          subst h0
          have HN : Hid (Ins l (o.take (q + 1) ++ ([i] ++ o.drop (q + 1))) (i + 1)) := HS.out.ins.step hp HK.out (.inr hls)
          clear HK
          have fi := HS.out.fl.cell i hlt
          have cq := HS.out.cell q (by omega)
          have hoq := HS.out.ins.at_lt q (by omega)
          have fo := HS.out.fl.cell (o.getD q 0) (by omega)
          have H1 := Lib.hid (fun w => rless_is _ _ false (HS.out.fl.lt i) (HS.out.fl.lt (o.getD q 0)) hls w)
          have zo : (o.getD q 0 : Int) < l.length := by omega
          have zq : (q : Int) < i := by omega
          have zq' : (q : Int) + 1 ≤ i := by omega
          have zq3 : (q : Int) ≤ 300 := by omega
          clear hls
          generalize l.getD (o.getD q 0) 0 = y at fo H1
          generalize l.getD i 0 = x at fi H1
          generalize o.getD q 0 = r at cq fo zo hoq
          go_wp2_with fail
          go_quiet ((go_at_call 17; exact Calls.quiet_of_same (H1.out _)))
          simp only [Exit.then]
          have HS2 : Hid (Heap22 l o i w (wr.drewN nq) g cap blk off) := HS.out.drewN nq
          generalize wr.drewN nq = w2 at HS2 ⊢
          clear fi cq fo HS
          have eq1 : ((q : Int) + 1) = ((q + 1 : Nat) : Int) := by simp
          clear zq zq' zo zq3
          try simp only [eq1]
          clear eq1
          generalize q + 1 = p at *
        all_goals
          have pi : (p : Int) ≤ i := by omega
          have pc : (p : Int) ≤ cap := by omega
          have hb2 : w.heap.size ≤ w2.heap.size := HS2.out.below.size
          have hgl := HS2.out.own.lt g rfl
          have hln := HS2.out.ins.length
          have n1 : (pv (o.take p)).length = p * 1 := by simp [pv]; omega
          have n2 := HS2.out.part ((Below.refl w2.heap.size w2).alloc (Nat.le_refl _) (.cells #[] 3)) 0 (o.take p) (fun j hj => by
            simp only [List.length_take] at hj
            refine ⟨by omega, ?_⟩
            rw [List.getD_eq_getElem?_getD, List.getD_eq_getElem?_getD, List.getElem?_take, if_pos (by omega), Nat.zero_add])
          have pm : p ≤ 300 := by omega
          go_wp2_with (first
            | (at_builtin; refine wpList_append_own _ rfl _ _ 33 rfl w2.heap.size 3 i0 (.int .i64 0) 1 8 Tryd.underlying33 hi0 hz0 hz1 hz2 rfl (by decide) _ 0 [] rfl (World.ownsRow_made w2 #[] 0 (Nat.le_refl _) (by decide) rfl) ⟨g, 0, none⟩ p cap (pv (o.take p)) rfl n1 n2 (pv_one _) (by unfold maxLen; omega) (by omega) (by simp) ?_)
            | go_in)
          intro v1 w3 own1 gr1 nn1
          have b3 : Hid (Below w2.heap.size w2 w3) := ((Below.refl w2.heap.size w2).alloc (Nat.le_refl _) (.cells #[] 3)).grown gr1 (by simp) (fun k hk => by simp [Value.ownBlock] at hk; omega)
          have h3 : w2.heap.size ≤ w3.heap.size := b3.out.size
          obtain ⟨g1, c1, rfl⟩ := own_some own1 nn1
          clear gr1 nn1 n1 n2
          have n4 : ∀ j u, (pv [i])[j]? = some u → (w3.alloc (.cells #[.int .i64 i] 3)).cell? ((⟨w3.heap.size, 0, none⟩ : Addr).add j) = some u := fun j u hj => by
            match j, hj with
            | 0, hj => simp [pv] at hj; subst hj; simp [Addr.add]
            | j + 1, hj => simp [pv] at hj
          go_wp2_with (first
            | (at_builtin; refine wpList_append_own _ rfl _ _ 33 rfl w2.heap.size 3 i0 (.int .i64 0) 1 8 Tryd.underlying33 hi0 hz0 hz1 hz2 rfl (by decide) _ p (pv (o.take p)) rfl (own1.alloc _) ⟨w3.heap.size, 0, none⟩ 1 1 (pv [i]) rfl rfl n4 (pv_one _) (by unfold maxLen; omega) (by omega) (by simp; omega) ?_)
            | go_in)
          intro v2 w4 own2 gr2 nn2
          have b4 : Hid (Below w2.heap.size w2 w4) := (b3.out.alloc h3 (.cells #[.int .i64 i] 3)).grown gr2 (by simp; omega) (fun k hk => (own1.lt k hk).1)
          have h4 : w2.heap.size ≤ w4.heap.size := b4.out.size
          obtain ⟨g2, c2, rfl⟩ := own_some own2 nn2
          clear gr2 nn2 n4 own1 b3 h3
          have n6 : (pv (o.drop p)).length = (i - p) * 1 := by simp [pv]; omega
          have n5 := HS2.out.part b4.out p (o.drop p) (fun j hj => by
            simp only [List.length_drop] at hj
            refine ⟨by omega, ?_⟩
            rw [List.getD_eq_getElem?_getD, List.getD_eq_getElem?_getD, List.getElem?_drop])
          have n7 : p = cap → ∀ j u, (pv (o.drop p))[j]? = some u → w4.cell? ((⟨g, 0, none⟩ : Addr).add j) = some u := fun e j u hu => by
            have : (pv (o.drop p)) = [] := List.eq_nil_of_length_eq_zero (by rw [n6]; have := HS2.out.cap.1; omega)
            rw [this] at hu; simp at hu
          rcases Nat.lt_or_eq_of_le (show p ≤ cap by omega) with hpc | hpc
          case' inl => 
            have hpc' : (p : Int) < cap := by omega
            go_wp2_with (first
              | (at_builtin; refine wpList_append_own _ rfl _ _ 33 rfl w2.heap.size 3 i0 (.int .i64 0) 1 8 Tryd.underlying33 hi0 hz0 hz1 hz2 rfl (by decide) _ (p + 1) (pv (o.take p) ++ pv [i]) rfl own2 ⟨g, p, none⟩ (i - p) (cap - p) (pv (o.drop p)) rfl n6 n5 (pv_one _) (by unfold maxLen; omega) (by omega) h4 ?_)
              | go_in)
          case' inr => 
            have n8 := n7 hpc
            clear n7 n5
            subst hpc
            go_wp2_with (first
              | (at_builtin; refine wpList_append_own _ rfl _ _ 33 rfl w2.heap.size 3 i0 (.int .i64 0) 1 8 Tryd.underlying33 hi0 hz0 hz1 hz2 rfl (by decide) _ (p + 1) (pv (o.take p) ++ pv [i]) rfl own2 ⟨g, 0, none⟩ (i - p) _ (pv (o.drop p)) rfl n6 n8 (pv_one _) (by unfold maxLen; omega) (by omega) h4 ?_)
              | go_in)
          all_goals
            intro v3 w5 own3 gr3 nn3
            have b5 : Below w2.heap.size w2 w5 := b4.out.grown gr3 h4 (fun k hk => (own2.lt k hk).1)
            rw [show p + 1 + (i - p) = i + 1 by omega] at own3
            obtain ⟨g3, c3, rfl⟩ := own_some own3 nn3
            have HN2 : Hid (Heap22 l (o.take p ++ ([i] ++ o.drop p)) (i + 1) w w5 g3 c3 blk off) :=
              ⟨HN.out, own_mono (by simpa [pv] using own3) hb2, HS2.out.below.trans (b5.mono hb2), ⟨fun j hj => by
                rw [b5.cell (p := ⟨blk, off + j, none⟩) (show blk < w2.heap.size from Nat.lt_of_lt_of_le HBl.out hb2)]; exact HS2.out.fl.cell j hj, HS2.out.fl.lt⟩⟩
            clear own3 gr3 nn3 own2 b4 b5 HS2 n6
            go_wp2
            go_roundw
            case rel => exact ⟨i + 1, _, g3, c3, by omega, by go_num, rfl, HN2⟩
            case measure => simp [intOf]; omega
    · have e : i = l.length := by omega
      subst e
      go_wp2
      go_ret
      exact ⟨o, g, cap, rfl, HS.out⟩
end Go.Proofs.YtdjkilgcgkhcdaaDoor
