/-
  Telling how deep a tree's symbols are.
-/
import Derived.Test.YtengkkbiceennaaHufTk
namespace Go.Proofs.Ytengkkbiceennaa
open Go.RowKit Go.Lib Hf
set_option maxRecDepth 100000

/-- how deep the symbols of a tree are, laid down; 1 at least -/
def paint (D : List Nat) : T → Nat → List Nat
  | .leaf i _, d => D.set i (max d 1)
  | .node x y, d => paint (paint D x (d + 1)) y (d + 1)
theorem paint_length : ∀ (t : T) (D : List Nat) (d : Nat), (paint D t d).length = D.length
  | .leaf _ _, _, _ => List.length_set
  | .node x y, _, _ => (paint_length y _ _).trans (paint_length x _ _)
theorem paint_none : ∀ (t : T) (D : List Nat) (d i : Nat), i ∉ t.syms → (paint D t d).getD i 0 = D.getD i 0
  | .leaf j _, D, d, i, h => by
    have : i ≠ j := fun e => h (by simp [T.syms, e])
    unfold paint
    rw [List.getD_eq_getElem?_getD, List.getD_eq_getElem?_getD, List.getElem?_set_ne (fun e => this e.symm)]
  | .node x y, D, d, i, h => by
    have h1 : i ∉ x.syms := fun k => h (by simp [T.syms, k])
    have h2 : i ∉ y.syms := fun k => h (by simp [T.syms, k])
    exact (paint_none y _ _ i h2).trans (paint_none x _ _ i h1)
theorem paint_at : ∀ (t : T) (D : List Nat) (d i : Nat), t.syms.Nodup → i ∈ t.syms → i < D.length → (paint D t d).getD i 0 = max (d + t.dep i) 1
  | .leaf j _, D, d, i, _, h, hl => by
    have e : i = j := by simpa [T.syms] using h
    subst e
    unfold paint
    rw [List.getD_eq_getElem?_getD, List.getElem?_set_self hl]
    rfl
  | .node x y, D, d, i, hn, h, hl => by
    have hn' : (x.syms ++ y.syms).Nodup := hn
    have n1 := (List.nodup_append.1 hn').1
    have n2 := (List.nodup_append.1 hn').2.1
    unfold paint
    rcases List.mem_append.1 (show i ∈ x.syms ++ y.syms from h) with h1 | h1
    · have h2 : i ∉ y.syms := fun k => (List.nodup_append.1 hn').2.2 i h1 i k rfl
      rw [paint_none y _ _ i h2, paint_at x D _ i n1 h1 hl, dep_left hn' h1]; omega
    · rw [paint_at y _ _ i n2 h1 (by rw [paint_length]; exact hl), dep_right hn' h1]; omega

def intsN (D : List Nat) : List Value := D.map fun x : Nat => Value.int .i64 (x : Int)
theorem ints_set (D : List Nat) (i d : Nat) : intsN (D.set i d) = (intsN D).set i (.int .i64 (d : Nat)) := by unfold intsN; rw [List.map_set]

theorem part_zero (u v : Value) (w : World) : (Instr.index 47 (.agg #[u, v]) (.int .i64 0)).run Try.prog w = .ok u w := by kernel_rfl
theorem part_one (u v : Value) (w : World) : (Instr.index 47 (.agg #[u, v]) (.int .i64 1)).run Try.prog w = .ok v w := by kernel_rfl
theorem Lies.row {w w' : World} {S : Nat} {cur : Array Value} {fr : Nat × Nat} (hO : Only S w w') (hS : w.heap[S]? = some (.cells cur 3 fr)) {t : T} {b : Nat} (h : Lies w b t) : Lies w' b t :=
  h.keep fun b c hb => by
    rw [hO.block b (fun e => by subst e; rw [hS] at hb; cases hb)]
    exact hb

set_option maxHeartbeats 4000000 in
theorem note_at (B R n c : Nat) : ∀ (t : T) (b d : Nat) (D : List Nat) (w : World), (∀ i ∈ t.syms, i < n) → D.length = n → n ≤ 1000 → d + t.h ≤ 1000 → Lies w b t → w.ownsRow B 3 1 (.slice (some ⟨R, 0, none⟩) n c) n (intsN D) →
    Calls Try.prog 27 #[.pointer (some ⟨b, 0, none⟩), .slice (some ⟨R, 0, none⟩) n c, .int .i64 (d : Nat)] w fun e w' => e = .returned (.tuple #[]) ∧ Only R w w' ∧ w'.ownsRow B 3 1 (.slice (some ⟨R, 0, none⟩) n c) n (intsN (paint D t d))
  | .leaf i k, b, d, D, w, hi, hD, hn, hd, hL, ho => by
    have hin : i < n := hi i (by simp [T.syms])
    have c1 : w.cell? ⟨b, 1, none⟩ = some (.int .i64 (i : Nat)) := cell_of_row w b 1 _ 49 (0, 0) hL
    have c2 : w.cell? ⟨b, 2, none⟩ = some (.pointer none) := cell_of_row w b 2 _ 49 (0, 0) hL
    have c3 : w.cell? ⟨R, i, none⟩ = (intsN D)[i]? := ho.cellAt i (by omega)
    have c4 : w.cell? ⟨R, i, none⟩ = some (.int .i64 (D.getD i 0 : Nat)) := by
      rw [c3]; unfold intsN
      rw [List.getElem?_map, List.getD_eq_getElem?_getD, List.getElem?_eq_getElem (by omega : i < D.length)]; rfl
    have c5 := ho.frozenAt i
    obtain ⟨m, hm⟩ : ∃ m, m = max d 1 := ⟨_, rfl⟩
    have HO := Lib.hid (ho.stored i (.int .i64 (m : Nat))).1
    have em : max (d : Int) 1 = (m : Int) := by omega
    have Hm := Lib.hid hm
    clear ho c3 hL hi hd hm
    go_enter Try.func27, Try.ntmps27
    go_wp2
    refine bodyPost_ret (results_none rfl _ _ _) rfl ?_
    refine ⟨rfl, (Only.refl R w).setCell (p := ⟨R, i, none⟩) rfl _, ?_⟩
    show World.ownsRow _ _ _ _ _ _ (intsN (D.set i (max d 1)))
    rw [ints_set, ← Hm.out]
    exact HO.out
  | .node x y, b, d, D, w, hi, hD, hn, hd, hL, ho => by
    obtain ⟨p, q, h0, hx, hy⟩ := hL
    have c1 : w.cell? ⟨b, 2, none⟩ = some (.pointer (some ⟨p, 0, none⟩)) := cell_of_row w b 2 _ 49 (0, 0) h0
    have c2 : w.cell? ⟨b, 3, none⟩ = some (.pointer (some ⟨q, 0, none⟩)) := cell_of_row w b 3 _ 49 (0, 0) h0
    have hh : max x.h y.h + 1 = (T.node x y).h := rfl
    have hxi : ∀ i ∈ x.syms, i < n := fun i h => hi i (List.mem_append_left _ h)
    have hyi : ∀ i ∈ y.syms, i < n := fun i h => hi i (List.mem_append_right _ h)
    have ihx := fun (D : List Nat) (w : World) hD hL ho => note_at B R n c x p (d + 1) D w hxi hD hn (by omega) hL ho
    have ihy := fun (D : List Nat) (w : World) hD hL ho => note_at B R n c y q (d + 1) D w hyi hD hn (by omega) hL ho
    have IX := Lib.hid ihx
    have IY := Lib.hid ihy
    have zd : (d : Int) ≤ 1000 := by omega
    obtain ⟨cur, hS⟩ := row_cells ho
    have HS := Lib.hid hS
    have HX := Lib.hid hx
    have HY := Lib.hid hy
    have HO := Lib.hid ho
    have HD := Lib.hid hD
    clear ihx ihy hxi hyi hh h0 hx hy hi hd hS ho hD
    have i0 := fun w => part_zero (.pointer (some ⟨p, 0, none⟩)) (.pointer (some ⟨q, 0, none⟩)) w
    have i1 := fun w => part_one (.pointer (some ⟨p, 0, none⟩)) (.pointer (some ⟨q, 0, none⟩)) w
    go_enter Try.func27, Try.ntmps27
    go_wp2
    go_loopw [26] (fun v wr => ∃ k : Nat, v = .int .i64 k ∧ k ≤ 2 ∧ Hid (Only R w wr) ∧ Hid (wr.ownsRow B 3 1 (.slice (some ⟨R, 0, none⟩) n c) n (intsN (if k = 0 then D else if k = 1 then paint D x (d + 1) else paint (paint D x (d + 1)) y (d + 1))))) (fun v _ => 2 - (RowKit.intOf v).toNat)
    case atStart => exact ⟨0, rfl, by omega, Only.refl R w, HO.out⟩
    case round =>
      obtain ⟨k, rfl, hk, hO, hr⟩ := hrel
      rcases (show k = 0 ∨ k = 1 ∨ k = 2 by omega) with rfl | rfl | rfl
      · have r0 := hr.out
        rw [if_pos rfl] at r0
        have c3 := IX.out D wr HD.out (HX.out.row hO.out HS.out) r0
        rw [show ((d + 1 : Nat) : Int) = (d : Int) + 1 by omega] at c3
        clear r0
        go_wp2_with fail
        go_at_call 27
        refine c3.mono ?_
        rintro e w2 ⟨rfl, hO2, hr2⟩
        have HO2 := Lib.hid (hO.out.trans hO2)
        have HR2 := Lib.hid hr2
        clear hO2 hr2 c3
        go_wp2
        go_roundw
        case measure => simp [RowKit.intOf]
        case rel => exact ⟨1, rfl, by omega, HO2.out, by rw [if_neg (by decide), if_pos rfl]; exact HR2.out⟩
      · have r0 := hr.out
        rw [if_neg (by decide), if_pos rfl] at r0
        have c3 := IY.out (paint D x (d + 1)) wr (by rw [paint_length]; exact HD.out) (HY.out.row hO.out HS.out) r0
        rw [show ((d + 1 : Nat) : Int) = (d : Int) + 1 by omega] at c3
        clear r0
        go_wp2_with fail
        go_at_call 27
        refine c3.mono ?_
        rintro e w2 ⟨rfl, hO2, hr2⟩
        have HO2 := Lib.hid (hO.out.trans hO2)
        have HR2 := Lib.hid hr2
        clear hO2 hr2 c3
        go_wp2
        go_roundw
        case measure => simp [RowKit.intOf]
        case rel => exact ⟨2, rfl, by omega, HO2.out, by rw [if_neg (by decide), if_neg (by decide)]; exact HR2.out⟩
      · go_wp2
        go_end0
        refine ⟨rfl, hO.out, ?_⟩
        have r0 := hr.out
        rw [if_neg (by decide), if_neg (by decide)] at r0
        exact r0
end Go.Proofs.Ytengkkbiceennaa
