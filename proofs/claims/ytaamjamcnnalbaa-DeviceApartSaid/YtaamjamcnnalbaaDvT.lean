/-
  slices.Backward over writes: what its iterator hands over, whatever the loop's body does that keeps what lay below.
-/
import Derived.RangeFuncNested
import Derived.RangeFuncLeaves
import Derived.Shelf.Abstract
import Derived.WalkKit
import Derived.OwnWalkIn
import Derived.TacticsInMore
import Derived.LoopNIn
import Derived.LoopIn
import Derived.Test.YtaamjamcnnalbaaDvS
namespace Go.Proofs.Ytaamjamcnnalbaa.Dv
set_option maxRecDepth 100000
open Go.RowKit Go.Lib Go.Shelf
attribute [local go_sem] Oper.semAt_some
/-- a text that is not too long -/
abbrev Txt := { s : ByteArray // s.size ≤ 1000 }
/-- what a round is handed: a place, and the write there -/
abbrev Itm := Nat × Int × Txt
def encI (x : Itm) : Array Value := #[.int .i64 (x.1 : Int), .agg #[.int .i64 x.2.1, .string x.2.2.1]]
def noTxt : Txt := ⟨⟨#[]⟩, by decide⟩
def itm (c : List (Int × ByteArray)) (hc : ∀ p ∈ c, p.2.size ≤ 1000) (k : Nat) : Itm :=
  if h : k < c.length then (c.length - 1 - k, (c[c.length - 1 - k]'(by omega)).1, ⟨(c[c.length - 1 - k]'(by omega)).2, hc _ (List.getElem_mem (by omega))⟩) else (0, 0, noTxt)
def upto {α : Type} (f : Nat → α) (k : Nat) : List α := (List.range k).map f
theorem upto_succ {α : Type} (f : Nat → α) (k : Nat) : upto f (k + 1) = upto f k ++ [f k] := by simp [upto, List.range_succ]
theorem upto_length {α : Type} (f : Nat → α) (k : Nat) : (upto f k).length = k := by simp [upto]
set_option maxHeartbeats 2000000 in
theorem back1_in (F : Fence) (n : Nat) (h44 : F.fn 44) (hro : F.round = none) (hn : 1 ≤ n) (l Bs n₀ b off cap : Nat) (c : List (Int × ByteArray)) (hc : ∀ p ∈ c, p.2.size ≤ 1000) (hl : c.length ≤ 1000000) (hb : b < n₀) (hBn : Bs < n₀) (_hcap : c.length ≤ cap) (J Jx : List Itm → World → Prop)
    (hY : ∀ pre x W, J pre W → pre.length < c.length → YieldAt F (n - 1) Try.prog l (encI x) W fun e W' =>
      (e = .returned (.bool true) ∧ J (pre ++ [x]) W' ∧ Below n₀ W W') ∨ (e = .returned (.bool false) ∧ Jx (pre ++ [x]) W'))
    (W : World) (hBs : W.cell? ⟨Bs, 0, none⟩ = some (.slice (some ⟨b, off, none⟩) c.length cap)) (hcs : SAt putS W b off c) (h0 : J [] W) :
    CallsIn F n Try.prog 44 #[.func (.yield l) #[] #[], .pointer (some ⟨Bs, 0, none⟩)] W fun e W' => (∃ v, e = .returned v) ∧
      ((∃ ys, ys = upto (itm c hc) c.length ∧ J ys W') ∨ (∃ pre, (∃ k, k ≤ c.length ∧ pre = upto (itm c hc) k) ∧ Jx pre W')) := by
  have zl : (c.length : Int) ≤ 1000000 := by omega
  refine callsIn_of_wp Try.func44 rfl h44 ?_ hro
  simp only [Try.ntmps44, List.size_toArray, List.length_cons, List.length_nil, Nat.reduceAdd, Nat.reduceSub, Array.replicate_succ, Array.replicate_zero, List.push_toArray, List.append_toArray, List.nil_append, List.cons_append]
  gi_wp2
  gi_loopw [3] (fun i wr => ∃ k : Nat, k ≤ c.length ∧ ((∃ j : Nat, k + j + 1 = c.length ∧ i = .int .i64 j) ∨ (k = c.length ∧ i = .int .i64 (-1))) ∧ J (upto (itm c hc) k) wr ∧ Below n₀ W wr)
    (fun i _ => (RowKit.intOf i + 1).toNat)
  case atStart =>
    refine ⟨0, Nat.zero_le _, ?_, h0, Below.refl _ _⟩
    by_cases h : c.length = 0
    · exact .inr ⟨h.symm, by rw [h]; rfl⟩
    · exact .inl ⟨c.length - 1, by omega, by rw [show ((c.length - 1 : Nat) : Int) = (c.length : Int) - 1 by omega]⟩
  case round =>
    obtain ⟨k, hk, hi, hJs, hnx⟩ := hrel
    have hBs' := (hnx.cell (p := ⟨Bs, 0, none⟩) hBn).trans hBs
    rcases hi with ⟨j, hj, rfl⟩ | ⟨rfl, rfl⟩
    · have hkl : k < c.length := by omega
      have hjl : j < c.length := by omega
      obtain ⟨x, hx⟩ : ∃ x, x = itm c hc k := ⟨_, rfl⟩
      have hs := upto_succ (itm c hc) k
      rw [← hx] at hs
      have hx2 : x = (j, c[j].1, ⟨c[j].2, hc _ (List.getElem_mem hjl)⟩) := by
        rw [hx]; unfold itm; rw [dif_pos hkl]
        have e : c.length - 1 - k = j := by omega
        subst e; rfl
      have cx0 := (hnx.cell (p := ⟨b, off + j * 2, none⟩) hb).trans (put_at hcs hjl).1
      have cx1 := (hnx.cell (p := ⟨b, off + j * 2 + 1, none⟩) hb).trans (put_at hcs hjl).2
      obtain ⟨x1, x2, x3, hx3⟩ := x
      cases hx2
      generalize c[j].1 = x2 at *
      generalize c[j].2 = x3 at *
      obtain ⟨fn, tmps, assign, body, hy, hR⟩ := hY (upto (itm c hc) k) (j, x2, ⟨x3, hx3⟩) wr hJs (by rw [upto_length]; exact hkl)
      unfold encI at hy
      dsimp only at hy
      have zj : (j : Int) < c.length := by omega
      have zj0 : (0 : Int) ≤ j := by omega
      clear hx
      gi_wp2
      refine hR.mono ?_
      rintro e W3 (⟨rfl, hJ3, hk3⟩ | ⟨rfl, hJx3⟩)
      · gi_wp2
        go_roundw
        case rel =>
          refine ⟨k + 1, by omega, ?_, by rw [hs]; exact hJ3, hnx.trans hk3⟩
          by_cases h : j = 0
          · subst h; exact .inr ⟨by omega, by simp⟩
          · exact .inl ⟨j - 1, by omega, by rw [show ((j - 1 : Nat) : Int) = (j : Int) - 1 by omega]⟩
        case measure => simp [RowKit.intOf]
      · gi_wp2
        refine bodyPost_ret (results_none rfl _ _ _) rfl ?_
        exact ⟨⟨_, rfl⟩, .inr ⟨_, ⟨k + 1, by omega, hs.symm⟩, hJx3⟩⟩
    · gi_wp2
      go_end0
      exact ⟨⟨_, rfl⟩, .inl ⟨_, rfl, hJs⟩⟩
set_option maxHeartbeats 1000000 in
theorem back1_nil_in (F : Fence) (n : Nat) (h44 : F.fn 44) (hro : F.round = none) (l Bs : Nat) (p : Option Addr) (cap : Nat) (J : List Itm → World → Prop) (W : World) (hBs : W.cell? ⟨Bs, 0, none⟩ = some (.slice p 0 cap)) (h0 : J [] W) :
    CallsIn F n Try.prog 44 #[.func (.yield l) #[] #[], .pointer (some ⟨Bs, 0, none⟩)] W fun e W' => (∃ v, e = .returned v) ∧ J [] W' := by
  refine callsIn_of_wp Try.func44 rfl h44 ?_ hro
  simp only [Try.ntmps44, List.size_toArray, List.length_cons, List.length_nil, Nat.reduceAdd, Nat.reduceSub, Array.replicate_succ, Array.replicate_zero, List.push_toArray, List.append_toArray, List.nil_append, List.cons_append]
  gi_wp2
  gi_loopw [3] (fun i wr => i = .int .i64 (-1) ∧ J [] wr) (fun _ _ => 0)
  case atStart => exact ⟨rfl, h0⟩
  case round =>
    obtain ⟨rfl, hJs⟩ := hrel
    gi_wp2
    go_end0
    exact ⟨⟨_, rfl⟩, hJs⟩
set_option maxHeartbeats 1000000 in
theorem back_in (F : Fence) (n : Nat) (h31 : F.fn 31) (hro : F.round = none) (a : Option Addr) (len cap : Nat) (w : World) :
    CallsIn F n Try.prog 31 #[.slice a len cap] w fun e w' => e = .returned (.func (.func 44) #[] #[.pointer (some ⟨w.heap.size, 0, none⟩)]) ∧ w' = w.alloc (.cells #[.slice a len cap] 23) := by
  refine callsIn_of_wp Try.func31 rfl h31 ?_ hro
  simp only [Try.ntmps31, List.size_toArray, List.length_cons, List.length_nil, Nat.reduceAdd, Nat.reduceSub, Array.replicate_succ, Array.replicate_zero, List.push_toArray, List.append_toArray, List.nil_append, List.cons_append]
  gi_wp2
  go_ret
  exact ⟨rfl, rfl⟩
theorem back_stops (F : Fence) (n : Nat) (h44 : F.fn 44) (hro : F.round = none) (hn : 1 ≤ n) (Bs : Nat) (p : Option Addr) (cap : Nat) (c : List (Int × ByteArray)) (hc : ∀ p ∈ c, p.2.size ≤ 1000) (hl : c.length ≤ 1000000) (w : World) (hBs : Bs < w.heap.size)
    (hcell : w.cell? ⟨Bs, 0, none⟩ = some (.slice p c.length cap)) (hS : SLie putS w p c cap) :
    SeqStopsK F n Try.prog 44 #[.pointer (some ⟨Bs, 0, none⟩)] encI (Below w.heap.size) (fun ys => ys = upto (itm c hc) c.length) (fun pre => ∃ k, k ≤ c.length ∧ pre = upto (itm c hc) k) c.length w := fun l J Jx W hW _ _ hY h0 => by
  have hc' := (hW.cell (p := ⟨Bs, 0, none⟩) hBs).trans hcell
  by_cases he : c = []
  · subst he
    exact (back1_nil_in F n h44 hro l Bs p cap J W hc' h0).mono fun e W' ⟨h, hj⟩ => ⟨h, .inl ⟨_, rfl, hj⟩⟩
  · obtain ⟨b, off, rfl, hcs⟩ := hS.at (i := 0) (List.length_pos_iff.2 he)
    have hb : b < w.heap.size := World.block_lt_of_cell? w _ (put_at hcs (List.length_pos_iff.2 he)).1
    exact back1_in F n h44 hro hn l Bs w.heap.size b off cap c hc hl hb hBs hS.len J Jx hY W hc' (hcs.below hW) h0
end Go.Proofs.Ytaamjamcnnalbaa.Dv
