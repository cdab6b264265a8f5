/-
  The reader's token.
-/
import Derived.Test.YthehjhckcblbdaaPacKc
import Derived.Test.YthehjhckcblbdaaPacKa
import Derived.Test.YthehjhckcblbdaaPacRe
import Derived.Laws.ResultCell
namespace Go.Proofs.Ythehjhckcblbdaa.Pk
set_option maxRecDepth 100000
open Go.RowKit Go.Lib Mt Ma Mb Cd Cn
/-- three cells of a box are written -/
def put3 (w : World) (b : Nat) (v0 v1 v2 : Value) : World := ((w.setCell ⟨b, 0, none⟩ v0).setCell ⟨b, 1, none⟩ v1).setCell ⟨b, 2, none⟩ v2
theorem put3_heap {w : World} {b : Nat} {x0 x1 x2 : Value} (h : w.heap[b]? = some (.cells #[x0, x1, x2] 48 (0, 0))) (v0 v1 v2 : Value) : (put3 w b v0 v1 v2).heap[b]? = some (.cells #[v0, v1, v2] 48 (0, 0)) := by
  have k0 := heap_setCell_same w b 0 _ 48 v0 h
  have k1 := heap_setCell_same _ b 1 _ 48 v1 k0
  have k2 := heap_setCell_same _ b 2 _ 48 v2 k1
  unfold put3
  rw [k2]; rfl
theorem put3_grown (w : World) (b : Nat) (v0 v1 v2 : Value) : w.grownBy (put3 w b v0 v1 v2) (some b) :=
  grown_trans (grown_trans (grown_set w b 0 v0) (grown_set _ b 1 v1)) (grown_set _ b 2 v2)
theorem infoTok1 : (Try.prog.info? 48).map (·.size) = some 3 := by kernel_rfl
theorem res_tok {fn : Func} {p : Tmp} (h : fn.results = #[.cell p 48]) (tmps : Array Value) (w : World) (g : Nat) (v0 v1 v2 : Value) (hp : tmps.getD p undef = .pointer (some ⟨g, 0, none⟩))
    (hg : w.heap[g]? = some (.cells #[v0, v1, v2] 48 (0, 0))) : (results fn tmps).run Try.prog w = .ok (.agg #[v0, v1, v2]) w :=
  results_cell_row h tmps w g 48 _ (0, 0) _ hp hg Try.underlying48 rfl infoTok1
/-- the token at a place -/
def rdTok (l : List Nat) (b : List Bool) (x : Nat) : Option (Tok × Nat) := match readN l b x with
  | none => none
  | some s => if s < 256 then some (⟨s, 0, 0⟩, x + l.getD s 0) else match takeN b (x + l.getD s 0) 8 with
    | none => none
    | some y => some (⟨0, y, (s : Int) - 253⟩, x + l.getD s 0 + 8)
/-- what token answers -/
def TokA (R : Option (Tok × Nat)) (g : Nat) (q : Option Addr) (m d : Nat) (e : Ending) (w' : World) : Prop := match R with
  | some (t, x) => e = .returned (tokV t) ∧ Rdr w' g q m d x
  | none => e = .panicked noneP
set_option maxHeartbeats 4000000 in
theorem token_code (b : List Bool) (l : List Nat) (hm : MayC l) (hl : l.length = 272) (g : Nat) (q : Option Addr) (m d x bm : Nat) (w : World) (hR : Rdr w g q m d x) (hq : Bits w g q b d) (hb : b.length = m) (hx : x ≤ m) (hM : MapL w bm l 272) (hgb : bm ≠ g) :
    Calls Try.prog 92 #[.pointer (some ⟨g, 0, none⟩), .map (some bm)] w fun e w' => w.grownBy w' (some g) ∧ TokA (rdTok l b x) g q m d e w' := by
  have hA := heap_alloc_new w (Obj.cells #[.int .i64 0, .int .i64 0, .int .i64 0] 48)
  have hga : ∀ row, w.grownBy (w.alloc (.cells #[.int .i64 0, .int .i64 0, .int .i64 0] 48)) row := fun row => World.grownBy_alloc w _ _
  have hs := symbol_code b l hm hl g q m d x bm (w.alloc (.cells #[.int .i64 0, .int .i64 0, .int .i64 0] 48)) (hR.kept (hga none) (by simp)) (hq.kept (hga none) (fun j h => by cases h)) hb hx (hM.kept (hga none) (by simp)) hgb
  have hgl := hR.lt
  have hQ : Hid (∀ w1, w.grownBy w1 (some g) → FlagsLie w1 q b d) := Lib.hid fun w1 h1 => (hq.kept h1 (fun j e => by cases e; exact .inl rfl)).lie
  have hK : Hid (∀ w1, (w.alloc (.cells #[.int .i64 0, .int .i64 0, .int .i64 0] 48)).grownBy w1 (some g) → w.grownBy w1 (some g) ∧ w1.heap[w.heap.size]? = some (.cells #[.int .i64 0, .int .i64 0, .int .i64 0] 48 (0, 0))) := Lib.hid fun w1 h1 =>
    ⟨grown_trans (hga _) h1, (h1.block w.heap.size (by simp) (fun e => by cases e; exact absurd hgl (Nat.lt_irrefl _))).trans hA⟩
  have HP : Hid (∀ w1, w.grownBy w1 (some g) → ∀ y, Rdr w1 g q m d y → ∀ v0 v1 v2, w.grownBy (put3 w1 w.heap.size v0 v1 v2) (some g) ∧ Rdr (put3 w1 w.heap.size v0 v1 v2) g q m d y) := Lib.hid fun w1 h1 y h2 v0 v1 v2 =>
    ⟨grown_two h1 (put3_grown w1 _ v0 v1 v2) (Nat.le_refl _), h2.kept (put3_grown w1 _ v0 v1 v2) (fun e => by cases e; exact absurd hgl (Nat.lt_irrefl _))⟩
  have HB := Lib.hid hb
  have HL := Lib.hid hl
  unfold SymA at hs
  unfold rdTok
  cases hr : readN l b x with
  | none =>
    rw [hr] at hs
    simp only at hs
    clear hr hA hga hR hq hM hm hl hb HP hQ
    go_enter Try.func92, Try.ntmps92
    go_wp2_with fail
    go_at_call 99
    refine hs.mono ?_
    rintro e w1 ⟨hg1, rfl⟩
    have HG := Lib.hid (hK.out w1 hg1).1
    clear hs hg1
    go_wp2
    exact ⟨rfl, HG.out, rfl⟩
  | some s =>
    rw [hr] at hs
    simp only at hs ⊢
    have hsl : s < 272 := by rw [← hl]; exact there_lt (hit_iff.1 (read_hit hr)).1
    have hxl := (hit_iff.1 (read_hit hr)).2.1
    clear hr hA hga hR hq hM hm hl hb
    by_cases h256 : s < 256
    · rw [if_pos h256]
      have z256 : (s : Int) < 256 := by omega
      clear hQ hxl
      go_enter Try.func92, Try.ntmps92
      go_wp2_with fail
      go_at_call 99
      refine hs.mono ?_
      rintro e w1 ⟨hg1, rfl, hr1⟩
      obtain ⟨hw1, hh⟩ := hK.out w1 hg1
      have c0 := cell_of_row w1 w.heap.size 0 _ 48 (0, 0) hh
      have c1 := cell_of_row w1 w.heap.size 1 _ 48 (0, 0) hh
      have c2 := cell_of_row w1 w.heap.size 2 _ 48 (0, 0) hh
      have f0 := frozen_of_row w1 w.heap.size 0 _ 48 hh
      have f1 := frozen_of_row w1 w.heap.size 1 _ 48 hh
      have f2 := frozen_of_row w1 w.heap.size 2 _ 48 hh
      simp at c0 c1 c2
      have HH := Lib.hid hh
      have HF := Lib.hid (HP.out w1 hw1 _ hr1 (.int .i64 (s : Nat)) (.int .i64 0) (.int .i64 0))
      clear hs hg1 hr1 hw1 hh HP hK
      go_wp2
      refine bodyPost_ret (res_tok rfl _ _ w.heap.size (.int .i64 (s : Nat)) (.int .i64 0) (.int .i64 0) rfl (put3_heap HH.out _ _ _)) rfl ?_
      exact ⟨HF.out.1, rfl, HF.out.2⟩
    · rw [if_neg h256]
      have z256 : (256 : Int) ≤ s := by omega
      have zs : (s : Int) ≤ 271 := by omega
      have HN := Lib.hid (fun (w1 : World) (hw1 : w.grownBy w1 (some g)) (hr1 : Rdr w1 g q m d (x + l.getD s 0)) (h : x + l.getD s 0 + 8 ≤ m) => number_yes b g q m d (x + l.getD s 0) 8 w1 hr1 (hQ.out w1 hw1) HB.out (by decide) h)
      have HO := Lib.hid (fun (w1 : World) (hw1 : w.grownBy w1 (some g)) (hr1 : Rdr w1 g q m d (x + l.getD s 0)) (h : m < x + l.getD s 0 + 8) => number_out b g q m d (x + l.getD s 0) 8 w1 hr1 (hQ.out w1 hw1) HB.out (by decide) h)
      clear hQ
      by_cases h8 : x + l.getD s 0 + 8 ≤ m
      · rw [takeN_some (by rw [HB.out]; exact h8)]
        simp only
        have hy : num ((b.drop (x + l.getD s 0)).take 8) ≤ 255 := by
          have h1 := num_lt ((b.drop (x + l.getD s 0)).take 8)
          have h2 : 2 ^ ((b.drop (x + l.getD s 0)).take 8).length ≤ 2 ^ 8 := Nat.pow_le_pow_right (by decide) (by rw [List.length_take]; omega)
          omega
        generalize num ((b.drop (x + l.getD s 0)).take 8) = y at *
        generalize x + l.getD s 0 = x2 at *
        have zy : (y : Int) ≤ 255 := by omega
        clear HO
        go_enter Try.func92, Try.ntmps92
        go_wp2_with fail
        go_at_call 99
        refine hs.mono ?_
        rintro e w1 ⟨hg1, rfl, hr1⟩
        obtain ⟨hw1, hh⟩ := hK.out w1 hg1
        have hn := HN.out w1 hw1 hr1 h8
        have e8 : ((8 : Nat) : Int) = 8 := rfl
        rw [e8] at hn
        have HG1 := Lib.hid hg1
        clear hs hr1 hw1 hh HN e8 hg1
        go_wp2_with fail
        go_at_call 100
        refine hn.mono ?_
        rintro e w2 ⟨rfl, hg2, hr2⟩
        obtain ⟨hw2, hh⟩ := hK.out w2 (grown_trans HG1.out hg2)
        have c0 := cell_of_row w2 w.heap.size 0 _ 48 (0, 0) hh
        have c1 := cell_of_row w2 w.heap.size 1 _ 48 (0, 0) hh
        have c2 := cell_of_row w2 w.heap.size 2 _ 48 (0, 0) hh
        have f0 := frozen_of_row w2 w.heap.size 0 _ 48 hh
        have f1 := frozen_of_row w2 w.heap.size 1 _ 48 hh
        have f2 := frozen_of_row w2 w.heap.size 2 _ 48 hh
        simp at c0 c1 c2
        have HH := Lib.hid hh
        have HF := Lib.hid (HP.out w2 hw2 _ hr2 (.int .i64 0) (.int .i64 (y : Nat)) (.int .i64 ((s : Int) - 253)))
        have ev : Hid ((s : Int) - 256 + 3 = (s : Int) - 253) := Lib.hid (by omega)
        clear hn hg2 hr2 hw2 hh HP hK HG1
        go_wp2
        rw [ev.out]
        refine bodyPost_ret (res_tok rfl _ _ w.heap.size (.int .i64 0) (.int .i64 (y : Nat)) (.int .i64 ((s : Int) - 253)) rfl (put3_heap HH.out _ _ _)) rfl ?_
        exact ⟨HF.out.1, rfl, HF.out.2⟩
      · rw [show takeN b (x + l.getD s 0) 8 = none from if_neg (by rw [HB.out]; exact h8)]
        simp only
        generalize x + l.getD s 0 = x2 at *
        clear HN
        go_enter Try.func92, Try.ntmps92
        go_wp2_with fail
        go_at_call 99
        refine hs.mono ?_
        rintro e w1 ⟨hg1, rfl, hr1⟩
        obtain ⟨hw1, hh⟩ := hK.out w1 hg1
        have hn := HO.out w1 hw1 hr1 (by omega)
        have e8 : ((8 : Nat) : Int) = 8 := rfl
        rw [e8] at hn
        have HG1 := Lib.hid hw1
        clear hs hr1 hw1 hh HO e8 hg1
        go_wp2_with fail
        go_at_call 100
        refine hn.mono ?_
        rintro e w2 ⟨rfl, hg2⟩
        have HG2 := Lib.hid (grown_trans HG1.out hg2)
        clear hn hg2 HP hK HG1
        go_wp2
        exact ⟨rfl, HG2.out, rfl⟩
end Go.Proofs.Ythehjhckcblbdaa.Pk

