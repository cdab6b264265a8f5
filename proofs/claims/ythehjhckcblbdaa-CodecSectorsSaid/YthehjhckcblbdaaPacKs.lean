/-
  The reader's symbol: bit by bit, till it is a symbol's code.
-/
import Derived.Test.YthehjhckcblbdaaPacKb
import Derived.Maps.OwnOps
import Derived.Deep.RegionLaw
import Derived.Deep.AppendLies
namespace Go.Proofs.Ythehjhckcblbdaa.Pk
set_option maxRecDepth 100000
open Go.RowKit Go.Lib Mb Cd Cn
/-- bits that lie apart from a reader -/
structure Bits (w : World) (g : Nat) (q : Option Addr) (b : List Bool) (d : Nat) : Prop where
  lie : FlagsLie w q b d
  apart : b = [] ∨ ∀ blk off, q = some ⟨blk, off, Option.none⟩ → blk < w.heap.size ∧ blk ≠ g
theorem Bits.kept {w w' : World} {g d : Nat} {q : Option Addr} {b : List Bool} {row : Option Nat} (h : Bits w g q b d) (hg : w.grownBy w' row) (hr : ∀ j, row = some j → j = g ∨ w.heap.size ≤ j) : Bits w' g q b d := by
  rcases h.apart with rfl | ha
  · exact ⟨⟨h.lie.len, h.lie.cap, .inl rfl⟩, .inl rfl⟩
  · refine ⟨⟨h.lie.len, h.lie.cap, h.lie.lies.imp id fun ⟨blk, off, e, hc⟩ => ⟨blk, off, e, fun i hi => ?_⟩⟩, .inr fun blk off e => ⟨by have := (ha blk off e).1; have := hg.size; omega, (ha blk off e).2⟩⟩
    obtain ⟨h1, h2⟩ := ha blk off e
    rw [grown_cell hg h1 (fun e => by rcases hr blk e.symm with z | z <;> omega)]
    exact hc i hi
theorem grown_drew {w w' : World} {row : Option Nat} (h : w.drew.grownBy w' row) : w.grownBy w' row := ⟨h.os, h.tape, h.output, h.size, h.block⟩
theorem grown_refl (w : World) (row : Option Nat) : w.grownBy w row := ⟨rfl, rfl, rfl, Nat.le_refl _, fun _ _ _ => rfl⟩
theorem grown_two {a b c : World} {g j : Nat} (h : a.grownBy b (some g)) (k : b.grownBy c (some j)) (hj : a.heap.size ≤ j) : a.grownBy c (some g) :=
  ⟨k.os.trans h.os, k.tape.trans h.tape, k.output.trans h.output, Nat.le_trans h.size k.size, fun i hi hne => (k.block i (by have := h.size; omega) (fun e => by cases e; omega)).trans (h.block i hi hne)⟩
theorem grown_trans {a b c : World} {row : Option Nat} (h : a.grownBy b row) (k : b.grownBy c row) : a.grownBy c row :=
  ⟨k.os.trans h.os, k.tape.trans h.tape, k.output.trans h.output, Nat.le_trans h.size k.size, fun i hi hne => (k.block i (by have := h.size; omega) hne).trans (h.block i hi hne)⟩
theorem grown_set (w : World) (c o : Nat) (v : Value) : w.grownBy (w.setCell ⟨c, o, none⟩ v) (some c) :=
  ⟨rfl, rfl, rfl, by simp, fun j _ hj => heap_setCell_other w ⟨c, o, none⟩ j v (fun e => hj (by simp [e]))⟩
theorem num_next (b : List Bool) (x k : Nat) (h : x + k + 1 ≤ b.length) : num ((b.drop x).take (k + 1)) = 2 * num ((b.drop x).take k) + num ((b.drop (x + k)).take 1) := by
  rw [List.take_add, num_append, List.drop_drop, List.length_take, List.length_drop, Nat.min_eq_left (by omega)]
  omega
theorem num_small (b : List Bool) (x k : Nat) (hk : k ≤ 15) : num ((b.drop x).take k) ≤ 32767 := by
  have h1 := num_lt ((b.drop x).take k)
  have h2 : 2 ^ ((b.drop x).take k).length ≤ 2 ^ 15 := Nat.pow_le_pow_right (by decide) (by rw [List.length_take]; omega)
  omega
theorem hits_next {l : List Nat} {b : List Bool} {x k : Nat} (h : ∀ i, l.getD i 0 ≤ k → hit l b x i = false) (hno : ∀ i, i < l.length → 0 < l.getD i 0 → ¬ (l.getD i 0 = k + 1 ∧ bitsOf l i = num ((b.drop x).take (k + 1)))) : ∀ i, l.getD i 0 ≤ k + 1 → hit l b x i = false := by
  intro i hi
  by_cases e : l.getD i 0 ≤ k
  · exact h i e
  · have e2 : l.getD i 0 = k + 1 := by omega
    cases hh : hit l b x i with
    | false => rfl
    | true =>
      obtain ⟨h1, h2, h3⟩ := hit_iff.1 hh
      rw [e2] at h3
      exact absurd ⟨e2, h3.symm⟩ (hno i (there_lt h1) h1)
theorem hits_short {l : List Nat} {b : List Bool} {x k : Nat} (h : ∀ i, l.getD i 0 ≤ k → hit l b x i = false) (hb : b.length < x + k + 1) : readN l b x = none :=
  read_none fun i => by
    by_cases e : l.getD i 0 ≤ k
    · exact h i e
    · cases hh : hit l b x i with
      | false => rfl
      | true => obtain ⟨_, h2, _⟩ := hit_iff.1 hh; omega
theorem hits_all {l : List Nat} (hl : ∀ i, l.getD i 0 ≤ 15) {b : List Bool} {x : Nat} (h : ∀ i, l.getD i 0 ≤ 15 → hit l b x i = false) : readN l b x = none :=
  read_none fun i => h i (hl i)
/-- what symbol answers -/
def SymA (l : List Nat) (b : List Bool) (g : Nat) (q : Option Addr) (m d x : Nat) (e : Ending) (w' : World) : Prop := match readN l b x with
  | some i => e = .returned (.int .i64 (i : Nat)) ∧ Rdr w' g q m d (x + l.getD i 0)
  | none => e = .panicked noneP
/-- a symbol's round -/
structure SymR (w wr : World) (g : Nat) (q : Option Addr) (b : List Bool) (m d x bm : Nat) (l : List Nat) (k : Nat) : Prop where
  c0 : wr.cell? ⟨w.heap.size, 0, none⟩ = some (.int .i64 (k : Nat))
  c1 : wr.cell? ⟨w.heap.size, 1, none⟩ = some (.int .i64 (num ((b.drop x).take k) : Nat))
  f0 : wr.frozen? ⟨w.heap.size, 0, none⟩ = false
  f1 : wr.frozen? ⟨w.heap.size, 1, none⟩ = false
  rdr : Rdr wr g q m d (x + k)
  bits : Bits w g q b d
  map : MapL w bm l 272
  grown : w.grownBy wr (some g)
  none : ∀ i, l.getD i 0 ≤ k → hit l b x i = false
  le : x + k ≤ m
  gl : g < w.heap.size
  bl : bm < w.heap.size
  gb : bm ≠ g
theorem SymR.start {w : World} {g : Nat} {q : Option Addr} {b : List Bool} {m d x bm : Nat} {l : List Nat} (hR : Rdr w g q m d x) (hq : Bits w g q b d) (hM : MapL w bm l 272) (hgb : bm ≠ g) (hx : x ≤ m) :
    SymR w (w.alloc (.cells #[.int .i64 0, .int .i64 0] 58)) g q b m d x bm l 0 := by
  have e := heap_alloc_new w (Obj.cells #[.int .i64 0, .int .i64 0] 58)
  have hg : ∀ row, w.grownBy (w.alloc (.cells #[.int .i64 0, .int .i64 0] 58)) row := fun row => World.grownBy_alloc w _ _
  refine ⟨by rw [cell_of_row _ _ _ _ 58 (0, 0) e]; rfl, by rw [cell_of_row _ _ _ _ 58 (0, 0) e]; rfl, frozen_of_row _ _ _ _ 58 e, frozen_of_row _ _ _ _ 58 e, hR.kept (hg Option.none) (by simp), hq, hM, hg _, fun i hi => ?_, hx, hR.lt, hM.lt, hgb⟩
  cases hh : hit l b x i with
  | false => rfl
  | true => obtain ⟨h1, _⟩ := hit_iff.1 hh; omega
/-- what the reader's number leaves, and the code behind the store -/
theorem SymR.next {w wr w1 : World} {g : Nat} {q : Option Addr} {b : List Bool} {m d x bm : Nat} {l : List Nat} {k : Nat} (h : SymR w wr g q b m d x bm l k) (hg : wr.drew.grownBy w1 (some g)) (hR : Rdr w1 g q m d (x + k + 1)) (hm : x + k + 1 ≤ m) (v : Nat) (hv : v = num ((b.drop x).take (k + 1)))
    (hno : ∀ i, l.getD i 0 ≤ k + 1 → hit l b x i = false) :
    SymR w ((w1.setCell ⟨w.heap.size, 0, Option.none⟩ (.int .i64 ((k + 1 : Nat) : Int))).setCell ⟨w.heap.size, 1, Option.none⟩ (.int .i64 (v : Nat))) g q b m d x bm l (k + 1) := by
  have hg1 := grown_drew hg
  have hcs : w.heap.size < wr.heap.size := World.block_lt_of_cell? wr ⟨w.heap.size, 0, Option.none⟩ h.c0
  have hne : some w.heap.size ≠ some g := fun e => by cases e; exact absurd h.gl (Nat.lt_irrefl _)
  have c0 := (grown_cell hg1 hcs hne 0).trans h.c0
  have c1 := (grown_cell hg1 hcs hne 1).trans h.c1
  have f0 := (grown_fro hg1 hcs hne 0).trans h.f0
  have f1 := (grown_fro hg1 hcs hne 1).trans h.f1
  have s1 := grown_set w1 w.heap.size 0 (.int .i64 ((k + 1 : Nat) : Int))
  have s2 := grown_set (w1.setCell ⟨w.heap.size, 0, Option.none⟩ (.int .i64 ((k + 1 : Nat) : Int))) w.heap.size 1 (.int .i64 (v : Nat))
  have s12 := grown_trans s1 s2
  have hs1 : wr.heap.size ≤ w1.heap.size := hg1.size
  subst hv
  refine ⟨?_, ?_, ?_, ?_, ?_, h.bits, h.map, ?_, hno, hm, h.gl, h.bl, h.gb⟩
  · exact (World.cell?_setCell_other _ _ _ _ (by simp)).trans (World.cell?_setCell_same _ _ _ c0)
  · exact World.cell?_setCell_same _ _ _ ((World.cell?_setCell_other _ _ _ _ (by simp)).trans c1)
  · exact ((World.frozen?_setCell _ _ _ _).trans (World.frozen?_setCell _ _ _ _)).trans f0
  · exact ((World.frozen?_setCell _ _ _ _).trans (World.frozen?_setCell _ _ _ _)).trans f1
  · exact hR.kept s12 (fun e => hne e.symm)
  · exact grown_two (grown_trans h.grown hg1) s12 (Nat.le_refl _)
theorem SymR.lies {w wr : World} {g : Nat} {q : Option Addr} {b : List Bool} {m d x bm : Nat} {l : List Nat} {k : Nat} (h : SymR w wr g q b m d x bm l k) : FlagsLie wr q b d :=
  (h.bits.kept h.grown (fun j e => by cases e; exact .inl rfl)).lie
theorem SymR.mapl {w wr : World} {g : Nat} {q : Option Addr} {b : List Bool} {m d x bm : Nat} {l : List Nat} {k : Nat} (h : SymR w wr g q b m d x bm l k) : MapL wr bm l 272 :=
  h.map.kept h.grown (fun e => h.gb (by cases e; rfl))
theorem SymR.leaves {w wr w1 : World} {g : Nat} {q : Option Addr} {b : List Bool} {m d x bm y : Nat} {l : List Nat} {k : Nat} (h : SymR w wr g q b m d x bm l k) (hg : wr.drew.grownBy w1 (some g)) (hR : Rdr w1 g q m d y) (v1 v2 : Value) :
    w.grownBy ((w1.setCell ⟨w.heap.size, 0, Option.none⟩ v1).setCell ⟨w.heap.size, 1, Option.none⟩ v2) (some g) ∧ Rdr ((w1.setCell ⟨w.heap.size, 0, Option.none⟩ v1).setCell ⟨w.heap.size, 1, Option.none⟩ v2) g q m d y ∧ MapL ((w1.setCell ⟨w.heap.size, 0, Option.none⟩ v1).setCell ⟨w.heap.size, 1, Option.none⟩ v2) bm l 272 := by
  have hg1 := grown_drew hg
  have hne : some w.heap.size ≠ some g := fun e => by cases e; exact absurd h.gl (Nat.lt_irrefl _)
  have s12 := grown_trans (grown_set w1 w.heap.size 0 v1) (grown_set (w1.setCell ⟨w.heap.size, 0, Option.none⟩ v1) w.heap.size 1 v2)
  have hw := grown_two (grown_trans h.grown hg1) s12 (Nat.le_refl _)
  exact ⟨hw, hR.kept s12 (fun e => hne e.symm), h.map.kept hw (fun e => h.gb (by cases e; rfl))⟩
theorem body_panic {P : Program} {f : Func} {Q : Ending → World → Prop} {ps : List PanicEntry} {a : Act} {w : World} (hd : a.defers = []) (h : Q (.panicked ps) w) : bodyPost P f Q (Exit.panic ps) a w := ⟨hd, h⟩
/-- a call that panics, within a region that draws its order: the way behind it is never gone (for the walk alone, which wants one) -/
theorem calls_dies {P : Program} {F : FuncId} {args : Array Value} {w : World} {Q : Ending → World → Prop} {ps : List PanicEntry} {R : World → Prop} (v : Value) (h : Calls P F args w fun e w' => e = .panicked ps ∧ R w')
    (hp : ∀ w', R w' → Q (.panicked ps) w') (_ : Hid False → Q (.returned v) w) : Calls P F args w Q :=
  h.mono fun e w' ⟨he, hr⟩ => by subst he; exact hp w' hr
theorem wpList_lookup_run {P : Program} (w : World) {ops : Array Oper} {rest : List Oper} {o : Oper} {a : Act} {Q : Exit → Act → World → Prop}
    (hg : o.guard = none) (m x : Operand) (t : TypeId) (hop : o.op = Op.lookup t m x true) (mv key v : Value) (hm : a.eval m = mv) (hx : a.eval x = key)
    (hrun : (Instr.lookup t mv key true).run P w = .ok v w) (hK : wpList P ops Q rest (a.put o.dst v) w) : wpList P ops Q (o :: rest) a w := by
  refine wpList_plain hg fun K' hK' => ?_
  unfold Oper.wp
  simp [execOp, hop, hm, hx, hrun, Result.andThen]
  exact hK' _ _ hK
set_option maxHeartbeats 4000000 in
theorem symbol_code (b : List Bool) (l : List Nat) (hm : MayC l) (hl : l.length = 272) (g : Nat) (q : Option Addr) (m d x bm : Nat) (w : World) (hR : Rdr w g q m d x) (hq : Bits w g q b d) (hb : b.length = m) (hx : x ≤ m) (hM : MapL w bm l 272) (hgb : bm ≠ g) :
    Calls Try.prog 99 #[.pointer (some ⟨g, 0, none⟩), .map (some bm)] w fun e w' => w.grownBy w' (some g) ∧ SymA l b g q m d x e w' := by
  have H0 := Lib.hid (SymR.start hR hq hM hgb hx)
  have HM := Lib.hid hm
  have HL := Lib.hid hl
  have HB := Lib.hid hb
  clear hR hq hM hm hl hb hx
  go_enter Try.func99, Try.ntmps99
  go_wp2
  go_loopg [7] 15 (fun gg v wr => ∃ k : Nat, Hid (k + gg = 15) ∧ Hid (SymR w wr g q b m d x bm l k))
  case atStart => exact ⟨0, Lib.hid rfl, H0⟩
  case round =>
    clear H0
    obtain ⟨k, HG, HR⟩ := hrel
    have c0 := HR.out.c0
    have c1 := HR.out.c1
    have f0 := HR.out.f0
    have f1 := HR.out.f1
    by_cases hk : k < 15
    · have zk : (k : Int) < 15 := by omega
      by_cases hin : x + k + 1 ≤ m
      · have hn := number_yes b g q m d (x + k) 1 wr.drew (HR.out.rdr.below (Below.refl _ _).drew) (HR.out.lies.below (Below.refl _ _).drew) HB.out (by decide) hin
        have hnx := num_next b x k (by rw [HB.out]; exact hin)
        have hv1 := num_small b x k (by omega)
        have hv2 := num_small b x (k + 1) (by omega)
        have HK : Hid (∀ w1, wr.drew.grownBy w1 (some g) → w1.cell? ⟨w.heap.size, 0, none⟩ = some (.int .i64 (k : Nat)) ∧ w1.cell? ⟨w.heap.size, 1, none⟩ = some (.int .i64 (num ((b.drop x).take k) : Nat)) ∧ w1.frozen? ⟨w.heap.size, 0, none⟩ = false ∧ w1.frozen? ⟨w.heap.size, 1, none⟩ = false) := Lib.hid fun w1 hg => by
          have hcs : w.heap.size < wr.heap.size := World.block_lt_of_cell? wr ⟨w.heap.size, 0, Option.none⟩ c0
          have hne : some w.heap.size ≠ some g := fun e => by cases e; exact absurd HR.out.gl (Nat.lt_irrefl _)
          have hg1 := grown_drew hg
          exact ⟨(grown_cell hg1 hcs hne 0).trans c0, (grown_cell hg1 hcs hne 1).trans c1, (grown_fro hg1 hcs hne 0).trans f0, (grown_fro hg1 hcs hne 1).trans f1⟩
        have HN := Lib.hid (fun w1 => HR.out.next (w1 := w1))
        have HF := Lib.hid (fun (w1 : World) (h1 : wr.drew.grownBy w1 (some g)) (h2 : Rdr w1 g q m d (x + k + 1)) => HR.out.leaves h1 h2 (.int .i64 ((k + 1 : Nat) : Int)) (.int .i64 ((2 * num ((b.drop x).take k) + num ((b.drop (x + k)).take 1) : Nat) : Int)))
        have HX := Lib.hid (hits_next HR.out.none)
        generalize hV : num ((b.drop x).take k) = v at *
        generalize hU : num ((b.drop (x + k)).take 1) = u at *
        have hu : u ≤ 1 := by
          rw [← hU]
          have h1 := num_lt ((b.drop (x + k)).take 1)
          have h2 : 2 ^ ((b.drop (x + k)).take 1).length ≤ 2 ^ 1 := Nat.pow_le_pow_right (by decide) (by rw [List.length_take]; omega)
          omega
        rw [hnx] at hv2 HX
        have zv : (v : Int) ≤ 32767 := by omega
        have zu : (u : Int) ≤ 1 := by omega
        have z2 : (2 * (v : Int) + u) ≤ 32767 := by omega
        have e1 : ((1 : Nat) : Int) = 1 := rfl
        rw [e1] at hn
        have HU := Lib.hid hnx
        have HW1 : Hid (IntKind.i64.wrap ((k : Int) + 1) = (k : Int) + 1) := Lib.hid (by rw [IntKind.wrap_i64]; omega)
        have HW2 : Hid (IntKind.i64.wrap (2 * (v : Int)) = 2 * (v : Int)) := Lib.hid (by rw [IntKind.wrap_i64]; omega)
        have HW3 : Hid (IntKind.i64.wrap (2 * (v : Int) + (u : Int)) = 2 * (v : Int) + (u : Int)) := Lib.hid (by rw [IntKind.wrap_i64]; omega)
        have HC : Hid (∀ (w1 : World), w1.cell? ⟨w.heap.size, 0, none⟩ = some (.int .i64 (k : Nat)) → w1.cell? ⟨w.heap.size, 1, none⟩ = some (.int .i64 (v : Nat)) → ((w1.setCell ⟨w.heap.size, 0, none⟩ (.int .i64 ((k + 1 : Nat) : Int))).setCell ⟨w.heap.size, 1, none⟩ (.int .i64 ((2 * v + u : Nat) : Int))).cell? ⟨w.heap.size, 0, none⟩ = some (.int .i64 ((k + 1 : Nat) : Int)) ∧ ((w1.setCell ⟨w.heap.size, 0, none⟩ (.int .i64 ((k + 1 : Nat) : Int))).setCell ⟨w.heap.size, 1, none⟩ (.int .i64 ((2 * v + u : Nat) : Int))).cell? ⟨w.heap.size, 1, none⟩ = some (.int .i64 ((2 * v + u : Nat) : Int))) :=
          Lib.hid fun w1 h1 h2 => ⟨(World.cell?_setCell_other _ _ _ _ (by simp)).trans (World.cell?_setCell_same _ _ _ h1), World.cell?_setCell_same _ _ _ ((World.cell?_setCell_other _ _ _ _ (by simp)).trans h2)⟩
        clear hV hU hnx hv1 hv2 hu e1
        go_wp2
        go_region_law (go_simp; go_at_call 100; refine hn.mono ?_; rintro e w1 ⟨rfl, hg1, hR1⟩; obtain ⟨d0, d1, e0, e1⟩ := HK.out w1 hg1)
        all_goals
          have hw1 : IntKind.i64.wrap ((k : Int) + 1) = ((k + 1 : Nat) : Int) := by rw [HW1.out]; rfl
          have hw2 : IntKind.i64.wrap (2 * (v : Int)) = 2 * (v : Int) := HW2.out
          have hw3 : IntKind.i64.wrap (2 * (v : Int) + (u : Int)) = ((2 * v + u : Nat) : Int) := by rw [HW3.out]; simp
          rw [hw1, hw2, hw3]
          have HN2 := Lib.hid (HN.out w1 hg1 hR1 hin (2 * v + u) HU.out.symm)
          have HG3 : Hid (w.grownBy ((w1.setCell ⟨w.heap.size, 0, none⟩ (.int .i64 ((k + 1 : Nat) : Int))).setCell ⟨w.heap.size, 1, none⟩ (.int .i64 ((2 * v + u : Nat) : Int))) (some g) ∧ Rdr ((w1.setCell ⟨w.heap.size, 0, none⟩ (.int .i64 ((k + 1 : Nat) : Int))).setCell ⟨w.heap.size, 1, none⟩ (.int .i64 ((2 * v + u : Nat) : Int))) g q m d (x + k + 1) ∧ MapL ((w1.setCell ⟨w.heap.size, 0, none⟩ (.int .i64 ((k + 1 : Nat) : Int))).setCell ⟨w.heap.size, 1, none⟩ (.int .i64 ((2 * v + u : Nat) : Int))) bm l 272) := Lib.hid (HF.out w1 hg1 hR1)
          obtain ⟨y0, y1⟩ := HC.out w1 d0 d1
          clear hw1 hw2 hw3 HN HF HC HK hn hg1 hR1 d0 d1 e0 e1 c0 c1 f0 f1 HW1 HW2 HW3 HR
          generalize ((w1.setCell ⟨w.heap.size, 0, none⟩ (.int .i64 ((k + 1 : Nat) : Int))).setCell ⟨w.heap.size, 1, none⟩ (.int .i64 ((2 * v + u : Nat) : Int))) = w2 at *
          simp only [Exit.then]
          by_cases hex : ∃ i, i < 272 ∧ 0 < l.getD i 0 ∧ (l.getD i 0 = k + 1 ∧ bitsOf l i = 2 * v + u)
          · obtain ⟨i, hi, h0, h1, h2⟩ := hex
            have hrun := HG3.out.2.2.hit HM.out hi h0
            have hh : hit l b x i = true := hit_iff.2 ⟨h0, by rw [h1, HB.out]; omega, by rw [h1, HU.out, h2]⟩
            have HA : Hid (SymA l b g q m d x (.returned (.int .i64 (i : Nat))) w2) := Lib.hid (by unfold SymA; rw [read_some HM.out.le hh]; exact ⟨rfl, by rw [h1]; exact HG3.out.2.1⟩)
            rw [h1, h2] at hrun
            have HRUN := Lib.hid hrun
            clear hrun hh h0 h1 h2
            go_wp2_with (first | (at_lookup; refine wpList_lookup_run _ rfl _ _ 94 rfl _ _ _ rfl (by rfl) HRUN.out ?_))
            go_ret
            exact ⟨HG3.out.1, HA.out⟩
          · have hno : ∀ i, i < 272 → 0 < l.getD i 0 → ¬ (l.getD i 0 = k + 1 ∧ bitsOf l i = 2 * v + u) := fun i h1 h2 h3 => hex ⟨i, h1, h2, h3⟩
            have hrun := HG3.out.2.2.miss (n := k + 1) (v := 2 * v + u) (by omega) (by omega) hno
            have HR3 := Lib.hid (HN2.out (HX.out (by rw [HL.out]; exact hno)))
            have HRUN := Lib.hid hrun
            have HG4 : Hid (k + 1 + (gk - 1) = 15 ∧ gk - 1 < gk) := by have := HG.out; exact ⟨by omega, by omega⟩
            clear hrun hno hex
            go_wp2_with (first | (at_lookup; refine wpList_lookup_run _ rfl _ _ 94 rfl _ _ _ rfl (by rfl) HRUN.out ?_))
            go_roundg (gk - 1)
            case measure => exact HG4.out.2
            case rel => exact ⟨k + 1, HG4.out.1, HR3⟩
      · have ho := number_out b g q m d (x + k) 1 wr.drew (HR.out.rdr.below (Below.refl _ _).drew) (HR.out.lies.below (Below.refl _ _).drew) HB.out (by decide) (by omega)
        have e1 : ((1 : Nat) : Int) = 1 := rfl
        rw [e1] at ho
        have HO := Lib.hid ho
        have HA : Hid (∀ w2, SymA l b g q m d x (.panicked noneP) w2) := Lib.hid fun w2 => by unfold SymA; rw [hits_short HR.out.none (by rw [HB.out]; omega)]
        have HGr : Hid (∀ w1, wr.drew.grownBy w1 (some g) → w.grownBy w1 (some g)) := Lib.hid fun w1 h1 => grown_trans HR.out.grown (grown_drew h1)
        have hv1 := num_small b x k (by omega)
        generalize num ((b.drop x).take k) = v at *
        have zv : (v : Int) ≤ 32767 := by omega
        clear ho e1 hv1 HR
        go_wp2
        go_region_law (go_simp; go_at_call 100; refine calls_dies (.int .i64 0) HO.out (fun w1 hg1 => body_panic rfl ⟨HGr.out w1 hg1, HA.out w1⟩) (fun hFalse => ?_); dsimp only)
        all_goals exact hFalse.out.elim
    · have e : k = 15 := by have := HG.out; omega
      subst e
      have HA : Hid (∀ w2, SymA l b g q m d x (.panicked noneP) w2) := Lib.hid fun w2 => by unfold SymA; rw [hits_all HM.out.le HR.out.none]
      have HGr := Lib.hid HR.out.grown
      clear HR HG hk
      go_wp2
      exact ⟨rfl, HGr.out, HA.out _⟩
end Go.Proofs.Ythehjhckcblbdaa.Pk

