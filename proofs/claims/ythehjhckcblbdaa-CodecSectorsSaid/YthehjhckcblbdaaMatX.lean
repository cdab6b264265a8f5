/-
  match.same: how many bytes from two places on are the same, as far as a copy reaches.
-/
import Derived.Test.YthehjhckcblbdaaGe
import Derived.Test.YthehjhckcblbdaaMatD
import Derived.Deep.Slices
import Derived.RegionTactic
import Derived.Laws.ResultCell
import Derived.Laws.CopyOwn
import Derived.Lib.BufferWrite
import Derived.Lib.LazyBuf
import Derived.WideKeyEntry
import Derived.Maps.OwnRows
import Derived.DeepKeys4
namespace Go.Proofs.Ythehjhckcblbdaa.Ma
set_option maxRecDepth 100000
open Go.RowKit Go.Lib Mt
/-- n bytes from two places on are the same, and no more of them, as far as a copy reaches -/
structure Run (s : List UInt8) (a p n : Nat) : Prop where
  top : n ≤ 18
  inn : p + n ≤ s.length
  same : ∀ i, i < n → s.getD (a + i) 0 = s.getD (p + i) 0
  stop : n = 18 ∨ p + n = s.length ∨ s.getD (a + n) 0 ≠ s.getD (p + n) 0
set_option maxHeartbeats 1000000 in
theorem same_any (s : ByteArray) (a p : Nat) (w : World) (hs : s.size ≤ 2000) (ha : a < p) (hp : p ≤ s.size) :
    Calls Try.prog 66 #[.string s, .int .i64 a, .int .i64 p] w fun e w' => ∃ n : Nat, e = .returned (.int .i64 n) ∧ Run s.data.toList a p n ∧ Below w.heap.size w w' := by
  have HB := Lib.hid (Below.refl w.heap.size w)
  have zs : (s.size : Int) ≤ 2000 := by omega
  have zp : (p : Int) ≤ s.size := by omega
  have zp2 : (p : Int) ≤ 2000 := by omega
  have za : (a : Int) ≤ 2000 := by omega
  have HL : Hid (s.data.toList.length = s.size) := by show _ = _; simp
  have HA : Hid (a < p) := Lib.hid ha
  obtain ⟨m, hm⟩ : ∃ m : Nat, m = min 18 (s.size - p) := ⟨_, rfl⟩
  have HM : Hid (m ≤ 18 ∧ p + m ≤ s.size ∧ (m = 18 ∨ p + m = s.size)) := by show _ ∧ _; omega
  have HV : Hid ((18 : Int) ≤ s.size - p → m = 18) := by show _ → _; omega
  have HV2 : Hid ((s.size : Int) - p < 18 → (s.size : Int) - p = m) := by show _ → _; omega
  clear hm ha
  go_enter Try.func66, Try.ntmps66
  go_wp2
  all_goals
    first
      | rw [show (Value.int IntKind.i64 18) = Value.int IntKind.i64 ((m : Nat) : Int) from by simp [HV.out h]]
      | rw [HV2.out h]
    clear h HV HV2
    go_loopw [8] (fun v wr => ∃ n : Nat, v = .int .i64 n ∧ n ≤ m ∧ Hid (∀ i, i < n → s.data.toList.getD (a + i) 0 = s.data.toList.getD (p + i) 0) ∧ Hid (Below w.heap.size w wr)) (fun v _ => m - (RowKit.intOf v).toNat)
    case atStart => exact ⟨0, rfl, Nat.zero_le _, Lib.hid (fun i hi => by omega), HB⟩
    case round =>
      clear HB
      obtain ⟨n, rfl, hn, HE, HW⟩ := hrel
      have zm : (m : Int) ≤ 18 := by have := HM.out; omega
      have zn : (n : Int) ≤ 18 := by omega
      by_cases hlt : n < m
      · obtain ⟨x, hx⟩ : ∃ x, x = a + n := ⟨_, rfl⟩
        obtain ⟨y, hy⟩ : ∃ y, y = p + n := ⟨_, rfl⟩
        have hx2 : x < s.size := by have := HM.out; have := HA.out; omega
        have hy2 : y < s.size := by have := HM.out; omega
        have HX : Hid (s.data.toList.getD (a + n) 0 = s[x]) := by show _ = _; rw [← hx, List.getD_eq_getElem?_getD, List.getElem?_eq_getElem (by simpa using hx2)]; rfl
        have HY : Hid (s.data.toList.getD (p + n) 0 = s[y]) := by show _ = _; rw [← hy, List.getD_eq_getElem?_getD, List.getElem?_eq_getElem (by simpa using hy2)]; rfl
        have ex : (a : Int) + n = x := by omega
        have ey : (p : Int) + n = y := by omega
        have zx : (x : Int) < s.size := by omega
        have zy : (y : Int) < s.size := by omega
        have zi : (n : Int) < m := by omega
        obtain ⟨c, hc⟩ : ∃ c, s[x] = c := ⟨_, rfl⟩
        obtain ⟨d, hd⟩ : ∃ d, s[y] = d := ⟨_, rfl⟩
        rw [hc] at HX
        rw [hd] at HY
        clear hx hy
        by_cases hcd : c = d
        · subst hcd
          have HE2 : Hid (∀ i, i < n + 1 → s.data.toList.getD (a + i) 0 = s.data.toList.getD (p + i) 0) := by
            refine Lib.hid fun i hi => ?_
            by_cases h : i = n
            · subst h; rw [HX.out, HY.out]
            · exact HE.out i (by omega)
          go_wp2_with fail
          go_quiet (fail)
          simp only [Exit.then]
          go_wp2
          go_roundw
          case rel => exact ⟨n + 1, by go_num, by omega, HE2, Lib.hid (below_drewN HW.out _)⟩
          case measure => simp [RowKit.intOf]; omega
        · have hne : ¬ ((c.toNat : Int) = d.toNat) := fun h => hcd (UInt8.toNat_inj.1 (by omega))
          have HR : Hid (Run s.data.toList a p n) := by
            refine Lib.hid ⟨by have := HM.out; omega, by have := HM.out; rw [HL.out]; omega, HE.out, .inr (.inr ?_)⟩
            rw [HX.out, HY.out]; exact hcd
          replace hcd := Lib.hid hcd
          go_wp2_with fail
          go_quiet (fail)
          simp only [Exit.then]
          go_wp2
          go_ret
          exact ⟨n, rfl, HR.out, below_drewN HW.out _⟩
      · have hnm : n = m := by omega
        have HR : Hid (Run s.data.toList a p n) := by
          refine Lib.hid ⟨by have := HM.out; omega, by have := HM.out; rw [HL.out]; omega, HE.out, ?_⟩
          have := HM.out; rw [HL.out]; omega
        have hf : decide (n < m) = false := by simp; omega
        clear hlt
        replace hnm := Lib.hid hnm
        go_wp2_with fail
        go_quiet (fail)
        simp only [Exit.then]
        go_wp2
        go_ret
        exact ⟨n, rfl, HR.out, below_drewN HW.out _⟩
end Go.Proofs.Ythehjhckcblbdaa.Ma
/-
  match.start: the three bytes at a place, and whether there are so many.
-/
namespace Go.Proofs.Ythehjhckcblbdaa.Ma
set_option maxRecDepth 100000
open Go.RowKit Go.Lib Mt
theorem run_copy_three {P : Program} (w : World) (dT sT ty elem : TypeId) (g : Nat) (x y z : Value) (t : TypeId) (s : ByteArray)
    (hu : P.underlying dT = some (.slice elem)) (hs : (P.info? elem).map (·.size) = some 1) (hg : w.heap[g]? = some (.cells #[x, y, z] t (0, 0))) (h3 : 3 ≤ s.size) :
    (Builtin.copy_ #[dT, sT] ty #[.slice (some ⟨g, 0, none⟩) 3 3, .string s]).run P w =
      .ok (goInt 3) (w.setRow g (byteCells (s.data.toList.take 3)).toArray) := by
  have hl : (s.data.toList.take 3).length = 3 := by rw [List.length_take]; simp; omega
  have hlen : (byteCells (s.data.toList.take 3)).length = 3 := by rw [byteCells_length, hl]
  have hst := run_storeCells_at P g 0 t (byteCells (s.data.toList.take 3)) 0 #[x, y, z] w hg (by rw [hlen]; simp) (byteCells_one _)
  have hmin : Nat.min s.size 3 = 3 := Nat.min_eq_right h3
  have htk : List.take 3 (List.map (fun b : UInt8 => Value.int IntKind.u8 (b.toNat : Int)) s.data.toList) = byteCells (s.data.toList.take 3) := by
    rw [← List.map_take]
    rfl
  rw [hlen] at hst
  simp only [Nat.add_zero] at hst
  cases hq : P.info? elem with
  | none => simp [hq] at hs
  | some i =>
    simp [Builtin.copy_, run_underlying hu, Builtin.lenOf, Builtin.firstCells, sizeOf, typeInfo, hq, hmin]
    rw [htk, hst]
    simp [Result.andThen]
theorem step_copy_three {P : Program} {ops : Array Oper} {o : Oper} {a : Act} {w : World} {K : Act → World → Prop} {Q : Exit → Act → World → Prop} {E : Prop}
    (hgd : o.guard = none) (d x : Operand) (dT sT : TypeId) (hop : o.op = Op.call { callee := Callee.builtin Builtin.copy, args := #[d, x], argTypes := #[dT, sT] })
    (elem : TypeId) (hu : P.underlying dT = some (.slice elem)) (hs : (P.info? elem).map (·.size) = some 1)
    (g : Nat) (c0 c1 c2 : Value) (t : TypeId) (hd : a.eval d = .slice (some ⟨g, 0, none⟩) 3 3) (s : ByteArray) (hx : a.eval x = .string s) (hg : w.heap[g]? = some (.cells #[c0, c1, c2] t (0, 0))) (h3 : 3 ≤ s.size)
    (hK : K (a.put o.dst (goInt 3)) (w.setRow g (byteCells (s.data.toList.take 3)).toArray)) :
    if Region.wanted o (yielded ops a.tmps) = true then Oper.wp P o a w K Q else E := by
  have hw : Region.wanted o (yielded ops a.tmps) = true := by simp [Region.wanted, hgd]
  rw [if_pos hw]
  have hrun := run_copy_three (P := P) w dT sT o.type elem g c0 c1 c2 t s hu hs hg h3
  unfold Oper.wp
  simp [execOp, hop, resolve, invoke, builtin, hd, hx, hrun, Result.andThen]
  exact hK
theorem size5 : (Try.prog.info? 5).map (·.size) = some 1 := by kernel_rfl
def K3 (a b c : UInt8) : Value := .agg #[.int .u8 (a.toNat : Int), .int .u8 (b.toNat : Int), .int .u8 (c.toNat : Int)]
set_option maxHeartbeats 1000000 in
theorem start_no (s : ByteArray) (p : Nat) (w : World) (hs : s.size ≤ 2000) (hp : p ≤ s.size) (h3 : s.size < p + 3) :
    Calls Try.prog 65 #[.string s, .int .i64 p] w fun e w' => e = .returned (.tuple #[.agg #[.int .u8 0, .int .u8 0, .int .u8 0], .bool false]) ∧ Below w.heap.size w w' := by
  have HB := Lib.hid (fun o o' => ((Below.refl w.heap.size w).alloc (Nat.le_refl _) o).alloc (by simp) o')
  have zs : (s.size : Int) ≤ 2000 := by omega
  have zp : (p : Int) ≤ s.size := by omega
  have z3 : (s.size : Int) - p < 3 := by omega
  clear h3
  go_enter Try.func65, Try.ntmps65
  go_wp2
  refine bodyPost_ret (v := .tuple #[.agg #[.int .u8 0, .int .u8 0, .int .u8 0], .bool false]) ?_ rfl ⟨rfl, HB.out _ _⟩
  rw [results_cell_tmp rfl]
  go_simp
theorem three_bytes (s : ByteArray) (p : Nat) (hp : p + 3 ≤ s.size) : (byteCells (List.take 3 (List.take (s.size - p) (List.drop p s.data.toList)))).toArray = #[Value.int .u8 (s[p].toNat : Int), Value.int .u8 (s[p + 1].toNat : Int), Value.int .u8 (s[p + 2].toNat : Int)] := by
  have hl : s.data.toList.length = s.size := by simp
  rw [List.take_take, show min 3 (s.size - p) = 3 by omega, List.drop_eq_getElem_cons (by omega), List.drop_eq_getElem_cons (by omega), List.drop_eq_getElem_cons (by omega)]
  rfl
set_option maxHeartbeats 1000000 in
theorem start_yes (s : ByteArray) (p : Nat) (w : World) (hs : s.size ≤ 2000) (hp : p + 3 ≤ s.size) :
    Calls Try.prog 65 #[.string s, .int .i64 p] w fun e w' => e = .returned (.tuple #[K3 s[p] s[p+1] s[p+2], .bool true]) ∧ Below w.heap.size w w' := by
  have zs : (s.size : Int) ≤ 2000 := by omega
  have zp : (p : Int) + 3 ≤ s.size := by omega
  have z3 : ¬ (s.size : Int) - p < 3 := by omega
  have zn : p ≤ s.size := by omega
  have HW : ∀ w : World, ((w.alloc (Obj.cells #[Value.int IntKind.u8 0, Value.int IntKind.u8 0, Value.int IntKind.u8 0] 84)).alloc (Obj.cells #[Value.int IntKind.u8 0, Value.int IntKind.u8 0, Value.int IntKind.u8 0] 84)).drew.heap[w.heap.size]? = some (.cells #[Value.int IntKind.u8 0, Value.int IntKind.u8 0, Value.int IntKind.u8 0] 84 (0, 0)) ∧ ((w.alloc (Obj.cells #[Value.int IntKind.u8 0, Value.int IntKind.u8 0, Value.int IntKind.u8 0] 84)).alloc (Obj.cells #[Value.int IntKind.u8 0, Value.int IntKind.u8 0, Value.int IntKind.u8 0] 84)).drew.heap[w.heap.size + 1]? = some (.cells #[Value.int IntKind.u8 0, Value.int IntKind.u8 0, Value.int IntKind.u8 0] 84 (0, 0)) := fun w =>
    ⟨by show ((w.alloc _).alloc _).heap[w.heap.size]? = _; rw [_root_.Go.heap_alloc_old _ _ (by simp)]; exact heap_alloc_new w _, by show ((w.alloc _).alloc _).heap[w.heap.size + 1]? = _; have := heap_alloc_new (w.alloc (Obj.cells #[Value.int IntKind.u8 0, Value.int IntKind.u8 0, Value.int IntKind.u8 0] 84)) (.cells #[Value.int IntKind.u8 0, Value.int IntKind.u8 0, Value.int IntKind.u8 0] 84); have e : (w.alloc (Obj.cells #[Value.int IntKind.u8 0, Value.int IntKind.u8 0, Value.int IntKind.u8 0] 84)).heap.size = w.heap.size + 1 := (by simp); rwa [e] at this⟩
  go_enter Try.func65, Try.ntmps65
  go_wp2
  obtain ⟨hh, hr⟩ := HW w
  go_region_law (refine step_copy_three rfl (.tmp 13) (.tmp 16) 66 9 rfl 5 Try.underlying66 size5 (w.heap.size + 1) (.int .u8 0) (.int .u8 0) (.int .u8 0) 84 (by simp [Act.eval, Act.put]) (s.extract p s.size) (by simp [Act.eval, Act.put]) hr (by rw [ByteArray.size_extract]; omega) ?_)
  rw [three_bytes s p hp]
  have hq := setRow_heap _ _ _ #[Value.int .u8 (s[p].toNat : Int), Value.int .u8 (s[p + 1].toNat : Int), Value.int .u8 (s[p + 2].toNat : Int)] _ _ hr
  have hq0 := (setRow_other _ (w.heap.size + 1) w.heap.size #[Value.int .u8 (s[p].toNat : Int), Value.int .u8 (s[p + 1].toNat : Int), Value.int .u8 (s[p + 2].toNat : Int)] (by omega)).trans hh
  have hb := Lib.hid (below_setRow (g := w.heap.size + 1) (((Below.refl w.heap.size w).alloc (Nat.le_refl _) (Obj.cells #[Value.int IntKind.u8 0, Value.int IntKind.u8 0, Value.int IntKind.u8 0] 84)).alloc (by simp) (Obj.cells #[Value.int IntKind.u8 0, Value.int IntKind.u8 0, Value.int IntKind.u8 0] 84) |>.drew) (by omega) #[Value.int .u8 (s[p].toNat : Int), Value.int .u8 (s[p + 1].toNat : Int), Value.int .u8 (s[p + 2].toNat : Int)])
  clear hh hr HW
  obtain ⟨x, hx⟩ : ∃ x, s[p] = x := ⟨_, rfl⟩
  obtain ⟨y, hy⟩ : ∃ y, s[p + 1] = y := ⟨_, rfl⟩
  obtain ⟨z, hz⟩ : ∃ z, s[p + 2] = z := ⟨_, rfl⟩
  rw [hx, hy, hz] at hq hq0 hb ⊢
  generalize World.setRow _ _ _ = W at hq hq0 hb ⊢
  obtain ⟨h, hh⟩ : ∃ h, h = w.heap.size := ⟨_, rfl⟩
  rw [← hh] at hq hq0 ⊢
  have c0 := cell_of_row W (h + 1) 0 _ 84 (0, 0) hq
  have c1 := cell_of_row W (h + 1) 1 _ 84 (0, 0) hq
  have c2 := cell_of_row W (h + 1) 2 _ 84 (0, 0) hq
  have d0 := cell_of_row W h 0 _ 84 (0, 0) hq0
  have d1 := cell_of_row W h 1 _ 84 (0, 0) hq0
  have d2 := cell_of_row W h 2 _ 84 (0, 0) hq0
  have f0 := frozen_of_row W h 0 _ 84 hq0
  have f1 := frozen_of_row W h 1 _ 84 hq0
  have f2 := frozen_of_row W h 2 _ 84 hq0
  simp at c0 c1 c2 d0 d1 d2
  replace hh := Lib.hid hh
  simp only [Exit.then]
  have HK : Hid (K3 s[p] s[p + 1] s[p + 2] = K3 x y z) := by show _ = _; rw [hx, hy, hz]
  clear hx hy hz hq hq0
  go_wp2
  refine bodyPost_ret (v := .tuple #[K3 x y z, .bool true]) ?_ rfl ⟨by rw [HK.out], ((hb.out.setCell (by rw [hh.out]; exact Nat.le_refl _) _).setCell (by rw [hh.out]; exact Nat.le_refl _) _).setCell (by rw [hh.out]; exact Nat.le_refl _) _⟩
  rw [results_cell_tmp rfl]
  go_simp
  rfl
end Go.Proofs.Ythehjhckcblbdaa.Ma
/-
  A map of the call's own whose elements are slices of numbers, each in a row of its own: what is read at a key, and that an entry is taken, and stored. No condition.
-/
namespace Go.Proofs.Ythehjhckcblbdaa.Ma
set_option maxRecDepth 100000
open Go.RowKit Go.Lib Go.MapKept Go.ChangeMaps Go.WideElems
section
variable {P : Program} {k e E t : TypeId} {q : IntKind} {w w' : World} {base b : Nat} {G : Value → List Int}
/-- block b is a map with these entries: at each key's entry lie the numbers that G tells -/
structure GrpAt (P : Program) (k e : TypeId) (q : IntKind) (w : World) (base b : Nat) (G : Value → List Int) (es : Array MapEntry) (clock : Nat) : Prop where
  heap : w.heap[b]? = some (.map es clock)
  stamped : Stamped es clock
  low : b < base
  keys : ∀ x ∈ es.toList, ∃ l, keyOf P k x.key = some l
  owns : ∀ x ∈ es.toList, w.ownsInts base e q x.val (G x.key)
  none : ∀ u, (∀ x ∈ es.toList, x.key ≠ u) → G u = []
  apart : ∀ x ∈ es.toList, ∀ y ∈ es.toList, x.key ≠ y.key → x.val.ownBlock = Option.none ∨ x.val.ownBlock ≠ y.val.ownBlock
def Grp (P : Program) (k e : TypeId) (q : IntKind) (w : World) (base b : Nat) (G : Value → List Int) : Prop := ∃ es clock, GrpAt P k e q w base b G es clock
theorem ints_block {v : Value} {zs : List Int} (h : w.ownsInts base e q v zs) (g : Nat) (hg : v.ownBlock = some g) : base ≤ g ∧ ∃ c, w.heap[g]? = some (.cells c e (0, 0)) := by
  rcases h.1.2 with ⟨rfl, _⟩ | ⟨g', cap, cur, rfl, hb, hh, _⟩
  · cases hg
  · cases hg; exact ⟨hb, cur, hh⟩
theorem ints_not {v : Value} {zs : List Int} (h : w.ownsInts base e q v zs) (hl : b < base) : v.ownBlock = Option.none ∨ v.ownBlock ≠ some b := by
  cases hv : v.ownBlock with
  | none => exact .inl rfl
  | some g => refine .inr fun e1 => ?_; cases e1; have := (ints_block h _ hv).1; omega
theorem Grp.made (w : World) : Grp P k e q (w.alloc (.map #[] 0)) (w.heap.size + 1) w.heap.size (fun _ => []) :=
  ⟨#[], 0, (MapKept.heap_alloc w _).1, stamped_empty 0, Nat.lt_succ_self _, by simp, by simp, fun _ _ => rfl, by simp⟩
theorem Grp.kept {row : Option Nat} (h : Grp P k e q w base b G) (hg : w.grownBy w' row) (hb : some b ≠ row)
    (hr : ∀ j, row = some j → j < base ∨ ∃ c s f, w.heap[j]? = some (.cells c s f) ∧ s ≠ e) : Grp P k e q w' base b G := by
  obtain ⟨es, clock, h⟩ := h
  have hlt : b < w.heap.size := (Array.getElem?_eq_some_iff.1 h.heap).1
  refine ⟨es, clock, (hg.block b hlt hb).trans h.heap, h.stamped, h.low, h.keys, fun x hx => (h.owns x hx).kept hg ?_, h.none, h.apart⟩
  cases hx' : x.val.ownBlock with
  | none => exact .inl rfl
  | some g =>
    refine .inr fun e1 => ?_
    obtain ⟨k1, c1, k2⟩ := ints_block (h.owns x hx) g hx'
    rcases hr g e1.symm with h1 | ⟨c, s, f, h1, h2⟩
    · omega
    · rw [k2] at h1; cases h1; exact h2 rfl
theorem Grp.later (h : Grp P k e q w base b G) (hb : Below w.heap.size w w') : Grp P k e q w' base b G :=
  h.kept (row := Option.none) ⟨hb.os, hb.tape, hb.output, hb.size, fun k hk _ => hb.block k hk⟩ (by simp) (fun j hj => by cases hj)
theorem Grp.look (K : WideMaps.KeyLaw P k) (ht : P.underlying t = some (.map k E)) (hz : (zeroValue E).run P w = .ok (.slice Option.none 0 0) w) (h : Grp P k e q w base b G) {key : Value} {kl : Lit} (hkey : keyOf P k key = some kl) :
    ∃ v, (Instr.lookup t (.map (some b)) key false).run P w = .ok v w ∧ w.ownsInts base e q v (G key) := by
  obtain ⟨es, clock, h⟩ := h
  rcases K.find w hkey es.toList h.keys with ⟨h1, h2⟩ | ⟨j, e0, h1, h2, h3⟩
  · refine ⟨_, by simp [Instr.lookup, run_underlying ht, MapKept.run_getObj_map h.heap, K.check w _ hkey, h1, hz, Result.andThen]; rfl, ?_⟩
    rw [h.none key h2]
    exact World.ownsInts_nil _ _ _ _
  · refine ⟨e0.val, by simp [Instr.lookup, run_underlying ht, MapKept.run_getObj_map h.heap, K.check w _ hkey, h1, Result.andThen], ?_⟩
    rw [← h3]
    exact h.owns e0 (List.mem_of_getElem? h2)
/-- what a store to the entry that was taken leaves -/
def Back (P : Program) (k e : TypeId) (q : IntKind) (t : TypeId) (w1 : World) (base b : Nat) (G : Value → List Int) (key v : Value) (st : Nat) : Prop :=
  ∀ (w2 : World) (v' : Value) (zs' : List Int), w1.grownBy w2 v.ownBlock → w2.ownsInts base e q v' zs' → (v'.ownBlock = v.ownBlock ∨ ∃ g, v'.ownBlock = some g ∧ w1.heap.size ≤ g) → ∀ G' : Value → List Int, G' key = zs' → (∀ u, u ≠ key → G' u = G u) →
    ∃ w3, (Instr.entryStore t (.map (some b)) (goInt st) v').run P w2 = .ok () w3 ∧ Grp P k e q w3 base b G' ∧ w2.grownBy w3 (some b)
theorem mem_set_of {l : List MapEntry} (hn : (l.map (·.key)).Nodup) {j : Nat} {e1 a x : MapEntry} (hj : l[j]? = some e1) (hx : x ∈ l.set j a) : x = a ∨ (x ∈ l ∧ x.key ≠ e1.key) := by
  obtain ⟨i, hi⟩ := List.mem_iff_getElem?.1 hx
  by_cases hij : i = j
  · subst hij
    have hlt : i < l.length := (List.getElem?_eq_some_iff.1 hj).1
    rw [List.getElem?_set_self hlt] at hi
    exact .inl (Option.some.inj hi).symm
  · rw [List.getElem?_set_ne (Ne.symm hij)] at hi
    refine .inr ⟨List.mem_of_getElem? hi, fun hk => hij ?_⟩
    have hlt : i < (l.map (·.key)).length := by rw [List.length_map]; exact (List.getElem?_eq_some_iff.1 hi).1
    exact (List.getElem?_inj hlt hn).1 (by simp [hi, hj, hk])
theorem mem_set_key {l : List MapEntry} {j : Nat} {e1 a x : MapEntry} (hj : l[j]? = some e1) (ha : a.key = e1.key) (hx : x ∈ l) : ∃ y ∈ l.set j a, y.key = x.key := by
  have hjl : j < l.length := (List.getElem?_eq_some_iff.1 hj).1
  obtain ⟨i, hi⟩ := List.mem_iff_getElem?.1 hx
  by_cases hij : i = j
  · subst hij
    rw [hj] at hi
    cases hi
    exact ⟨a, List.mem_iff_getElem?.2 ⟨i, List.getElem?_set_self hjl⟩, ha⟩
  · exact ⟨x, List.mem_iff_getElem?.2 ⟨i, by rw [List.getElem?_set_ne (Ne.symm hij)]; exact hi⟩, rfl⟩
theorem back_of {es : Array MapEntry} {clock j : Nat} {e1 : MapEntry} (h : GrpAt P k e q w base b G es clock) (hj : es.toList[j]? = some e1) : Back P k e q t w base b G e1.key e1.val e1.born := by
  intro w2 v' zs' hg hown hloc G' hG1 hG2
  have hlt : b < w.heap.size := (Array.getElem?_eq_some_iff.1 h.heap).1
  have hm1 : e1 ∈ es.toList := List.mem_of_getElem? hj
  have hb2 : w2.heap[b]? = some (.map es clock) := (hg.block b hlt (fun e2 => by
    have := (ints_block (h.owns e1 hm1) b e2.symm).1; have := h.low; omega)).trans h.heap
  have hidx : es.findIdx? (fun e => ((e.born : Nat) : Int) == ((e1.born : Nat) : Int)) = some j := by
    rw [findIdx_arr]
    exact findIdx_born h.stamped.2.1 hj
  have hrun : (Instr.entryStore t (.map (some b)) (goInt e1.born) v').run P w2 = .ok () (setBlock w2 b (.map (es.modify j fun e => { e with val := v' }) clock)) := by
    simp [Instr.entryStore, MapKept.run_getObj_map hb2, asInt, asIntOf, goInt, hidx, MapKept.run_setObj_map _ hb2, Result.andThen, setBlock]
  have hg2 : w2.grownBy (setBlock w2 b (.map (es.modify j fun e => { e with val := v' }) clock)) (some b) := ⟨rfl, rfl, rfl, by simp [setBlock], fun i _ hi => heap_setBlock_other hb2 _ (fun e1 => hi (by rw [e1]))⟩
  have hlist : (es.modify j fun e => { e with val := v' }).toList = es.toList.set j { e1 with val := v' } := by
    rw [Array.toList_modify, modify_eq_set _ _ _ _ hj]
  have who : ∀ x ∈ (es.modify j fun e => { e with val := v' }).toList, x = { e1 with val := v' } ∨ (x ∈ es.toList ∧ x.key ≠ e1.key) := fun x hx => mem_set_of h.stamped.2.2 hj (by rw [← hlist]; exact hx)
  have off : ∀ x ∈ es.toList, x.key ≠ e1.key → x.val.ownBlock = Option.none ∨ x.val.ownBlock ≠ e1.val.ownBlock := fun x hx hk => h.apart x hx e1 hm1 hk
  have far : ∀ x ∈ es.toList, x.key ≠ e1.key → x.val.ownBlock = Option.none ∨ x.val.ownBlock ≠ v'.ownBlock := by
    intro x hx hk
    rcases hloc with h1 | ⟨g, h1, h2⟩
    · rw [h1]; exact off x hx hk
    · cases hx' : x.val.ownBlock with
      | none => exact .inl rfl
      | some gx =>
        have := ((h.owns x hx).1.lt gx hx').2
        refine .inr fun e1 => ?_
        rw [h1] at e1
        cases e1
        omega
  refine ⟨_, hrun, ⟨_, clock, heap_setBlock_same hb2 _, stamped_modify h.stamped j _ (fun _ _ => rfl) (fun _ _ _ => rfl), h.low, ?_, ?_, ?_, ?_⟩, hg2⟩
  · intro x hx
    rcases who x hx with rfl | ⟨hx0, _⟩
    · exact h.keys e1 hm1
    · exact h.keys x hx0
  · intro x hx
    rcases who x hx with rfl | ⟨hx0, hk⟩
    · show World.ownsInts _ base e q v' (G' e1.key)
      rw [hG1]
      exact hown.kept hg2 (ints_not hown h.low)
    · rw [hG2 _ hk]
      have h1 := (h.owns x hx0).kept hg (off x hx0 hk)
      exact h1.kept hg2 (ints_not h1 h.low)
  · intro u hu
    have hne : u ≠ e1.key := fun e2 => by
      obtain ⟨y, hy, hyk⟩ := mem_set_key (a := { e1 with val := v' }) hj rfl hm1
      exact hu y (by rw [hlist]; exact hy) (hyk.trans e2.symm)
    rw [hG2 u hne]
    refine h.none u fun x hx hxu => ?_
    obtain ⟨y, hy, hyk⟩ := mem_set_key (a := { e1 with val := v' }) hj rfl hx
    exact hu y (by rw [hlist]; exact hy) (hyk.trans hxu)
  · intro x hx y hy hne
    rcases who x hx with rfl | ⟨hx0, hxk⟩ <;> rcases who y hy with rfl | ⟨hy0, hyk⟩
    · exact absurd rfl hne
    · show v'.ownBlock = Option.none ∨ v'.ownBlock ≠ y.val.ownBlock
      rcases far y hy0 hyk with h1 | h1
      · cases hv : v'.ownBlock with
        | none => exact .inl rfl
        | some g => rw [h1]; exact .inr (by simp)
      · exact .inr (Ne.symm h1)
    · exact far x hx0 hxk
    · exact h.apart x hx0 y hy0 hne
theorem Grp.entry (K : WideMaps.KeyLaw P k) (ht : P.underlying t = some (.map k E)) (hz : ∀ u : World, (zeroValue E).run P u = .ok (.slice Option.none 0 0) u) (h : Grp P k e q w base b G) {key : Value} {kl : Lit} (hkey : keyOf P k key = some kl) :
    ∃ v st w1, (Instr.mapEntry t (.map (some b)) key).run P w = .ok (.tuple #[v, goInt ((st : Nat) : Int)]) w1 ∧ w.grownBy w1 (some b) ∧ w1.ownsInts base e q v (G key) ∧ Back P k e q t w1 base b G key v st ∧ ∃ es c, w1.heap[b]? = some (.map es c) := by
  obtain ⟨es, clock, h⟩ := h
  have grown : ∀ es' c', w.grownBy (setBlock w b (.map es' c')) (some b) := fun es' c' => ⟨rfl, rfl, rfl, by simp [setBlock], fun i _ hi => heap_setBlock_other h.heap _ (fun e1 => hi (by rw [e1]))⟩
  rcases K.find w hkey es.toList h.keys with ⟨h1, h2⟩ | ⟨j, e0, h1, h2, h3⟩
  · have hrun : (Instr.mapEntry t (.map (some b)) key).run P w = .ok (.tuple #[.slice Option.none 0 0, goInt ((clock : Nat) : Int)]) (setBlock w b (.map (es.push ⟨key, .slice Option.none 0 0, clock⟩) (clock + 1))) := by
      simp [Instr.mapEntry, run_underlying ht, MapKept.run_getObj_map h.heap, K.check w false hkey, h1, hz, MapKept.run_setObj_map _ h.heap, Result.andThen, setBlock]
    have A : GrpAt P k e q (setBlock w b (.map (es.push ⟨key, .slice Option.none 0 0, clock⟩) (clock + 1))) base b G (es.push ⟨key, .slice Option.none 0 0, clock⟩) (clock + 1) := by
      refine ⟨heap_setBlock_same h.heap _, stamped_push h.stamped h2, h.low, ?_, ?_, ?_, ?_⟩
      · intro x hx
        simp only [Array.toList_push, List.mem_append, List.mem_singleton] at hx
        rcases hx with hx | rfl
        · exact h.keys x hx
        · exact ⟨_, hkey⟩
      · intro x hx
        simp only [Array.toList_push, List.mem_append, List.mem_singleton] at hx
        rcases hx with hx | rfl
        · exact (h.owns x hx).kept (grown _ _) (ints_not (h.owns x hx) h.low)
        · show World.ownsInts _ base e q (.slice Option.none 0 0) (G key)
          rw [h.none key h2]
          exact World.ownsInts_nil _ _ _ _
      · intro u hu
        exact h.none u fun x hx => hu x (by simp [hx])
      · intro x hx y hy hne
        simp only [Array.toList_push, List.mem_append, List.mem_singleton] at hx hy
        rcases hx with hx | rfl
        · rcases hy with hy | rfl
          · exact h.apart x hx y hy hne
          · cases hxv : x.val.ownBlock with
            | none => exact .inl rfl
            | some g => exact .inr (by simp [Value.ownBlock])
        · exact .inl rfl
    exact ⟨_, clock, _, hrun, grown _ _, by rw [h.none key h2]; exact World.ownsInts_nil _ _ _ _, back_of (j := es.size) (e1 := ⟨key, .slice Option.none 0 0, clock⟩) A (by simp), _, _, A.heap⟩
  · have hj : es[j]? = some e0 := by simpa using h2
    have hsame : es.modify j (fun e => { e with key := key }) = es := by
      apply Array.ext'
      rw [Array.toList_modify, modify_eq_set _ _ _ _ h2]
      have : ({ e0 with key := key } : MapEntry) = e0 := by rw [← h3]
      rw [this]
      exact set_self _ _ _ h2
    have hrun : (Instr.mapEntry t (.map (some b)) key).run P w = .ok (.tuple #[e0.val, goInt ((e0.born : Nat) : Int)]) (setBlock w b (.map es clock)) := by
      simp [Instr.mapEntry, run_underlying ht, MapKept.run_getObj_map h.heap, K.check w false hkey, h1, hj, h3, K.stays w hkey, hsame, MapKept.run_setObj_map _ h.heap, Result.andThen, setBlock]
    have A : GrpAt P k e q (setBlock w b (.map es clock)) base b G es clock :=
      ⟨heap_setBlock_same h.heap _, h.stamped, h.low, h.keys, fun x hx => (h.owns x hx).kept (grown _ _) (ints_not (h.owns x hx) h.low), h.none, h.apart⟩
    have hb := back_of (t := t) (j := j) (e1 := e0) A h2
    rw [h3] at hb
    refine ⟨_, e0.born, _, hrun, grown _ _, ?_, hb, _, _, A.heap⟩
    rw [← h3]
    exact A.owns e0 (List.mem_of_getElem? h2)
end
theorem wpList_grp_look {P : Program} (w : World) {ops : Array Oper} {rest : List Oper} {o : Oper} {a : Act} {Q : Exit → Act → World → Prop}
    (hg : o.guard = none) (m x : Operand) (t : TypeId) (hop : o.op = Op.lookup t m x false) {k E e : TypeId} {q : IntKind} (K : WideMaps.KeyLaw P k) (ht : P.underlying t = some (.map k E)) (hz : ∀ u : World, (zeroValue E).run P u = .ok (.slice none 0 0) u)
    {base b : Nat} {G : Value → List Int} (hm : a.eval m = .map (some b)) (h : Grp P k e q w base b G) {key : Value} {kl : Lit} (hx : a.eval x = key) (hkey : keyOf P k key = some kl)
    (hK : ∀ v, w.ownsInts base e q v (G key) → wpList P ops Q rest (a.put o.dst v) w) : wpList P ops Q (o :: rest) a w := by
  refine wpList_plain hg fun K' hK' => ?_
  obtain ⟨v, hrun, hoi⟩ := h.look K ht (hz w) hkey
  unfold Oper.wp
  simp [execOp, hop, hm, hx, hrun, Result.andThen]
  exact hK' _ _ (hK v hoi)
theorem wpList_grp_entry {P : Program} (w : World) {ops : Array Oper} {rest : List Oper} {o : Oper} {a : Act} {Q : Exit → Act → World → Prop}
    (hg : o.guard = none) (m x : Operand) (t : TypeId) (hop : o.op = Op.mapEntry t m x) {k E e : TypeId} {q : IntKind} (K : WideMaps.KeyLaw P k) (ht : P.underlying t = some (.map k E)) (hz : ∀ u : World, (zeroValue E).run P u = .ok (.slice none 0 0) u)
    {base b : Nat} {G : Value → List Int} (hm : a.eval m = .map (some b)) (h : Grp P k e q w base b G) {key : Value} {kl : Lit} (hx : a.eval x = key) (hkey : keyOf P k key = some kl)
    (hK : ∀ v st w1, w.grownBy w1 (some b) → w1.ownsInts base e q v (G key) → Back P k e q t w1 base b G key v st → (∃ es c, w1.heap[b]? = some (.map es c)) → wpList P ops Q rest (a.put o.dst (.tuple #[v, .int .i64 ((st : Nat) : Int)])) w1) : wpList P ops Q (o :: rest) a w := by
  refine wpList_plain hg fun K' hK' => ?_
  obtain ⟨v, st, w1, hrun, h1, h2, h3, h4⟩ := h.entry K ht hz hkey
  unfold Oper.wp
  simp [execOp, hop, hm, hx, hrun, Result.andThen]
  exact hK' _ _ (hK v st w1 h1 h2 h3 h4)
theorem wpList_grp_store {P : Program} (w : World) {ops : Array Oper} {rest : List Oper} {o : Oper} {a : Act} {Q : Exit → Act → World → Prop}
    (hg : o.guard = none) (m s x : Operand) (t : TypeId) (hop : o.op = Op.entryStore t m s x) {k e : TypeId} {q : IntKind} {w1 : World} {base b st : Nat} {G : Value → List Int} {key v v' : Value} {zs' : List Int}
    (hb : Back P k e q t w1 base b G key v st) (hm : a.eval m = .map (some b)) (hs : a.eval s = .int .i64 ((st : Nat) : Int)) (hx : a.eval x = v') (hgr : w1.grownBy w v.ownBlock) (hown : w.ownsInts base e q v' zs')
    (hloc : v'.ownBlock = v.ownBlock ∨ ∃ g, v'.ownBlock = some g ∧ w1.heap.size ≤ g) (G' : Value → List Int) (hG1 : G' key = zs') (hG2 : ∀ u, u ≠ key → G' u = G u)
    (hK : ∀ w3, Grp P k e q w3 base b G' → w.grownBy w3 (some b) → wpList P ops Q rest (a.put o.dst undef) w3) : wpList P ops Q (o :: rest) a w := by
  refine wpList_plain hg fun K' hK' => ?_
  obtain ⟨w3, hrun, h1, h2⟩ := hb w v' zs' hgr hown hloc G' hG1 hG2
  replace hrun : (Instr.entryStore t (.map (some b)) (.int .i64 ((st : Nat) : Int)) v').run P w = .ok () w3 := hrun
  unfold Oper.wp
  simp [execOp, hop, hm, hs, hx, hrun, Result.andThen]
  exact hK' _ _ (hK w3 h1 h2)
/-- a walk stands still here -/
def Stop (p : Prop) : Prop := p
theorem stop_entry {P : Program} {ops : Array Oper} {rest : List Oper} {a : Act} {Q : Exit → Act → World → Prop} {w : World} {dst : Option Tmp} {ty : TypeId} {ps : String} {af : Array Edge} {t : TypeId} {m x : Operand}
    (h : Stop (wpList P ops Q (⟨dst, Op.mapEntry t m x, ty, ps, af, none⟩ :: rest) a w)) : wpList P ops Q (⟨dst, Op.mapEntry t m x, ty, ps, af, none⟩ :: rest) a w := h
theorem stop_store {P : Program} {ops : Array Oper} {rest : List Oper} {a : Act} {Q : Exit → Act → World → Prop} {w : World} {dst : Option Tmp} {ty : TypeId} {ps : String} {af : Array Edge} {t : TypeId} {m x y : Operand}
    (h : Stop (wpList P ops Q (⟨dst, Op.entryStore t m x y, ty, ps, af, none⟩ :: rest) a w)) : wpList P ops Q (⟨dst, Op.entryStore t m x y, ty, ps, af, none⟩ :: rest) a w := h
theorem stop_look {P : Program} {ops : Array Oper} {rest : List Oper} {a : Act} {Q : Exit → Act → World → Prop} {w : World} {dst : Option Tmp} {ty : TypeId} {ps : String} {af : Array Edge} {t : TypeId} {m x : Operand}
    (h : Stop (wpList P ops Q (⟨dst, Op.lookup t m x false, ty, ps, af, none⟩ :: rest) a w)) : wpList P ops Q (⟨dst, Op.lookup t m x false, ty, ps, af, none⟩ :: rest) a w := h
theorem stop_append {P : Program} {ops : Array Oper} {rest : List Oper} {a : Act} {Q : Exit → Act → World → Prop} {w : World} {dst : Option Tmp} {ty : TypeId} {ps : String} {af : Array Edge} {t : TypeId} {x y : Operand}
    (h : Stop (wpList P ops Q (⟨dst, Op.call { callee := Callee.builtin Builtin.append, args := #[x, y], argTypes := #[t, t] }, ty, ps, af, none⟩ :: rest) a w)) :
    wpList P ops Q (⟨dst, Op.call { callee := Callee.builtin Builtin.append, args := #[x, y], argTypes := #[t, t] }, ty, ps, af, none⟩ :: rest) a w := h
end Go.Proofs.Ythehjhckcblbdaa.Ma
/-
  The places at which three bytes stood, as a list for each key; the key's law; worlds in which a map of places has turned.
-/
namespace Go.Proofs.Ythehjhckcblbdaa.Ma
set_option maxRecDepth 100000
open Go.RowKit Go.Lib Mt
theorem laidOut : laidOutB Try.prog = true := by kernel_rfl
theorem row42 : (84 : TypeId) < Try.prog.types.size := of_decide_eq_true (by kernel_rfl)
theorem wide42 : (match Try.prog.underlying 84 with | some (.array _ _) | some (.struct _) => true | _ => false) = true := by rw [Try.underlying84]
theorem law42 : WideMaps.KeyLaw Try.prog 84 := deep_law_laid laidOut (m := 2) (by omega) row42 (by kernel_rfl) wide42
theorem zero45 (w : World) : (zeroValue 50).run Try.prog w = .ok (.slice none 0 0) w := by kernel_rfl
theorem info3 : (Try.prog.info? 3).map (fun i => (i.zero, i.size, i.bytes)) = some (some (.int .i64 0), 1, 8) := by kernel_rfl
theorem key_is (a b c : UInt8) : ∃ l, keyOf Try.prog 84 (.agg #[.int .u8 (a.toNat : Int), .int .u8 (b.toNat : Int), .int .u8 (c.toNat : Int)]) = some l := by
  have hk : Try.prog.keyType 84 = true := by kernel_rfl
  have hc : Try.prog.cellsOf 84 = 3 := by kernel_rfl
  have hc5 : Try.prog.cellsOf 5 = 1 := by kernel_rfl
  have hu := Try.underlying84
  have hu5 := Try.underlying5
  have hs : ∃ m, Try.prog.types.size + 1 = m + 2 := ⟨Try.prog.types.size - 1, by have : (84 : Nat) < Try.prog.types.size := row42; omega⟩
  obtain ⟨m, hm⟩ := hs
  have h1 : (Lit.int .u8 (a.toNat : Int)).wf = true := WalkArith.wf_u8 (by have := a.toNat_lt; omega)
  have h2 : (Lit.int .u8 (b.toNat : Int)).wf = true := WalkArith.wf_u8 (by have := b.toNat_lt; omega)
  have h3 : (Lit.int .u8 (c.toNat : Int)).wf = true := WalkArith.wf_u8 (by have := c.toNat_lt; omega)
  unfold keyOf
  simp only [hu]
  rw [if_pos (by simp [hk, Value.formed, hu, hc]), hm]
  unfold Program.keyLits
  simp only [hu, Value.cells]
  rw [if_pos (by rw [hc]; rfl), show List.range 3 = [0, 1, 2] from rfl, List.mapM_cons, List.mapM_cons, List.mapM_cons, List.mapM_nil]
  simp [hc5, Program.keyLits, hu5, h1, h2, h3]
/-- the three bytes at a place -/
def at3 (s : List UInt8) (p : Nat) : Value := K3 (s.getD p 0) (s.getD (p + 1) 0) (s.getD (p + 2) 0)
theorem at3_inj {s : List UInt8} {a b : Nat} (h : at3 s a = at3 s b) : s.getD a 0 = s.getD b 0 ∧ s.getD (a + 1) 0 = s.getD (b + 1) 0 ∧ s.getD (a + 2) 0 = s.getD (b + 2) 0 := by
  unfold at3 K3 at h
  simp only [Value.agg.injEq, Array.mk.injEq, List.cons.injEq, Value.int.injEq, true_and, and_true] at h
  exact ⟨UInt8.toNat_inj.1 (by omega), UInt8.toNat_inj.1 (by omega), UInt8.toNat_inj.1 (by omega)⟩
theorem at3_is {s : ByteArray} {p : Nat} (hp : p + 3 ≤ s.size) : K3 s[p] s[p + 1] s[p + 2] = at3 s.data.toList p := by
  have hl : s.data.toList.length = s.size := by simp
  unfold at3
  rw [List.getD_eq_getElem?_getD, List.getD_eq_getElem?_getD, List.getD_eq_getElem?_getD, List.getElem?_eq_getElem (by omega), List.getElem?_eq_getElem (by omega), List.getElem?_eq_getElem (by omega)]
  rfl
open Classical in
/-- the places from lo on, up to hi, at which these three bytes stand, rising -/
noncomputable def posL (s : List UInt8) (lo hi : Nat) (u : Value) : List Nat := (List.range' lo (hi - lo)).filter fun p => decide (p + 3 ≤ s.length ∧ at3 s p = u)
noncomputable def pos (s : List UInt8) (lo hi : Nat) (u : Value) : List Int := (posL s lo hi u).map fun p : Nat => (p : Int)
theorem pos_nil (s : List UInt8) (lo : Nat) : pos s lo lo = fun _ => [] := by
  funext u; simp [pos, posL]
theorem posL_succ (s : List UInt8) {lo hi : Nat} (h : lo ≤ hi) (u : Value) : posL s lo (hi + 1) u = posL s lo hi u ++ (open Classical in if hi + 3 ≤ s.length ∧ at3 s hi = u then [hi] else []) := by
  unfold posL
  rw [show hi + 1 - lo = (hi - lo) + 1 by omega, List.range'_concat, List.filter_append, show lo + 1 * (hi - lo) = hi by omega]
  congr 1
  simp only [List.filter_cons, List.filter_nil]
  by_cases h : hi + 3 ≤ s.length ∧ at3 s hi = u <;> simp [h]
theorem pos_here (s : List UInt8) {lo hi : Nat} (h : lo ≤ hi) (h3 : hi + 3 ≤ s.length) : pos s lo (hi + 1) (at3 s hi) = pos s lo hi (at3 s hi) ++ [(hi : Int)] := by
  unfold pos; rw [posL_succ s h, if_pos ⟨h3, rfl⟩, List.map_append]; rfl
theorem pos_else (s : List UInt8) {lo hi : Nat} (h : lo ≤ hi) {u : Value} (hu : u ≠ at3 s hi) : pos s lo (hi + 1) u = pos s lo hi u := by
  unfold pos; rw [posL_succ s h, if_neg (fun k => hu k.2.symm), List.append_nil]
theorem pos_short (s : List UInt8) {lo hi : Nat} (h : lo ≤ hi) (h3 : s.length < hi + 3) : pos s lo (hi + 1) = pos s lo hi := by
  funext u
  unfold pos; rw [posL_succ s h, if_neg (by omega), List.append_nil]
open Classical in
theorem posL_mem {s : List UInt8} {lo hi : Nat} {u : Value} {p : Nat} : p ∈ posL s lo hi u ↔ lo ≤ p ∧ p < hi ∧ p + 3 ≤ s.length ∧ at3 s p = u := by
  unfold posL
  rw [List.mem_filter, List.mem_range'_1, decide_eq_true_eq]
  constructor
  · rintro ⟨⟨h1, h2⟩, h3⟩; exact ⟨h1, by omega, h3⟩
  · rintro ⟨h1, h2, h3⟩; exact ⟨⟨h1, by omega⟩, h3⟩
theorem posL_rise (s : List UInt8) (lo hi : Nat) (u : Value) : (posL s lo hi u).Pairwise (· < ·) := List.Pairwise.filter _ (List.pairwise_lt_range' (s := lo) (n := hi - lo) (step := 1))
theorem posL_len (s : List UInt8) (lo hi : Nat) (u : Value) : (posL s lo hi u).length ≤ hi - lo := by
  refine Nat.le_trans (List.length_filter_le _ _) ?_
  rw [List.length_range']; exact Nat.le_refl _
/-- worlds in which a map of places has turned, and what is new -/
structure Turn (b : Nat) (w w' : World) : Prop where
  below : Below b w w'
  other : ∀ (j : Nat) (cs : Array Value) (f : Nat × Nat), w.heap[j]? = some (Obj.cells cs 48 f) → w'.heap[j]? = some (Obj.cells cs 48 f)
theorem Turn.refl (b : Nat) (w : World) : Turn b w w := ⟨Below.refl _ _, fun _ _ _ h => h⟩
theorem Turn.trans {b : Nat} {w w' w'' : World} (h : Turn b w w') (k : Turn b w' w'') : Turn b w w'' := ⟨h.below.trans k.below, fun j cs f e => k.other j cs f (h.other j cs f e)⟩
theorem Turn.later {b : Nat} {w w' : World} (hb : b ≤ w.heap.size) (h : Below w.heap.size w w') : Turn b w w' :=
  ⟨h.mono hb, fun j cs f e => by rw [h.block j (Array.getElem?_eq_some_iff.1 e).1]; exact e⟩
theorem Turn.grown {b : Nat} {w w' : World} {row : Option Nat} (hb : b ≤ w.heap.size) (h : w.grownBy w' row) (hr : ∀ j, row = some j → b ≤ j ∧ ∀ (cs : Array Value) (f : Nat × Nat), w.heap[j]? ≠ some (Obj.cells cs 48 f)) : Turn b w w' := by
  refine ⟨⟨h.os, h.tape, h.output, h.size, fun k hk => h.block k (by omega) fun e => by have := (hr k e.symm).1; omega⟩, fun j cs f e => ?_⟩
  rw [h.block j (Array.getElem?_eq_some_iff.1 e).1 fun k => (hr j k.symm).2 cs f e]; exact e
end Go.Proofs.Ythehjhckcblbdaa.Ma
/-
  match's note: the places from one on, up to another, are held at their keys.
-/
namespace Go.Proofs.Ythehjhckcblbdaa.Ma
set_option maxRecDepth 100000
open Go.RowKit Go.Lib Mt
set_option maxHeartbeats 2000000 in
theorem note_any (s : ByteArray) (hs : s.size ≤ 2000) (b base lo p e : Nat) (hlo : lo ≤ p) (hpe : p ≤ e) (he : e ≤ s.size) (w : World) (h : Grp Try.prog 84 3 .i64 w base b (pos s.data.toList lo p)) (hbb : base = b + 1) (hbw : base ≤ w.heap.size) :
    Calls Try.prog 37 #[.map (some b), .string s, .int .i64 p, .int .i64 e] w fun x w' => x = .returned (.tuple #[]) ∧ Grp Try.prog 84 3 .i64 w' base b (pos s.data.toList lo e) ∧ Turn b w w' := by
  have zs : (s.size : Int) ≤ 2000 := by omega
  have ze : (e : Int) ≤ 2000 := by omega
  have HE := Lib.hid he
  have HL := Lib.hid hlo
  have HBB := Lib.hid hbb
  have hsl : Hid (s.data.toList.length = s.size) := by show _ = _; simp
  obtain ⟨i0, hi0, hz0, hz1, hz2⟩ := info_parts info3
  have H0 : Hid (Grp Try.prog 84 3 .i64 w base b (pos s.data.toList lo p)) := Lib.hid h
  clear h hlo he hbb
  go_enter Try.func37, Try.ntmps37
  go_wp2
  go_loopw [2] (fun v wr => ∃ k : Nat, p ≤ k ∧ k ≤ e ∧ v = .int .i64 k ∧ Hid (Grp Try.prog 84 3 .i64 wr base b (pos s.data.toList lo k)) ∧ Hid (Turn b w wr)) (fun v _ => e - (RowKit.intOf v).toNat)
  case atStart => exact ⟨p, Nat.le_refl _, hpe, rfl, H0, Lib.hid (Turn.refl _ _)⟩
  case round =>
    clear H0
    obtain ⟨k, hpk, hk, rfl, HG, HT⟩ := hrel
    by_cases hlt : k < e
    · have zk : (k : Int) < e := by omega
      by_cases h3 : k + 3 ≤ s.size
      · have hc := start_yes s k wr hs h3
        rw [at3_is h3] at hc
        obtain ⟨x, y, z, hx⟩ : ∃ x y z, at3 s.data.toList k = K3 x y z := ⟨_, _, _, rfl⟩
        rw [hx] at hc
        replace hx := Lib.hid hx
        simp only [K3] at hc
        obtain ⟨kl, hkl⟩ : ∃ l, keyOf Try.prog 84 (K3 x y z) = some l := key_is _ _ _
        have hbr : b < wr.heap.size := by have := HT.out.below.size; have := HBB.out; omega
        replace hkl := Lib.hid hkl
        go_wp2_with (first | (go_at_call 65; (with_reducible refine hc.mono ?_); rintro x w1 ⟨rfl, H1⟩) | (with_reducible refine stop_entry ?_))
        unfold Stop
        have hw1 := H1.size
        have hwr := HT.out.below.size
        have hbb := HBB.out
        have B2 := ((H1.alloc H1.size (Obj.cells #[.int .u8 (x.toNat : Int), .int .u8 (y.toNat : Int), .int .u8 (z.toNat : Int)] 84)).alloc (by have := H1.size; simp; omega) (Obj.cells #[.int .i64 (k : Int)] 3))
        have G2 := HG.out.later B2
        have T1 := Turn.later (b := b) (by omega) B2
        refine wpList_grp_entry _ rfl (.tmp 22) (.tmp 23) 62 rfl law42 Try.underlying62 zero45 rfl G2 (key := K3 x y z) rfl hkl.out ?_
        intro v st w3 g3 o3 back hm3
        have T2 : Turn b _ w3 := T1.trans (Turn.grown (by simp; omega) g3 (fun j hj => ⟨by cases hj; exact Nat.le_refl _, fun cs f e1 => by
          cases hj
          obtain ⟨es, ck, G3⟩ := G2
          rw [G3.heap] at e1; cases e1⟩))
        have hlen : (pos s.data.toList lo k (K3 x y z)).length ≤ 2000 := by
          have := posL_len s.data.toList lo k (K3 x y z)
          unfold pos; rw [List.length_map]; omega
        have hcell : ∀ j u, [Value.int .i64 (k : Int)][j]? = some u → w3.cell? ((⟨w1.heap.size + 1, 0, Option.none⟩ : Addr).add j) = some u := by
          intro j u hj
          match j, hj with
          | 0, hj =>
            simp at hj
            subst hj
            have e1 := g3.block (w1.heap.size + 1) (by simp) (by simp; omega)
            rw [Addr.add_lit, World.cell?_of_block (w := (w1.alloc (Obj.cells #[.int .u8 (x.toNat : Int), .int .u8 (y.toNat : Int), .int .u8 (z.toNat : Int)] 84)).alloc (Obj.cells #[.int .i64 (k : Int)] 3)) (w' := w3) e1]
            have e2 := heap_alloc_new (w1.alloc (Obj.cells #[.int .u8 (x.toNat : Int), .int .u8 (y.toNat : Int), .int .u8 (z.toNat : Int)] 84)) (Obj.cells #[.int .i64 (k : Int)] 3)
            have e3 : (w1.alloc (Obj.cells #[.int .u8 (x.toNat : Int), .int .u8 (y.toNat : Int), .int .u8 (z.toNat : Int)] 84)).heap.size = w1.heap.size + 1 := by simp
            rw [e3] at e2
            rw [cell_of_row _ _ 0 _ 3 (0, 0) e2]
            rfl
          | j + 1, hj => simp at hj
        have hb3 : base ≤ w3.heap.size := by have := g3.size; simp at this; omega
        have hv : ∀ j, v.ownBlock = some j → base ≤ j ∧ ∀ (cs : Array Value) (f : Nat × Nat), w3.heap[j]? ≠ some (Obj.cells cs 48 f) := fun j hj => by
          obtain ⟨h1, c, h2⟩ := ints_block o3 j hj
          exact ⟨h1, fun cs f e1 => by rw [h2] at e1; cases e1⟩
        clear T1 B2
        go_wp2_with (with_reducible refine stop_append ?_)
        unfold Stop
        refine wpList_append_own_at _ rfl _ _ 50 rfl base 3 i0 (.int .i64 0) 1 8 Try.underlying50 hi0 hz0 hz1 hz2 rfl (by decide) _ _ _ rfl o3.1 ⟨w1.heap.size + 1, 0, none⟩ 1 1 [.int .i64 k] rfl rfl hcell (ints_oneCell .i64 [(k : Int)]) (by unfold maxLen; omega) (by omega) hb3 ?_
        intro v' w4 own4 g4 nn4 loc4
        go_wp2_with (with_reducible refine stop_store ?_)
        unfold Stop
        refine wpList_grp_store _ rfl (.tmp 22) (.tmp 29) (.tmp 28) 62 rfl back rfl rfl rfl g4 (o3.appended own4 (WalkArith.wf_i64 (by omega))) (loc4.imp id (fun h => ⟨_, h, Nat.le_refl _⟩)) (pos s.data.toList lo (k + 1)) (by rw [← hx.out]; exact pos_here _ (by have := HL.out; omega) (by rw [hsl.out]; omega)) (fun u hu => pos_else _ (by have := HL.out; omega) (by rw [hx.out]; exact hu)) ?_
        intro w5 G5 g5
        have T3 : Turn b wr w5 := by
          obtain ⟨es, ck, hm⟩ := hm3
          have T4 : Turn b w3 w4 := Turn.grown (by omega) g4 (fun j hj => ⟨by have := (hv j hj).1; omega, (hv j hj).2⟩)
          have hm4 : w4.heap[b]? = some (.map es ck) := by
            rw [g4.block b (by omega) (fun e1 => by have := (hv b e1.symm).1; omega)]; exact hm
          exact (T2.trans T4).trans (Turn.grown (by have := g4.size; omega) g5 (fun j hj => ⟨by cases hj; exact Nat.le_refl _, fun cs f e1 => by cases hj; rw [hm4] at e1; cases e1⟩))
        clear back own4 g4 nn4 loc4 g5 g3 o3 hm3
        replace G5 := Lib.hid G5
        replace T3 := Lib.hid T3
        go_wp2
        go_roundw
        case rel => exact ⟨k + 1, by omega, by omega, by go_num, G5, Lib.hid (HT.out.trans T3.out)⟩
        case measure => simp [RowKit.intOf]; omega
      · have hc := start_no s k wr hs (by have := HE.out; omega) (by omega)
        have hbr : b < wr.heap.size := by have := HT.out.below.size; have := HBB.out; omega
        have HP : Hid (pos s.data.toList lo (k + 1) = pos s.data.toList lo k) := Lib.hid (pos_short _ (by have := HL.out; omega) (by rw [hsl.out]; omega))
        go_wp2_with (go_at_call 65; ((with_reducible refine hc.mono ?_); rintro x w1 ⟨rfl, H1⟩))
        have B2 := (H1.alloc H1.size (Obj.cells #[.int .u8 0, .int .u8 0, .int .u8 0] 84))
        have G2 := HG.out.later B2
        rw [← HP.out] at G2
        have T1 := Turn.later (b := b) (by omega) B2
        go_roundw
        case rel => exact ⟨k + 1, by omega, by omega, by go_num, Lib.hid G2, Lib.hid (HT.out.trans T1)⟩
        case measure => simp [RowKit.intOf]; omega
    · have e1 : k = e := by omega
      subst e1
      go_wp2
      go_end0
      exact ⟨rfl, HG.out, HT.out⟩
end Go.Proofs.Ythehjhckcblbdaa.Ma
/-
  Maths: the best among the places from one of the list on is, place by place from the list's end, the longest copy. No condition.
-/
namespace Go.Proofs.Ythehjhckcblbdaa.Ma
set_option maxRecDepth 100000
open Mt
theorem run_alike {s : List UInt8} {a p n m : Nat} (h : Run s a p n) (ha : a < p) (hm : m ≤ 18) : alike s p (p - a) m ↔ m ≤ n := by
  constructor
  · rintro ⟨h1, _, _, h4⟩
    rcases h.stop with k | k | k
    · omega
    · omega
    · refine Nat.le_of_not_lt fun hlt => k ?_
      have := h4 n hlt
      rw [this, show p + n - (p - a) = a + n by omega]
  · intro hmn
    refine ⟨by have := h.inn; omega, by omega, by omega, fun i hi => ?_⟩
    rw [show p + i - (p - a) = a + i by omega]
    exact (h.same i (by omega)).symm
theorem run_three {s : List UInt8} {a p n : Nat} (h : Run s a p n) (h3 : p + 3 ≤ s.length) (hk : at3 s a = at3 s p) : 3 ≤ n := by
  obtain ⟨k0, k1, k2⟩ := at3_inj hk
  rcases h.stop with k | k | k
  · omega
  · omega
  · refine Nat.le_of_not_lt fun hlt => k ?_
    match n, hlt with
    | 0, _ => exact k0
    | 1, _ => exact k1
    | 2, _ => exact k2
theorem alike_at {s : List UInt8} {p e m : Nat} (h : alike s p e m) (hm : 3 ≤ m) {lo : Nat} (hlo : lo ≤ p - e) : p - e ∈ posL s lo p (at3 s p) := by
  obtain ⟨h1, h2, h3, h4⟩ := h
  refine posL_mem.2 ⟨hlo, by omega, by omega, ?_⟩
  have e0 := h4 0 (by omega)
  have e1 := h4 1 (by omega)
  have e2 := h4 2 (by omega)
  unfold at3
  simp only [Nat.add_zero] at e0
  rw [show p + 1 - e = p - e + 1 by omega] at e1
  rw [show p + 2 - e = p - e + 2 by omega] at e2
  rw [e0, e1, e2]
/-- the best among the places from the j-th on -/
structure Far (s : List UInt8) (lo p j d n : Nat) : Prop where
  top : ∀ i (_ : j ≤ i) (h : i < (posL s lo p (at3 s p)).length), ∀ m, m ≤ 18 → 3 ≤ m → alike s p (p - (posL s lo p (at3 s p))[i]) m → m ≤ n
  hit : n = 0 ∧ d = 0 ∨ 3 ≤ n ∧ n ≤ 18 ∧ d ≤ 255 ∧ alike s p d n ∧ ∀ e, e < d → ¬ alike s p e n
theorem Far.start (s : List UInt8) (lo p : Nat) : Far s lo p (posL s lo p (at3 s p)).length 0 0 := ⟨fun i h1 h2 => by omega, .inl ⟨rfl, rfl⟩⟩
theorem Far.bound {s : List UInt8} {lo p j d n : Nat} (h : Far s lo p j d n) : n ≤ 18 ∧ d ≤ 255 := by
  rcases h.hit with ⟨h1, h2⟩ | ⟨_, h2, h3, _⟩ <;> omega
theorem rise_lt {l : List Nat} (h : l.Pairwise (· < ·)) {i j : Nat} (hi : i < l.length) (hj : j < l.length) (hij : i < j) : l[i] < l[j] := List.pairwise_iff_getElem.1 h i j hi hj hij
theorem Far.step {s : List UInt8} {lo p j d n k : Nat} (h : Far s lo p (j + 1) d n) (h3 : p + 3 ≤ s.length) (hj : j < (posL s lo p (at3 s p)).length) (hd : p - (posL s lo p (at3 s p))[j] ≤ 255)
    (hr : Run s (posL s lo p (at3 s p))[j] p k) : (n < k → Far s lo p j (p - (posL s lo p (at3 s p))[j]) k) ∧ (¬ n < k → Far s lo p j d n) := by
  have hm := posL_mem.1 (List.getElem_mem hj)
  have k3 := run_three hr h3 hm.2.2.2
  refine ⟨fun hlt => ⟨fun i h1 h2 m m1 m2 hal => ?_, .inr ⟨k3, hr.top, hd, (run_alike hr hm.2.1 hr.top).2 (Nat.le_refl _), fun e he hal => ?_⟩⟩, fun hge => ⟨fun i h1 h2 m m1 m2 hal => ?_, h.hit⟩⟩
  · by_cases e1 : i = j
    · subst e1; exact (run_alike hr hm.2.1 m1).1 hal
    · have := h.top i (by omega) h2 m m1 m2 hal; omega
  · have he1 := hal.2.1
    have he2 := hal.2.2.1
    obtain ⟨i, hi, hie⟩ := List.mem_iff_getElem.1 (alike_at hal k3 (lo := lo) (by omega))
    have hij : j < i := by
      refine Nat.lt_of_not_le fun hle => ?_
      by_cases e1 : i = j
      · subst e1; omega
      · have := rise_lt (posL_rise s lo p (at3 s p)) hi hj (by omega); omega
    have := h.top i (by omega) hi k hr.top k3 (by rw [hie, show p - (p - e) = e by omega]; exact hal)
    omega
  · by_cases e1 : i = j
    · subst e1; have := (run_alike hr hm.2.1 m1).1 hal; omega
    · exact h.top i (by omega) h2 m m1 m2 hal
theorem Far.done {s : List UInt8} {lo p j d n : Nat} (h : Far s lo p j d n) (hlo : lo ≤ p - 255) (hj : j = 0 ∨ (∃ i, j = i + 1 ∧ ∃ (hi : i < (posL s lo p (at3 s p)).length), 255 < p - (posL s lo p (at3 s p))[i]) ∨ 18 ≤ n) : longest s p = (n, d) := by
  refine best_longest ⟨fun e m h1 h2 h3 hal => ?_, h.hit⟩
  have he1 := hal.2.1
  have he2 := hal.2.2.1
  obtain ⟨i, hi, hie⟩ := List.mem_iff_getElem.1 (alike_at hal h3 (lo := lo) (by omega))
  rcases hj with rfl | ⟨i', rfl, hi', hf⟩ | h18
  · exact h.top i (by omega) hi m h2 h3 (by rw [hie, show p - (p - e) = e by omega]; exact hal)
  · by_cases hij : i' + 1 ≤ i
    · exact h.top i hij hi m h2 h3 (by rw [hie, show p - (p - e) = e by omega]; exact hal)
    · exfalso
      by_cases e1 : i = i'
      · subst e1; omega
      · have := rise_lt (posL_rise s lo p (at3 s p)) hi hi' (by omega); omega
  · omega
theorem far_none {s : List UInt8} {p : Nat} (h3 : s.length < p + 3) : longest s p = (0, 0) :=
  best_longest ⟨fun e m h1 h2 h3 hal => by have := hal.1; omega, .inl ⟨rfl, rfl⟩⟩
end Go.Proofs.Ythehjhckcblbdaa.Ma
/-
  match's longest, over a map of places; match.Longest.
-/
namespace Go.Proofs.Ythehjhckcblbdaa.Ma
open Go.RowKit Go.Lib Mt
theorem ret_two {a b c d : Nat} (h1 : a = c) (h2 : b = d) : Ending.returned (.tuple #[.int .i64 a, .int .i64 b]) = .returned (.tuple #[.int .i64 c, .int .i64 d]) := by rw [h1, h2]
set_option maxRecDepth 100000 in
set_option maxHeartbeats 2000000 in
theorem best_any (s : ByteArray) (hs : s.size ≤ 2000) (b base lo p : Nat) (hlo : lo ≤ p - 255) (hp : p ≤ s.size) (w : World) (h : Grp Try.prog 84 3 .i64 w base b (pos s.data.toList lo p)) :
    Calls Try.prog 36 #[.map (some b), .string s, .int .i64 p] w fun x w' => x = .returned (.tuple #[.int .i64 ((longest s.data.toList p).2 : Nat), .int .i64 ((longest s.data.toList p).1 : Nat)]) ∧ Below w.heap.size w w' := by
  have zs : (s.size : Int) ≤ 2000 := by omega
  have zp : (p : Int) ≤ 2000 := by omega
  have hsl : Hid (s.data.toList.length = s.size) := by show _ = _; simp
  have HL := Lib.hid hlo
  have HG := Lib.hid h
  clear h hlo
  obtain ⟨R1, hR1⟩ : ∃ R, R = (longest s.data.toList p).1 := ⟨_, rfl⟩
  obtain ⟨R2, hR2⟩ : ∃ R, R = (longest s.data.toList p).2 := ⟨_, rfl⟩
  rw [← hR1, ← hR2]
  have HR1 := Lib.hid hR1
  have HR2 := Lib.hid hR2
  clear hR1 hR2
  by_cases h3 : p + 3 ≤ s.size
  · have hc := start_yes s p w hs h3
    rw [at3_is h3] at hc
    obtain ⟨x, y, z, hx⟩ : ∃ x y z, at3 s.data.toList p = K3 x y z := ⟨_, _, _, rfl⟩
    rw [hx] at hc
    replace hx := Lib.hid hx
    simp only [K3] at hc
    obtain ⟨kl, hkl⟩ : ∃ l, keyOf Try.prog 84 (K3 x y z) = some l := key_is _ _ _
    replace hkl := Lib.hid hkl
    go_enter Try.func36, Try.ntmps36
    go_wp2_with (first | (go_at_call 65; (with_reducible refine hc.mono ?_); rintro x w1 ⟨rfl, H1⟩) | (with_reducible refine stop_look ?_))
    unfold Stop
    have B2 := H1.alloc H1.size (Obj.cells #[.int .u8 (x.toNat : Int), .int .u8 (y.toNat : Int), .int .u8 (z.toNat : Int)] 84)
    have G2 := HG.out.later B2
    refine wpList_grp_look _ rfl (.tmp 23) (.tmp 24) 62 rfl law42 Try.underlying62 zero45 rfl G2 (key := K3 x y z) rfl hkl.out ?_
    intro v o3
    rw [← hx.out] at o3
    replace B2 := Lib.hid B2
    have hLl : (posL s.data.toList lo p (at3 s.data.toList p)).length ≤ 2000 := Nat.le_trans (posL_len _ _ _ _) (by omega)
    have hpl : (pos s.data.toList lo p (at3 s.data.toList p)).length = (posL s.data.toList lo p (at3 s.data.toList p)).length := by unfold pos; rw [List.length_map]
    have F0 := Far.start s.data.toList lo p
    have DN : ∀ j d n, Far s.data.toList lo p j d n → (j = 0 ∨ (∃ i, j = i + 1 ∧ ∃ (hi : i < (posL s.data.toList lo p (at3 s.data.toList p)).length), 255 < p - (posL s.data.toList lo p (at3 s.data.toList p))[i]) ∨ 18 ≤ n) → R1 = n ∧ R2 = d := fun j d n f hj => by
      rw [HR1.out, HR2.out, f.done HL.out hj]; exact ⟨rfl, rfl⟩
    have ST := fun j d n k f hj hd hr => Far.step (s := s.data.toList) (lo := lo) (p := p) (j := j) (d := d) (n := n) (k := k) f (by rw [hsl.out]; exact h3) hj hd hr
    have MB : ∀ j (hj : j < (posL s.data.toList lo p (at3 s.data.toList p)).length), (posL s.data.toList lo p (at3 s.data.toList p))[j] < p := fun j hj => (posL_mem.1 (List.getElem_mem hj)).2.1
    have CL : ∀ g cap, v = .slice (some ⟨g, 0, none⟩) (posL s.data.toList lo p (at3 s.data.toList p)).length cap → ∀ j (hj : j < (posL s.data.toList lo p (at3 s.data.toList p)).length), (w1.alloc (Obj.cells #[.int .u8 (x.toNat : Int), .int .u8 (y.toNat : Int), .int .u8 (z.toNat : Int)] 84)).cell? ⟨g, j, none⟩ = some (.int .i64 ((posL s.data.toList lo p (at3 s.data.toList p))[j] : Nat)) := by
      intro g cap hv j hj
      have := o3.1.cells (g := g) (by rw [hv]; rfl) j (.int .i64 ((posL s.data.toList lo p (at3 s.data.toList p))[j] : Nat)) (by unfold pos; simp [hj])
      rwa [Addr.add_lit, Nat.zero_add] at this
    have hform := o3.1.2
    rw [hpl] at hform
    clear o3 G2 HG hkl hpl
    replace F0 := Lib.hid F0
    replace DN := Lib.hid DN
    replace ST := Lib.hid ST
    replace MB := Lib.hid MB
    replace CL := Lib.hid CL
    generalize hLd : posL s.data.toList lo p (at3 s.data.toList p) = L at *
    replace hLd := Lib.hid hLd
    have hLl2 : (L.length : Int) ≤ 2000 := by omega
    generalize hW : w1.alloc (Obj.cells #[.int .u8 (x.toNat : Int), .int .u8 (y.toNat : Int), .int .u8 (z.toNat : Int)] 84) = w2 at *
    clear hW
    rcases hform with ⟨rfl, h0⟩ | ⟨g, cap, cur, rfl, _, _, hcap, hcm, _, _⟩
    · have F1 : Hid (R1 = 0 ∧ R2 = 0) := Lib.hid (DN.out 0 0 0 (by have := F0.out; rw [h0] at this; exact this) (.inl rfl))
      clear F0 DN ST MB CL h0 hLl hLl2
      go_wp2
      go_loopw [10, 11, 13] (fun d n i wr => d = .int .i64 0 ∧ n = .int .i64 0 ∧ i = .int .i64 (-1) ∧ wr = w2) (fun _ _ _ _ => 0)
      case atStart => exact ⟨rfl, rfl, rfl, rfl⟩
      case round =>
        obtain ⟨rfl, rfl, rfl, rfl⟩ := hrel
        go_wp2
        go_ret2
        exact ⟨ret_two F1.out.2.symm F1.out.1.symm, B2.out⟩
    · go_wp2
      have CC := Lib.hid (CL.out g cap rfl)
      have hcap2 : (L.length : Int) ≤ cap := by omega
      rename_i k1 k2 k3 k4 _ _
      clear CL hc k1 k2 k3 k4
      go_loopw [10, 11, 13] (fun d n i wr => ∃ (j dd nn : Nat), j ≤ L.length ∧ i = .int .i64 ((j : Int) - 1) ∧ d = .int .i64 dd ∧ n = .int .i64 nn ∧ Hid (Far s.data.toList lo p j dd nn) ∧ Hid (Below w2.heap.size w2 wr)) (fun _ _ i _ => (RowKit.intOf i + 1).toNat)
      case atStart => exact ⟨L.length, 0, 0, Nat.le_refl _, rfl, rfl, rfl, F0, Lib.hid (Below.refl _ _)⟩
      case round =>
        clear F0
        obtain ⟨j, d, n, hj, rfl, rfl, rfl, HF, HW⟩ := hrel
        have zn : (n : Int) ≤ 18 := by have := HF.out.bound; omega
        have zd : (d : Int) ≤ 255 := by have := HF.out.bound; omega
        cases j with
        | zero =>
          have F1 := Lib.hid (DN.out 0 d n HF.out (.inl rfl))
          go_wp2
          go_ret2
          exact ⟨ret_two F1.out.2.symm F1.out.1.symm, B2.out.next HW.out⟩
        | succ j =>
          have hjl : j < L.length := by omega
          have hjz : (j : Int) < L.length := by omega
          have hji : (((j + 1 : Nat) : Int) - 1) = (j : Int) := by omega
          rw [hji]
          have hcl : wr.cell? ⟨g, j, none⟩ = some (.int .i64 (L[j] : Nat)) := by
            rw [HW.out.cell (p := ⟨g, j, none⟩) (World.block_lt_of_cell? w2 _ (CC.out j hjl))]; exact CC.out j hjl
          have hap := MB.out j hjl
          have hst := ST.out j d n
          have hdn := DN.out (j + 1) d n HF.out
          obtain ⟨a, ha⟩ : ∃ a, L[j] = a := ⟨_, rfl⟩
          obtain ⟨e, he⟩ : ∃ e, p - a = e := ⟨_, rfl⟩
          have hep : (p : Int) - a = e := by omega
          have za : (a : Int) ≤ 2000 := by omega
          have HD1 : Hid (255 < e → R1 = n ∧ R2 = d) := Lib.hid (fun h => hdn (.inr (.inl ⟨j, rfl, hjl, by rw [ha, he]; exact h⟩)))
          have HD2 : Hid (18 ≤ n → R1 = n ∧ R2 = d) := Lib.hid (fun h => hdn (.inr (.inr h)))
          have HST : Hid (e ≤ 255 → ∀ k, Run s.data.toList a p k → (n < k → Far s.data.toList lo p j e k) ∧ (¬ n < k → Far s.data.toList lo p j d n)) := Lib.hid (fun h k hr => by
            have := hst k HF.out hjl (by rw [ha, he]; exact h) (by rw [ha]; exact hr)
            rw [ha, he] at this; exact this)
          rw [ha] at hcl hap
          have hcl3 : ∀ w3, Below wr.heap.size wr w3 → w3.cell? ⟨g, j, none⟩ = some (.int .i64 (a : Nat)) := fun w3 h => by
            rw [h.cell (p := ⟨g, j, none⟩) (World.block_lt_of_cell? wr _ hcl)]; exact hcl
          have hsm := fun w => same_any s a p w hs hap hp
          replace hap := Lib.hid hap
          clear hst hdn ha he hji
          by_cases h255 : e ≤ 255
          · have z255 : (e : Int) ≤ 255 := by omega
            by_cases h18 : n < 18
            · have z18 : (n : Int) ≤ 17 := by omega
              clear zn h18
              go_wp2_with (go_at_call 66; ((with_reducible refine (hsm _).mono ?_); rintro x w3 ⟨k, rfl, HR, H3⟩; have hq := hcl3 _ H3; have zk := HR.top; replace HR := Lib.hid HR; replace H3 := Lib.hid H3))
              · have hlt : n < k := by omega
                have F2 := Lib.hid ((HST.out (by omega) k HR.out).1 hlt)
                go_roundw
                case rel => exact ⟨j, e, k, by omega, by go_num, by go_num, rfl, F2, Lib.hid (HW.out.next H3.out)⟩
                case measure => simp [RowKit.intOf]
              · have hlt : ¬ n < k := by omega
                have F2 := Lib.hid ((HST.out (by omega) k HR.out).2 hlt)
                go_roundw
                case rel => exact ⟨j, d, n, by omega, by go_num, rfl, rfl, F2, Lib.hid (HW.out.next H3.out)⟩
                case measure => simp [RowKit.intOf]
            · have F1 := Lib.hid (HD2.out (by omega))
              have z18 : (18 : Int) ≤ n := by omega
              clear h18
              go_wp2
              go_ret2
              exact ⟨ret_two F1.out.2.symm F1.out.1.symm, B2.out.next HW.out⟩
          · have F1 := Lib.hid (HD1.out (by omega))
            have z255 : (256 : Int) ≤ e := by omega
            clear h255
            go_wp2
            go_ret2
            exact ⟨ret_two F1.out.2.symm F1.out.1.symm, B2.out.next HW.out⟩
  · have hc := start_no s p w hs hp (by omega)
    go_enter Try.func36, Try.ntmps36
    go_wp2_with (go_at_call 65; ((with_reducible refine hc.mono ?_); rintro x w1 ⟨rfl, H1⟩))
    go_ret2
    have e0 := far_none (s := s.data.toList) (p := p) (by rw [hsl.out]; omega)
    exact ⟨ret_two (by rw [HR2.out, e0]) (by rw [HR1.out, e0]), H1.alloc H1.size _⟩
end Go.Proofs.Ythehjhckcblbdaa.Ma
