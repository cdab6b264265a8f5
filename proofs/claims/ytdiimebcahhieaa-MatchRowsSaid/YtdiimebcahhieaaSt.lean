/-
  match.start: the three bytes at a place, and whether there are so many.
-/
import Derived.Test.YtdiimebcahhieaaSm
import Derived.RegionTactic
import Derived.Laws.ResultCell
import Derived.Laws.CopyOwn
import Derived.Lib.BufferWrite
import Derived.Lib.LazyBuf
namespace Go.Proofs.Ytdiimebcahhieaa
open Go.RowKit Go.Lib Mt
theorem run_copy_three {P : Program} (w : World) (dT sT ty elem : TypeId) (g : Nat) (x y z : Value) (t : TypeId) (s : ByteArray)
    (hu : P.underlying dT = some (.slice elem)) (hs : (P.info? elem).map (·.size) = some 1) (hg : w.heap[g]? = some (.cells #[x, y, z] t (0, 0))) (h3 : 3 ≤ s.size) :
    (Builtin.copy_ #[dT, sT] ty #[.slice (some ⟨g, 0, none⟩) 3 3, .string s]).run P w =
      .ok (goInt 3) (w.setRow g (byteCells (s.data.toList.take 3)).toArray) := by
  have hl : (s.data.toList.take 3).length = 3 := by rw [List.length_take]; simp; omega
  have hlen : (byteCells (s.data.toList.take 3)).length = 3 := by rw [byteCells_length, hl]
  have hst := run_storeCells_at P g 0 t (byteCells (s.data.toList.take 3)) 0 #[x, y, z] w hg (by rw [hlen]; simp) (byteCells_one _)
  have hmin : Nat.min s.size 3 = 3 := Nat.min_eq_right h3
  have htk : List.take 3 (List.map (fun b : UInt8 => Value.int IntKind.u8 (b.toNat : Int)) s.data.toList) = byteCells (s.data.toList.take 3) := by
    rw [← List.map_take]
    rfl
  rw [hlen] at hst
  simp only [Nat.add_zero] at hst
  cases hq : P.info? elem with
  | none => simp [hq] at hs
  | some i =>
    simp [Builtin.copy_, run_underlying hu, Builtin.lenOf, Builtin.firstCells, sizeOf, typeInfo, hq, hmin]
    rw [htk, hst]
    simp [Result.andThen]
theorem step_copy_three {P : Program} {ops : Array Oper} {o : Oper} {a : Act} {w : World} {K : Act → World → Prop} {Q : Exit → Act → World → Prop} {E : Prop}
    (hgd : o.guard = none) (d x : Operand) (dT sT : TypeId) (hop : o.op = Op.call { callee := Callee.builtin Builtin.copy, args := #[d, x], argTypes := #[dT, sT] })
    (elem : TypeId) (hu : P.underlying dT = some (.slice elem)) (hs : (P.info? elem).map (·.size) = some 1)
    (g : Nat) (c0 c1 c2 : Value) (t : TypeId) (hd : a.eval d = .slice (some ⟨g, 0, none⟩) 3 3) (s : ByteArray) (hx : a.eval x = .string s) (hg : w.heap[g]? = some (.cells #[c0, c1, c2] t (0, 0))) (h3 : 3 ≤ s.size)
    (hK : K (a.put o.dst (goInt 3)) (w.setRow g (byteCells (s.data.toList.take 3)).toArray)) :
    if Region.wanted o (yielded ops a.tmps) = true then Oper.wp P o a w K Q else E := by
  have hw : Region.wanted o (yielded ops a.tmps) = true := by simp [Region.wanted, hgd]
  rw [if_pos hw]
  have hrun := run_copy_three (P := P) w dT sT o.type elem g c0 c1 c2 t s hu hs hg h3
  unfold Oper.wp
  simp [execOp, hop, resolve, invoke, builtin, hd, hx, hrun, Result.andThen]
  exact hK
theorem size5 : (Try.prog.info? 5).map (·.size) = some 1 := by kernel_rfl
def K3 (a b c : UInt8) : Value := .agg #[.int .u8 (a.toNat : Int), .int .u8 (b.toNat : Int), .int .u8 (c.toNat : Int)]
set_option maxHeartbeats 1000000 in
theorem start_no (s : ByteArray) (p : Nat) (w : World) (hs : s.size ≤ 2000) (hp : p ≤ s.size) (h3 : s.size < p + 3) :
    Calls Try.prog 18 #[.string s, .int .i64 p] w fun e w' => e = .returned (.tuple #[.agg #[.int .u8 0, .int .u8 0, .int .u8 0], .bool false]) ∧ Below w.heap.size w w' := by
  have HB := Lib.hid (fun o o' => ((Below.refl w.heap.size w).alloc (Nat.le_refl _) o).alloc (by simp) o')
  have zs : (s.size : Int) ≤ 2000 := by omega
  have zp : (p : Int) ≤ s.size := by omega
  have z3 : (s.size : Int) - p < 3 := by omega
  clear h3
  go_enter Try.func18, Try.ntmps18
  go_wp2
  refine bodyPost_ret (v := .tuple #[.agg #[.int .u8 0, .int .u8 0, .int .u8 0], .bool false]) ?_ rfl ⟨rfl, HB.out _ _⟩
  rw [results_cell_tmp rfl]
  go_simp
theorem three_bytes (s : ByteArray) (p : Nat) (hp : p + 3 ≤ s.size) : (byteCells (List.take 3 (List.take (s.size - p) (List.drop p s.data.toList)))).toArray = #[Value.int .u8 (s[p].toNat : Int), Value.int .u8 (s[p + 1].toNat : Int), Value.int .u8 (s[p + 2].toNat : Int)] := by
  have hl : s.data.toList.length = s.size := by simp
  rw [List.take_take, show min 3 (s.size - p) = 3 by omega, List.drop_eq_getElem_cons (by omega), List.drop_eq_getElem_cons (by omega), List.drop_eq_getElem_cons (by omega)]
  rfl
set_option maxHeartbeats 1000000 in
theorem start_yes (s : ByteArray) (p : Nat) (w : World) (hs : s.size ≤ 2000) (hp : p + 3 ≤ s.size) :
    Calls Try.prog 18 #[.string s, .int .i64 p] w fun e w' => e = .returned (.tuple #[K3 s[p] s[p+1] s[p+2], .bool true]) ∧ Below w.heap.size w w' := by
  have zs : (s.size : Int) ≤ 2000 := by omega
  have zp : (p : Int) + 3 ≤ s.size := by omega
  have z3 : ¬ (s.size : Int) - p < 3 := by omega
  have zn : p ≤ s.size := by omega
  have HW : ∀ w : World, ((w.alloc (Obj.cells #[Value.int IntKind.u8 0, Value.int IntKind.u8 0, Value.int IntKind.u8 0] 42)).alloc (Obj.cells #[Value.int IntKind.u8 0, Value.int IntKind.u8 0, Value.int IntKind.u8 0] 42)).drew.heap[w.heap.size]? = some (.cells #[Value.int IntKind.u8 0, Value.int IntKind.u8 0, Value.int IntKind.u8 0] 42 (0, 0)) ∧ ((w.alloc (Obj.cells #[Value.int IntKind.u8 0, Value.int IntKind.u8 0, Value.int IntKind.u8 0] 42)).alloc (Obj.cells #[Value.int IntKind.u8 0, Value.int IntKind.u8 0, Value.int IntKind.u8 0] 42)).drew.heap[w.heap.size + 1]? = some (.cells #[Value.int IntKind.u8 0, Value.int IntKind.u8 0, Value.int IntKind.u8 0] 42 (0, 0)) := fun w =>
    ⟨by show ((w.alloc _).alloc _).heap[w.heap.size]? = _; rw [_root_.Go.heap_alloc_old _ _ (by simp)]; exact heap_alloc_new w _, by show ((w.alloc _).alloc _).heap[w.heap.size + 1]? = _; have := heap_alloc_new (w.alloc (Obj.cells #[Value.int IntKind.u8 0, Value.int IntKind.u8 0, Value.int IntKind.u8 0] 42)) (.cells #[Value.int IntKind.u8 0, Value.int IntKind.u8 0, Value.int IntKind.u8 0] 42); have e : (w.alloc (Obj.cells #[Value.int IntKind.u8 0, Value.int IntKind.u8 0, Value.int IntKind.u8 0] 42)).heap.size = w.heap.size + 1 := (by simp); rwa [e] at this⟩
  go_enter Try.func18, Try.ntmps18
  go_wp2
  obtain ⟨hh, hr⟩ := HW w
  go_region_law (refine step_copy_three rfl (.tmp 13) (.tmp 16) 32 9 rfl 5 Try.underlying32 size5 (w.heap.size + 1) (.int .u8 0) (.int .u8 0) (.int .u8 0) 42 (by simp [Act.eval, Act.put]) (s.extract p s.size) (by simp [Act.eval, Act.put]) hr (by rw [ByteArray.size_extract]; omega) ?_)
  rw [three_bytes s p hp]
  have hq := setRow_heap _ _ _ #[Value.int .u8 (s[p].toNat : Int), Value.int .u8 (s[p + 1].toNat : Int), Value.int .u8 (s[p + 2].toNat : Int)] _ _ hr
  have hq0 := (setRow_other _ (w.heap.size + 1) w.heap.size #[Value.int .u8 (s[p].toNat : Int), Value.int .u8 (s[p + 1].toNat : Int), Value.int .u8 (s[p + 2].toNat : Int)] (by omega)).trans hh
  have hb := Lib.hid (below_setRow (g := w.heap.size + 1) (((Below.refl w.heap.size w).alloc (Nat.le_refl _) (Obj.cells #[Value.int IntKind.u8 0, Value.int IntKind.u8 0, Value.int IntKind.u8 0] 42)).alloc (by simp) (Obj.cells #[Value.int IntKind.u8 0, Value.int IntKind.u8 0, Value.int IntKind.u8 0] 42) |>.drew) (by omega) #[Value.int .u8 (s[p].toNat : Int), Value.int .u8 (s[p + 1].toNat : Int), Value.int .u8 (s[p + 2].toNat : Int)])
  clear hh hr HW
  obtain ⟨x, hx⟩ : ∃ x, s[p] = x := ⟨_, rfl⟩
  obtain ⟨y, hy⟩ : ∃ y, s[p + 1] = y := ⟨_, rfl⟩
  obtain ⟨z, hz⟩ : ∃ z, s[p + 2] = z := ⟨_, rfl⟩
  rw [hx, hy, hz] at hq hq0 hb ⊢
  generalize World.setRow _ _ _ = W at hq hq0 hb ⊢
  obtain ⟨h, hh⟩ : ∃ h, h = w.heap.size := ⟨_, rfl⟩
  rw [← hh] at hq hq0 ⊢
  have c0 := cell_of_row W (h + 1) 0 _ 42 (0, 0) hq
  have c1 := cell_of_row W (h + 1) 1 _ 42 (0, 0) hq
  have c2 := cell_of_row W (h + 1) 2 _ 42 (0, 0) hq
  have d0 := cell_of_row W h 0 _ 42 (0, 0) hq0
  have d1 := cell_of_row W h 1 _ 42 (0, 0) hq0
  have d2 := cell_of_row W h 2 _ 42 (0, 0) hq0
  have f0 := frozen_of_row W h 0 _ 42 hq0
  have f1 := frozen_of_row W h 1 _ 42 hq0
  have f2 := frozen_of_row W h 2 _ 42 hq0
  simp at c0 c1 c2 d0 d1 d2
  replace hh := Lib.hid hh
  simp only [Exit.then]
  have HK : Hid (K3 s[p] s[p + 1] s[p + 2] = K3 x y z) := by show _ = _; rw [hx, hy, hz]
  clear hx hy hz hq hq0
  go_wp2
  refine bodyPost_ret (v := .tuple #[K3 x y z, .bool true]) ?_ rfl ⟨by rw [HK.out], ((hb.out.setCell (by rw [hh.out]; exact Nat.le_refl _) _).setCell (by rw [hh.out]; exact Nat.le_refl _) _).setCell (by rw [hh.out]; exact Nat.le_refl _) _⟩
  rw [results_cell_tmp rfl]
  go_simp
  rfl
end Go.Proofs.Ytdiimebcahhieaa
