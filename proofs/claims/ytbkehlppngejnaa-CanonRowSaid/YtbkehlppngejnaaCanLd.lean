/-
  Package canon's plain functions: laid, isNone, may.
-/
import Derived.Test.YtbkehlppngejnaaCanAr
import Derived.Test.YtbkehlppngejnaaHufKr
import Derived.Deep.MidRow
namespace Go.Proofs.Ytbkehlppngejnaa
open Go.RowKit Go.Lib Cn
theorem infoInt : (Try.prog.info? 3).map (fun i => (i.zero, i.size, i.bytes)) = some (some (.int .i64 0), 1, 8) := by kernel_rfl
def sixteen : List Value := List.replicate 16 (.slice none 0 0)
theorem arr_made (w : World) (l : List Nat) : Arr (w.alloc (.cells sixteen.toArray 48)) (w.heap.size + 1) w.heap.size l 0 sixteen := by
  refine ⟨by decide, heap_alloc_new w _, Nat.lt_succ_self _, by simp, fun n hn => ?_, fun m n hm hn hne => ?_⟩
  · have e : sixteen.getD n undef = .slice none 0 0 := by
      unfold sixteen; rw [List.getD_eq_getElem?_getD, List.getElem?_replicate, if_pos hn]; rfl
    rw [e, rowOf_none]
    exact World.ownsRow_nil _ _ _ _
  · have e : sixteen.getD m undef = .slice none 0 0 := by
      unfold sixteen; rw [List.getD_eq_getElem?_getD, List.getElem?_replicate, if_pos hm]; rfl
    rw [e]
    exact .inl rfl
theorem own_base {w : World} {B C n size : Nat} {e : TypeId} {v : Value} {xs : List Value} (h : w.ownsRow B e size v n xs) (hc : C ≤ B) : w.ownsRow C e size v n xs :=
  ⟨h.1, h.2.imp id fun ⟨g, cap, cur, h1, h2, h3⟩ => ⟨g, cap, cur, h1, Nat.le_trans hc h2, h3⟩⟩
theorem RowsOwn.base {w : World} {B C k : Nat} {l : List Nat} {vs : List Value} (h : RowsOwn w B l k vs) (hc : C ≤ B) : RowsOwn w C l k vs := fun n hn => own_base (h n hn) hc
theorem results_cell_mid {fn : Func} {p : Tmp} {ty : TypeId} (h : fn.results = #[.cell p ty]) (tmps : Array Value) (w : World) (g : Nat) (cs : List Value) (d : TypeDesc)
    (hp : tmps.getD p undef = .pointer (some ⟨g, 0, none⟩)) (hg : w.rangeAt g 0 cs) (hu : Try.prog.underlying ty = some d) (hd : d.isRow = true) (hi : (Try.prog.info? ty).map (·.size) = some cs.length) :
    (results fn tmps).run Try.prog w = .ok (.agg cs.toArray) w := by
  have hp' : tmps[p]?.getD undef = .pointer (some ⟨g, 0, none⟩) := by simpa using hp
  simp [results, h, hp', asAddr, run_loadVar_mid w g 0 ty cs d hg hu hd hi]
theorem cells_below {B g : Nat} {w0 : World} (hg : B ≤ g) : ∀ (cs : List Value) (o : Nat) (w : World), Below B w0 w → Below B w0 (w.setCells g o cs)
  | [], _, _, h => h
  | v :: r, o, _, h => cells_below hg r (o + 1) _ (h.setCell (p := ⟨g, o, none⟩) hg v)
theorem own_range {B C n size g : Nat} {e : TypeId} {v : Value} {xs : List Value} (hg : g < B) (hc : C ≤ B) : ∀ (cs : List Value) (o : Nat) (w : World), w.ownsRow B e size v n xs → (w.setCells g o cs).ownsRow C e size v n xs
  | [], _, _, h => own_base h hc
  | u :: r, o, w, h => own_range hg hc r (o + 1) _ (h.kept (row := some g) ⟨rfl, rfl, rfl, by simp, fun j _ hj => heap_setCell_other w ⟨g, o, none⟩ j u (fun e => hj (by simp [e]))⟩ (row_block h hg))
/-- what an append to a row leaves as it was -/
theorem Arr.after {w w3 : World} {B b k x : Nat} {l : List Nat} {vs : List Value} (h : Arr w B b l k vs) (hx16 : x < 16) (o : Obj) (gr1 : (w.alloc o).grownBy w3 (vs.getD x undef).ownBlock) {w0 : World} {r : Nat} {cs : Array Value}
    (hr : w.heap[r]? = some (.cells cs 48 (0, 0))) (hrB : r < B) (hb : Below w0.heap.size w0 w) (h0 : w0.heap.size ≤ B) :
    w3.cell? ⟨b, x, none⟩ = some (vs.getD x undef) ∧ w3.frozen? ⟨b, x, none⟩ = false ∧ w3.heap[r]? = some (.cells cs 48 (0, 0)) ∧ Below w0.heap.size w0 w3 := by
  have hbw : b < w.heap.size := Nat.lt_of_lt_of_le h.low h.size
  have hrw : r < w.heap.size := Nat.lt_of_lt_of_le hrB h.size
  have keep : ∀ j, j < B → j < w.heap.size → w3.heap[j]? = w.heap[j]? := fun j hj hjw => by
    rw [gr1.block j (by simp; omega) (fun e => by
      rcases row_block (h.owns x hx16) hj with z | z
      · rw [z] at e; cases e
      · exact z e.symm), heap_alloc_old w _ hjw]
  have hb3 : w3.heap[b]? = some (.cells vs.toArray 48 (0, 0)) := (keep b h.low hbw).trans h.heap
  refine ⟨?_, frozen_of_row w3 b x _ 48 hb3, (keep r hrB hrw).trans hr, ?_⟩
  · rw [← h.cell hx16, cell_of_row w b x _ 48 _ h.heap, cell_of_row w3 b x _ 48 _ hb3]
  · exact (hb.alloc hb.size o).grown gr1 (Nat.le_trans hb.size (by simp)) (fun g hg => Nat.le_trans h0 ((h.owns x hx16).lt g hg).1)
set_option maxHeartbeats 2000000 in
theorem laid_at (l : List Nat) (n : Nat) (p : Option Addr) (c : Nat) (w : World) (hm : MayC l) (hn : l.length = n) (h : IntsLie w p (nums l) c) :
    Calls Try.prog 20 #[.slice p n c] w fun e w' => Below w.heap.size w w' ∧ ∃ vs, vs.length = 16 ∧ e = .returned (.agg vs.toArray) ∧ RowsOwn w' w.heap.size l n vs := by
  have HI := Lib.hid h
  have Hn := Lib.hid hn
  have zn : (n : Int) ≤ 300 := by have := hm.len; omega
  have HM := Lib.hid hm
  have hcap : (n : Int) ≤ c := by have := h.len; rw [nums_len] at this; omega
  obtain ⟨i0, hi0, hz0, hz1, hz2⟩ := info_parts infoInt
  have HA0 := Lib.hid (arr_made (w.alloc (.cells sixteen.toArray 48)) l)
  have HW0 := Lib.hid (((Below.refl w.heap.size w).alloc (Nat.le_refl _) (.cells sixteen.toArray 48)).alloc (by simp) (.cells sixteen.toArray 48))
  have HR0 : Hid (((w.alloc (.cells sixteen.toArray 48)).alloc (.cells sixteen.toArray 48)).heap[w.heap.size]? = some (.cells sixteen.toArray 48 (0, 0))) := by
    show _ = _
    rw [heap_alloc_old _ _ (by simp)]
    exact heap_alloc_new w _
  have hbs : (w.alloc (.cells sixteen.toArray 48)).heap.size = w.heap.size + 1 := by simp
  rw [hbs] at HA0
  clear h hm hn hbs
  go_enter Try.func20, Try.ntmps20
  go_wp2
  go_loopw [8] (fun v wr => ∃ (i : Nat) (vs : List Value), v = .int .i64 i ∧ i ≤ n ∧ Hid (Arr wr (w.heap.size + 1 + 1) (w.heap.size + 1) l i vs) ∧ Hid (wr.heap[w.heap.size]? = some (.cells sixteen.toArray 48 (0, 0))) ∧ Hid (Below w.heap.size w wr)) (fun v _ => n - (RowKit.intOf v).toNat)
  case atStart => exact ⟨0, sixteen, rfl, Nat.zero_le _, HA0, HR0, HW0⟩
  case round =>
    clear HA0 HR0 HW0
    obtain ⟨i, vs, rfl, hi, HA, HR, HB⟩ := hrel
    by_cases hlt : i < n
    · have hli : i < l.length := by rw [Hn.out]; exact hlt
      obtain ⟨blk, off, rfl, hc⟩ := (HI.out.below HB.out).at (i := i) (by rw [nums_len]; exact hli)
      have cx := hc i (by rw [nums_len]; exact hli)
      rw [nums_get] at cx
      have h15 := HM.out.le i
      have ii : (i : Int) < n := by omega
      clear hc
      by_cases h0 : l.getD i 0 = 0
      · have HA2 := Lib.hid (HA.out.skip h0)
        rw [h0] at cx
        clear h0 h15 HA
        go_wp2
        go_roundw
        case rel => exact ⟨i + 1, vs, by go_num, by omega, HA2, HR, HB⟩
        case measure => simp [RowKit.intOf]; omega
      · have HS := Lib.hid (fun (w2 w3 : World) (v1 : Value) => HA.out.more (w2 := w2) (w3 := w3) (v1 := v1) rfl h0 (by omega))
        have h16 : l.getD i 0 < 16 := by omega
        have cv := HA.out.cell h16
        have HKp := fun (w3 : World) (gr1 : (wr.alloc (.cells #[.int .i64 (i : Nat)] 3)).grownBy w3 (vs.getD (l.getD i 0) undef).ownBlock) => HA.out.after (w3 := w3) h16 (.cells #[.int .i64 (i : Nat)] 3) gr1 HR.out (by omega) HB.out (by omega)
        have hsz := HA.out.size
        have own0 := HA.out.owns _ h16
        have hle := rowOf_le l (l.getD i 0) i
        obtain ⟨x, hx⟩ : ∃ x, x = l.getD i 0 := ⟨_, rfl⟩
        have H0 := Lib.hid h0
        have HX := Lib.hid hx
        rw [← hx] at cx cv own0 HS hle h15 HKp
        have z1 : (1 : Int) ≤ x := by omega
        have z15 : (x : Int) ≤ 15 := by omega
        generalize vs.getD x undef = v0 at *
        have HK := Lib.hid (fun (w3 : World) (gr1 : (wr.alloc (.cells #[.int .i64 (i : Nat)] 3)).grownBy w3 v0.ownBlock) => HKp w3 gr1)
        have o1 := fun O => own0.alloc (w := wr) O
        have o2 := cell_one_new wr (.int .i64 (i : Nat)) 3
        have o3 : w.heap.size + 1 + 1 ≤ (wr.alloc (.cells #[.int .i64 (i : Nat)] 3)).heap.size := by have := hsz; simp; omega
        clear hx h0 h16 HA HKp own0 hsz HR HB
        go_wp2_with (first
          | (at_builtin; refine wpList_append_own_at _ rfl _ _ 22 rfl (w.heap.size + 1 + 1) 3 i0 (.int .i64 0) 1 8 Try.underlying22 hi0 hz0 hz1 hz2 rfl (by decide) v0 (rowOf l x i).length (iv (rowOf l x i)) rfl (o1 _) ⟨wr.heap.size, 0, Option.none⟩ 1 1 [.int .i64 (i : Nat)] rfl rfl o2 (by simp [Value.oneCell']) (by unfold maxLen; omega) (by omega) o3 ?_)
          | go_in)
        intro v1 w3 own1 gr1 nn1 at1
        obtain ⟨q1, k1, rfl⟩ := own_form own1
        obtain ⟨c3, f3, r3, b3⟩ := HK.out w3 gr1
        have HA3 := Lib.hid (HS.out _ w3 _ rfl own1 gr1 (at1.imp id fun e => by rw [e]; simp))
        have HR3 : Hid ((w3.setCell ⟨w.heap.size + 1, x, none⟩ (.slice q1 ((rowOf l x i).length + 1 : Nat) k1)).heap[w.heap.size]? = some (.cells sixteen.toArray 48 (0, 0))) := by
          show _ = _
          rw [heap_setCell_other w3 _ _ _ (by simp)]; exact r3
        have HB3 := Lib.hid (b3.setCell (p := ⟨w.heap.size + 1, x, none⟩) (by simp) (.slice q1 ((rowOf l x i).length + 1 : Nat) k1))
        clear own1 gr1 nn1 at1 o1 o2 o3 HK HS r3 b3
        go_wp2
        go_roundw
        case rel => exact ⟨i + 1, _, by go_num, by omega, HA3, HR3, HB3⟩
        case measure => simp [RowKit.intOf]; omega
    · have e : i = n := by omega
      subst e
      have hl := HA.out.len
      have hrg : wr.rangeAt (w.heap.size + 1) 0 vs := fun j v hv => by
        have hj : j < 16 := by rw [← hl]; exact (List.getElem?_eq_some_iff.1 hv).1
        rw [Nat.zero_add, HA.out.cell hj, List.getD_eq_getElem?_getD, hv]; rfl
      have hth : wr.there w.heap.size 0 vs.toArray.size := fun j hj => by
        have hj : j < 16 := by simpa [hl] using hj
        rw [Nat.zero_add]
        refine ⟨?_, frozen_of_row wr _ j _ 48 HR.out⟩
        rw [cell_of_row wr _ j _ 48 _ HR.out]
        simp [sixteen, hj]
      have h48 : (Try.prog.info? 48).map (·.size) = some vs.length := by rw [hl]; kernel_rfl
      have h48' : (Try.prog.info? 48).map (·.size) = some vs.toArray.size := by rw [h48]; simp
      have h1 : vs.toArray.all (·.oneCell') = true := all_oneCell_toArray fun v hv => by
        obtain ⟨j, hj, e⟩ := List.getElem_of_mem hv
        obtain ⟨q, c, e2⟩ := HA.out.owns.form (n := j) (by omega)
        rw [List.getD_eq_getElem?_getD, List.getElem?_eq_getElem hj, Option.getD_some, e] at e2
        rw [e2]; rfl
      go_wp2_with (first
        | (refine wpList_load_mid rfl 48 _ rfl _ 0 rfl vs _ hrg Try.underlying48 rfl h48 ?_)
        | (refine wpList_store_mid rfl 48 _ _ rfl _ 0 vs.toArray rfl rfl hth h48' h1 ?_)
        | go_in)
      have hth2 : wr.there w.heap.size 0 vs.length := by simpa using hth
      refine bodyPost_ret (v := .agg vs.toArray) (results_cell_mid rfl _ _ w.heap.size vs _ rfl (World.rangeAt_setCells_same wr _ 0 vs hth2) Try.underlying48 rfl h48) rfl ⟨?_, vs, hl, rfl, fun m hm => own_range (by omega) (by omega) vs 0 wr (HA.out.owns m hm)⟩
      exact cells_below (Nat.le_refl _) vs 0 wr HB.out
end Go.Proofs.Ytbkehlppngejnaa
