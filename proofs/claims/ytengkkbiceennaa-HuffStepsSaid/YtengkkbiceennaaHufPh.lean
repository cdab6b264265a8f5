/-
  A heap of trees in memory: its own Push and Pop, container/heap's Push and Pop (over a stand-in).
-/
import Derived.Test.YtengkkbiceennaaHufDn
import Derived.Maps.AppendAt
import Derived.Deep.Slices
import Derived.WalkSmall
import Derived.Deep.AppendLies
import Derived.Deep.RegionLaw
import Derived.Deep.RegionHeld3
namespace Go.Proofs.Ytengkkbiceennaa
open Go.RowKit Go.Lib Hf
set_option maxRecDepth 100000

def StopP (p : Prop) : Prop := p
theorem stop_push {P : Program} {ops : Array Oper} {rest : List Oper} {a : Act} {Q : Exit → Act → World → Prop} {w : World} {dst : Option Tmp} {ty : TypeId} {ps : String} {af : Array Edge} {t : TypeId} {x y : Operand}
    (h : StopP (wpList P ops Q (⟨dst, Op.call { callee := Callee.builtin Builtin.append, args := #[x, y], argTypes := #[t, t] }, ty, ps, af, none⟩ :: rest) a w)) :
    wpList P ops Q (⟨dst, Op.call { callee := Callee.builtin Builtin.append, args := #[x, y], argTypes := #[t, t] }, ty, ps, af, none⟩ :: rest) a w := h

/-- Below block B all is kept, and every block that is no row of trees and no row's head. -/
structure Kept (B : Nat) (w w' : World) : Prop where
  below : Below B w w'
  block : ∀ (k : Nat) (c : Array Value) (t : TypeId) (fr : Nat × Nat), t ≠ 36 → t ≠ 38 → w.heap[k]? = some (.cells c t fr) → w'.heap[k]? = some (.cells c t fr)
theorem Kept.trans {B : Nat} {a b c : World} (h : Kept B a b) (k : Kept B b c) : Kept B a c := ⟨h.below.trans k.below, fun n x t fr h1 h2 h3 => k.block n x t fr h1 h2 (h.block n x t fr h1 h2 h3)⟩
theorem Kept.lies {B : Nat} {w w' : World} (h : Kept B w w') {t : T} {b : Nat} (hl : Lies w b t) : Lies w' b t := hl.keep fun k c hk => h.block k c 49 (0, 0) (by decide) (by decide) hk

/-- A heap lies in memory: its head at block h, its row. -/
def Heaped (w : World) (B h : Nat) (X : List T) : Prop := ∃ (v : Value) (bs : List Nat), w.heap[h]? = some (.cells #[v] 36 (0, 0)) ∧ B ≤ h ∧ bs.length = X.length ∧ w.ownsRow B 38 1 v X.length (bs.map ptr) ∧ ∀ i, i < X.length → Lies w (bs.getD i 0) (g X i)

theorem head_apart {w : World} {B h n : Nat} {v u : Value} {xs : List Value} (ho : w.ownsRow B 38 1 v n xs) (hh : w.heap[h]? = some (.cells #[u] 36 (0, 0))) : v.ownBlock ≠ some h := fun e => by
  rcases ho.2 with ⟨rfl, _⟩ | ⟨g', cap', cur, rfl, _, h2, _⟩
  · cases e
  · cases e; rw [hh] at h2; cases h2
theorem row_type {w : World} {B k n : Nat} {v : Value} {xs : List Value} {c : Array Value} {t : TypeId} {fr : Nat × Nat} (ho : w.ownsRow B 38 1 v n xs) (e : v.ownBlock = some k) (hk : w.heap[k]? = some (.cells c t fr)) : t = 38 := by
  rcases ho.2 with ⟨rfl, _⟩ | ⟨g', cap', cur, rfl, _, h2, _⟩
  · cases e
  · cases e; rw [hk] at h2; cases h2; rfl
theorem own_slice {w : World} {B n : Nat} {e : TypeId} {v : Value} {xs : List Value} (ho : w.ownsRow B e 1 v (n + 1) xs) : ∃ k cap, v = .slice (some ⟨k, 0, none⟩) (n + 1) cap := by
  rcases ho.2 with ⟨_, h⟩ | ⟨g', cap', cur, h, _⟩
  · omega
  · exact ⟨g', cap', h⟩
theorem info36 : (Try.prog.info? 38).map (fun i => (i.zero, i.size, i.bytes)) = some (some (.pointer none), 1, 8) := by kernel_rfl
theorem one_ptr (w : World) (b : Nat) : ∀ j u, ([b].map ptr)[j]? = some u → (w.alloc (.cells #[ptr b] 38)).cell? ((⟨w.heap.size, 0, none⟩ : Addr).add j) = some u := fun j u hj => by
  cases j with
  | zero => cases hj; simp [Addr.add]
  | succ j => simp at hj

theorem assert_tree (p : Option Addr) (w : World) : (Instr.typeAssert (.iface 38 (.pointer p)) 20 38 false).run Try.prog w = .ok (.pointer p) w := by kernel_rfl
set_option maxHeartbeats 2000000 in
theorem own_push (B h b : Nat) (X : List T) (t : T) (w : World) (hB : B ≤ w.heap.size) (hX : Heaped w B h X) (hb : Lies w b t) (hl : X.length ≤ 1000) :
    Calls Try.prog 57 #[.pointer (some ⟨h, 0, none⟩), .iface 38 (.pointer (some ⟨b, 0, none⟩))] w fun e w' => e = .returned (.tuple #[]) ∧ Kept B w w' ∧ Heaped w' B h (X ++ [t]) := by
  obtain ⟨v, bs, hh, hBh, hbl, ho, hls⟩ := hX
  obtain ⟨i0, hi0, hz0, hz1, hz2⟩ := info_parts info36
  have hc := cell_of_row w h 0 #[v] 36 (0, 0) hh
  have hf := frozen_of_row w h 0 #[v] 36 hh
  have hhl : h < w.heap.size := by
    rcases Nat.lt_or_ge h w.heap.size with k | k
    · exact k
    · rw [Array.getElem?_eq_none k] at hh; cases hh
  have o1 := Lib.hid ho
  have o2 := one_ptr w b
  have Hh := Lib.hid hh
  have Hls := Lib.hid hls
  have Hb := Lib.hid hb
  have Hbl := Lib.hid hbl
  clear ho hh hls hb hbl
  have mA : ∀ w, (Instr.typeAssert (.iface 38 (.pointer (some ⟨b, 0, none⟩))) 20 38 false).run Try.prog w = .ok (.pointer (some ⟨b, 0, none⟩)) w := fun w => assert_tree _ w
  have hcv : w.cell? ⟨h, 0, none⟩ = some v := hc
  clear hc
  have hap0 := head_apart o1.out Hh.out
  have FIN : Hid (∀ (r1 cap1 : Nat) (w3 : World), w3.ownsRow B 38 1 (.slice (some ⟨r1, 0, none⟩) (X.length + 1) cap1) (X.length + 1) (bs.map ptr ++ [b].map ptr) → World.grownBy ((w.alloc (.cells #[ptr b] 38)).drew) w3 v.ownBlock → (v.ownBlock = some r1 ∨ r1 = w.heap.size + 1) →
      w3.heap[h]? = some (.cells #[v] 36 (0, 0)) → Kept B w (w3.setCell ⟨h, 0, none⟩ (.slice (some ⟨r1, 0, none⟩) (X.length + 1) cap1)) ∧ Heaped (w3.setCell ⟨h, 0, none⟩ (.slice (some ⟨r1, 0, none⟩) (X.length + 1) cap1)) B h (X ++ [t])) := by
    refine Lib.hid fun r1 cap1 w3 own1 gr1 hob g3 => ?_
    have hap1 : (Value.slice (some ⟨r1, 0, none⟩) (X.length + 1) cap1).ownBlock ≠ some h := by
      rcases hob with e | e
      · rw [show (Value.slice (some ⟨r1, 0, none⟩) (X.length + 1) cap1).ownBlock = some r1 from rfl, ← e]; exact hap0
      · rw [show (Value.slice (some ⟨r1, 0, none⟩) (X.length + 1) cap1).ownBlock = some r1 from rfl, e]; simp; omega
    have HK : Hid (Kept B w (w3.setCell ⟨h, 0, none⟩ (.slice (some ⟨r1, 0, none⟩) (X.length + 1) cap1))) := by
      refine ⟨((((Below.refl B w).alloc hB _).drew).grown gr1 (by simp; omega) (fun k hk => (o1.out.lt k hk).1)).setCell (p := ⟨h, 0, none⟩) hBh _, fun k x tt fr h1 h2 h3 => ?_⟩
      have hkl : k < w.heap.size := by
        rcases Nat.lt_or_ge k w.heap.size with z | z
        · exact z
        · rw [Array.getElem?_eq_none z] at h3; cases h3
      rw [Below.heap_setCell w3 ⟨h, 0, none⟩ _ k (fun e => by subst e; rw [Hh.out] at h3; cases h3; exact h1 rfl), gr1.block k (by simp; omega) (fun e => h2 (row_type o1.out e.symm h3))]
      show (w.alloc _).heap[k]? = _
      rw [Below.heap_alloc w _ k hkl]
      exact h3
    have HH : Hid (Heaped (w3.setCell ⟨h, 0, none⟩ (.slice (some ⟨r1, 0, none⟩) (X.length + 1) cap1)) B h (X ++ [t])) := by
      refine ⟨_, bs ++ [b], heap_setCell_same w3 h 0 #[v] 36 _ g3, hBh, by simp [Hbl.out], ?_, fun i hi => ?_⟩
      · have := own1.kept (w' := w3.setCell ⟨h, 0, none⟩ (.slice (some ⟨r1, 0, none⟩) (X.length + 1) cap1)) (row := some h) ⟨rfl, rfl, rfl, by simp, fun k _ hk => heap_setCell_other w3 ⟨h, 0, none⟩ k _ (fun e => hk (by simp [e]))⟩ (Or.inr hap1)
        simpa using this
      · refine HK.out.lies ?_
        have e2 := Hbl.out
        by_cases hi2 : i < X.length
        · have e1 : (bs ++ [b]).getD i 0 = bs.getD i 0 := by rw [List.getD_eq_getElem?_getD, List.getD_eq_getElem?_getD, List.getElem?_append_left (by omega)]
          have e3 : g (X ++ [t]) i = g X i := by unfold g; rw [List.getD_eq_getElem?_getD, List.getD_eq_getElem?_getD, List.getElem?_append_left hi2]
          rw [e1, e3]; exact Hls.out i hi2
        · have hi3 : i = X.length := by simp at hi; omega
          have e1 : (bs ++ [b]).getD i 0 = b := by rw [List.getD_eq_getElem?_getD, List.getElem?_append_right (by omega)]; simp [hi3, e2]
          have e3 : g (X ++ [t]) i = t := by unfold g; rw [List.getD_eq_getElem?_getD, List.getElem?_append_right (by omega)]; simp [hi3]
          rw [e1, e3]; exact Hb.out
    exact ⟨HK.out, HH.out⟩
  go_enter Try.func57, Try.ntmps57
  have hne := World.new_ne w ⟨h, 0, none⟩ hcv
  have hgr : ∀ w3, World.grownBy ((w.alloc (.cells #[ptr b] 38)).drew) w3 v.ownBlock → w3.heap[h]? = some (.cells #[v] 36 (0, 0)) := fun w3 gr1 => by
    rw [gr1.block h (by simp; omega) (fun e => hap0 e.symm)]
    show (w.alloc _).heap[h]? = _
    rw [Below.heap_alloc w _ h hhl]; exact Hh.out
  go_wp2_with fail
  go_region_law (refine step_append_lies _ (by rfl) _ _ _ (by rfl) B 38 i0 (.pointer none) 1 8 Try.underlying36 hi0 hz0 hz1 hz2 rfl (by decide) v X.length (bs.map ptr) (by rfl) ((o1.out.alloc _).drew) ⟨w.heap.size, 0, none⟩ 1 1 ([b].map ptr) (by rfl) (by rfl) o2 (by simp [ptr, Value.oneCell']) (by omega) (by unfold maxLen; omega) (by omega) (by simp; omega) (w.heap.size + 1) (by simp) ?_; intro r1 cap1 w3 own1 gr1 hob hlt; have g3 := hgr w3 gr1; have hf3 := frozen_of_row w3 h 0 #[v] 36 g3; have hc3 : w3.cell? ⟨h, 0, none⟩ = some v := cell_of_row w3 h 0 #[v] 36 (0, 0) g3)
  all_goals (try go_wp2)
  all_goals go_end0
  all_goals (obtain ⟨z1, z2⟩ := FIN.out _ _ _ own1 gr1 hob g3; exact ⟨rfl, z1, z2⟩)

theorem len_at (p : Option Addr) (n c : Nat) (w : World) : Calls Try.prog 53 #[.slice p n c] w fun e w' => e = .returned (.int .i64 n) ∧ w' = w := by
  go_enter Try.func53, Try.ntmps53
  go_wp2
  go_ret
  exact ⟨rfl, rfl⟩
/-- A heap that is not empty: its row. -/
theorem Heaped.trees {w : World} {B h : Nat} {X : List T} (hX : Heaped w B h X) (hl : 0 < X.length) :
    ∃ S c, w.heap[h]? = some (.cells #[.slice (some ⟨S, 0, none⟩) X.length c] 36 (0, 0)) ∧ h ≠ S ∧ B ≤ S ∧ Trees w B S c X ∧ ∃ cur, w.heap[S]? = some (.cells cur 38 (0, 0)) := by
  obtain ⟨v, bs, hh, hBh, hbl, ho, hls⟩ := hX
  have hap := head_apart ho hh
  rcases ho.2 with ⟨_, h1⟩ | ⟨S, c, cur, rfl, hBS, hS, _⟩
  · omega
  · exact ⟨S, c, hh, fun e => hap (by rw [e]; rfl), hBS, ⟨bs, hbl, ho, hls⟩, cur, hS⟩
theorem Heaped.of {w w' : World} {B h S c : Nat} {X Y : List T} (hB : B ≤ h) (hh : w.heap[h]? = some (.cells #[.slice (some ⟨S, 0, none⟩) X.length c] 36 (0, 0))) (hap : h ≠ S) (hO : Only S w w') (hl : Y.length = X.length) (hT : Trees w' B S c Y) : Heaped w' B h Y := by
  obtain ⟨bs, hbl, ho, hls⟩ := hT
  exact ⟨_, bs, by rw [hO.block h hap, hl]; exact hh, hB, hbl, ho, hls⟩
theorem Only.kept {w w' : World} {B S : Nat} (hO : Only S w w') (hB : B ≤ S) {cur : Array Value} (hS : w.heap[S]? = some (.cells cur 38 (0, 0))) : Kept B w w' :=
  ⟨hO.below hB, fun k c t fr _ h2 h3 => by rw [hO.block k (fun e => by subst e; rw [hS] at h3; cases h3; exact h2 rfl)]; exact h3⟩

set_option maxHeartbeats 2000000 in
theorem heap_push (B h b : Nat) (X : List T) (t : T) (w : World) (hB : B ≤ w.heap.size) (hX : Heaped w B h X) (hp : Heap X X.length) (hb : Lies w b t) (hl : X.length ≤ 999) :
    Calls Try.prog 33 #[.iface 51 (.pointer (some ⟨h, 0, none⟩)), .iface 38 (.pointer (some ⟨b, 0, none⟩))] w fun e w' => e = .returned (.tuple #[]) ∧ Kept B w w' ∧ ∃ X', X'.Perm (t :: X) ∧ Heap X' X'.length ∧ Heaped w' B h X' := by
  have mP : ∀ w, (method 178 51 (.pointer (some ⟨h, 0, none⟩)) "Push").run Try.prog w = .ok (57, .pointer (some ⟨h, 0, none⟩)) w := meth_push _
  have c1 := own_push B h b X t w hB hX hb (by omega)
  have hBh : B ≤ h := by obtain ⟨_, _, _, k, _⟩ := hX; exact k
  have Hp : Hid (Heap X X.length) := hp
  clear hX hb hp
  go_enter Try.func33, Try.ntmps33
  go_wp2_with fail
  refine c1.mono ?_
  rintro e w2 ⟨rfl, hK, hH⟩
  obtain ⟨S, c, hh, hap, hBS, hT, cur, hS⟩ := hH.trees (by simp)
  have hlen : (X ++ [t]).length = X.length + 1 := by simp
  rw [hlen] at hh
  have hc2 : w2.cell? ⟨h, 0, none⟩ = some (.slice (some ⟨S, 0, none⟩) (X.length + 1) c) := cell_of_row w2 h 0 _ 36 (0, 0) hh
  have mL := meth_len ⟨h, 0, none⟩ _ w2 hc2
  have c2 := len_at (some ⟨S, 0, none⟩) (X.length + 1) c w2
  have c3 := up_at ⟨h, 0, none⟩ B S c (X.length + 1) hap (X ++ [t]) X.length hlen (by omega) w2 hc2 hT (up_start Hp.out)
  have HK := Lib.hid hK
  have HT := Lib.hid hT
  have Hh := Lib.hid hh
  have HS := Lib.hid hS
  clear c1 hK hT hh hS hH hc2 mP
  generalize X.length = n at *
  go_wp2_with (first | (refine c2.mono ?_; rintro e w3 ⟨rfl, rfl⟩) | fail)
  refine c3.mono ?_
  rintro e w4 ⟨rfl, hO, X', hP, hHp, hT'⟩
  have hl' : X'.length = n + 1 := by rw [hP.length_eq, hlen]
  have HF : Hid (Heaped w4 B h X') := Heaped.of (X := X ++ [t]) hBh (by rw [hlen]; exact Hh.out) hap hO (by rw [hl', hlen]) hT'
  have HK2 : Hid (Kept B w w4) := HK.out.trans (hO.kept hBS HS.out)
  have HHp : Hid (Heap X' X'.length) := by
    have := hHp
    rw [← hl'] at this
    exact this
  have HP : Hid (X'.Perm (t :: X)) := hP.trans (List.perm_append_singleton _ _)
  clear hO hP hHp hT' hl' c3 HK HT Hh HS
  go_wp2
  go_end0
  exact ⟨rfl, HK2.out, X', HP.out, HHp.out, HF.out⟩
end Go.Proofs.Ytengkkbiceennaa

