/-
  Taking the least tree; container/heap's Init over trees in memory.
-/
import Derived.Test.YthehjhckcblbdaaHufH
import Derived.Test.YthehjhckcblbdaaHufRe
import Derived.Test.YthehjhckcblbdaaLstX
import Derived.Test.YthehjhckcblbdaaHufM
import Derived.BigQuiet
namespace Go.Proofs.Ythehjhckcblbdaa
open Go.RowKit Go.Lib Hf
set_option maxRecDepth 100000

set_option maxHeartbeats 2000000 in
theorem take_at (B h n : Nat) (X : List T) (w : World) (hn : X.length = n + 1) (hX : Heaped w B h X) (hp : Heap X (n + 1)) (hl : n ≤ 900) :
    Calls Try.prog 97 #[.pointer (some ⟨h, 0, none⟩)] w fun e w' => ∃ b Z, e = .returned (.pointer (some ⟨b, 0, none⟩)) ∧ Kept B w w' ∧ Lies w' b (g X 0) ∧ (g X 0 :: Z).Perm X ∧ Z.length = n ∧ Heap Z n ∧ Heaped w' B h Z := by
  have c1 := heap_pop B h n X w hn hX hp hl
  clear hX hp hn
  go_enter Try.func97, Try.ntmps97
  go_wp2_with fail
  go_at_call 102
  refine c1.mono ?_
  rintro e w1 ⟨b, Z, rfl, r1, r2, r3, r4, r5, r6⟩
  have mA : ∀ w, (Instr.typeAssert (.iface 101 (.pointer (some ⟨b, 0, none⟩))) 20 101 false).run Try.prog w = .ok (.pointer (some ⟨b, 0, none⟩)) w := fun w => assert_tree _ w
  have HR := Lib.hid (And.intro r1 (And.intro r2 (And.intro r3 (And.intro r4 (And.intro r5 r6)))))
  clear r1 r2 r3 r4 r5 r6 c1
  go_wp2
  go_ret
  exact ⟨b, Z, rfl, HR.out⟩

theorem Heaped.head {B h : Nat} {w : World} {X : List T} (hX : Heaped w B h X) : ∃ q c, w.heap[h]? = some (.cells #[.slice q X.length c] 99 (0, 0)) := by
  obtain ⟨v, bs, h1, _, _, h4, _⟩ := hX
  rcases h4.2 with ⟨rfl, e⟩ | ⟨g', cap', cur, rfl, _⟩
  · exact ⟨none, 0, by rw [e]; exact h1⟩
  · exact ⟨_, _, h1⟩

set_option maxHeartbeats 4000000 in
theorem init_at (B h : Nat) (X : List T) (w : World) (hX : Heaped w B h X) (hl : X.length ≤ 900) :
    Calls Try.prog 96 #[.iface 123 (.pointer (some ⟨h, 0, none⟩))] w fun e w' => e = .returned (.tuple #[]) ∧ Kept B w w' ∧ ∃ X', X'.Perm X ∧ Heap X' X'.length ∧ Heaped w' B h X' := by
  by_cases h0 : X.length = 0
  · have HX := Lib.hid hX
    obtain ⟨q, c, hh⟩ := hX.head
    have H0 := Lib.hid h0
    rw [h0] at hh
    have hc : w.cell? ⟨h, 0, none⟩ = some (.slice q 0 c) := cell_of_row w h 0 _ 99 (0, 0) hh
    have mL := meth_len ⟨h, 0, none⟩ _ w hc
    have c1 := len_at q 0 c w
    clear hX hh h0
    go_enter Try.func96, Try.ntmps96
    go_wp2_with fail
    refine c1.mono ?_
    rintro e w1 ⟨rfl, rfl⟩
    go_wp2
    go_loop [3] (fun v => v = .int .i64 (-1)) (fun _ => 0)
    case atStart => rfl
    case round =>
      subst hrel
      go_wp2
      go_end0
      exact ⟨rfl, ⟨Below.refl _ _, fun _ _ _ _ _ _ h => h⟩, X, List.Perm.refl _, fun i _ hi => by have := H0.out; omega, HX.out⟩
  · obtain ⟨n, hn⟩ : ∃ n, X.length = n := ⟨_, rfl⟩
    have hBh : B ≤ h := by obtain ⟨_, _, _, k, _⟩ := hX; exact k
    obtain ⟨S, c, hh, hap, hBS, hT, cur, hS⟩ := hX.trees (by omega)
    have Hh := Lib.hid hh
    rw [hn] at hh hl
    have hc : w.cell? ⟨h, 0, none⟩ = some (.slice (some ⟨S, 0, none⟩) n c) := cell_of_row w h 0 _ 99 (0, 0) hh
    have mL := meth_len ⟨h, 0, none⟩ _ w hc
    have c1 := len_at (some ⟨S, 0, none⟩) n c w
    have HS := Lib.hid hS
    have Hn := Lib.hid hn
    obtain ⟨m0, hm0⟩ : ∃ m, m = n / 2 := ⟨_, rfl⟩
    have HF : Hid (From X n m0) := by rw [hm0]; exact from_none X n
    have e0 : (n : Int) / 2 = (m0 : Int) := by omega
    have zn : (n : Int) ≤ 900 := by omega
    have zm : m0 ≤ 900 := by omega
    clear hX hh hS hn h0 hm0
    go_enter Try.func96, Try.ntmps96
    go_wp2_with fail
    refine c1.mono ?_
    rintro e w1 ⟨rfl, rfl⟩
    go_wp2
    go_loopw [3] (fun v wr => ∃ (m : Nat) (Y : List T), v = .int .i64 ((m : Int) - 1) ∧ m ≤ 900 ∧ Hid (From Y n m) ∧ Hid (Y.Perm X) ∧ Hid (Y.length = n) ∧ Hid (Trees wr B S c Y) ∧ Hid (Only S w1 wr)) (fun v _ => (RowKit.intOf v + 1).toNat)
    case atStart => exact ⟨m0, X, by go_num, zm, HF, List.Perm.refl _, Hn.out, hT, Only.refl S w1⟩
    case round =>
      obtain ⟨m, Y, rfl, hm, hFr, hP, hL, hT, hO⟩ := hrel
      match m with
      | 0 =>
        go_wp2
        go_end0
        exact ⟨rfl, hO.out.kept hBS HS.out, Y, hP.out, by rw [hL.out]; exact from_all hFr.out, Heaped.of (X := X) hBh Hh.out hap hO.out (by rw [hL.out, Hn.out]) hT.out⟩
      | k + 1 =>
        have ek : ((k + 1 : Nat) : Int) - 1 = (k : Int) := by omega
        have zk : (k : Int) ≤ 899 := by omega
        have hhr : wr.cell? ⟨h, 0, none⟩ = some (.slice (some ⟨S, 0, none⟩) n c) := by rw [hO.out.cell (p := ⟨h, 0, none⟩) hap]; exact hc
        have cd := down_at ⟨h, 0, none⟩ B S c n n k hap Y hL.out (by omega) (by omega) wr hhr hT.out (by omega) (from_down hFr.out)
        rw [ek]
        clear ek
        go_wp2_with fail
        refine cd.mono ?_
        rintro e w3 ⟨⟨bb, rfl⟩, hO3, X', hP3, hF3, hHp3, hT3⟩
        have P3 : Hid (X'.Perm X) := hP3.trans hP.out
        have L3 : Hid (X'.length = n) := by have := hP3.length_eq; have h2 := hL.out; show _ = _; omega
        have O3 := Lib.hid (hO.out.trans hO3)
        have F3 := Lib.hid hHp3
        have T3 := Lib.hid hT3
        clear hP3 hF3 hHp3 hT3 hO3 cd
        go_wp2
        go_roundw
        case measure => simp [RowKit.intOf]
        case rel => exact ⟨k, X', by go_num, by omega, F3, P3, L3, T3, O3⟩
end Go.Proofs.Ythehjhckcblbdaa
/-
  The heap of the symbols that are there, each by itself.
-/
namespace Go.Proofs.Ythehjhckcblbdaa
open Go.RowKit Go.Lib Hf
set_option maxRecDepth 100000

theorem lt_of_some {w : World} {k : Nat} {o : Obj} (h : w.heap[k]? = some o) : k < w.heap.size := by
  rcases Nat.lt_or_ge k w.heap.size with z | z
  · exact z
  · rw [Array.getElem?_eq_none z] at h; cases h
theorem Kept.alloc {B : Nat} {w : World} (hB : B ≤ w.heap.size) (o : Obj) : Kept B w (w.alloc o) :=
  ⟨(Below.refl B w).alloc hB o, fun k c t fr _ _ h => by rw [Below.heap_alloc w o k (lt_of_some h)]; exact h⟩
theorem Kept.refl (B : Nat) (w : World) : Kept B w w := ⟨Below.refl _ _, fun _ _ _ _ _ _ h => h⟩
theorem Heaped.alloc {B h : Nat} {w : World} {X : List T} (hX : Heaped w B h X) (o : Obj) : Heaped (w.alloc o) B h X := by
  obtain ⟨v, bs, h1, h2, h3, h4, h5⟩ := hX
  exact ⟨v, bs, by rw [Below.heap_alloc w o h (lt_of_some h1)]; exact h1, h2, h3, h4.alloc o, fun i hi => Lies.keep (fun b c hb => by rw [Below.heap_alloc w o b (lt_of_some hb)]; exact hb) (h5 i hi)⟩
/-- a tree is put behind a heap's row -/
theorem heaped_grown {B h b r1 cap1 : Nat} {X : List T} {t : T} {v : Value} {bs : List Nat} {w W0 w3 : World} (h0 : Below B w W0) (h1 : ∀ k, k < w.heap.size → W0.heap[k]? = w.heap[k]?) (h2 : w.heap.size ≤ W0.heap.size)
    (hh : w.heap[h]? = some (.cells #[v] 99 (0, 0))) (hBh : B ≤ h) (hbl : bs.length = X.length) (ho : w.ownsRow B 101 1 v X.length (bs.map ptr)) (hls : ∀ i, i < X.length → Lies w (bs.getD i 0) (g X i)) (hb : Lies w b t)
    (own1 : w3.ownsRow B 101 1 (.slice (some ⟨r1, 0, none⟩) (X.length + 1) cap1) (X.length + 1) (bs.map ptr ++ [ptr b])) (gr1 : W0.grownBy w3 v.ownBlock) (hob : v.ownBlock = some r1 ∨ w.heap.size ≤ r1) :
    Kept B w (w3.setCell ⟨h, 0, none⟩ (.slice (some ⟨r1, 0, none⟩) (X.length + 1) cap1)) ∧ Heaped (w3.setCell ⟨h, 0, none⟩ (.slice (some ⟨r1, 0, none⟩) (X.length + 1) cap1)) B h (X ++ [t]) := by
  have hap0 := head_apart ho hh
  have hhl := lt_of_some hh
  have g3 : w3.heap[h]? = some (.cells #[v] 99 (0, 0)) := by rw [gr1.block h (by omega) (fun e => hap0 e.symm), h1 h hhl]; exact hh
  have hap1 : (Value.slice (some ⟨r1, 0, none⟩) (X.length + 1) cap1).ownBlock ≠ some h := by
    rcases hob with e | e
    · rw [show (Value.slice (some ⟨r1, 0, none⟩) (X.length + 1) cap1).ownBlock = some r1 from rfl, ← e]; exact hap0
    · rw [show (Value.slice (some ⟨r1, 0, none⟩) (X.length + 1) cap1).ownBlock = some r1 from rfl]; simp; omega
  have HK : Kept B w (w3.setCell ⟨h, 0, none⟩ (.slice (some ⟨r1, 0, none⟩) (X.length + 1) cap1)) := by
    refine ⟨(h0.grown gr1 (Nat.le_trans (by have := hhl; omega) h2) (fun k hk => (ho.lt k hk).1)).setCell (p := ⟨h, 0, none⟩) hBh _, fun k x tt fr k1 k2 k3 => ?_⟩
    have hkl := lt_of_some k3
    rw [Below.heap_setCell w3 ⟨h, 0, none⟩ _ k (fun e => by subst e; rw [hh] at k3; cases k3; exact k1 rfl), gr1.block k (by omega) (fun e => k2 (row_type ho e.symm k3)), h1 k hkl]
    exact k3
  refine ⟨HK, _, bs ++ [b], heap_setCell_same w3 h 0 #[v] 99 _ g3, hBh, by simp [hbl], ?_, fun i hi => ?_⟩
  · have := own1.kept (w' := w3.setCell ⟨h, 0, none⟩ (.slice (some ⟨r1, 0, none⟩) (X.length + 1) cap1)) (row := some h) ⟨rfl, rfl, rfl, by simp, fun k _ hk => heap_setCell_other w3 ⟨h, 0, none⟩ k _ (fun e => hk (by simp [e]))⟩ (Or.inr hap1)
    simpa using this
  · refine HK.lies ?_
    by_cases hi2 : i < X.length
    · have e1 : (bs ++ [b]).getD i 0 = bs.getD i 0 := by rw [List.getD_eq_getElem?_getD, List.getD_eq_getElem?_getD, List.getElem?_append_left (by omega)]
      have e3 : g (X ++ [t]) i = g X i := by unfold g; rw [List.getD_eq_getElem?_getD, List.getD_eq_getElem?_getD, List.getElem?_append_left hi2]
      rw [e1, e3]; exact hls i hi2
    · have hi3 : i = X.length := by simp at hi; omega
      have e1 : (bs ++ [b]).getD i 0 = b := by rw [List.getD_eq_getElem?_getD, List.getElem?_append_right (by omega)]; simp [hi3, hbl]
      have e3 : g (X ++ [t]) i = t := by unfold g; rw [List.getD_eq_getElem?_getD, List.getElem?_append_right (by omega)]; simp [hi3]
      rw [e1, e3]; exact hb
theorem firsts_len (f : List Nat) (i : Nat) : (firsts f i).length ≤ i := by
  unfold firsts
  rw [List.length_map]
  have h2 := List.length_filter_le (fun j => decide (0 < f.getD j 0)) (List.range i)
  rwa [List.length_range] at h2

set_option maxHeartbeats 4000000 in
theorem single_at (f : List Nat) (hn : f.length ≤ 300) (hm : ∀ i, f.getD i 0 ≤ 100000) (p : Option Addr) (cap : Nat) (w : World) (h : IntsLie w p (nums f) cap) :
    Calls Try.prog 82 #[.slice p f.length cap] w fun e w' => ∃ (v : Value) (X : List T) (bs : List Nat), e = .returned v ∧ X.Perm (Hf.leaves f) ∧ Heap X X.length ∧ Below w.heap.size w w' ∧ bs.length = X.length ∧ w'.ownsRow w.heap.size 101 1 v X.length (bs.map ptr) ∧ ∀ i, i < X.length → Lies w' (bs.getD i 0) (g X i) := by
  have HI := Lib.hid h
  have HM := Lib.hid hm
  have zn : (f.length : Int) ≤ 300 := by omega
  have hn2 := Lib.hid hn
  have hcap : (f.length : Int) ≤ cap := by have := h.len; rw [nums_len] at this; omega
  have HS0 : Hid (Heaped (w.alloc (.cells #[.slice none 0 0] 99)) w.heap.size w.heap.size []) :=
    Lib.hid ⟨_, [], heap_alloc_new w _, Nat.le_refl _, rfl, World.ownsRow_nil _ _ _ _, fun i hi => by simp at hi⟩
  obtain ⟨i0, hi0, hz0, hz1, hz2⟩ := info_parts info36
  clear h hm hn
  go_enter Try.func82, Try.ntmps82
  go_wp2
  go_loopw [8] (fun v wr => ∃ i : Nat, v = .int .i64 i ∧ i ≤ f.length ∧ Hid (Heaped wr w.heap.size w.heap.size (firsts f i)) ∧ Hid (Below w.heap.size w wr)) (fun v _ => f.length - (RowKit.intOf v).toNat)
  case atStart => exact ⟨0, rfl, Nat.zero_le _, HS0, (Below.refl _ _).alloc (Nat.le_refl _) _⟩
  case round =>
    clear HS0
    obtain ⟨i, rfl, hi, HS, HB⟩ := hrel
    by_cases hlt : i < f.length
    · have ii : (i : Int) < f.length := by omega
      have i3 : (i : Int) ≤ 299 := by have := hn2.out; omega
      obtain ⟨blk, off, rfl, hc⟩ := (HI.out.below HB.out).at (i := i) (by rw [nums_len]; exact hlt)
      have cx := hc i (by rw [nums_len]; exact hlt)
      rw [nums_get] at cx
      have HF := Lib.hid (firsts_succ f i)
      have hx1 := HM.out i
      obtain ⟨x, hx⟩ : ∃ x, f.getD i 0 = x := ⟨_, rfl⟩
      rw [hx] at HF hx1 cx
      clear hx hc
      by_cases h0 : 0 < x
      · have zx : (0 : Int) < (x : Int) := by omega
        rw [if_pos h0] at HF
        have hXl : (firsts f i).length ≤ 299 := by have h1 := firsts_len f i; have := hn2.out; omega
        have HF2 := Lib.hid HF.out
        generalize firsts f i = X at *
        obtain ⟨v, bs, hh, hBh, hbl, ho, hls⟩ := HS.out
        have hc := cell_of_row wr w.heap.size 0 #[v] 99 (0, 0) hh
        have hf := frozen_of_row wr w.heap.size 0 #[v] 99 hh
        have hne := World.new_ne wr ⟨w.heap.size, 0, none⟩ hc
        have hb : Lies (wr.alloc (.cells #[.int .i64 (x : Int), .int .i64 (i : Int), .pointer none, .pointer none] 121)) wr.heap.size (.leaf i x) := heap_alloc_new wr _
        have hbase : w.heap.size ≤ wr.heap.size := HB.out.size
        have hap0 := head_apart ho hh
        have hhl := lt_of_some hh
        have FIN := Lib.hid (fun (r1 cap1 : Nat) (w3 : World) own1 gr1 hob => heaped_grown (B := w.heap.size) (h := w.heap.size) (b := wr.heap.size) (r1 := r1) (cap1 := cap1) (X := X) (t := .leaf i x) (v := v) (bs := bs) (w := wr.alloc (.cells #[.int .i64 (x : Int), .int .i64 (i : Int), .pointer none, .pointer none] 121))
          (W0 := (wr.alloc (.cells #[.int .i64 (x : Int), .int .i64 (i : Int), .pointer none, .pointer none] 121)).alloc (.cells #[ptr wr.heap.size] 101)) (w3 := w3)
          ((Below.refl _ _).alloc (by simp; omega) _) (fun k hk => Below.heap_alloc _ _ k hk) (by simp) (by rw [Below.heap_alloc _ _ _ hhl]; exact hh) (Nat.le_refl _) hbl (ho.alloc _) (fun j hj => Lies.keep (fun b c hb => by rw [Below.heap_alloc wr _ b (lt_of_some hb)]; exact hb) (hls j hj)) hb own1 gr1 hob)
        have hgr : ∀ w3, World.grownBy ((wr.alloc (.cells #[.int .i64 (x : Int), .int .i64 (i : Int), .pointer none, .pointer none] 121)).alloc (.cells #[ptr wr.heap.size] 101)) w3 v.ownBlock → w3.heap[w.heap.size]? = some (.cells #[v] 99 (0, 0)) := fun w3 gr1 => by
          rw [gr1.block _ (by simp; omega) (fun e => hap0 e.symm), Below.heap_alloc _ _ _ (by simp; omega), Below.heap_alloc _ _ _ hhl]; exact hh
        have hcv : wr.cell? ⟨w.heap.size, 0, none⟩ = some v := hc
        have o1 := Lib.hid ((ho.alloc (.cells #[.int .i64 (x : Int), .int .i64 (i : Int), .pointer none, .pointer none] 121)).alloc (.cells #[ptr wr.heap.size] 101))
        have o2 := one_ptr (wr.alloc (.cells #[.int .i64 (x : Int), .int .i64 (i : Int), .pointer none, .pointer none] 121)) wr.heap.size
        rw [show (wr.alloc (.cells #[.int .i64 (x : Int), .int .i64 (i : Int), .pointer none, .pointer none] 121)).heap.size = wr.heap.size + 1 by simp] at o2
        have HB0 := HB.out
        have HBn : Hid (∀ w3, Kept w.heap.size (wr.alloc (.cells #[.int .i64 (x : Int), .int .i64 (i : Int), .pointer none, .pointer none] 121)) w3 → Below w.heap.size w w3) := Lib.hid fun w3 hk => ((HB0.alloc hbase _).trans hk.below)
        clear hc hh hls ho hb HS HB HI HB0 hbl
        go_wp2_with (with_reducible refine stop_push ?_)
        unfold StopP
        refine wpList_append_lies _ rfl _ _ 99 rfl w.heap.size 101 i0 (.pointer none) 1 8 Try.underlying99 hi0 hz0 hz1 hz2 rfl (by decide) v X.length (bs.map ptr) rfl o1.out ⟨wr.heap.size + 1, 0, none⟩ 1 1 ([wr.heap.size].map ptr) rfl rfl o2 (by simp [ptr, Value.oneCell']) (by omega) (by unfold maxLen; omega) (by omega) (by simp; omega) (wr.heap.size + 1 + 1) (by simp) ?_
        intro r1 cap1 w3 own1 gr1 hob hlt3
        have g3 := hgr w3 gr1
        have hf3 := frozen_of_row w3 w.heap.size 0 #[v] 99 g3
        have hc3 : w3.cell? ⟨w.heap.size, 0, none⟩ = some v := cell_of_row w3 w.heap.size 0 #[v] 99 (0, 0) g3
        obtain ⟨z1, z2⟩ := FIN.out r1 cap1 w3 own1 gr1 (by rcases hob with e | e; exact Or.inl e; exact Or.inr (by simp; omega))
        have Z1 := Lib.hid (HBn.out _ z1)
        have Z2 := Lib.hid z2
        clear z1 z2 own1 gr1 hob FIN hgr o1 o2 HBn g3
        go_wp2
        go_roundw
        case measure => simp [RowKit.intOf]; omega
        case rel => exact ⟨i + 1, by go_num, by omega, by rw [HF.out]; exact Z2.out, Z1.out⟩
      · have x0 : x = 0 := by omega
        subst x0
        rw [if_neg h0, List.append_nil] at HF
        clear h0 hx1
        go_wp2
        go_roundw
        case measure => simp [RowKit.intOf]; omega
        case rel => exact ⟨i + 1, by go_num, by omega, by rw [HF.out]; exact HS.out, HB.out⟩
    · have hie : i = f.length := by omega
      subst hie
      clear hlt
      have ci := init_at w.heap.size w.heap.size (firsts f f.length) wr HS.out (by have := firsts_len f f.length; have := hn2.out; omega)
      have HB0 := HB.out
      clear HS HB
      go_wp2_with fail
      go_at_call 96
      refine ci.mono ?_
      rintro e w2 ⟨rfl, hK, X', hP, hH, hX'⟩
      obtain ⟨v, bs, hh, hBh, hbl, ho, hls⟩ := hX'
      have hc : w2.cell? ⟨w.heap.size, 0, none⟩ = some v := cell_of_row w2 w.heap.size 0 #[v] 99 (0, 0) hh
      have HR := Lib.hid (And.intro hP (And.intro hH (And.intro (HB0.trans hK.below) (And.intro hbl (And.intro ho hls)))))
      clear hP hH hK hbl ho hls ci hh HB0
      go_wp2
      go_ret
      obtain ⟨r1, r2, r3, r4, r5, r6⟩ := HR.out
      exact ⟨v, X', bs, rfl, r1, r2, r3, r4, r5, r6⟩
end Go.Proofs.Ythehjhckcblbdaa
/-
  Putting trees together till there is one.
-/
namespace Go.Proofs.Ythehjhckcblbdaa
open Go.RowKit Go.Lib Hf
set_option maxRecDepth 100000

theorem Hf.least_of {X : List Hf.T} (h : Hf.Heap X X.length) : ∀ y ∈ X, ¬ Hf.T.lt y (Hf.g X 0) := fun y hy => by
  obtain ⟨i, hi, rfl⟩ := List.mem_iff_getElem.1 hy
  have := Hf.heap_least h i hi
  rw [Hf.g_get hi] at this
  exact this
theorem Hf.head_is {X rest : List Hf.T} {a : Hf.T} (hP : X.Perm (a :: rest)) (hs : (a :: rest).Pairwise Hf.T.lt) (h : Hf.Heap X X.length) : Hf.g X 0 = a := by
  have hl : 0 < X.length := by rw [hP.length_eq]; simp
  refine Hf.first_is hP hs ?_ (Hf.least_of h)
  rw [Hf.g_get hl]
  exact List.getElem_mem hl
def headLen (w : World) (h : Nat) : Nat := match w.cell? ⟨h, 0, none⟩ with
  | some (.slice _ n _) => n
  | _ => 0
theorem Heaped.len {B h : Nat} {w : World} {X : List T} (hX : Heaped w B h X) : headLen w h = X.length := by
  obtain ⟨q, c, hh⟩ := hX.head
  have : w.cell? ⟨h, 0, none⟩ = some (.slice q X.length c) := cell_of_row w _ 0 _ 99 (0, 0) hh
  unfold headLen
  rw [this]
theorem Heaped.drew {B h : Nat} {w : World} {X : List T} (hX : Heaped w B h X) : Heaped w.drew B h X := by
  obtain ⟨v, bs, h1, h2, h3, h4, h5⟩ := hX
  exact ⟨v, bs, h1, h2, h3, h4, fun i hi => Lies.keep (w := w) (w' := w.drew) (fun _ _ h => h) (h5 i hi)⟩
theorem Lies.weighs {w : World} {t : T} {b : Nat} (h : Lies w b t) : b < w.heap.size := by
  cases t with
  | leaf i k => exact lt_of_some h
  | node x y => obtain ⟨p, q, h, _⟩ := h; exact lt_of_some h

set_option maxHeartbeats 4000000 in
theorem together_at (f : List Nat) (hn : f.length ≤ 300) (hm : ∀ i, f.getD i 0 ≤ 100000) (B h : Nat) (X F : List T) (w : World) (hX : Heaped w B h X) (hp : Heap X X.length) (hP : X.Perm F) (hW : Hf.Way f F) (hl : 1 ≤ X.length ∧ X.length ≤ 300) (hB : B ≤ w.heap.size) :
    Calls Try.prog 83 #[.pointer (some ⟨h, 0, none⟩)] w fun e w' => ∃ b t, e = .returned (.pointer (some ⟨b, 0, none⟩)) ∧ Kept B w w' ∧ Lies w' b t ∧ Hf.Way f [t] := by
  have HX := Lib.hid hX
  have HH := Lib.hid hp
  have HP := Lib.hid hP
  have HW := Lib.hid hW
  have HL := Lib.hid hl
  have HM := Lib.hid hm
  have hn2 := Lib.hid hn
  clear hX hp hP hW hl hm hn
  go_enter Try.func83, Try.ntmps83
  go_wp2
  go_loopw [3, 4] (fun _ _ wr => ∃ (Y F : List T), Hid (Y.Perm F) ∧ Hid (Hf.Way f F) ∧ Hid (1 ≤ Y.length ∧ Y.length ≤ 300) ∧ Hid (Heaped wr B h Y) ∧ Hid (Heap Y Y.length) ∧ Hid (Kept B w wr)) (fun _ _ wr => headLen wr h)
  case atStart => exact ⟨X, F, HP, HW, HL, HX, HH, Kept.refl _ _⟩
  case round =>
    clear HX HH HP HW HL
    obtain ⟨Y, F, HP, HW, HY, HS, HH, HK⟩ := hrel
    obtain ⟨q, c, hh⟩ := HS.out.head
    have hc : wr.cell? ⟨h, 0, none⟩ = some (.slice q Y.length c) := cell_of_row wr _ 0 _ 99 (0, 0) hh
    clear hh
    by_cases h2 : 2 ≤ Y.length
    · obtain ⟨m, hm⟩ : ∃ m, Y.length = m + 2 := ⟨Y.length - 2, by omega⟩
      have z2 : (1 : Int) < ((m + 2 : Nat) : Int) := by omega
      rw [hm] at hc
      have hFl : F.length = m + 2 := by rw [← HP.out.length_eq]; exact hm
      obtain ⟨a, b, r, rfl⟩ : ∃ a b r, F = a :: b :: r := by
        match F, hFl with
        | a :: b :: r, _ => exact ⟨a, b, r, rfl⟩
      have hm3 : m ≤ 298 := by have := HY.out.2; omega
      have ha : g Y 0 = a := Hf.head_is HP.out HW.out.strict.sorted HH.out
      have ct := take_at B h (m + 1) Y wr hm HS.out (by have := HH.out; rw [hm] at this; exact this) (by omega)
      rw [ha] at ct
      have HLen : Hid (headLen wr h = m + 2) := HS.out.len.trans hm
      clear hm
      clear h2
      go_wp2_with fail
      go_at_call 97
      refine ct.mono ?_
      rintro e w3 ⟨p1, Z, rfl, k1, l1, P1, Zl, Zh, ZH⟩
      have PZ : Z.Perm (b :: r) := (List.Perm.cons_inv (P1.trans HP.out))
      have hb : g Z 0 = b := Hf.head_is PZ (List.pairwise_cons.1 HW.out.strict.sorted).2 (by rw [Zl]; exact Zh)
      have ct2 := take_at B h m Z w3 Zl ZH Zh (by omega)
      rw [hb] at ct2
      have K3 := Lib.hid (HK.out.trans k1)
      have L1 := Lib.hid l1
      have PZh := Lib.hid PZ
      clear ct k1 l1 P1 Zl Zh ZH PZ ha hb hc
      go_wp2_with fail
      go_at_call 97
      refine ct2.mono ?_
      rintro e w4 ⟨p2, Z2, rfl, k2, l2, P2, Z2l, Z2h, Z2H⟩
      have PZ2 : Hid (Z2.Perm r) := (List.Perm.cons_inv (P2.trans PZh.out))
      have K4 := Lib.hid (K3.out.trans k2)
      have L1' := Lib.hid (k2.lies L1.out)
      have L2 := Lib.hid l2
      have Z2L := Lib.hid Z2l
      have S4 := Lib.hid Z2H
      have H4 : Hid (Heap Z2 Z2.length) := by
        have := Z2h
        rw [← Z2l] at this
        exact this
      clear ct2 k2 l2 P2 Z2l Z2h Z2H L1 K3 PZh
      have wa := L1'.out.weight
      have na := L1'.out.number
      have wb := L2.out.weight
      have nb := L2.out.number
      have hsum : a.w + b.w ≤ 30000000 := by
        have h1 := HW.out.weight
        have h2 := Hf.tot_le HM.out hn2.out
        rw [← h1] at h2
        simp only [Hf.sm] at h2
        omega
      have hB4 : B ≤ w4.heap.size := Nat.le_trans hB K4.out.below.size
      have ne1 := World.new_ne w4 _ wa
      have ne2 := World.new_ne w4 _ wb
      have cp : ∀ W : World, W = (w4.alloc (.cells #[.int .i64 ((T.node a b).w : Nat), .int .i64 ((T.node a b).n : Nat), .pointer (some ⟨p1, 0, none⟩), .pointer (some ⟨p2, 0, none⟩)] 121)).drew →
          Calls Try.prog 98 #[.iface 123 (.pointer (some ⟨h, 0, none⟩)), .iface 101 (.pointer (some ⟨w4.heap.size, 0, none⟩))] W fun e w' => e = .returned (.tuple #[]) ∧ Kept B w4 w' ∧ ∃ X', X'.Perm (T.node a b :: Z2) ∧ Heap X' X'.length ∧ Heaped w' B h X' := fun W hW => by
        subst hW
        have hlies : Lies (w4.alloc (.cells #[.int .i64 ((T.node a b).w : Nat), .int .i64 ((T.node a b).n : Nat), .pointer (some ⟨p1, 0, none⟩), .pointer (some ⟨p2, 0, none⟩)] 121)).drew w4.heap.size (.node a b) :=
          ⟨p1, p2, heap_alloc_new w4 _,
            Lies.keep (w := w4) (fun b c hb => by show (w4.alloc _).heap[b]? = _; rw [Below.heap_alloc w4 _ b (lt_of_some hb)]; exact hb) L1'.out,
            Lies.keep (w := w4) (fun b c hb => by show (w4.alloc _).heap[b]? = _; rw [Below.heap_alloc w4 _ b (lt_of_some hb)]; exact hb) L2.out⟩
        refine (heap_push B h w4.heap.size Z2 (.node a b) _ (Nat.le_trans hB4 (by show _ ≤ (w4.alloc _).heap.size; simp)) ((S4.out.alloc _).drew) H4.out hlies (by have := Z2L.out; omega)).mono ?_
        rintro e w' ⟨h1, h2, h3⟩
        exact ⟨h1, ⟨(((Below.refl B w4).alloc hB4 _).drew).trans h2.below, fun k c t fr k1 k2 k3 => h2.block k c t fr k1 k2 (by show (w4.alloc _).heap[k]? = _; rw [Below.heap_alloc w4 _ k (lt_of_some k3)]; exact k3)⟩, h3⟩
      have CP := Lib.hid cp
      have HStep : Hid (Hf.Way f (Hf.ins (.node a b) r)) := Hf.way_step HW.out
      have HIns : Hid (∀ X' : List Hf.T, X'.Perm (.node a b :: Z2) → X'.Perm (Hf.ins (.node a b) r)) := fun X' h => h.trans ((PZ2.out.cons _).trans (Hf.ins_perm _ _).symm)
      have HZl : Hid (Z2.length = m) := Z2L
      have ew : ((T.node a b).w : Nat) = a.w + b.w := rfl
      have en : ((T.node a b).n : Nat) = min a.n b.n := rfl
      rw [ew, en] at cp
      have KW : Hid (∀ w5, Kept B w4 w5 → w5.cell? ⟨p1, 0, none⟩ = some (.int .i64 a.w) ∧ w5.cell? ⟨p2, 0, none⟩ = some (.int .i64 b.w) ∧ w5.cell? ⟨p1, 1, none⟩ = some (.int .i64 a.n) ∧ w5.cell? ⟨p2, 1, none⟩ = some (.int .i64 b.n)) :=
        Lib.hid fun w5 k => ⟨(k.lies L1'.out).weight, (k.lies L2.out).weight, (k.lies L1'.out).number, (k.lies L2.out).number⟩
      clear HW HP HS HH hFl PZ2 S4 L1' L2 CP HY HK Z2L H4 ew en
      generalize hT : Hf.T.node a b = t at *
      clear hT
      generalize a.w = aw at *
      generalize b.w = bw at *
      generalize a.n = an at *
      generalize b.n = bn at *
      have zs : (aw : Int) + (bw : Int) ≤ 30000000 := by omega
      rw [show ((aw + bw : Nat) : Int) = IntKind.i64.wrap ((aw : Int) + (bw : Int)) by rw [IntKind.wrap_i64]; omega, show ((min an bn : Nat) : Int) = min (an : Int) (bn : Int) by omega] at cp
      clear hsum
      go_wp2_with fail
      go_region_held3 (fun w' => w'.cell? ⟨p1, 0, none⟩ = some (.int .i64 aw) ∧ w'.cell? ⟨p2, 0, none⟩ = some (.int .i64 bw) ∧ w'.cell? ⟨p1, 1, none⟩ = some (.int .i64 an) ∧ w'.cell? ⟨p2, 1, none⟩ = some (.int .i64 bn))
        (first | go_keep | exact KW.out _ hK5)
        (first | (go_at_call 98; refine (cp _ rfl).mono ?_; rintro e w5 ⟨rfl, hK5, X', hP5, hH5, hX5⟩))
      have HK6 := Lib.hid (K4.out.trans hK5)
      have HX6 := Lib.hid hX5
      have HH6 := Lib.hid hH5
      have HP6 := Lib.hid (HIns.out X' hP5)
      have HY6 : Hid (1 ≤ X'.length ∧ X'.length ≤ 300) := by
        have := hP5.length_eq
        have h1 := HZl.out
        simp at this
        exact ⟨by omega, by omega⟩
      have HM6 : Hid (headLen w5 h = m + 1) := by
        have h0 := hX5.len
        have := hP5.length_eq
        have h1 := HZl.out
        simp at this
        show _ = _; omega
      clear hK5 hX5 hH5 hP5 cp KW HIns wa wb na nb
      go_wp2
      go_roundw
      case measure => rw [HM6.out, HLen.out]; omega
      case rel => exact ⟨X', _, HP6, HStep, HY6, HX6, HH6, HK6⟩
    · have hm : Y.length = 1 := by have := HY.out.1; omega
      rw [hm] at hc
      have hFl : F.length = 1 := by rw [← HP.out.length_eq]; exact hm
      obtain ⟨a, rfl⟩ : ∃ a, F = [a] := by
        match F, hFl with
        | [a], _ => exact ⟨a, rfl⟩
      have ha : g Y 0 = a := Hf.head_is HP.out (by simp) HH.out
      have ct := take_at B h 0 Y wr hm HS.out (by have := HH.out; rw [hm] at this; exact this) (by omega)
      rw [ha] at ct
      have HK0 := HK.out
      clear hm h2 ha hFl HS HH HP HY
      go_wp2_with fail
      go_at_call 97
      refine ct.mono ?_
      rintro e w3 ⟨p1, Z, rfl, k1, l1, _⟩
      have K3 := Lib.hid (HK0.trans k1)
      have L3 := Lib.hid l1
      clear ct k1 l1 HK0
      go_wp2
      go_ret
      exact ⟨p1, a, rfl, K3.out, L3.out, HW.out⟩
end Go.Proofs.Ythehjhckcblbdaa
/-
  Telling how deep a tree's symbols are.
-/
namespace Go.Proofs.Ythehjhckcblbdaa
open Go.RowKit Go.Lib Hf
set_option maxRecDepth 100000

/-- how deep the symbols of a tree are, laid down; 1 at least -/
def paint (D : List Nat) : T → Nat → List Nat
  | .leaf i _, d => D.set i (max d 1)
  | .node x y, d => paint (paint D x (d + 1)) y (d + 1)
theorem paint_length : ∀ (t : T) (D : List Nat) (d : Nat), (paint D t d).length = D.length
  | .leaf _ _, _, _ => List.length_set
  | .node x y, _, _ => (paint_length y _ _).trans (paint_length x _ _)
theorem paint_none : ∀ (t : T) (D : List Nat) (d i : Nat), i ∉ t.syms → (paint D t d).getD i 0 = D.getD i 0
  | .leaf j _, D, d, i, h => by
    have : i ≠ j := fun e => h (by simp [T.syms, e])
    unfold paint
    rw [List.getD_eq_getElem?_getD, List.getD_eq_getElem?_getD, List.getElem?_set_ne (fun e => this e.symm)]
  | .node x y, D, d, i, h => by
    have h1 : i ∉ x.syms := fun k => h (by simp [T.syms, k])
    have h2 : i ∉ y.syms := fun k => h (by simp [T.syms, k])
    exact (paint_none y _ _ i h2).trans (paint_none x _ _ i h1)
theorem paint_at : ∀ (t : T) (D : List Nat) (d i : Nat), t.syms.Nodup → i ∈ t.syms → i < D.length → (paint D t d).getD i 0 = max (d + t.dep i) 1
  | .leaf j _, D, d, i, _, h, hl => by
    have e : i = j := by simpa [T.syms] using h
    subst e
    unfold paint
    rw [List.getD_eq_getElem?_getD, List.getElem?_set_self hl]
    rfl
  | .node x y, D, d, i, hn, h, hl => by
    have hn' : (x.syms ++ y.syms).Nodup := hn
    have n1 := (List.nodup_append.1 hn').1
    have n2 := (List.nodup_append.1 hn').2.1
    unfold paint
    rcases List.mem_append.1 (show i ∈ x.syms ++ y.syms from h) with h1 | h1
    · have h2 : i ∉ y.syms := fun k => (List.nodup_append.1 hn').2.2 i h1 i k rfl
      rw [paint_none y _ _ i h2, paint_at x D _ i n1 h1 hl, dep_left hn' h1]; omega
    · rw [paint_at y _ _ i n2 h1 (by rw [paint_length]; exact hl), dep_right hn' h1]; omega

def intsN (D : List Nat) : List Value := D.map fun x : Nat => Value.int .i64 (x : Int)
theorem ints_set (D : List Nat) (i d : Nat) : intsN (D.set i d) = (intsN D).set i (.int .i64 (d : Nat)) := by unfold intsN; rw [List.map_set]

theorem part_zero (u v : Value) (w : World) : (Instr.index 119 (.agg #[u, v]) (.int .i64 0)).run Try.prog w = .ok u w := by kernel_rfl
theorem part_one (u v : Value) (w : World) : (Instr.index 119 (.agg #[u, v]) (.int .i64 1)).run Try.prog w = .ok v w := by kernel_rfl
theorem Lies.row {w w' : World} {S : Nat} {cur : Array Value} {fr : Nat × Nat} (hO : Only S w w') (hS : w.heap[S]? = some (.cells cur 3 fr)) {t : T} {b : Nat} (h : Lies w b t) : Lies w' b t :=
  h.keep fun b c hb => by
    rw [hO.block b (fun e => by subst e; rw [hS] at hb; cases hb)]
    exact hb

set_option maxHeartbeats 4000000 in
theorem note_at (B R n c : Nat) : ∀ (t : T) (b d : Nat) (D : List Nat) (w : World), (∀ i ∈ t.syms, i < n) → D.length = n → n ≤ 1000 → d + t.h ≤ 1000 → Lies w b t → w.ownsRow B 3 1 (.slice (some ⟨R, 0, none⟩) n c) n (intsN D) →
    Calls Try.prog 84 #[.pointer (some ⟨b, 0, none⟩), .slice (some ⟨R, 0, none⟩) n c, .int .i64 (d : Nat)] w fun e w' => e = .returned (.tuple #[]) ∧ Only R w w' ∧ w'.ownsRow B 3 1 (.slice (some ⟨R, 0, none⟩) n c) n (intsN (paint D t d))
  | .leaf i k, b, d, D, w, hi, hD, hn, hd, hL, ho => by
    have hin : i < n := hi i (by simp [T.syms])
    have c1 : w.cell? ⟨b, 1, none⟩ = some (.int .i64 (i : Nat)) := cell_of_row w b 1 _ 121 (0, 0) hL
    have c2 : w.cell? ⟨b, 2, none⟩ = some (.pointer none) := cell_of_row w b 2 _ 121 (0, 0) hL
    have c3 : w.cell? ⟨R, i, none⟩ = (intsN D)[i]? := ho.cellAt i (by omega)
    have c4 : w.cell? ⟨R, i, none⟩ = some (.int .i64 (D.getD i 0 : Nat)) := by
      rw [c3]; unfold intsN
      rw [List.getElem?_map, List.getD_eq_getElem?_getD, List.getElem?_eq_getElem (by omega : i < D.length)]; rfl
    have c5 := ho.frozenAt i
    obtain ⟨m, hm⟩ : ∃ m, m = max d 1 := ⟨_, rfl⟩
    have HO := Lib.hid (ho.stored i (.int .i64 (m : Nat))).1
    have em : max (d : Int) 1 = (m : Int) := by omega
    have Hm := Lib.hid hm
    clear ho c3 hL hi hd hm
    go_enter Try.func84, Try.ntmps84
    go_wp2
    refine bodyPost_ret (results_none rfl _ _ _) rfl ?_
    refine ⟨rfl, (Only.refl R w).setCell (p := ⟨R, i, none⟩) rfl _, ?_⟩
    show World.ownsRow _ _ _ _ _ _ (intsN (D.set i (max d 1)))
    rw [ints_set, ← Hm.out]
    exact HO.out
  | .node x y, b, d, D, w, hi, hD, hn, hd, hL, ho => by
    obtain ⟨p, q, h0, hx, hy⟩ := hL
    have c1 : w.cell? ⟨b, 2, none⟩ = some (.pointer (some ⟨p, 0, none⟩)) := cell_of_row w b 2 _ 121 (0, 0) h0
    have c2 : w.cell? ⟨b, 3, none⟩ = some (.pointer (some ⟨q, 0, none⟩)) := cell_of_row w b 3 _ 121 (0, 0) h0
    have hh : max x.h y.h + 1 = (T.node x y).h := rfl
    have hxi : ∀ i ∈ x.syms, i < n := fun i h => hi i (List.mem_append_left _ h)
    have hyi : ∀ i ∈ y.syms, i < n := fun i h => hi i (List.mem_append_right _ h)
    have ihx := fun (D : List Nat) (w : World) hD hL ho => note_at B R n c x p (d + 1) D w hxi hD hn (by omega) hL ho
    have ihy := fun (D : List Nat) (w : World) hD hL ho => note_at B R n c y q (d + 1) D w hyi hD hn (by omega) hL ho
    have IX := Lib.hid ihx
    have IY := Lib.hid ihy
    have zd : (d : Int) ≤ 1000 := by omega
    obtain ⟨cur, hS⟩ := row_cells ho
    have HS := Lib.hid hS
    have HX := Lib.hid hx
    have HY := Lib.hid hy
    have HO := Lib.hid ho
    have HD := Lib.hid hD
    clear ihx ihy hxi hyi hh h0 hx hy hi hd hS ho hD
    have i0 := fun w => part_zero (.pointer (some ⟨p, 0, none⟩)) (.pointer (some ⟨q, 0, none⟩)) w
    have i1 := fun w => part_one (.pointer (some ⟨p, 0, none⟩)) (.pointer (some ⟨q, 0, none⟩)) w
    go_enter Try.func84, Try.ntmps84
    go_wp2
    go_loopw [26] (fun v wr => ∃ k : Nat, v = .int .i64 k ∧ k ≤ 2 ∧ Hid (Only R w wr) ∧ Hid (wr.ownsRow B 3 1 (.slice (some ⟨R, 0, none⟩) n c) n (intsN (if k = 0 then D else if k = 1 then paint D x (d + 1) else paint (paint D x (d + 1)) y (d + 1))))) (fun v _ => 2 - (RowKit.intOf v).toNat)
    case atStart => exact ⟨0, rfl, by omega, Only.refl R w, HO.out⟩
    case round =>
      obtain ⟨k, rfl, hk, hO, hr⟩ := hrel
      rcases (show k = 0 ∨ k = 1 ∨ k = 2 by omega) with rfl | rfl | rfl
      · have r0 := hr.out
        rw [if_pos rfl] at r0
        have c3 := IX.out D wr HD.out (HX.out.row hO.out HS.out) r0
        rw [show ((d + 1 : Nat) : Int) = (d : Int) + 1 by omega] at c3
        clear r0
        go_wp2_with fail
        go_at_call 84
        refine c3.mono ?_
        rintro e w2 ⟨rfl, hO2, hr2⟩
        have HO2 := Lib.hid (hO.out.trans hO2)
        have HR2 := Lib.hid hr2
        clear hO2 hr2 c3
        go_wp2
        go_roundw
        case measure => simp [RowKit.intOf]
        case rel => exact ⟨1, rfl, by omega, HO2.out, by rw [if_neg (by decide), if_pos rfl]; exact HR2.out⟩
      · have r0 := hr.out
        rw [if_neg (by decide), if_pos rfl] at r0
        have c3 := IY.out (paint D x (d + 1)) wr (by rw [paint_length]; exact HD.out) (HY.out.row hO.out HS.out) r0
        rw [show ((d + 1 : Nat) : Int) = (d : Int) + 1 by omega] at c3
        clear r0
        go_wp2_with fail
        go_at_call 84
        refine c3.mono ?_
        rintro e w2 ⟨rfl, hO2, hr2⟩
        have HO2 := Lib.hid (hO.out.trans hO2)
        have HR2 := Lib.hid hr2
        clear hO2 hr2 c3
        go_wp2
        go_roundw
        case measure => simp [RowKit.intOf]
        case rel => exact ⟨2, rfl, by omega, HO2.out, by rw [if_neg (by decide), if_neg (by decide)]; exact HR2.out⟩
      · go_wp2
        go_end0
        refine ⟨rfl, hO.out, ?_⟩
        have r0 := hr.out
        rw [if_neg (by decide), if_neg (by decide)] at r0
        exact r0
end Go.Proofs.Ythehjhckcblbdaa
/-
  How deep each symbol is, of one round.
-/
namespace Go.Proofs.Ythehjhckcblbdaa
open Go.RowKit Go.Lib Hf
set_option maxRecDepth 100000

theorem own_below {w w' : World} {B n size : Nat} {e : TypeId} {v : Value} {xs : List Value} (h : w.ownsRow B e size v n xs) (hb : Below w.heap.size w w') : w'.ownsRow B e size v n xs := by
  refine ⟨h.1, ?_⟩
  rcases h.2 with h1 | ⟨g', cap', cur, h1, h2, h3, h4⟩
  · exact Or.inl h1
  · exact Or.inr ⟨g', cap', cur, h1, h2, by rw [hb.block g' (lt_of_some h3)]; exact h3, h4⟩
theorem own_base {w : World} {B B' n size : Nat} {e : TypeId} {v : Value} {xs : List Value} (h : w.ownsRow B e size v n xs) (hb : B' ≤ B) : w.ownsRow B' e size v n xs :=
  ⟨h.1, h.2.imp id fun ⟨g', cap', cur, h1, h2, h3⟩ => ⟨g', cap', cur, h1, Nat.le_trans hb h2, h3⟩⟩
theorem own_shape {w : World} {B n size : Nat} {e : TypeId} {v : Value} {xs : List Value} (h : w.ownsRow B e size v n xs) : ∃ q c, v = .slice q n c := by
  rcases h.2 with ⟨rfl, h1⟩ | ⟨g', cap', cur, h1, _⟩
  · exact ⟨none, 0, by rw [h1]⟩
  · exact ⟨_, _, h1⟩
theorem row_kept {B n c R : Nat} {w w' : World} {xs : List Value} (hk : Kept B w w') (h : w.ownsRow B 3 1 (.slice (some ⟨R, 0, none⟩) n c) n xs) : w'.ownsRow B 3 1 (.slice (some ⟨R, 0, none⟩) n c) n xs := by
  refine ⟨h.1, ?_⟩
  rcases h.2 with h1 | ⟨g', cap', cur, h1, h2, h3, h4⟩
  · exact Or.inl h1
  · exact Or.inr ⟨g', cap', cur, h1, h2, hk.block g' cur 3 (0, 0) (by decide) (by decide) h3, h4⟩
theorem h_syms : ∀ t : T, t.h + 1 ≤ t.syms.length
  | .leaf _ _ => Nat.le_refl _
  | .node a b => by
    have h1 := h_syms a
    have h2 := h_syms b
    show max a.h b.h + 1 + 1 ≤ (a.syms ++ b.syms).length
    rw [List.length_append]
    omega
theorem leaf_of {t : T} (h : t.syms.length = 1) (i : Nat) : t.dep i = 0 := by
  cases t with
  | leaf j w => rfl
  | node a b =>
    have h1 := h_syms a
    have h2 := h_syms b
    have h3 : (a.syms ++ b.syms).length = 1 := h
    rw [List.length_append] at h3
    omega
theorem paint_once {f : List Nat} {t : T} (hW : Hf.Way f [t]) : paint (List.replicate f.length 0) t 0 = (List.range f.length).map (once f) := by
  have hs : (T.syms t).Perm (S0 f) := by have := hW.syms; unfold Hf.syms at this; simpa using this
  have hnd : t.syms.Nodup := hs.nodup_iff.2 (S0_nodup f)
  have hlen : (paint (List.replicate f.length 0) t 0).length = f.length := by rw [paint_length]; simp
  refine List.ext_getElem (by rw [hlen]; simp) fun i h1 h2 => ?_
  have hi : i < f.length := by rw [← hlen]; exact h1
  have e0 : (paint (List.replicate f.length 0) t 0)[i] = (paint (List.replicate f.length 0) t 0).getD i 0 := by rw [List.getD_eq_getElem?_getD, List.getElem?_eq_getElem h1]; rfl
  rw [e0, List.getElem_map, List.getElem_range]
  by_cases hm : i ∈ t.syms
  · rw [paint_at t _ 0 i hnd hm (by simpa using hi), Nat.zero_add]
    have hS := hs.mem_iff.1 hm
    by_cases h1 : (S0 f).length = 1
    · rw [leaf_of (by rw [hs.length_eq]; exact h1)]
      unfold once
      rw [if_pos h1, if_pos hS]; rfl
    · have he := way_end hW (by simp) h1 i
      have hd : dep [t] i = t.dep i := by simp [dep, sm]
      have hp := once_pos hS
      rw [← he, hd] at *
      omega
  · rw [paint_none t _ 0 i hm, once_none (fun k => hm (hs.mem_iff.2 k))]
    simp [List.getD_eq_getElem?_getD, hi]
theorem none_once {f : List Nat} (h : S0 f = []) : List.replicate f.length 0 = (List.range f.length).map (once f) := by
  refine List.ext_getElem (by simp) fun i h1 h2 => ?_
  rw [List.getElem_replicate, List.getElem_map, List.getElem_range, once_none (by rw [h]; simp)]
theorem info3b : (Try.prog.info? 3).map (fun i => (i.zero, i.size, i.bytes)) = some (some (.int .i64 0), 1, 8) := by kernel_rfl
theorem make_row (n : Nat) (hn : n ≤ 1000) (w : World) :
    (Instr.makeSlice 50 (.int .i64 n) (.int .i64 n)).run Try.prog w = .ok (.slice (some ⟨w.heap.size, 0, none⟩) n n) (w.alloc (.cells (madeCells #[.int .i64 0] n) 3)) := by
  obtain ⟨i0, hi, hz0, hz1, hz2⟩ := info_parts info3b
  have h := run_make (P := Try.prog) w 50 3 i0 (.int .i64 0) Try.underlying50 hi hz0 .i64 .i64 n n (by omega) (Int.le_refl _) (by rw [hz2]; omega) (by omega)
  simp only [Int.toNat_natCast, hz1, Nat.mul_one] at h
  exact h
theorem made_row (w : World) (n : Nat) (hn : n ≤ 300) : (w.alloc (.cells (madeCells #[.int .i64 0] n) 3)).ownsRow w.heap.size 3 1 (.slice (some ⟨w.heap.size, 0, none⟩) n n) n (intsN (List.replicate n 0)) := by
  have := World.ownsRow_lit (base := w.heap.size) (e := 3) (size := 1) w (madeCells #[.int .i64 0] n) n (Nat.le_refl _) (by unfold maxLen; omega) (by simp [madeCells])
  rw [toList_madeCells_one] at this
  have e1 : intsN (List.replicate n 0) = List.replicate n (.int .i64 0) := by unfold intsN; rw [List.map_replicate]; rfl
  rw [e1]
  exact this

set_option maxHeartbeats 4000000 in
theorem depths_at (f : List Nat) (hn : f.length ≤ 300) (hm : ∀ i, f.getD i 0 ≤ 100000) (p : Option Addr) (cap : Nat) (w : World) (h : IntsLie w p (nums f) cap) :
    Calls Try.prog 58 #[.slice p f.length cap] w fun e w' => ∃ R, e = .returned (.slice (some ⟨R, 0, none⟩) f.length f.length) ∧ w'.ownsRow w.heap.size 3 1 (.slice (some ⟨R, 0, none⟩) f.length f.length) f.length (intsN ((List.range f.length).map (Hf.once f))) ∧ Below w.heap.size w w' := by
  have HM := Lib.hid hm
  have zn : (f.length : Int) ≤ 300 := by omega
  have mk := fun w => make_row f.length (by omega) w
  have hn2 := Lib.hid hn
  have R0 := Lib.hid (made_row w f.length hn)
  have B0 := Lib.hid ((Below.refl w.heap.size w).alloc (Nat.le_refl _) (.cells (madeCells #[.int .i64 0] f.length) 3))
  have c1 := single_at f hn hm p cap (w.alloc (.cells (madeCells #[.int .i64 0] f.length) 3)) (h.below ((Below.refl w.heap.size w).alloc (Nat.le_refl _) _))
  clear h hm hn
  go_enter Try.func58, Try.ntmps58
  go_wp2_with fail
  go_at_call 82
  refine c1.mono ?_
  rintro e w2 ⟨v, X, bs, rfl, hP, hH, hB, hbl, ho, hls⟩
  have R2 := Lib.hid (own_below R0.out hB)
  have B2 := Lib.hid (B0.out.trans (hB.mono (by simp)))
  have OX : Hid (w2.ownsRow w.heap.size 101 1 v X.length (bs.map ptr)) := own_base ho (by simp)
  obtain ⟨q, c, rfl⟩ := own_shape ho
  clear c1 hB ho R0 B0
  have hXl : X.length = (S0 f).length := by rw [hP.length_eq]; unfold leaves; rw [List.length_map]
  by_cases h0 : X.length = 0
  · have hS0 : S0 f = [] := List.length_eq_zero_iff.1 (by omega)
    have HR := Lib.hid (none_once hS0)
    rw [h0]
    clear hP hH hbl hls OX hXl h0 hS0
    go_wp2
    go_ret
    refine ⟨w.heap.size, rfl, ?_, B2.out.alloc B2.out.size _⟩
    rw [← HR.out]
    exact R2.out.alloc _
  · have hSl : (S0 f).length ≤ f.length := by unfold S0; refine Nat.le_trans (List.length_filter_le _ _) ?_; rw [List.length_range]; exact Nat.le_refl _
    have zX : (0 : Int) < X.length := by omega
    have hP0 : X.Perm (F0 f) := hP.trans (sortT_perm (leaves f)).symm
    have HX3 : Heaped (w2.alloc (.cells #[.slice q X.length c] 99)) w.heap.size w2.heap.size X :=
      ⟨_, bs, heap_alloc_new w2 _, B2.out.size, hbl, OX.out.alloc _, fun i hi => Lies.keep (fun b c hb => by rw [Below.heap_alloc w2 _ b (lt_of_some hb)]; exact hb) (hls i hi)⟩
    have ct := together_at f hn2.out HM.out w.heap.size w2.heap.size X (F0 f) _ HX3 hH hP0 (way_start f) ⟨by omega, by have := hn2.out; omega⟩ (by have := B2.out.size; simp; omega)
    have R3 := Lib.hid (R2.out.alloc (.cells #[.slice q X.length c] 99))
    have B3 := Lib.hid (B2.out.alloc B2.out.size (.cells #[.slice q X.length c] 99))
    have HSl := Lib.hid hSl
    clear hP hH hbl hls OX h0 hP0 HX3 R2 B2 hXl hSl
    go_wp2_with fail
    go_at_call 83
    refine ct.mono ?_
    rintro e w4 ⟨b, t, rfl, hK, hL, hW⟩
    have hs : (T.syms t).Perm (S0 f) := by have := hW.syms; unfold Hf.syms at this; simpa using this
    have cn := note_at w.heap.size w.heap.size f.length f.length t b 0 (List.replicate f.length 0) w4 (fun i hi => (S0_mem.1 (hs.mem_iff.1 hi)).1) (by simp) (by have := hn2.out; omega) (by have h1 := h_syms t; have h2 := hs.length_eq; have h3 := hn2.out; have h4 := HSl.out; omega) hL (row_kept hK R3.out)
    rw [paint_once hW] at cn
    have B4 := Lib.hid (B3.out.trans hK.below)
    clear hs hK hL hW R3 B3 ct
    go_wp2_with fail
    go_at_call 84
    refine cn.mono ?_
    rintro e w5 ⟨rfl, hO, hr⟩
    have B5 := Lib.hid (B4.out.trans (hO.below (Nat.le_refl _)))
    have R5 := Lib.hid hr
    clear hO hr cn B4
    go_wp2
    go_ret
    exact ⟨w.heap.size, rfl, R5.out, B5.out⟩
end Go.Proofs.Ythehjhckcblbdaa
/-
  Package huff's Kraft.
-/
namespace Go.Proofs.Ythehjhckcblbdaa
set_option maxRecDepth 100000
open Go.RowKit Go.Lib
theorem long_at (n : Int) (w : World) : Calls Try.prog 60 #[.int .i64 n] w fun e w' => e = .returned (.bool (decide (15 < n))) ∧ w' = w := by
  go_enter Try.func60, Try.ntmps60
  go_wp2
  go_ret
  exact ⟨rfl, rfl⟩
theorem sm_range {g : Nat → Nat} (i : Nat) : Hf.sm g (List.range (i + 1)) = Hf.sm g (List.range i) + g i := by
  rw [List.range_succ, Hf.sm_append]; simp [Hf.sm]
theorem sm_up {g : Nat → Nat} {i n : Nat} (h : i ≤ n) : Hf.sm g (List.range i) ≤ Hf.sm g (List.range n) := by
  induction h with
  | refl => exact Nat.le_refl _
  | step _ ih => rw [sm_range]; omega
/-- what a length counts -/
def part (x : Nat) : Nat := if 1 ≤ x then 2 ^ (15 - x) else 0
theorem part_le (x : Nat) : part x ≤ 16384 := by
  unfold part
  split
  · exact Nat.le_trans (Nat.pow_le_pow_right (by decide) (by omega : 15 - x ≤ 14)) (by decide)
  · omega
set_option maxHeartbeats 1000000 in
theorem kraft_at (l : List Nat) (p : Option Addr) (c : Nat) (w : World) (hn : l.length ≤ 300) (hl15 : ∀ i, l.getD i 0 ≤ 15) (Il : IntsLie w p (nums l) c) :
    Calls Try.prog 87 #[.slice p l.length c] w fun e w' => e = .returned (.int .i64 (Hf.kraftN l : Nat)) ∧ w' = w := by
  have HL := Lib.hid Il
  have HS := Lib.hid (show ∀ i, i ≤ l.length → Hf.sm (fun i => part (l.getD i 0)) (List.range i) ≤ 4915200 from fun i hi => Nat.le_trans (sm_up hi) (Hf.kraft_le hn))
  have Hl0 := Lib.hid hl15
  have hc1 : (l.length : Int) ≤ c := by have := Il.len; rw [nums_len] at this; omega
  have zn : (l.length : Int) ≤ 300 := by omega
  have lc := fun n => long_at n w
  clear Il hl15 hn
  go_enter Try.func87, Try.ntmps87
  go_wp2
  go_loop [3, 8] (fun s v => ∃ i k : Nat, i ≤ l.length ∧ v = .int .i64 i ∧ s = .int .i64 k ∧ Hid (k = Hf.sm (fun i => part (l.getD i 0)) (List.range i))) (fun _ v => l.length - (RowKit.intOf v).toNat)
  case atStart => exact ⟨0, 0, Nat.zero_le _, rfl, rfl, by show _ = _; rfl⟩
  case round =>
    obtain ⟨i, k, hi, rfl, rfl, HK⟩ := hrel
    by_cases hlt : i < l.length
    · have hle := HS.out (i + 1) hlt
      rw [sm_range, ← HK.out] at hle
      have hx := Hl0.out i
      have HK2 : Hid (k + part (l.getD i 0) = Hf.sm (fun i => part (l.getD i 0)) (List.range (i + 1))) := by show _ = _; rw [sm_range, ← HK.out]
      obtain ⟨b1, o1, rfl, h1⟩ := HL.out.at (i := i) (by rw [nums_len]; exact hlt)
      have c1 := h1 i (by rw [nums_len]; exact hlt)
      rw [nums_get] at c1
      generalize l.getD i 0 = x at *
      have ii : (i : Int) < l.length := by omega
      clear h1
      by_cases h0 : x = 0
      · subst h0
        have HK3 : Hid (k = Hf.sm (fun i => part (l.getD i 0)) (List.range (i + 1))) := by show _ = _; rw [← HK2.out]; rfl
        clear hle hx HK2
        go_wp2
        go_round
        case rel => exact ⟨i + 1, k, by omega, by go_num, rfl, HK3⟩
        case measure => simp [RowKit.intOf]; omega
      · obtain ⟨z, hz⟩ : ∃ z, z = part x := ⟨_, rfl⟩
        rw [← hz] at hle HK2
        obtain ⟨y, hy⟩ : ∃ y, y = 15 - x := ⟨_, rfl⟩
        have ez : wrap64 (2 ^ y) = (z : Int) := by
          rw [hz]; unfold part; rw [if_pos (by omega), ← hy]
          have h2 : (2 : Nat) ^ y ≤ 16384 := Nat.le_trans (Nat.pow_le_pow_right (by decide) (by omega : y ≤ 14)) (by decide)
          have h3 : ((2 : Int) ^ y) = ((2 ^ y : Nat) : Int) := by simp
          rw [h3]
          generalize (2 : Nat) ^ y = m at h2
          unfold wrap64; omega
        have e15 : 15 - (x : Int) = (y : Int) := by omega
        have z1 : (1 : Int) ≤ x := by omega
        have z15 : (x : Int) ≤ 15 := by omega
        have zk : (k : Int) + z ≤ 4915200 := by omega
        have lx : Calls Try.prog 60 #[.int .i64 x] w fun e w' => e = .returned (.bool false) ∧ w' = w := by
          have := lc x
          rw [decide_eq_false (by omega)] at this
          exact this
        clear hz hy hle hx h0 lc
        go_wp2_with fail
        refine lx.mono ?_
        rintro e w' ⟨rfl, rfl⟩
        go_wp2
        go_round
        case rel => exact ⟨i + 1, k + z, by omega, by go_num, by go_num, HK2⟩
        case measure => simp [RowKit.intOf]; omega
    · have e : i = l.length := by omega
      subst e
      go_wp2
      go_ret
      exact ⟨ret_int (by rw [HK.out]; rfl), rfl⟩
end Go.Proofs.Ythehjhckcblbdaa
/-
  Package huff's plain functions: may's test, IndexFunc and ContainsFunc over numbers, may.
-/
namespace Go.Proofs.Ythehjhckcblbdaa
set_option maxRecDepth 100000
open Go.RowKit Go.Lib
theorem none_at (n : Int) (w : World) : Calls Try.prog 81 #[.int .i64 n] w fun e w' => e = .returned (.bool (!mayI n)) ∧ w' = w := by
  by_cases h : n < 0
  · have hm : mayI n = false := by simp [mayI]; omega
    go_enter Try.func81, Try.ntmps81
    go_wp2
    go_ret
    exact ⟨ret_bool (by rw [hm]; rfl), rfl⟩
  · have h2 : 0 ≤ n := by omega
    have hm : Hid (mayI n = decide (n ≤ 100000)) := by show _ = _; simp [mayI, h2]
    clear h
    go_enter Try.func81, Try.ntmps81
    go_wp2
    go_ret
    exact ⟨ret_bool (by rw [hm.out]; by_cases h3 : n ≤ 100000 <;> simp [h3] <;> omega), rfl⟩
theorem long_tests : Tests 60 fun x => decide (15 < x) := ⟨fun args w => by kernel_rfl, long_at⟩
theorem none_tests : Tests 81 fun x => !mayI x := ⟨fun args w => by kernel_rfl, none_at⟩
theorem any_not (L : List Int) : (L.any fun x => !mayI x) = !(L.all mayI) := by rw [List.not_all_eq_any_not]
theorem may_at (L : List Int) (p : Option Addr) (cap : Nat) (w : World) (h : IntsLie w p L cap) (hl : L.length ≤ 281474976710656) :
    Calls Try.prog 56 #[.slice p L.length cap] w fun e w' => e = .returned (.bool (decide (L.length ≤ 300) && L.all mayI)) ∧ w' = w := by
  have hc := contains_at 81 _ none_tests L p cap w h hl
  have zl : (L.length : Int) ≤ 281474976710656 := by omega
  rw [any_not] at hc
  have hcap : (L.length : Int) ≤ cap := by have := h.len; omega
  clear h hl
  generalize L.all mayI = b at *
  by_cases h3 : L.length ≤ 300
  · have z3 : (L.length : Int) ≤ 300 := by omega
    have e3 := Lib.hid (decide_eq_true h3)
    clear h3
    go_enter Try.func56, Try.ntmps56
    go_wp2_with (go_at_call 59; refine hc.mono ?_; rintro e w' ⟨rfl, rfl⟩)
    go_ret
    exact ⟨ret_bool (by rw [e3.out]; simp), rfl⟩
  · have z3 : (300 : Int) < L.length := by omega
    have e3 := Lib.hid (decide_eq_false h3)
    clear h3
    go_enter Try.func56, Try.ntmps56
    go_wp2_with (go_at_call 59; refine hc.mono ?_; rintro e w' ⟨rfl, rfl⟩)
    go_ret
    exact ⟨ret_bool (by rw [e3.out]; rfl), rfl⟩
end Go.Proofs.Ythehjhckcblbdaa
/-
  slices.Clone of numbers; halving all of them.
-/
namespace Go.Proofs.Ythehjhckcblbdaa
open Go.RowKit Go.Lib
set_option maxRecDepth 100000
theorem ints_at (D : List Nat) (i : Nat) (h : i < D.length) : (intsN D)[i]? = some (.int .i64 (D.getD i 0 : Nat)) := by
  unfold intsN
  rw [List.getElem?_map, List.getD_eq_getElem?_getD, List.getElem?_eq_getElem h]; rfl
theorem intsN_len (D : List Nat) : (intsN D).length = D.length := by unfold intsN; rw [List.length_map]
/-- a row of numbers that the call has made: where it lies -/
theorem lie_own {w : World} {B n c : Nat} {q : Option Addr} {D : List Nat} (h : w.ownsRow B 3 1 (.slice q n c) n (intsN D)) (hn : D.length = n) : IntsLie w q (nums D) c := by
  rcases h.2 with ⟨h1, h2⟩ | ⟨g', cap', cur, h1, h2, h3, h4, h5, h6⟩
  · cases h1
    exact ⟨by rw [nums_len]; omega, Nat.zero_le _, Or.inl (List.length_eq_zero_iff.1 (by rw [nums_len]; omega))⟩
  · cases h1
    refine ⟨by rw [nums_len]; omega, h5, Or.inr ⟨g', 0, rfl, fun i hi => ?_⟩⟩
    have hi' : i < D.length := by rw [nums_len] at hi; exact hi
    rw [Nat.zero_add, h.cellAt i (by omega), ints_at D i hi', nums_get]

theorem eql_nil (a : Option Addr) (l c : Nat) (w : World) : (binOp .eql 50 (.slice a l c) (.slice none 0 0)).run Try.prog w = .ok (.bool a.isNone) w := by
  simp only [binOp]
  simp [run_equal_slice_nil w 50 3 a l c Try.underlying50]
set_option maxHeartbeats 1000000 in
theorem clone_at (f : List Nat) (hn : f.length ≤ 300) (p : Option Addr) (cap : Nat) (w : World) (h : IntsLie w p (nums f) cap) :
    Calls Try.prog 57 #[.slice p f.length cap] w fun e w' => ∃ v, e = .returned v ∧ w'.ownsRow w.heap.size 3 1 v f.length (intsN f) ∧ Below w.heap.size w w' := by
  match p with
  | none =>
    have h0 : f = [] := by
      rcases h.lies with h1 | ⟨_, _, h1, _⟩
      · unfold nums at h1; simpa using h1
      · cases h1
    subst h0
    clear h
    have hE := fun w => eql_nil none 0 cap w
    go_enter Try.func57, Try.ntmps57
    go_wp2
    go_ret
    exact ⟨_, rfl, World.ownsRow_nil _ _ _ _, Below.refl _ _⟩
  | some a =>
    have hcell : ∀ j u, (intsN f)[j]? = some u → (w.alloc (.cells #[] 3)).cell? (a.add j) = some u := fun j u hj => by
      have hjl : j < f.length := by
        rcases Nat.lt_or_ge j f.length with z | z
        · exact z
        · rw [List.getElem?_eq_none (by rw [intsN_len]; omega)] at hj; cases hj
      obtain ⟨blk, off, e, hc⟩ := (h.below ((Below.refl _ _).alloc (Nat.le_refl _) (.cells #[] 3))).at (i := j) (by rw [nums_len]; exact hjl)
      cases e
      have := hc j (by rw [nums_len]; exact hjl)
      rw [nums_get] at this
      rw [Addr.add_lit, this, ← hj, ints_at f j hjl]
    have hone : ∀ u ∈ intsN f, u.oneCell' = true := fun u hu => by
      unfold intsN at hu
      obtain ⟨x, _, rfl⟩ := List.mem_map.1 hu
      rfl
    obtain ⟨i0, hi0, hz0, hz1, hz2⟩ := info_parts info3b
    have o1 := World.ownsRow_made (base := w.heap.size) (e := 3) (size := 1) w #[] 0 (Nat.le_refl _) (by decide) rfl
    have zn : (f.length : Int) ≤ 300 := by omega
    have BB := Lib.hid (fun w3 (gr : World.grownBy (w.alloc (.cells #[] 3)) w3 (some w.heap.size)) => ((Below.refl w.heap.size w).alloc (Nat.le_refl _) (.cells #[] 3)).grown gr (by simp) (fun k hk => by cases hk; exact Nat.le_refl _))
    clear h
    have hE := fun w => eql_nil (some a) f.length cap w
    go_enter Try.func57, Try.ntmps57
    go_wp2_with (with_reducible refine stop_append ?_)
    unfold Stop
    refine wpList_append_own _ rfl _ _ 50 rfl w.heap.size 3 i0 (.int .i64 0) 1 8 Try.underlying50 hi0 hz0 hz1 hz2 rfl (by decide) _ 0 [] rfl o1 a f.length cap (intsN f) rfl (by rw [intsN_len]; omega) hcell hone (by unfold maxLen; omega) (by omega) (by simp) ?_
    intro v1 w3 own1 gr1 _
    have B1 := Lib.hid (BB.out w3 gr1)
    rw [Nat.zero_add, List.nil_append] at own1
    have O1 := Lib.hid own1
    clear own1 gr1 hcell hone o1 BB
    go_wp2
    go_ret
    exact ⟨v1, rfl, O1.out, B1.out⟩

set_option maxHeartbeats 1000000 in
theorem halve_at (B n c : Nat) (q : Option Addr) (D : List Nat) (w : World) (hD : D.length = n) (hn : n ≤ 300) (hm : ∀ i, D.getD i 0 ≤ 100000) (ho : w.ownsRow B 3 1 (.slice q n c) n (intsN D)) :
    Calls Try.prog 61 #[.slice q n c] w fun e w' => e = .returned (.tuple #[]) ∧ w'.ownsRow B 3 1 (.slice q n c) n (intsN (Hf.half D)) ∧ Below B w w' := by
  have HO := Lib.hid ho
  have HM := Lib.hid hm
  have HD := Lib.hid hD
  have zn : (n : Int) ≤ 300 := by omega
  have hcap : (n : Int) ≤ c := by have := (lie_own ho hD).len; rw [nums_len] at this; omega
  clear ho hm hD hn
  go_enter Try.func61, Try.ntmps61
  go_wp2
  go_loopw [6] (fun v wr => ∃ (i : Nat) (E : List Nat), v = .int .i64 i ∧ i ≤ n ∧ Hid (E.length = n) ∧ Hid (∀ j, E.getD j 0 = if j < i then (D.getD j 0 + 1) / 2 else D.getD j 0) ∧ Hid (wr.ownsRow B 3 1 (.slice q n c) n (intsN E)) ∧ Hid (Below B w wr)) (fun v _ => n - (RowKit.intOf v).toNat)
  case atStart => exact ⟨0, D, rfl, Nat.zero_le _, HD, fun j => by rw [if_neg (by omega)], HO, Below.refl _ _⟩
  case round =>
    obtain ⟨i, E, rfl, hi, HE, HV, HW, HB⟩ := hrel
    by_cases hlt : i < n
    · obtain ⟨R, rfl, hBR⟩ : ∃ R, q = some ⟨R, 0, none⟩ ∧ B ≤ R := by
        rcases HW.out.2 with ⟨h1, h2⟩ | ⟨g', cap', cur, h1, h2, _⟩
        · omega
        · cases h1; exact ⟨_, rfl, h2⟩
      have c1 := HW.out.cellAt i (by omega)
      rw [ints_at E i (by rw [HE.out]; exact hlt)] at c1
      have hv := HV.out i
      rw [if_neg (by omega)] at hv
      rw [hv] at c1
      have hx := HM.out i
      have c2 := HW.out.frozenAt i
      obtain ⟨y, hy⟩ : ∃ y, y = (D.getD i 0 + 1) / 2 := ⟨_, rfl⟩
      have HW2 := Lib.hid (HW.out.stored i (.int .i64 (y : Nat))).1
      have HB2 := Lib.hid (HB.out.setCell (p := ⟨R, i, none⟩) hBR (.int .i64 (y : Nat)))
      have HV2 : Hid (∀ j, (E.set i y).getD j 0 = if j < i + 1 then (D.getD j 0 + 1) / 2 else D.getD j 0) := fun j => by
        rw [List.getD_eq_getElem?_getD, List.getElem?_set]
        by_cases e : i = j
        · subst e
          rw [if_pos rfl, if_pos (by rw [HE.out]; exact hlt), if_pos (by omega), hy]; rfl
        · rw [if_neg e, ← List.getD_eq_getElem?_getD, HV.out j]
          by_cases h3 : j < i
          · rw [if_pos h3, if_pos (by omega)]
          · rw [if_neg h3, if_neg (by omega)]
      have ii : (i : Int) < n := by omega
      generalize D.getD i 0 = x at *
      have ey : ((x : Int) + 1) / 2 = (y : Int) := by omega
      clear hv hy HW HB HV
      go_wp2
      go_roundw
      case measure => simp [RowKit.intOf]; omega
      case rel => exact ⟨i + 1, E.set i y, by go_num, by omega, by rw [List.length_set]; exact HE.out, HV2, by rw [ints_set]; exact HW2.out, HB2⟩
    · have e : i = n := by omega
      subst e
      go_wp2
      go_end0
      refine ⟨rfl, ?_, HB.out⟩
      have : E = Hf.half D := by
        refine List.ext_getElem (by rw [HE.out, Hf.half_length, HD.out]) fun j h1 h2 => ?_
        have e1 := HV.out j
        rw [if_pos (by rw [← HE.out]; exact h1), ← Hf.half_get, List.getD_eq_getElem?_getD, List.getD_eq_getElem?_getD, List.getElem?_eq_getElem h1, List.getElem?_eq_getElem h2] at e1
        exact e1
      rw [← this]
      exact HW.out
end Go.Proofs.Ythehjhckcblbdaa
/-
  Package huff's Lens.
-/
namespace Go.Proofs.Ythehjhckcblbdaa
open Go.RowKit Go.Lib
set_option maxRecDepth 100000
theorem lens_deep (g : List Nat) : (nums ((List.range g.length).map (Hf.once g))).any (fun x => decide (15 < x)) = Hf.deep g := by
  unfold nums Hf.deep
  rw [List.any_map, List.any_map]
  congr 1
  funext i
  simp only [Function.comp_apply]
  congr 1
  apply propext
  omega
theorem may_nums (f : List Nat) (hm : ∀ i, f.getD i 0 ≤ 100000) : (nums f).all mayI = true := by
  refine List.all_eq_true.2 fun x hx => ?_
  obtain ⟨i, hi, rfl⟩ := List.mem_iff_getElem.1 hx
  rw [nums_get]
  have h2 := hm i
  generalize f.getD i 0 = y at *
  simp [mayI]; omega
set_option maxHeartbeats 2000000 in
theorem lens_at (f : List Nat) (hn : f.length ≤ 300) (hm : ∀ i, f.getD i 0 ≤ 100000) (p : Option Addr) (cap : Nat) (w : World) (h : IntsLie w p (nums f) cap) :
    Calls Try.prog 30 #[.slice p f.length cap] w fun e w' => ∃ q c, e = .returned (.slice q f.length c) ∧ IntsLie w' q (nums (Hf.lens f)) c ∧ Below w.heap.size w w' := by
  have c1 := may_at (nums f) p cap w h (by rw [nums_len]; omega)
  rw [nums_len, may_nums f hm, decide_eq_true hn] at c1
  have c2 := clone_at f hn p cap w h
  have HM := Lib.hid hm
  have hn2 := Lib.hid hn
  clear h hm hn
  go_enter Try.func30, Try.ntmps30
  go_wp2_with fail
  go_at_call 56
  refine c1.mono ?_
  rintro e w1 ⟨rfl, rfl⟩
  go_wp2_with fail
  go_at_call 57
  refine c2.mono ?_
  rintro e w2 ⟨v, rfl, ho, hb⟩
  obtain ⟨q, c, rfl⟩ := own_shape ho
  have c3 := depths_at f hn2.out HM.out q c w2 (lie_own ho rfl)
  have HO := Lib.hid ho
  have HB := Lib.hid hb
  clear c1 c2 ho hb
  go_wp2_with fail
  go_at_call 58
  refine c3.mono ?_
  rintro e w3 ⟨R, rfl, hr, hb3⟩
  have HO3 := Lib.hid (own_below HO.out hb3)
  have HR3 := Lib.hid (own_base hr HB.out.size)
  have HB3 := Lib.hid (HB.out.next hb3)
  clear c3 hr hb3 HO HB
  go_wp2
  go_loopg [4] (Hf.tot f) (fun gg v wr => ∃ (g : List Nat) (R : Nat), v = .slice (some ⟨R, 0, none⟩) f.length f.length ∧ Hid (Hf.tot g ≤ gg) ∧ Hid (g.length = f.length) ∧ Hid (Hf.lastF g = Hf.lastF f) ∧ Hid (∀ i, g.getD i 0 ≤ 100000) ∧ Hid (wr.ownsRow w1.heap.size 3 1 (.slice q f.length c) f.length (intsN g)) ∧ Hid (wr.ownsRow w1.heap.size 3 1 (.slice (some ⟨R, 0, none⟩) f.length f.length) f.length (intsN ((List.range f.length).map (Hf.once g)))) ∧ Hid (Below w1.heap.size w1 wr))
  case atStart => exact ⟨f, R, rfl, Nat.le_refl _, rfl, rfl, HM, HO3, HR3, HB3⟩
  case round =>
    clear HO3 HR3 HB3
    obtain ⟨g, R, rfl, HG, HL, HF, HM1, HO, HR, HB⟩ := hrel
    have hll : ((List.range f.length).map (Hf.once g)).length = f.length := by simp
    have cc := contains_at 60 _ long_tests (nums ((List.range f.length).map (Hf.once g))) (some ⟨R, 0, none⟩) f.length wr (lie_own HR.out hll) (by rw [nums_len, hll]; have := hn2.out; omega)
    rw [nums_len, hll] at cc
    have hda := lens_deep g
    rw [HL.out] at hda
    rw [hda] at cc
    clear hda hll
    cases hd : Hf.deep g with
    | true =>
      rw [hd] at cc
      have hdt := Hf.deep_half (by rw [HL.out]; exact hn2.out) hd
      have HT : Hid (Hf.tot (Hf.half g) < Hf.tot g) := hdt
      have HF2 : Hid (Hf.lastF (Hf.half g) = Hf.lastF f) := (Hf.last_step (by rw [HL.out]; exact hn2.out) hd).symm.trans HF.out
      have ch := halve_at w1.heap.size f.length c q g wr HL.out hn2.out HM1.out HO.out
      have HM2 : Hid (∀ i, (Hf.half g).getD i 0 ≤ 100000) := fun i => by rw [Hf.half_get]; have := HM1.out i; omega
      have HL2 : Hid ((Hf.half g).length = f.length) := (Hf.half_length g).trans HL.out
      clear hd hdt HO HR HF HM1 HL
      go_wp2_with fail
      go_at_call 59
      refine cc.mono ?_
      rintro e w4 ⟨rfl, rfl⟩
      go_wp2_with fail
      go_at_call 61
      refine ch.mono ?_
      rintro e w5 ⟨rfl, ho5, hb5⟩
      have cd := depths_at (Hf.half g) (by rw [HL2.out]; exact hn2.out) HM2.out q c w5 (lie_own ho5 HL2.out)
      rw [HL2.out] at cd
      have HO5 := Lib.hid ho5
      have HB5 := Lib.hid (HB.out.trans hb5)
      clear cc ch ho5 hb5
      go_wp2_with fail
      go_at_call 58
      refine cd.mono ?_
      rintro e w6 ⟨R6, rfl, hr6, hb6⟩
      have HO6 := Lib.hid (own_below HO5.out hb6)
      have HR6 := Lib.hid (own_base hr6 HB5.out.size)
      have HB6 := Lib.hid (HB5.out.next hb6)
      clear cd hr6 hb6 HO5 HB5
      go_wp2
      go_roundg (Hf.tot (Hf.half g))
      case measure => have := HT.out; have := HG.out; omega
      case rel => exact ⟨Hf.half g, R6, rfl, Nat.le_refl _, HL2, HF2, HM2, HO6, HR6, HB6⟩
    | false =>
      rw [hd] at cc
      have he : Hid (Hf.lens f = (List.range f.length).map (Hf.once g)) := by
        show _ = _
        unfold Hf.lens
        rw [← HF.out, Hf.last_same hd]
      have HI := Lib.hid (lie_own HR.out (by simp))
      clear hd HO HR HF HM1 HL
      go_wp2_with fail
      go_at_call 59
      refine cc.mono ?_
      rintro e w4 ⟨rfl, rfl⟩
      go_wp2
      go_ret
      exact ⟨_, _, rfl, by rw [he.out]; exact HI.out, HB.out⟩
set_option maxHeartbeats 1000000 in
theorem lens_none (p : Option Addr) (cap : Nat) (w : World) (h : IntsLie w p [-1] cap) :
    Calls Try.prog 30 #[.slice p 1 cap] w fun e w' => ∃ q c, e = .returned (.slice q 0 c) ∧ Below w.heap.size w w' := by
  have c1 := may_at [-1] p cap w h (by decide)
  rw [show ([-1] : List Int).length = 1 from rfl, show (decide (1 ≤ 300) && ([-1] : List Int).all mayI) = false by decide] at c1
  clear h
  go_enter Try.func30, Try.ntmps30
  go_wp2_with fail
  go_at_call 56
  refine c1.mono ?_
  rintro e w1 ⟨rfl, rfl⟩
  go_wp2
  go_ret
  exact ⟨none, 0, rfl, Below.refl _ _⟩
end Go.Proofs.Ythehjhckcblbdaa
