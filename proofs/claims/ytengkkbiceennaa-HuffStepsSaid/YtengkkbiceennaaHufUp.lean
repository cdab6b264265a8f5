/-
  A row of trees in memory, and container/heap's up over it (over a stand-in).
-/
import Derived.Test.YtengkkbiceennaaHufMe
namespace Go.Proofs.Ytengkkbiceennaa
open Go.RowKit Go.Lib Hf
set_option maxRecDepth 100000

/-- Nothing of the world has turned but block S. -/
structure Only (S : Nat) (w w' : World) : Prop where
  os : w'.os = w.os
  tape : w'.tape = w.tape
  output : w'.output = w.output
  size : w'.heap.size = w.heap.size
  block : ∀ k, k ≠ S → w'.heap[k]? = w.heap[k]?
theorem Only.refl (S : Nat) (w : World) : Only S w w := ⟨rfl, rfl, rfl, rfl, fun _ _ => rfl⟩
theorem Only.trans {S : Nat} {a b c : World} (h : Only S a b) (k : Only S b c) : Only S a c :=
  ⟨k.os.trans h.os, k.tape.trans h.tape, k.output.trans h.output, k.size.trans h.size, fun i hi => (k.block i hi).trans (h.block i hi)⟩
theorem Only.below {S : Nat} {w w' : World} (h : Only S w w') {B : Nat} (hB : B ≤ S) : Below B w w' := ⟨h.os, h.tape, h.output, Nat.le_of_eq h.size.symm, fun k hk => h.block k (by omega)⟩
theorem Only.cell {S : Nat} {w w' : World} (h : Only S w w') {p : Addr} (hp : p.block ≠ S) : w'.cell? p = w.cell? p := World.cell?_of_block (w := w) (h.block p.block hp)
theorem Only.frozen {S : Nat} {w w' : World} (h : Only S w w') {p : Addr} (hp : p.block ≠ S) : w'.frozen? p = w.frozen? p := World.frozen?_of_block (w := w) (h.block p.block hp)
theorem Only.drewN (S : Nat) (w : World) (q : Nat) : Only S w (w.drewN q) := ⟨rfl, rfl, rfl, rfl, fun _ _ => rfl⟩
theorem Only.setCell {S : Nat} {a w : World} (h : Only S a w) {p : Addr} (hp : p.block = S) (u : Value) : Only S a (w.setCell p u) :=
  ⟨h.os, h.tape, h.output, by rw [← h.size]; simp [World.setCell], fun k hk => by rw [Below.heap_setCell w p u k (by rw [hp]; exact hk)]; exact h.block k hk⟩

def ptr (b : Nat) : Value := .pointer (some ⟨b, 0, none⟩)
/-- A tree lies in memory, at block b. -/
def Lies (w : World) : Nat → T → Prop
  | b, .leaf i k => w.heap[b]? = some (.cells #[.int .i64 (k : Nat), .int .i64 (i : Nat), .pointer none, .pointer none] 49 (0, 0))
  | b, .node x y => ∃ p q, w.heap[b]? = some (.cells #[.int .i64 (T.node x y).w, .int .i64 (T.node x y).n, ptr p, ptr q] 49 (0, 0)) ∧ Lies w p x ∧ Lies w q y
theorem Lies.weight {w : World} : ∀ {t : T} {b : Nat}, Lies w b t → w.cell? ⟨b, 0, none⟩ = some (.int .i64 t.w)
  | .leaf _ _, _, h => cell_of_row w _ 0 _ 49 (0, 0) h
  | .node _ _, _, ⟨_, _, h, _⟩ => cell_of_row w _ 0 _ 49 (0, 0) h
theorem Lies.number {w : World} : ∀ {t : T} {b : Nat}, Lies w b t → w.cell? ⟨b, 1, none⟩ = some (.int .i64 t.n)
  | .leaf _ _, _, h => cell_of_row w _ 1 _ 49 (0, 0) h
  | .node _ _, _, ⟨_, _, h, _⟩ => cell_of_row w _ 1 _ 49 (0, 0) h
theorem Lies.keep {w w' : World} (hk : ∀ (b : Nat) (c : Array Value), w.heap[b]? = some (.cells c 49 (0, 0)) → w'.heap[b]? = some (.cells c 49 (0, 0))) : ∀ {t : T} {b : Nat}, Lies w b t → Lies w' b t
  | .leaf _ _, _, h => hk _ _ h
  | .node _ _, _, ⟨p, q, h, h1, h2⟩ => ⟨p, q, hk _ _ h, Lies.keep hk h1, Lies.keep hk h2⟩
theorem Lies.only {w w' : World} {S : Nat} {cur : Array Value} {fr : Nat × Nat} (hO : Only S w w') (hS : w.heap[S]? = some (.cells cur 38 fr)) {t : T} {b : Nat} (h : Lies w b t) : Lies w' b t :=
  h.keep fun b c hb => by
    rw [hO.block b (fun e => by subst e; rw [hS] at hb; cases hb)]
    exact hb
theorem row_cells {w : World} {base S n c : Nat} {e : TypeId} {xs : List Value} (h : w.ownsRow base e 1 (.slice (some ⟨S, 0, none⟩) n c) n xs) : ∃ cur, w.heap[S]? = some (.cells cur e (0, 0)) := by
  rcases h.2 with ⟨h1, _⟩ | ⟨g', cap', cur, h1, _, h2, _⟩
  · cases h1
  · cases h1; exact ⟨cur, h2⟩

/-- A row of trees that the call has made lies in block S. -/
def Trees (w : World) (B S c : Nat) (X : List T) : Prop := ∃ bs : List Nat, bs.length = X.length ∧ w.ownsRow B 38 1 (.slice (some ⟨S, 0, none⟩) X.length c) X.length (bs.map ptr) ∧ ∀ i, i < X.length → Lies w (bs.getD i 0) (g X i)
theorem Trees.at {w : World} {B S c : Nat} {X : List T} (h : Trees w B S c X) (i : Nat) (hi : i < X.length) :
    ∃ b, w.cell? ⟨S, i, none⟩ = some (.pointer (some ⟨b, 0, none⟩)) ∧ w.frozen? ⟨S, i, none⟩ = false ∧ Lies w b (g X i) := by
  obtain ⟨bs, hl, ho, hi2⟩ := h
  refine ⟨bs.getD i 0, ?_, ho.frozenAt i, hi2 i hi⟩
  rw [ho.cellAt i (by omega), List.getElem?_map, List.getD_eq_getElem?_getD, List.getElem?_eq_getElem (by omega : i < bs.length)]
  rfl
theorem Trees.drewN {w : World} {B S c : Nat} {X : List T} (h : Trees w B S c X) (q : Nat) : Trees (w.drewN q) B S c X := by
  obtain ⟨bs, hl, ho, hi⟩ := h
  exact ⟨bs, hl, ho, fun i hi2 => Lies.keep (w := w) (w' := w.drewN q) (fun _ _ h => h) (hi i hi2)⟩

theorem less_row {B S c n : Nat} {w : World} {X : List T} (hX : Trees w B S c X) (hn : X.length = n) (i j : Nat) (hi : i < n) (hj : j < n) :
    Calls Try.prog 54 #[.slice (some ⟨S, 0, none⟩) n c, .int .i64 i, .int .i64 j] w fun e w' => e = .returned (.bool (decide (T.lt (g X i) (g X j)))) ∧ Only S w w' ∧ Trees w' B S c X := by
  obtain ⟨b1, h1, h2, h3⟩ := hX.at i (by omega)
  obtain ⟨b2, k1, k2, k3⟩ := hX.at j (by omega)
  refine (less_at S c n w b1 b2 (g X i) (g X j) i j hi hj h1 k1 h3.weight h3.number k3.weight k3.number).mono ?_
  rintro e w' ⟨he, q, rfl⟩
  exact ⟨he, Only.drewN S w q, hX.drewN q⟩

theorem swap_row {B S c n : Nat} {w : World} {X : List T} (hX : Trees w B S c X) (hn : X.length = n) (i j : Nat) (hi : i < n) (hj : j < n) :
    Calls Try.prog 55 #[.slice (some ⟨S, 0, none⟩) n c, .int .i64 i, .int .i64 j] w fun e w' => e = .returned (.tuple #[]) ∧ Only S w w' ∧ Trees w' B S c (swp X i j) := by
  obtain ⟨bs, hl, ho, hb⟩ := hX
  have cellA : ∀ k, k < n → w.cell? ⟨S, k, none⟩ = some (ptr (bs.getD k 0)) := fun k hk => by
    rw [ho.cellAt k (by omega), List.getElem?_map, List.getD_eq_getElem?_getD, List.getElem?_eq_getElem (by omega : k < bs.length)]
    rfl
  refine (swap_at S c n w ⟨bs.getD i 0, 0, none⟩ ⟨bs.getD j 0, 0, none⟩ i j hi hj (cellA i hi) (cellA j hj) (ho.frozenAt i) (ho.frozenAt j)).mono ?_
  rintro e w' ⟨he, q, rfl⟩
  have hO : Only S w (((w.setCell ⟨S, i, none⟩ (ptr (bs.getD j 0))).setCell ⟨S, j, none⟩ (ptr (bs.getD i 0))).drewN q) :=
    Only.trans (((Only.refl S w).setCell (p := ⟨S, i, none⟩) rfl _).setCell (p := ⟨S, j, none⟩) rfl _) (Only.drewN S _ q)
  refine ⟨he, hO, (bs.set i (bs.getD j 0)).set j (bs.getD i 0), ?_, ?_, fun k hk => ?_⟩
  · rw [List.length_set, List.length_set, swp_length]; exact hl
  · have h2 := ((ho.stored i (ptr (bs.getD j 0))).1.stored j (ptr (bs.getD i 0))).1
    rw [swp_length, List.map_set, List.map_set]
    exact h2
  · rw [swp_length] at hk
    rw [swp_get (by omega) (by omega)]
    obtain ⟨cur, hcur⟩ := row_cells ho
    refine Lies.only hO hcur ?_
    have hk2 : k < bs.length := by omega
    rw [List.getD_eq_getElem?_getD, List.getElem?_set, List.getElem?_set]
    by_cases hkj : k = j
    · subst hkj
      simp only [List.length_set]
      rw [if_pos trivial, if_pos hk2, if_pos trivial]
      exact hb i (by omega)
    · rw [if_neg (fun e => hkj e.symm), if_neg hkj]
      by_cases hki : k = i
      · subst hki
        rw [if_pos rfl, if_pos hk2, if_pos rfl]
        exact hb j (by omega)
      · rw [if_neg (fun e => hki e.symm), if_neg hki, ← List.getD_eq_getElem?_getD]
        exact hb k hk

set_option maxHeartbeats 4000000 in
theorem up_at (a : Addr) (B S c n : Nat) (ha : a.block ≠ S) (X : List T) (j : Nat) (hn : X.length = n) (hsz : n ≤ 1000) (w : World) (hh : w.cell? a = some (.slice (some ⟨S, 0, none⟩) n c)) (hX : Trees w B S c X) (hU : Up X n j) :
    Calls Try.prog 36 #[.iface 51 (.pointer (some a)), .int .i64 j] w fun e w' => e = .returned (.tuple #[]) ∧ Only S w w' ∧ ∃ X', X'.Perm X ∧ Heap X' n ∧ Trees w' B S c X' := by
  have HU : Hid (Up X n j) := hU
  have hj0 := hU.inn
  clear hU
  go_enter Try.func36, Try.ntmps36
  go_wp2
  go_loopw [1, 4] (fun v u wr => ∃ (k : Nat) (Y : List T), v = .int .i64 k ∧ k < n ∧ Hid (Up Y n k) ∧ Hid (Y.Perm X) ∧ Hid (Y.length = n) ∧ Hid (Trees wr B S c Y) ∧ Hid (Only S w wr)) (fun v _ _ => (RowKit.intOf v).toNat)
  case atStart => exact ⟨j, X, rfl, hj0, HU, List.Perm.refl _, hn, hX, Only.refl S w⟩
  case round =>
    obtain ⟨k, Y, rfl, hk, hUp, hP, hL, hT, hO⟩ := hrel
    have mL := fun w h => meth_less a (.slice (some ⟨S, 0, none⟩) n c) w h
    have mS := fun w h => meth_swap a (.slice (some ⟨S, 0, none⟩) n c) w h
    have hhr : wr.cell? a = some (.slice (some ⟨S, 0, none⟩) n c) := by rw [hO.out.cell ha]; exact hh
    by_cases hk0 : k = 0
    · subst hk0
      go_wp2
      go_end0
      exact ⟨rfl, hO.out, Y, hP.out, up_done hUp.out (Or.inl rfl), hT.out⟩
    · have zk : (1 : Int) ≤ k := by omega
      have zk2 : (k : Int) ≤ 1000 := by omega
      obtain ⟨p, hp⟩ : ∃ p, p = (k - 1) / 2 := ⟨_, rfl⟩
      have ek : ((k : Int) - 1) / 2 = (p : Int) := by omega
      have hne : ((p : Int) == (k : Int)) = false := by simp; omega
      have hpn : p < n := by omega
      have Hp : Hid (p = (k - 1) / 2) := hp
      clear hp
      have hl1 := less_row (c := c) hT.out hL.out k p hk hpn
      cases hlt : decide (T.lt (g Y k) (g Y p)) with
      | false =>
        rw [hlt] at hl1
        have hle : Hid (le (g Y p) (g Y k)) := fun h => by simp [h] at hlt
        clear hlt
        go_wp2_with (go_at_call 54; refine hl1.mono ?_; rintro e w2 ⟨rfl, hO2, hT2⟩; have hh2 : w2.cell? a = some (.slice (some ⟨S, 0, none⟩) n c) := by rw [hO2.cell ha]; exact hhr)
        go_end0
        exact ⟨rfl, hO.out.trans hO2, Y, hP.out, up_done hUp.out (Or.inr (by rw [← Hp.out]; exact hle.out)), hT2⟩
      | true =>
        rw [hlt] at hl1
        have hle : Hid (T.lt (g Y k) (g Y p)) := (of_decide_eq_true hlt : T.lt (g Y k) (g Y p))
        clear hlt
        go_wp2_with (go_at_call 54; refine hl1.mono ?_; rintro e w2 ⟨rfl, hO2, hT2⟩; have hh2 : w2.cell? a = some (.slice (some ⟨S, 0, none⟩) n c) := by rw [hO2.cell ha]; exact hhr)
        refine (swap_row (c := c) hT2 hL.out p k hpn hk).mono ?_
        rintro e w3 ⟨rfl, hO3, hT3⟩
        go_wp2
        go_roundw
        case measure => simp only [RowKit.intOf]; omega
        case rel => exact ⟨p, swp Y p k, rfl, hpn, (by have := up_step hUp.out (by have := hL.out; omega) (by omega) (by rw [← Hp.out]; exact hle.out); rw [← Hp.out] at this; exact this), ((swp_perm (by have := hL.out; omega) (by have := hL.out; omega)).trans hP.out), (by rw [swp_length]; exact hL.out), hT3, (hO.out.trans hO2).trans hO3⟩
end Go.Proofs.Ytengkkbiceennaa

