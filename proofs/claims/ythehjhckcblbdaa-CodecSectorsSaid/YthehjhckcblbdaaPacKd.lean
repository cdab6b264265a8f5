/-
  pack.Read.
-/
import Derived.Test.YthehjhckcblbdaaPacSb
import Derived.Test.YthehjhckcblbdaaPacKo
import Derived.Test.YthehjhckcblbdaaPacKr
namespace Go.Proofs.Ythehjhckcblbdaa.Pk
set_option maxRecDepth 100000
open Go.RowKit Go.Lib Mt Ma Mb Cd Cn
theorem res_read (tmps : Array Value) (w : World) (g0 g1 g2 : Nat) (v0 v1 v2 : Value) (h4 : tmps.getD 4 undef = .pointer (some ⟨g0, 0, none⟩)) (h5 : tmps.getD 5 undef = .pointer (some ⟨g1, 0, none⟩)) (h6 : tmps.getD 6 undef = .pointer (some ⟨g2, 0, none⟩))
    (c0 : w.cell? ⟨g0, 0, none⟩ = some v0) (c1 : w.cell? ⟨g1, 0, none⟩ = some v1) (c2 : w.cell? ⟨g2, 0, none⟩ = some v2) : (results Try.f47 tmps).run Try.prog w = .ok (.tuple #[v0, v1, v2]) w := by
  have k4 : tmps[4]?.getD undef = .pointer (some ⟨g0, 0, none⟩) := by simpa using h4
  have k5 : tmps[5]?.getD undef = .pointer (some ⟨g1, 0, none⟩) := by simpa using h5
  have k6 : tmps[6]?.getD undef = .pointer (some ⟨g2, 0, none⟩) := by simpa using h6
  simp [results, go_sem, k4, k5, k6, c0, c1, c2]
/-- the world behind the function's own variables -/
def W4 (w : World) (p : Option Addr) (k d : Nat) : World := (((w.alloc (.cells #[.slice none 0 0] 36)).alloc (.cells #[.int .i64 0] 3)).alloc (.cells #[.bool false] 4)).alloc (.cells #[.slice p k d, .int .i64 0] 92)
structure Door (w W : World) : Prop where
  below : Below w.heap.size w W
  size : w.heap.size + 1 + 1 + 1 < W.heap.size
  r0 : W.heap[w.heap.size]? = some (.cells #[.slice none 0 0] 36 (0, 0))
  r1 : W.heap[w.heap.size + 1]? = some (.cells #[.int .i64 0] 3 (0, 0))
  r2 : W.heap[w.heap.size + 1 + 1]? = some (.cells #[.bool false] 4 (0, 0))
theorem door_start (w : World) (p : Option Addr) (k d : Nat) : Door w (W4 w p k d) ∧ Rdr (W4 w p k d) (w.heap.size + 1 + 1 + 1) p k d 0 ∧ (W4 w p k d).heap.size = w.heap.size + 1 + 1 + 1 + 1 := by
  have hs : (W4 w p k d).heap.size = w.heap.size + 1 + 1 + 1 + 1 := by simp [W4]
  have b1 := (Below.refl w.heap.size w).alloc (Nat.le_refl _) (.cells #[.slice none 0 0] 36)
  have b2 := b1.alloc (by simp) (.cells #[.int .i64 0] 3)
  have b3 := b2.alloc (by simp <;> omega) (.cells #[.bool false] 4)
  have b4 := b3.alloc (by simp <;> omega) (.cells #[.slice p k d, .int .i64 0] 92)
  have e3 : (W4 w p k d).heap[w.heap.size + 1 + 1 + 1]? = some (.cells #[.slice p k d, .int .i64 0] 92 (0, 0)) := by
    have := heap_alloc_new (((w.alloc (.cells #[.slice none 0 0] 36)).alloc (.cells #[.int .i64 0] 3)).alloc (.cells #[.bool false] 4)) (Obj.cells #[.slice p k d, .int .i64 0] 92)
    simpa [W4] using this
  have e2 : (W4 w p k d).heap[w.heap.size + 1 + 1]? = some (.cells #[.bool false] 4 (0, 0)) := by
    have := heap_alloc_new ((w.alloc (.cells #[.slice none 0 0] 36)).alloc (.cells #[.int .i64 0] 3)) (Obj.cells #[.bool false] 4)
    unfold W4
    rw [Below.heap_alloc _ _ _ (by simp)]
    simpa using this
  have e1 : (W4 w p k d).heap[w.heap.size + 1]? = some (.cells #[.int .i64 0] 3 (0, 0)) := by
    have := heap_alloc_new (w.alloc (.cells #[.slice none 0 0] 36)) (Obj.cells #[.int .i64 0] 3)
    unfold W4
    rw [Below.heap_alloc _ _ _ (by simp <;> omega), Below.heap_alloc _ _ _ (by simp)]
    simpa using this
  have e0 : (W4 w p k d).heap[w.heap.size]? = some (.cells #[.slice none 0 0] 36 (0, 0)) := by
    have := heap_alloc_new w (Obj.cells #[.slice none 0 0] 36)
    unfold W4
    rw [Below.heap_alloc _ _ _ (by simp <;> omega), Below.heap_alloc _ _ _ (by simp <;> omega), Below.heap_alloc _ _ _ (by simp)]
    exact this
  refine ⟨⟨b4, by omega, e0, e1, e2⟩, ⟨?_, ?_, frozen_of_row _ _ _ _ 92 e3⟩, hs⟩
  · rw [cell_of_row _ _ _ _ 92 (0, 0) e3]; rfl
  · rw [cell_of_row _ _ _ _ 92 (0, 0) e3]; rfl
theorem cells3 (w : World) : (((w.alloc (.cells #[.slice none 0 0] 36)).alloc (.cells #[.int .i64 0] 3)).alloc (.cells #[.bool false] 4)).cell? ⟨w.heap.size, 0, none⟩ = some (.slice none 0 0) ∧
    (((w.alloc (.cells #[.slice none 0 0] 36)).alloc (.cells #[.int .i64 0] 3)).alloc (.cells #[.bool false] 4)).cell? ⟨w.heap.size + 1, 0, none⟩ = some (.int .i64 0) ∧
    (((w.alloc (.cells #[.slice none 0 0] 36)).alloc (.cells #[.int .i64 0] 3)).alloc (.cells #[.bool false] 4)).cell? ⟨w.heap.size + 1 + 1, 0, none⟩ = some (.bool false) := by
  have h := (door_start w none 0 0).1
  have e : ∀ b o, b < w.heap.size + 1 + 1 + 1 → (W4 w none 0 0).cell? ⟨b, o, none⟩ = (((w.alloc (.cells #[.slice none 0 0] 36)).alloc (.cells #[.int .i64 0] 3)).alloc (.cells #[.bool false] 4)).cell? ⟨b, o, none⟩ := fun b o hb => by
    unfold W4
    exact World.cell?_alloc_old _ _ _ (by show b ≠ _; simp; omega)
  refine ⟨?_, ?_, ?_⟩
  · rw [← e _ _ (by omega), cell_of_row _ _ _ _ 36 (0, 0) h.r0]; rfl
  · rw [← e _ _ (by omega), cell_of_row _ _ _ _ 3 (0, 0) h.r1]; rfl
  · rw [← e _ _ (by omega), cell_of_row _ _ _ _ 4 (0, 0) h.r2]; rfl
theorem Door.step {w W W' : World} (h : Door w W) (hg : W.grownBy W' (some (w.heap.size + 1 + 1 + 1))) : Door w W' :=
  have hs := h.size
  ⟨grown_below h.below h.below.size hg (by omega), by have := hg.size; omega, (hg.block _ (by omega) (fun e => by simp only [Option.some.injEq] at e; omega)).trans h.r0, (hg.block _ (by omega) (fun e => by simp only [Option.some.injEq] at e; omega)).trans h.r1, (hg.block _ (by omega) (fun e => by simp only [Option.some.injEq] at e; omega)).trans h.r2⟩
theorem Door.bits {w W : World} {p : Option Addr} {b : List Bool} {d : Nat} (h : Door w W) (hf : FlagsLie w p b d) : Bits W (w.heap.size + 1 + 1 + 1) p b d := by
  refine ⟨hf.below h.below, ?_⟩
  rcases hf.lies with rfl | ⟨blk, off, e, hc⟩
  · exact .inl rfl
  · by_cases h0 : b = []
    · exact .inl h0
    · refine .inr fun blk2 off2 e2 => ?_
      rw [e] at e2
      cases e2
      have := World.block_lt_of_cell? w _ (hc 0 (List.length_pos_iff.2 h0))
      have hs := h.size
      simp only at this
      omega
/-- the way out by a panic -/
theorem door_none {w W : World} (h : Door w W) (tmps : Array Value) (h4 : tmps.getD 4 undef = .pointer (some ⟨w.heap.size, 0, none⟩)) (h5 : tmps.getD 5 undef = .pointer (some ⟨w.heap.size + 1, 0, none⟩)) (h6 : tmps.getD 6 undef = .pointer (some ⟨w.heap.size + 1 + 1, 0, none⟩)) :
    Leaves Try.prog Try.f47 tmps (fun e w' => Below w.heap.size w w' ∧ ReadB none e w') [{ target := .fn (.func 74) #[.pointer (some ⟨w.heap.size, 0, none⟩), .pointer (some ⟨w.heap.size + 1, 0, none⟩), .pointer (some ⟨w.heap.size + 1 + 1, 0, none⟩)], args := #[] }] (.panicking noneP) W := by
  have hs := h.size
  have c0 := cell_of_row W w.heap.size 0 _ 36 (0, 0) h.r0
  have c1 := cell_of_row W (w.heap.size + 1) 0 _ 3 (0, 0) h.r1
  have c2 := cell_of_row W (w.heap.size + 1 + 1) 0 _ 4 (0, 0) h.r2
  have f0 := frozen_of_row W w.heap.size 0 _ 36 h.r0
  have f1 := frozen_of_row W (w.heap.size + 1) 0 _ 3 h.r1
  have f2 := frozen_of_row W (w.heap.size + 1 + 1) 0 _ 4 h.r2
  refine leaves_cons (f := 74) (args := #[.pointer (some ⟨w.heap.size, 0, none⟩), .pointer (some ⟨w.heap.size + 1, 0, none⟩), .pointer (some ⟨w.heap.size + 1 + 1, 0, none⟩)]) (by simp) (by simp [go_sem]) ?_
  refine (catch_none w.heap.size none 0 0 0 false W (by omega) c0 c1 c2 f0 f1 f2).mono ?_
  rintro e u' w'' ⟨rfl, rfl, rfl⟩
  have ha := World.grownBy_alloc W (.cells #[] 112) Option.none
  have k0 := (grown_cell ha (show w.heap.size < W.heap.size by omega) (by simp) 0).trans c0
  have k1 := (grown_cell ha (show w.heap.size + 1 < W.heap.size by omega) (by simp) 0).trans c1
  have k2 := (grown_cell ha (show w.heap.size + 2 < W.heap.size by omega) (by simp) 0).trans c2
  refine ⟨.tuple #[.slice none 0 0, .int .i64 0, .bool false], res_read tmps _ w.heap.size (w.heap.size + 1) (w.heap.size + 1 + 1) _ _ _ h4 h5 h6 ?_ ?_ ?_, ?_, none, 0, Nat.zero_le _, rfl⟩
  · exact (World.cell?_setCell_other _ _ _ _ (by simp)).trans ((World.cell?_setCell_other _ _ _ _ (by simp)).trans (World.cell?_setCell_same _ _ _ k0))
  · exact (World.cell?_setCell_other _ _ _ _ (by simp)).trans (World.cell?_setCell_same _ _ _ ((World.cell?_setCell_other _ _ _ _ (by simp)).trans k1))
  · exact World.cell?_setCell_same _ _ _ ((World.cell?_setCell_other _ _ _ _ (by simp)).trans ((World.cell?_setCell_other _ _ _ _ (by simp)).trans k2))
  · exact (((h.below.alloc h.below.size _).setCell (p := ⟨w.heap.size, 0, none⟩) (Nat.le_refl _) _).setCell (p := ⟨w.heap.size + 1, 0, none⟩) (by simp) _).setCell (p := ⟨w.heap.size + 2, 0, none⟩) (by simp) _
set_option maxHeartbeats 4000000 in
theorem read_code (b : List Bool) (k : Nat) (many : Int) (p : Option Addr) (d : Nat) (w : World) (hb : b.length = k) (_hk : k ≤ 281474976710656) (h : FlagsLie w p b d) :
    Calls Try.prog 47 #[.slice p k d, .int .i64 many] w fun e w' => Below w.heap.size w w' ∧ ReadB (decodeI b many) e w' := by
  have hmf : ∀ (fn : Fn) (first cap : Array Value) (w : World), (Instr.makeFunc fn first cap).run Try.prog w = .ok (.func fn first cap) w := fun _ _ _ _ => rfl
  have arm : many < 0 ∨ 1000 < many ∨ ∃ n : Nat, n ≤ 1000 ∧ many = n := by
    by_cases h1 : many < 0
    · exact .inl h1
    · by_cases h2 : 1000 < many
      · exact .inr (.inl h2)
      · exact .inr (.inr ⟨many.toNat, by omega, by omega⟩)
  rcases arm with h1 | h1 | ⟨n, hn, rfl⟩
  · have HD : Hid (decodeI b many = none) := Lib.hid (if_neg (by omega))
    rw [HD.out]
    have HB := Lib.hid (Below.refl w.heap.size w)
    clear h hb HD
    go_enter_defers Try.func47, Try.ntmps47
    go_wp2
    exact ⟨_, res_read _ _ w.heap.size (w.heap.size + 1) (w.heap.size + 1 + 1) (.slice none 0 0) (.int .i64 0) (.bool false) rfl rfl rfl (cells3 w).1 (cells3 w).2.1 (cells3 w).2.2, ((HB.out.alloc (Nat.le_refl _) _).alloc (by simp) _).alloc (by simp <;> omega) _, none, 0, Nat.zero_le _, rfl⟩
  · have HD : Hid (decodeI b many = none) := Lib.hid (by unfold decodeI decode; rw [if_pos (by omega), if_neg (by omega)])
    rw [HD.out]
    have HB := Lib.hid (Below.refl w.heap.size w)
    have h2 : ¬ many < 0 := by omega
    clear h hb HD
    go_enter_defers Try.func47, Try.ntmps47
    go_wp2
    exact ⟨_, res_read _ _ w.heap.size (w.heap.size + 1) (w.heap.size + 1 + 1) (.slice none 0 0) (.int .i64 0) (.bool false) rfl rfl rfl (cells3 w).1 (cells3 w).2.1 (cells3 w).2.2, ((HB.out.alloc (Nat.le_refl _) _).alloc (by simp) _).alloc (by simp <;> omega) _, none, 0, Nat.zero_le _, rfl⟩
  · obtain ⟨hD, hR, hs⟩ := door_start w p k d
    have hq := hD.bits h
    have hc := codes_code b (w.heap.size + 1 + 1 + 1) p k d (W4 w p k d) hR hq hb
    have HQ : Hid (∀ w1, (W4 w p k d).grownBy w1 (some (w.heap.size + 1 + 1 + 1)) → Bits w1 (w.heap.size + 1 + 1 + 1) p b d) := Lib.hid fun w1 h1 => hq.kept h1 (fun j e => by cases e; exact .inl rfl)
    have HDo := Lib.hid hD
    have Hs := Lib.hid hs
    have Hb := Lib.hid hb
    have zn : (n : Int) ≤ 1000 := by omega
    have HE : Hid (decodeI b n = match rdHead b with
        | none => none
        | some (l, p) => rdToks l b n n 0 p) := Lib.hid (by unfold decodeI decode; rw [if_pos (by omega), Int.toNat_natCast, if_pos hn]; cases rdHead b <;> rfl)
    generalize decodeI b n = Q at HE ⊢
    unfold MapA at hc
    cases hh : rdHead b with
    | none =>
      rw [hh] at HE hc
      have HE2 : Q = none := HE.out
      subst HE2
      simp only at hc
      clear h hb hD hR hs hq hh HE
      unfold W4 at hc HDo
      go_enter_defers Try.func47, Try.ntmps47
      go_wp2_with fail
      go_at_call 77
      refine hc.mono ?_
      rintro e w1 ⟨hg1, rfl⟩
      have HD1 := Lib.hid (HDo.out.step hg1)
      clear hc hg1 HDo HQ Hs
      go_wp2
      exact door_none HD1.out _ rfl rfl rfl
    | some lp =>
      obtain ⟨l, p0⟩ := lp
      rw [hh] at HE hc
      have HE2 : Q = rdToks l b n n 0 p0 := HE.out
      simp only at hc
      obtain ⟨hok, _, hp0, hlen⟩ := rdHead_end hh
      have HM : Hid (MayC l) := Lib.hid ⟨hok.1, hok.2.1, hok.2.2⟩
      have HL := Lib.hid hlen
      have HP0 : Hid (p0 ≤ k) := Lib.hid (by rw [← Hb.out]; exact hp0)
      rw [HE2]
      clear h hb hD hR hs hq hh HE hok hp0 hlen HE2
      have HT := Lib.hid (fun (w1 : World) (bm : Nat) (hg1 : (W4 w p k d).grownBy w1 (some (w.heap.size + 1 + 1 + 1))) (hbm : (W4 w p k d).heap.size ≤ bm) (hm1 : MapL w1 bm l 272) (hr1 : Rdr w1 (w.heap.size + 1 + 1 + 1) p k d p0) =>
        tokens_code b l HM.out HL.out (w.heap.size + 1 + 1 + 1) p k d p0 bm n hn w1 hr1 (HQ.out w1 hg1) Hb.out HP0.out hm1 (by rw [Hs.out] at hbm; omega))
      unfold ToksA at HT
      generalize rdToks l b n n 0 p0 = R at *
      unfold W4 at hc HDo HT
      go_enter_defers Try.func47, Try.ntmps47
      go_wp2_with fail
      go_at_call 77
      refine hc.mono ?_
      rintro e w1 ⟨hg1, bm, rfl, hbm, hm1, hr1⟩
      have HD1 := Lib.hid (HDo.out.step hg1)
      have ht := HT.out w1 bm hg1 hbm hm1 hr1
      clear hc hg1 hbm hm1 hr1 HT HDo HQ Hs
      cases R with
      | none =>
        simp only at ht
        go_wp2_with fail
        go_at_call 76
        refine ht.mono ?_
        rintro e w2 ⟨hg2, rfl⟩
        have HD2 := Lib.hid (HD1.out.step hg2)
        clear ht hg2 HD1
        go_wp2
        exact door_none HD2.out _ rfl rfl rfl
      | some TX =>
        obtain ⟨T, x⟩ := TX
        simp only at ht
        go_wp2_with fail
        go_at_call 76
        refine ht.mono ?_
        rintro e w2 ⟨hg2, q', c, rfl, hown, hr2⟩
        have HD2 := Lib.hid (HD1.out.step hg2)
        have c0 := cell_of_row w2 w.heap.size 0 _ 36 (0, 0) HD2.out.r0
        have c1 := cell_of_row w2 (w.heap.size + 1) 0 _ 3 (0, 0) HD2.out.r1
        have c2 := cell_of_row w2 (w.heap.size + 1 + 1) 0 _ 4 (0, 0) HD2.out.r2
        have f0 := frozen_of_row w2 w.heap.size 0 _ 36 HD2.out.r0
        have f1 := frozen_of_row w2 (w.heap.size + 1) 0 _ 3 HD2.out.r1
        have f2 := frozen_of_row w2 (w.heap.size + 1 + 1) 0 _ 4 HD2.out.r2
        have c3 := hr2.place
        simp at c0 c1 c2
        have HO := Lib.hid hown
        have hw1s := HD1.out.size
        have HC : Hid (Below w.heap.size w (w2.setCell ⟨w.heap.size, 0, none⟩ (.slice q' T.length c))) := Lib.hid (HD2.out.below.setCell (p := ⟨w.heap.size, 0, none⟩) (Nat.le_refl _) _)
        have HT3 : Hid (∀ b o v (w3 : World), b < w.heap.size + 1 + 1 + 1 → w3.ownsRow w1.heap.size 48 3 (.slice q' T.length c) T.length (tc T) → (w3.setCell ⟨b, o, none⟩ v).ownsRow w1.heap.size 48 3 (.slice q' T.length c) T.length (tc T)) := Lib.hid fun b o v w3 hb h3 => h3.kept (grown_set w3 b o v) (by
          cases hv : (Value.slice q' T.length c).ownBlock with
          | none => exact .inl rfl
          | some j => refine .inr fun e => ?_; cases e; have := (h3.lt _ hv).1; omega)
        have HO3 := Lib.hid (HT3.out w.heap.size 0 (.slice q' T.length c) w2 (by omega) HO.out)
        have d0 : (w2.setCell ⟨w.heap.size, 0, none⟩ (.slice q' T.length c)).cell? ⟨w.heap.size, 0, none⟩ = some (.slice q' T.length c) := World.cell?_setCell_same _ _ _ c0
        have d1 := (World.cell?_setCell_other w2 ⟨w.heap.size, 0, none⟩ ⟨w.heap.size + 1, 0, none⟩ (.slice q' T.length c) (by simp)).trans c1
        have d2 := (World.cell?_setCell_other w2 ⟨w.heap.size, 0, none⟩ ⟨w.heap.size + 1 + 1, 0, none⟩ (.slice q' T.length c) (by simp)).trans c2
        have d3 := (World.cell?_setCell_other w2 ⟨w.heap.size, 0, none⟩ ⟨w.heap.size + 1 + 1 + 1, 1, none⟩ (.slice q' T.length c) (by simp)).trans c3
        have g0 : (w2.setCell ⟨w.heap.size, 0, none⟩ (.slice q' T.length c)).frozen? ⟨w.heap.size, 0, none⟩ = false := (World.frozen?_setCell _ _ _ _).trans f0
        have g1 : (w2.setCell ⟨w.heap.size, 0, none⟩ (.slice q' T.length c)).frozen? ⟨w.heap.size + 1, 0, none⟩ = false := (World.frozen?_setCell _ _ _ _).trans f1
        have g2 : (w2.setCell ⟨w.heap.size, 0, none⟩ (.slice q' T.length c)).frozen? ⟨w.heap.size + 1 + 1, 0, none⟩ = false := (World.frozen?_setCell _ _ _ _).trans f2
        clear ht hg2 HD1 hr2 hown
        go_wp2
        clear c0 c1 c2 c3 f0 f1 f2 HO HD2
        generalize w2.setCell ⟨w.heap.size, 0, none⟩ (.slice q' T.length c) = w3 at *
        go_region
        go_wp2
        refine leaves_cons (f := 74) (args := #[.pointer (some ⟨w.heap.size, 0, none⟩), .pointer (some ⟨w.heap.size + 1, 0, none⟩), .pointer (some ⟨w.heap.size + 1 + 1, 0, none⟩)]) (by simp) (by simp [go_sem]) ?_
        refine (catch_idle _ _ _ _).mono ?_
        rintro e u' w'' ⟨rfl, rfl, rfl⟩
        refine ⟨_, res_read _ _ w.heap.size (w.heap.size + 1) (w.heap.size + 1 + 1) (.slice q' T.length c) (.int .i64 (x : Nat)) (.bool true) rfl rfl rfl ?_ ?_ ?_, ?_, ?_⟩
        · exact (World.cell?_setCell_other _ _ _ _ (by simp)).trans ((World.cell?_setCell_other _ _ _ _ (by simp)).trans (World.cell?_setCell_same _ _ _ d0))
        · exact (World.cell?_setCell_other _ _ _ _ (by simp)).trans (World.cell?_setCell_same _ _ _ ((World.cell?_setCell_other _ _ _ _ (by simp)).trans d1))
        · exact World.cell?_setCell_same _ _ _ ((World.cell?_setCell_other _ _ _ _ (by simp)).trans ((World.cell?_setCell_other _ _ _ _ (by simp)).trans d2))
        · exact (((HC.out.setCell (p := ⟨w.heap.size, 0, none⟩) (Nat.le_refl _) _).setCell (p := ⟨w.heap.size + 1, 0, none⟩) (by simp) _).setCell (p := ⟨w.heap.size + 1 + 1, 0, none⟩) (by simp <;> omega) _).drew
        · have o1 := HT3.out w.heap.size 0 (.slice q' T.length c) w3 (by omega) HO3.out
          have o2 := HT3.out (w.heap.size + 1) 0 (.int .i64 (x : Nat)) _ (by omega) o1
          have o3 := HT3.out (w.heap.size + 1 + 1) 0 (.bool true) _ (by omega) o2
          obtain ⟨p', c', e, hlie⟩ := toks_lie rfl o3.drew
          cases e
          exact ⟨_, _, rfl, hlie⟩
end Go.Proofs.Ythehjhckcblbdaa.Pk

