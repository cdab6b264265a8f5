/-
  The document's May, Small, Texts, Same of disks.
-/
import Derived.Test.YtaamjamcnnalbaaDevM
import Derived.Test.YtaamjamcnnalbaaCanSa
import Derived.BigQuiet
import Derived.Laws.StructEq
namespace Go.Proofs.Ytaamjamcnnalbaa.Dv
set_option maxRecDepth 100000
open Go.RowKit Go.Lib
/-- a disk's block, and what its parts are, in a world -/
structure Box (w : World) (b : Nat) (p0 : Option Addr) (n c0 : Nat) (p1 : Option Addr) (m c1 : Nat) (fuse : Int) (p3 : Option Addr) (k c3 : Nat) (dead : Bool) : Prop where
  kept : w.cell? ⟨b, 0, none⟩ = some (.slice p0 n c0)
  cache : w.cell? ⟨b, 1, none⟩ = some (.slice p1 m c1)
  fuse : w.cell? ⟨b, 2, none⟩ = some (.int .i64 fuse)
  keep : w.cell? ⟨b, 3, none⟩ = some (.slice p3 k c3)
  dead : w.cell? ⟨b, 4, none⟩ = some (.bool dead)
theorem box_new (w : World) (p0 : Option Addr) (n c0 : Nat) (p1 : Option Addr) (m c1 : Nat) (fuse : Int) (p3 : Option Addr) (k c3 : Nat) (dead : Bool) :
    Box (w.alloc (.cells #[.slice p0 n c0, .slice p1 m c1, .int .i64 fuse, .slice p3 k c3, .bool dead] 26)) w.heap.size p0 n c0 p1 m c1 fuse p3 k c3 dead := by
  have h := heap_alloc_new w (Obj.cells #[.slice p0 n c0, .slice p1 m c1, .int .i64 fuse, .slice p3 k c3, .bool dead] 26)
  exact ⟨box_cell h 0, box_cell h 1, box_cell h 2, box_cell h 3, box_cell h 4⟩
theorem Box.below {w w' : World} {b : Nat} {p0 : Option Addr} {n c0 : Nat} {p1 : Option Addr} {m c1 : Nat} {fuse : Int} {p3 : Option Addr} {k c3 : Nat} {dead : Bool}
    (h : Box w b p0 n c0 p1 m c1 fuse p3 k c3 dead) (hb : Below w.heap.size w w') : Box w' b p0 n c0 p1 m c1 fuse p3 k c3 dead :=
  ⟨by rw [hb.cell (p := ⟨b, 0, none⟩) (World.block_lt_of_cell? w _ h.kept)]; exact h.kept, by rw [hb.cell (p := ⟨b, 1, none⟩) (World.block_lt_of_cell? w _ h.cache)]; exact h.cache,
   by rw [hb.cell (p := ⟨b, 2, none⟩) (World.block_lt_of_cell? w _ h.fuse)]; exact h.fuse, by rw [hb.cell (p := ⟨b, 3, none⟩) (World.block_lt_of_cell? w _ h.keep)]; exact h.keep,
   by rw [hb.cell (p := ⟨b, 4, none⟩) (World.block_lt_of_cell? w _ h.dead)]; exact h.dead⟩
theorem all_false {α : Type} (L : List α) (q : α → Bool) (i : Nat) (h : i < L.length) (hq : q L[i] = false) : L.all q = false := by
  rw [List.all_eq_false]
  exact ⟨L[i], List.getElem_mem h, by rw [hq]; simp⟩
theorem all_true {α : Type} (L : List α) (q : α → Bool) (h : ∀ i (hi : i < L.length), q L[i] = true) : L.all q = true := by
  rw [List.all_eq_true]
  intro x hx
  obtain ⟨i, hi, rfl⟩ := List.getElem_of_mem hx
  exact h i hi
set_option maxHeartbeats 4000000 in
theorem may_doc (d : Dsk) (hd : Sized d) (v : Value) (w : World) (h : DLie w v d) :
    Calls Try.prog 17 #[v] w fun e w' => e = .returned (.bool (mayD d)) ∧ Below w.heap.size w w' := by
  obtain ⟨p0, c0, p1, c1, p3, c3, rfl, h0, h1, h3⟩ := h
  have hm : mayD d = ((decide (1 ≤ d.kept.length) && (decide (d.kept.length ≤ 5000) && (decide (d.cache.length ≤ 20000) && decide (-1 ≤ d.fuse)))) && (d.kept.all textMay && d.cache.all (putMay d.kept.length))) := rfl
  have HK := Lib.hid (h0.below ((Below.refl w.heap.size w).alloc (Nat.le_refl _) (.cells #[.slice p0 d.kept.length c0, .slice p1 d.cache.length c1, .int .i64 d.fuse, .slice p3 d.keep.length c3, .bool d.dead] 26)))
  have HC := Lib.hid (h1.below ((Below.refl w.heap.size w).alloc (Nat.le_refl _) (.cells #[.slice p0 d.kept.length c0, .slice p1 d.cache.length c1, .int .i64 d.fuse, .slice p3 d.keep.length c3, .bool d.dead] 26)))
  have HB := Lib.hid ((Below.refl w.heap.size w).alloc (Nat.le_refl _) (.cells #[.slice p0 d.kept.length c0, .slice p1 d.cache.length c1, .int .i64 d.fuse, .slice p3 d.keep.length c3, .bool d.dead] 26))
  have z0 := hd.kept
  have z1 := hd.cache
  obtain ⟨kept, cache, fuse, keep, dead⟩ := d
  dsimp only at *
  generalize hans : mayD ⟨kept, cache, fuse, keep, dead⟩ = ans at *
  clear hans hd h0 h1 h3
  obtain ⟨n, hn⟩ : ∃ n, n = kept.length := ⟨_, rfl⟩
  obtain ⟨m, hmm⟩ : ∃ m, m = cache.length := ⟨_, rfl⟩
  have zc0 : (n : Int) ≤ c0 := by have := HK.out.len; omega
  have zc1 : (m : Int) ≤ c1 := by have := HC.out.len; omega
  have Hn := Lib.hid hn
  have Hm := Lib.hid hmm
  rw [← hn] at hm z0
  rw [← hmm] at hm z1
  rw [← hn, ← hmm] at HB HK HC
  rw [← hn, ← hmm]
  clear hn hmm
  have zn : (n : Int) ≤ 140737488351232 := by omega
  have zm : (m : Int) ≤ 140737488351232 := by omega
  generalize hw1 : w.alloc (.cells #[.slice p0 n c0, .slice p1 m c1, .int .i64 fuse, .slice p3 keep.length c3, .bool dead] 26) = w1 at *
  have hbx := box_new w p0 n c0 p1 m c1 fuse p3 keep.length c3 dead
  rw [hw1] at hbx
  have HX := Lib.hid hbx
  have b0 := hbx.kept
  have b1 := hbx.cache
  have b2 := hbx.fuse
  clear hbx
  by_cases t1 : n < 1
  · have e : ans = false := by rw [hm, decide_eq_false (by omega : ¬ 1 ≤ n)]; rfl
    rw [e]
    have z : (n : Int) < 1 := by omega
    clear hm e t1
    go_enter Try.func17, Try.ntmps17
    go_wp2
    go_ret
    exact ⟨rfl, HB.out⟩
  have y1 : (1 : Int) ≤ n := by omega
  by_cases t2 : 5000 < n
  · have e : ans = false := by rw [hm, decide_eq_false (by omega : ¬ n ≤ 5000)]; simp
    rw [e]
    have z : (5000 : Int) < n := by omega
    clear hm e t1 t2
    go_enter Try.func17, Try.ntmps17
    go_wp2
    go_ret
    exact ⟨rfl, HB.out⟩
  have y2 : (n : Int) ≤ 5000 := by omega
  by_cases t3 : 20000 < m
  · have e : ans = false := by rw [hm, decide_eq_false (by omega : ¬ m ≤ 20000)]; simp
    rw [e]
    have z : (20000 : Int) < m := by omega
    clear hm e t1 t2 t3
    go_enter Try.func17, Try.ntmps17
    go_wp2
    go_ret
    exact ⟨rfl, HB.out⟩
  have y3 : (m : Int) ≤ 20000 := by omega
  by_cases t4 : fuse < -1
  · have e : ans = false := by rw [hm, decide_eq_false (by omega : ¬ -1 ≤ fuse)]; simp
    rw [e]
    clear hm e t1 t2 t3
    go_enter Try.func17, Try.ntmps17
    go_wp2
    go_ret
    exact ⟨rfl, HB.out⟩
  have y4 : -1 ≤ fuse := by omega
  rw [decide_eq_true (by omega : 1 ≤ n), decide_eq_true (by omega : n ≤ 5000), decide_eq_true (by omega : m ≤ 20000), decide_eq_true y4, Bool.true_and, Bool.true_and, Bool.true_and, Bool.true_and] at hm
  have HM := Lib.hid hm
  clear hm t1 t2 t3 t4
  go_enter Try.func17, Try.ntmps17
  go_wp2
  go_loop [3] (fun v => ∃ i : Nat, v = .int .i64 i ∧ i ≤ n ∧ Hid (∀ j (hj : j < kept.length), j < i → textMay kept[j] = true)) (fun v => n - (RowKit.intOf v).toNat)
  case atStart => exact ⟨0, rfl, Nat.zero_le _, Lib.hid fun j _ hj => by omega⟩
  case round =>
    obtain ⟨i, rfl, hi, HE⟩ := hrel
    by_cases hlt : i < n
    · have hil : i < kept.length := by rw [← Hn.out]; exact hlt
      obtain ⟨blk, off, rfl, hc⟩ := HK.out.at hil
      have cx := hc i hil 0 _ rfl
      have zi : (i : Int) < n := by omega
      rw [show off + i * strS.size + 0 = off + i by show off + i * 1 + 0 = _; omega] at cx
      have HF := Lib.hid (all_false kept textMay i hil)
      have HE2 := Lib.hid (fun (hx : textMay kept[i] = true) => show ∀ j (hj : j < kept.length), j < i + 1 → textMay kept[j] = true from fun j hj h => by
        by_cases e : j = i
        · subst e; exact hx
        · exact HE.out j hj (by omega))
      clear hc
      generalize kept[i] = tx at *
      by_cases hx : tx.size = 32
      · have HE3 := Lib.hid (HE2.out (decide_eq_true hx))
        have zx : ((tx.size : Nat) : Int) = 32 := by omega
        clear hx HE2 HF
        go_wp2
        go_round
        case rel => exact ⟨i + 1, by go_num, by omega, HE3⟩
        case measure => simp [RowKit.intOf]; omega
      · have HV : Hid (ans = false) := by show _ = _; rw [HM.out, HF.out (decide_eq_false hx)]; rfl
        have zx : (((tx.size : Nat) : Int) == 32) = false := by rw [beq_eq_false_iff_ne]; omega
        clear hx HE2 HF
        go_wp2
        go_ret
        exact ⟨ret_bool HV.out.symm, HB.out⟩
    · have e : i = n := by omega
      have HT : Hid (kept.all textMay = true) := all_true _ _ fun j hj => HE.out j hj (by rw [e, Hn.out]; exact hj)
      have HM2 : Hid (ans = cache.all (putMay n)) := by show _ = _; rw [HM.out, HT.out, Bool.true_and]
      have e2 : n = i := e.symm
      clear e
      subst e2
      clear hlt hi HE HM HT
      go_wp2
      go_loopw [4] (fun v wr => ∃ i : Nat, v = .int .i64 i ∧ i ≤ m ∧ Hid (∀ j (hj : j < cache.length), j < i → putMay n cache[j] = true) ∧ Hid (Below w1.heap.size w1 wr)) (fun v _ => m - (RowKit.intOf v).toNat)
      case atStart => exact ⟨0, rfl, Nat.zero_le _, Lib.hid fun j _ hj => by omega, Below.refl _ _⟩
      case round =>
        obtain ⟨k, rfl, hk, HE, HW⟩ := hrel
        have bx := HX.out.below HW.out
        have d0 := bx.kept
        have d1 := bx.cache
        clear bx
        by_cases hlt : k < m
        · have hil : k < cache.length := by rw [← Hm.out]; exact hlt
          obtain ⟨blk, off, rfl, hc⟩ := (HC.out.below HW.out).at hil
          have cx := hc k hil 0 _ rfl
          have cy := hc k hil 1 _ rfl
          rw [show off + k * putS.size + 0 = off + k * 2 by show off + k * 2 + 0 = _; omega] at cx
          rw [show off + k * putS.size + 1 = off + k * 2 + 1 from rfl] at cy
          have zi : (k : Int) < m := by omega
          have HF := Lib.hid (all_false cache (putMay n) k hil)
          have HE2 := Lib.hid (fun (hx : putMay n cache[k] = true) => show ∀ j (hj : j < cache.length), j < k + 1 → putMay n cache[j] = true from fun j hj h => by
            by_cases e : j = k
            · subst e; exact hx
            · exact HE.out j hj (by omega))
          clear hc
          generalize cache[k] = pt at *
          obtain ⟨a, tx⟩ := pt
          dsimp only at cx cy
          have arm : putMay n (a, tx) = true ∧ 0 ≤ a ∧ a < n ∧ tx.size = 32 ∨ putMay n (a, tx) = false ∧ (a < 0 ∨ (0 ≤ a ∧ (n : Int) ≤ a) ∨ (0 ≤ a ∧ a < n ∧ ¬ tx.size = 32)) := by
            unfold putMay
            by_cases h1 : 0 ≤ a <;> by_cases h2 : a < (n : Int) <;> by_cases h3 : tx.size = 32 <;> simp [h1, h2, h3] <;> omega
          rcases arm with ⟨hp, h1, h2, h3⟩ | ⟨hp, arm⟩
          · have HE3 := Lib.hid (HE2.out hp)
            have z3 : ((tx.size : Nat) : Int) = 32 := by omega
            have q1 : decide (a < 0) = false := decide_eq_false (by omega)
            have q2 : decide ((n : Int) ≤ a) = false := decide_eq_false (by omega)
            clear HE2 HF hp h3
            go_wp2
            go_quiet (fail)
            go_wp2
            go_roundw
            case rel => exact ⟨k + 1, by go_num, by omega, HE3, drawn_below HW.out _⟩
            case measure => simp [RowKit.intOf]; omega
          · have HV : Hid (ans = false) := by show _ = _; rw [HM2.out, HF.out hp]
            clear HE2 HF hp
            rcases arm with h1 | ⟨h1, h2⟩ | ⟨h1, h2, h3⟩
            · have q1 : decide (a < 0) = true := decide_eq_true h1
              go_wp2
              go_quiet (fail)
              go_wp2
              go_ret
              exact ⟨ret_bool HV.out.symm, HB.out.next (drawn_below HW.out _)⟩
            · have q1 : decide (a < 0) = false := decide_eq_false (by omega)
              have q2 : decide ((n : Int) ≤ a) = true := decide_eq_true h2
              go_wp2
              go_quiet (fail)
              go_wp2
              go_ret
              exact ⟨ret_bool HV.out.symm, HB.out.next (drawn_below HW.out _)⟩
            · have q1 : decide (a < 0) = false := decide_eq_false (by omega)
              have q2 : decide ((n : Int) ≤ a) = false := decide_eq_false (by omega)
              have z3 : (((tx.size : Nat) : Int) == 32) = false := by rw [beq_eq_false_iff_ne]; omega
              clear h3
              go_wp2
              go_quiet (fail)
              go_wp2
              go_ret
              exact ⟨ret_bool HV.out.symm, HB.out.next (drawn_below HW.out _)⟩
        · have e : k = m := by omega
          have HV : Hid (ans = true) := by show _ = _; rw [HM2.out]; exact all_true _ _ fun j hj => HE.out j hj (by rw [e, Hm.out]; exact hj)
          subst e
          go_wp2
          go_ret
          exact ⟨ret_bool HV.out.symm, HB.out.next HW.out⟩
end Go.Proofs.Ytaamjamcnnalbaa.Dv

