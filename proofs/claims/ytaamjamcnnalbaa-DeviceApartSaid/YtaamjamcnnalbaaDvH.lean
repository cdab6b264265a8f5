/-
  Package device's May of a disk, the whole.
-/
import Derived.Test.YtaamjamcnnalbaaDvG
namespace Go.Proofs.Ytaamjamcnnalbaa.Dv
set_option maxRecDepth 100000
open Go.RowKit Go.Lib
theorem any_not_all {α : Type} (L : List α) (q : α → Bool) : (L.any fun x => !q x) = !(L.all q) := by rw [List.not_all_eq_any_not]
set_option maxHeartbeats 4000000 in
theorem may_code (d : Dsk) (v : Value) (w : World) (hd : Sized d) (h : DLie w v d) :
    Calls Try.prog 16 #[v] w fun e w' => e = .returned (.bool (mayD d)) ∧ Below w.heap.size w w' := by
  obtain ⟨p0, c0, p1, c1, p3, c3, rfl, h0, h1, h3⟩ := h
  obtain ⟨kept, cache, fuse, keep, dead⟩ := d
  have z0 := hd.kept
  have z1 := hd.cache
  dsimp only at *
  have hm : mayD ⟨kept, cache, fuse, keep, dead⟩ = ((decide (1 ≤ kept.length) && (decide (kept.length ≤ 5000) && (decide (cache.length ≤ 20000) && decide (-1 ≤ fuse)))) && (kept.all textMay && cache.all (putMay kept.length))) := rfl
  rw [hm]
  clear hm hd
  obtain ⟨n, hn⟩ : ∃ n, n = kept.length := ⟨_, rfl⟩
  obtain ⟨m, hmm⟩ : ∃ m, m = cache.length := ⟨_, rfl⟩
  rw [← hn] at z0 ⊢
  rw [← hmm] at z1 ⊢
  have hbx := box_new w p0 n c0 p1 m c1 fuse p3 keep.length c3 dead
  have B1 := (Below.refl w.heap.size w).alloc (Nat.le_refl _) (.cells #[.slice p0 n c0, .slice p1 m c1, .int .i64 fuse, .slice p3 keep.length c3, .bool dead] 26)
  generalize hw1 : w.alloc (.cells #[.slice p0 n c0, .slice p1 m c1, .int .i64 fuse, .slice p3 keep.length c3, .bool dead] 26) = w1 at *
  have ks := contains_str kept n hn.symm (by omega) p0 c0 w1 (h0.below B1)
  have kp := contains_put w.heap.size p0 n c0 p1 m c1 fuse p3 keep.length c3 dead cache hmm.symm (by omega) w1 hbx (h1.below B1)
  rw [any_not_all] at ks kp
  have HB := Lib.hid B1
  have b0 := hbx.kept
  have b1 := hbx.cache
  have b2 := hbx.fuse
  clear hn hmm h0 h1 h3 hbx B1 z0 z1
  generalize kept.all textMay = q1 at *
  generalize cache.all (putMay n) = q2 at *
  clear kept cache
  by_cases t1 : 1 ≤ n
  · have y1 : decide (1 ≤ n) = true := decide_eq_true t1
    have x1 : decide ((1 : Int) ≤ n) = true := decide_eq_true (by omega)
    rw [y1, Bool.true_and]
    by_cases t2 : n ≤ 5000
    · have y2 : decide (n ≤ 5000) = true := decide_eq_true t2
      have x2 : decide ((n : Int) ≤ 5000) = true := decide_eq_true (by omega)
      rw [y2, Bool.true_and]
      by_cases t3 : m ≤ 20000
      · have y3 : decide (m ≤ 20000) = true := decide_eq_true t3
        have x3 : decide ((m : Int) ≤ 20000) = true := decide_eq_true (by omega)
        rw [y3, Bool.true_and]
        by_cases t4 : -1 ≤ fuse
        · have y4 : decide (-1 ≤ fuse) = true := decide_eq_true t4
          rw [y4, Bool.true_and]
          clear t1 t2 t3 t4
          cases q1 with
          | true =>
            rw [Bool.true_and]
            go_enter Try.func16, Try.ntmps16
            go_wp2_with (go_at_call 38; refine ks.mono ?_; rintro e w' ⟨rfl, rfl⟩)
            go_at_call 39
            refine kp.mono ?_
            rintro e w2 ⟨rfl, hb2⟩
            have HB2 := Lib.hid (HB.out.next hb2)
            clear ks kp hb2 b0 b1 b2
            go_wp2
            go_ret
            exact ⟨ret_bool (by simp), HB2.out⟩
          | false =>
            rw [Bool.false_and]
            go_enter Try.func16, Try.ntmps16
            go_wp2_with (go_at_call 38; refine ks.mono ?_; rintro e w' ⟨rfl, rfl⟩)
            go_ret
            exact ⟨rfl, HB.out⟩
        · have y4 : decide (-1 ≤ fuse) = false := decide_eq_false t4
          rw [y4, Bool.false_and]
          clear ks kp t1 t2 t3 t4
          go_enter Try.func16, Try.ntmps16
          go_wp2
          go_ret
          exact ⟨rfl, HB.out⟩
      · have y3 : decide (m ≤ 20000) = false := decide_eq_false t3
        have x3 : decide ((m : Int) ≤ 20000) = false := decide_eq_false (by omega)
        rw [y3, Bool.false_and, Bool.false_and]
        clear ks kp t1 t2 t3
        go_enter Try.func16, Try.ntmps16
        go_wp2
        go_ret
        exact ⟨rfl, HB.out⟩
    · have y2 : decide (n ≤ 5000) = false := decide_eq_false t2
      have x2 : decide ((n : Int) ≤ 5000) = false := decide_eq_false (by omega)
      rw [y2, Bool.false_and, Bool.false_and]
      clear ks kp t1 t2
      go_enter Try.func16, Try.ntmps16
      go_wp2
      go_ret
      exact ⟨rfl, HB.out⟩
  · have y1 : decide (1 ≤ n) = false := decide_eq_false t1
    have x1 : decide ((1 : Int) ≤ n) = false := decide_eq_false (by omega)
    rw [y1, Bool.false_and, Bool.false_and]
    clear ks kp t1
    go_enter Try.func16, Try.ntmps16
    go_wp2
    go_ret
    exact ⟨rfl, HB.out⟩
end Go.Proofs.Ytaamjamcnnalbaa.Dv
