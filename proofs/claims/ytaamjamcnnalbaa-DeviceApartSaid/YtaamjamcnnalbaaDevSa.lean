/-
  The document's Small, Texts and Same of disks.
-/
import Derived.Test.YtaamjamcnnalbaaDevMy
namespace Go.Proofs.Ytaamjamcnnalbaa.Dv
set_option maxRecDepth 100000
open Go.RowKit Go.Lib
theorem small_doc (d : Dsk) (v : Value) (w : World) (h : DLie w v d) :
    Calls Try.prog 8 #[v] w fun e w' => e = .returned (.bool (smallD d)) ∧ Below w.heap.size w w' := by
  obtain ⟨p0, c0, p1, c1, p3, c3, rfl, h0, h1, h3⟩ := h
  have hbx := box_new w p0 d.kept.length c0 p1 d.cache.length c1 d.fuse p3 d.keep.length c3 d.dead
  have HB := Lib.hid ((Below.refl w.heap.size w).alloc (Nat.le_refl _) (.cells #[.slice p0 d.kept.length c0, .slice p1 d.cache.length c1, .int .i64 d.fuse, .slice p3 d.keep.length c3, .bool d.dead] 26))
  have b0 := hbx.kept
  have b1 := hbx.cache
  have b3 := hbx.keep
  have hs : smallD d = (decide (d.kept.length ≤ 200) && (decide (d.cache.length ≤ 200) && decide (d.keep.length ≤ 400))) := rfl
  generalize smallD d = ans at *
  generalize d.kept.length = n at *
  generalize d.cache.length = m at *
  generalize d.keep.length = k at *
  clear h0 h1 h3 hbx
  have arm : (n ≤ 200 ∧ m ≤ 200 ∧ k ≤ 400 ∧ ans = true) ∨ (200 < n ∧ ans = false) ∨ (n ≤ 200 ∧ 200 < m ∧ ans = false) ∨ (n ≤ 200 ∧ m ≤ 200 ∧ 400 < k ∧ ans = false) := by
    rw [hs]
    by_cases a1 : n ≤ 200 <;> by_cases a2 : m ≤ 200 <;> by_cases a3 : k ≤ 400 <;> simp [a1, a2, a3] <;> omega
  clear hs
  rcases arm with ⟨a1, a2, a3, rfl⟩ | ⟨a1, rfl⟩ | ⟨a1, a2, rfl⟩ | ⟨a1, a2, a3, rfl⟩
  · have z1 : (n : Int) ≤ 200 := by omega
    have z2 : (m : Int) ≤ 200 := by omega
    have z3 : (k : Int) ≤ 400 := by omega
    clear a1 a2 a3
    go_enter Try.func8, Try.ntmps8
    go_wp2
    go_ret
    exact ⟨ret_bool (by simp), HB.out⟩
  · have z1 : ¬ (n : Int) ≤ 200 := by omega
    clear a1
    go_enter Try.func8, Try.ntmps8
    go_wp2
    go_ret
    exact ⟨rfl, HB.out⟩
  · have z1 : (n : Int) ≤ 200 := by omega
    have z2 : ¬ (m : Int) ≤ 200 := by omega
    clear a1 a2
    go_enter Try.func8, Try.ntmps8
    go_wp2
    go_ret
    exact ⟨rfl, HB.out⟩
  · have z1 : (n : Int) ≤ 200 := by omega
    have z2 : (m : Int) ≤ 200 := by omega
    have z3 : ¬ (k : Int) ≤ 400 := by omega
    clear a1 a2 a3
    go_enter Try.func8, Try.ntmps8
    go_wp2
    go_ret
    exact ⟨ret_bool (by simp), HB.out⟩
theorem str_at {w : World} {blk off : Nat} {L : List ByteArray} (h : SAt strS w blk off L) {i : Nat} (hi : i < L.length) : w.cell? ⟨blk, off + i, none⟩ = some (.string L[i]) := by
  have := h i hi 0 _ rfl
  rw [show off + i * strS.size + 0 = off + i by show off + i * 1 + 0 = _; omega] at this
  exact this
theorem put_at {w : World} {blk off : Nat} {L : List (Int × ByteArray)} (h : SAt putS w blk off L) {i : Nat} (hi : i < L.length) : w.cell? ⟨blk, off + i * 2, none⟩ = some (.int .i64 L[i].1) ∧ w.cell? ⟨blk, off + i * 2 + 1, none⟩ = some (.string L[i].2) := by
  have h0 := h i hi 0 _ rfl
  have h1 := h i hi 1 _ rfl
  rw [show off + i * putS.size + 0 = off + i * 2 by show off + i * 2 + 0 = _; omega] at h0
  exact ⟨h0, h1⟩
set_option maxHeartbeats 2000000 in
theorem texts_doc (L M : List ByteArray) (hl : L.length ≤ 140737488351232) (p q : Option Addr) (c d : Nat) (w : World) (h1 : SLie strS w p L c) (h2 : SLie strS w q M d) :
    Calls Try.prog 27 #[.slice p L.length c, .slice q M.length d] w fun e w' => e = .returned (.bool (decide (L = M))) ∧ Below w.heap.size w w' := by
  have HC := Lib.hid h1
  have HD := Lib.hid h2
  have zc : (L.length : Int) ≤ c := by have := h1.len; omega
  have zd : (M.length : Int) ≤ d := by have := h2.len; omega
  generalize hv : decide (L = M) = ans
  have HV := Lib.hid hv
  clear h1 h2 hv
  by_cases hlen : L.length = M.length
  · have HL := Lib.hid hlen
    have zl : (L.length : Int) ≤ 140737488351232 := by omega
    rw [← hlen]
    rw [← hlen] at zd
    clear hlen
    obtain ⟨n, hn⟩ : ∃ n, n = L.length := ⟨_, rfl⟩
    rw [← hn] at zc zd zl
    rw [← hn]
    have Hn := Lib.hid hn
    clear hn
    go_enter Try.func27, Try.ntmps27
    go_wp2
    go_loopw [5] (fun v wr => ∃ i : Nat, v = .int .i64 i ∧ i ≤ n ∧ Hid (∀ j (h : j < L.length) (h2 : j < M.length), j < i → L[j] = M[j]) ∧ Hid (Below w.heap.size w wr)) (fun v _ => n - (RowKit.intOf v).toNat)
    case atStart => exact ⟨0, rfl, Nat.zero_le _, Lib.hid (fun j _ _ hj => by omega), Below.refl _ _⟩
    case round =>
      obtain ⟨i, rfl, hi, HE, HW⟩ := hrel
      by_cases hlt : i < n
      · have hil : i < L.length := by rw [← Hn.out]; exact hlt
        have him : i < M.length := by rw [← HL.out, ← Hn.out]; exact hlt
        obtain ⟨b1, o1, rfl, k1⟩ := (HC.out.below HW.out).at hil
        obtain ⟨b2, o2, rfl, k2⟩ := (HD.out.below HW.out).at him
        have cx := str_at k1 hil
        have cy := str_at k2 him
        have zi : (i : Int) < n := by omega
        have HE2 := Lib.hid (fun (hx : L[i] = M[i]) => show ∀ j (h : j < L.length) (h2 : j < M.length), j < i + 1 → L[j] = M[j] from fun j h h2 hj => by
          by_cases e : j = i
          · subst e; exact hx
          · exact HE.out j h h2 (by omega))
        have HN := Lib.hid (fun (hx : ¬ L[i] = M[i]) => show ans = false by
          rw [← HV.out]; exact decide_eq_false fun e => hx (by subst e; rfl))
        clear k1 k2
        generalize L[i] = x at *
        generalize M[i] = y at *
        have hxy := same_list x y
        by_cases h : x = y
        · have HE3 := Lib.hid (HE2.out h)
          subst h
          clear HE2 HN hxy
          go_wp2
          go_quiet (fail)
          go_wp2
          go_roundw
          case rel => exact ⟨i + 1, by go_num, by omega, HE3, drawn_below HW.out _⟩
          case measure => simp [RowKit.intOf]; omega
        · have HE3 := Lib.hid (HN.out h)
          rw [decide_eq_false h] at hxy
          clear HE2 HN h
          go_wp2
          go_quiet (fail)
          go_wp2
          go_ret
          exact ⟨ret_bool HE3.out.symm, drawn_below HW.out _⟩
      · have e : i = n := by omega
        have HE3 : Hid (ans = true) := by
          show _ = _; rw [← HV.out]
          exact decide_eq_true (List.ext_getElem HL.out fun j h h2 => HE.out j h h2 (by rw [e, Hn.out]; exact h))
        have e2 : n = i := e.symm
        clear e
        subst e2
        go_wp2
        go_ret
        exact ⟨ret_bool HE3.out.symm, HW.out⟩
  · have HE3 : Hid (ans = false) := by show _ = _; rw [← HV.out]; exact decide_eq_false fun e => hlen (by rw [e])
    have z : ((L.length : Int) == (M.length : Int)) = false := by rw [beq_eq_false_iff_ne]; omega
    clear hlen
    go_enter Try.func27, Try.ntmps27
    go_wp2
    go_ret
    exact ⟨ret_bool HE3.out.symm, Below.refl _ _⟩
end Go.Proofs.Ytaamjamcnnalbaa.Dv

