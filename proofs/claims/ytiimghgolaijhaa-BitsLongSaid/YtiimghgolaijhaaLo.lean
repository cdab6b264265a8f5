/-
  The walks of BitsLong: it returns true for every list of bools and place.
-/
import Derived.Test.YtiimghgolaijhaaFi
namespace Go.Proofs.Ytiimghgolaijhaa
open Go.RowKit Mb Go.Lib
theorem long_big (p : Option Addr) (n cap : Nat) (at' : Int) (hn : 5000 < n) (hm : n ≤ maxLen) (w : World) :
    Calls Try.prog 5 #[.slice p n cap, .int .i64 at'] w fun e w' => e = .returned (.bool true) ∧ Below w.heap.size w w' := by
  unfold maxLen at hm
  have h1 : 5000 < (n : Int) := by omega
  go_enter Try.func5, Try.ntmps5
  go_wp2_with (first
    | (go_at_call 8; ((with_reducible refine (fixed_any w).mono ?_); rintro e w1 ⟨rfl, H1⟩; replace H1 := Lib.hid H1))
    | (go_at_call 8; ((with_reducible refine (fixed_any _).mono ?_); rintro e w2 ⟨rfl, H2⟩; replace H2 := Lib.hid H2)))
  go_ret
  exact ⟨rfl, H1.out.next H2.out⟩
/-- a list and how it came in -/
def Came (w : World) (p : Option Addr) (l : List Bool) (cap : Nat) : Prop := l.length ≤ cap ∧ cap ≤ maxLen ∧ (l = [] ∨ ∃ blk off, p = some ⟨blk, off, Option.none⟩ ∧ blk < w.heap.size ∧ BoolsAt w blk off l)
theorem pack_came {w w1 : World} {p : Option Addr} {l : List Bool} {cap : Nat} (h : Came w p l cap) (hl : l.length ≤ 10000) (hb : Below w.heap.size w w1) :
    Calls Try.prog 11 #[.slice p l.length cap] w1 fun e w' => e = .returned (.string ⟨(packL l).toArray⟩) ∧ Below w1.heap.size w1 w' := by
  rcases h.2.2 with rfl | ⟨blk, off, rfl, h1, h2⟩
  · exact pack_empty p cap w1
  · exact pack_lit l blk off cap (by omega) h.1 h.2.1 w1 (h2.below hb) (Nat.lt_of_lt_of_le h1 hb.size)
theorem long_out (p : Option Addr) (l : List Bool) (cap : Nat) (at' : Int) (hl : l.length ≤ 5000) (ha : at' < 0 ∨ (l.length : Int) ≤ at') (w : World) (hc : Came w p l cap) :
    Calls Try.prog 5 #[.slice p l.length cap, .int .i64 at'] w fun e w' => e = .returned (.bool true) ∧ Below w.heap.size w w' := by
  have h1 : (l.length : Int) ≤ 5000 := by omega
  have hk := fun w1 (hb : Below w.heap.size w w1) => pack_came hc (by omega) hb
  have hs : (⟨(packL l).toArray⟩ : ByteArray).size = (l.length + 7) / 8 := by
    rw [Lib.size_eq]; simp [packL_length]
  have hd : (((l.length + 7) / 8 : Nat) : Int) = ((l.length : Int) + 7) / 8 := by omega
  have hz : ((⟨(packL l).toArray⟩ : ByteArray).size : Int) = ((l.length : Int) + 7) / 8 := by rw [hs, hd]
  clear hs hd hc
  generalize (⟨(packL l).toArray⟩ : ByteArray) = s at *
  rcases ha with ha | ha
  all_goals
    go_enter Try.func5, Try.ntmps5
    go_wp2_with (first
      | (go_at_call 8; ((with_reducible refine (fixed_any w).mono ?_); rintro e w1 ⟨rfl, H1⟩; replace H1 := Lib.hid H1))
      | (go_at_call 11; ((with_reducible refine (hk _ H1.out).mono ?_); rintro e w2 ⟨rfl, H2⟩; replace H2 := Lib.hid H2)))
    go_ret
    exact ⟨rfl, H1.out.next H2.out⟩
set_option maxHeartbeats 1000000 in
theorem long_in (blk off : Nat) (l : List Bool) (cap p : Nat) (hl : l.length ≤ 5000) (ha : p < l.length) (hcap : l.length ≤ cap) (hcm : cap ≤ maxLen) (w : World) (hblk : blk < w.heap.size) (hc : BoolsAt w blk off l) :
    Calls Try.prog 5 #[.slice (some ⟨blk, off, Option.none⟩) l.length cap, .int .i64 p] w fun e w' => e = .returned (.bool true) ∧ Below w.heap.size w w' := by
  have hk := fun w1 (hb : Below w.heap.size w w1) => pack_came (p := some ⟨blk, off, Option.none⟩) (cap := cap) ⟨hcap, hcm, .inr ⟨blk, off, rfl, hblk, hc⟩⟩ (by omega) hb
  have h1 : (l.length : Int) ≤ 5000 := by omega
  have ha2 : (p : Int) < l.length := by omega
  obtain ⟨q, hq⟩ : ∃ q, q = p / 8 := ⟨_, rfl⟩
  obtain ⟨r, hr⟩ : ∃ r, r = p % 8 := ⟨_, rfl⟩
  have hqi : (p : Int) / 8 = q := by omega
  have hri : (p : Int) % 8 = r := by omega
  have q7 : (q : Int) ≤ 5000 := by omega
  have r7 : (r : Int) ≤ 7 := by omega
  obtain ⟨m, hm⟩ : ∃ m, m = 7 - r := ⟨_, rfl⟩
  have hmi : (7 : Int) - r = m := by omega
  have m7 : (m : Int) ≤ 7 := by omega
  have g1 : IntKind.i64.wrap (q : Int) = q := by rw [IntKind.wrap_i64]; omega
  have g2 : IntKind.i64.wrap (r : Int) = r := by rw [IntKind.wrap_i64]; omega
  have g3 : IntKind.i64.wrap (m : Int) = m := by rw [IntKind.wrap_i64]; omega
  have HP := Lib.hid (power_any m (by omega))
  have P0 : (0 : Int) < ((2 ^ m : Nat) : Int) := Int.ofNat_lt.2 (Nat.two_pow_pos m)
  generalize hP2 : 2 ^ m = P at HP P0
  have hs : (⟨(packL l).toArray⟩ : ByteArray).size = (l.length + 7) / 8 := by
    rw [Lib.size_eq]; simp [packL_length]
  have hd : (((l.length + 7) / 8 : Nat) : Int) = ((l.length : Int) + 7) / 8 := by omega
  have hz : ((⟨(packL l).toArray⟩ : ByteArray).size : Int) = ((l.length : Int) + 7) / 8 := by rw [hs, hd]
  have hqs : q < (⟨(packL l).toArray⟩ : ByteArray).size := by rw [hs]; omega
  have hqz : (q : Int) < (⟨(packL l).toArray⟩ : ByteArray).size := by omega
  have hyl : ((⟨(packL l).toArray⟩ : ByteArray)[q]).toNat = byteAt l q := by
    have hq2 : q < (packL l).length := by rw [packL_length]; omega
    have e : (⟨(packL l).toArray⟩ : ByteArray)[q] = (packL l)[q] := rfl
    rw [e]
    have := byteAt_lt l q
    simp [packL, packN]; omega
  have hbit : byteAt l q / 2 ^ m % 2 = (l.getD p false).toNat := by
    have h := num_div (eight l q) r (by rw [eight_length]; omega)
    rw [eight_length, show 8 - 1 - r = m by omega] at h
    unfold byteAt
    rw [h]
    have e : (eight l q).getD r false = l.getD (8 * q + r) false := by
      rw [List.getD_eq_getElem?_getD, List.getElem?_eq_getElem (by rw [eight_length]; omega)]
      simp [eight]
    rw [e, show 8 * q + r = p by omega]
  have hyb := byteAt_lt l q
  rw [hP2] at hbit
  rw [← hyl] at hbit hyb
  obtain ⟨z, hz9⟩ : ∃ z, z = ((⟨(packL l).toArray⟩ : ByteArray)[q]).toNat / P := ⟨_, rfl⟩
  have hzi : (((⟨(packL l).toArray⟩ : ByteArray)[q]).toNat : Int) / (P : Int) = (z : Int) := by rw [hz9]; rfl
  have hzb : (z : Int) ≤ 255 := by
    have : z ≤ ((⟨(packL l).toArray⟩ : ByteArray)[q]).toNat := by rw [hz9]; exact Nat.div_le_self _ _
    omega
  have hyi : (((⟨(packL l).toArray⟩ : ByteArray)[q]).toNat : Int) ≤ 255 := by omega
  rw [← hz9] at hbit
  clear hz9 hyl hyb
  have HQ := Lib.hid hq
  have HR := Lib.hid hr
  clear hs hd hq hr hm hP2
  have hcell := fun w1 (hb : Below w.heap.size w w1) => (hc.below hb).cell p ha
  generalize l.getD p false = b at hbit hcell
  have hzm : (z : Int) % 2 = (b.toNat : Int) := by omega
  clear hbit
  generalize (⟨(packL l).toArray⟩ : ByteArray) = s at *
  go_enter Try.func5, Try.ntmps5
  go_wp2_with (first
    | (go_at_call 8; ((with_reducible refine (fixed_any w).mono ?_); rintro e w1 ⟨rfl, H1⟩; replace H1 := Lib.hid H1))
    | (go_at_call 11; ((with_reducible refine (hk _ H1.out).mono ?_); rintro e w2 ⟨rfl, H2⟩; replace H2 := Lib.hid H2)))
  have hc2 := hcell _ (H1.out.next H2.out)
  clear hz
  have hce : ∀ i : BW w2, i.val.cell? ⟨blk, off + p, Option.none⟩ = some (.bool b) := fun i => hcell _ ((H1.out.next H2.out).next i.ok)
  cases b
  all_goals
    simp only [Bool.toNat_false, Bool.toNat_true, Int.natCast_zero, Int.natCast_one] at hzm
    refine wp_region_bw (by kernel_rfl) (by kernel_rfl) ?_
    repeat (first
      | go_big_quiet_step ((go_at_call 13; exact BW.same _ (HP.out _)))
      | quiet_step ((go_at_call 13; exact BW.same _ (HP.out _))))
    refine wpQuiet_nil ?_
    rintro _ ⟨i, rfl⟩
    have hB : Hid (Below w.heap.size w i.val) := (H1.out.next H2.out).next i.ok
    simp only [Exit.then]
    go_wp2
    go_ret
    exact ⟨rfl, hB.out⟩
end Go.Proofs.Ytiimghgolaijhaa
