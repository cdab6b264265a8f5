/-
  Package device's May of a disk.
-/
import Derived.Test.YtaamjamcnnalbaaDvF
namespace Go.Proofs.Ytaamjamcnnalbaa.Dv
set_option maxRecDepth 100000
open Go.RowKit Go.Lib
set_option maxHeartbeats 1000000 in
theorem index_str (L : List ByteArray) (n : Nat) (hn : L.length = n) (hl : n ≤ 281474976710656) (p : Option Addr) (cap : Nat) (w : World) (h : SLie strS w p L cap) :
    Calls Try.prog 51 #[.slice p n cap, .func (.func 34) #[] #[]] w fun e w' => (∃ k : Int, e = .returned (.int .i64 k) ∧ Hid (decide (0 ≤ k) = L.any fun s => !textMay s)) ∧ w' = w := by
  have HI := Lib.hid h
  have Hn := Lib.hid hn
  have zl : (n : Int) ≤ 281474976710656 := by omega
  have hcap : (n : Int) ≤ cap := by have := h.len; omega
  have eg : ∀ args w, (callFunc 34 args).run Try.prog w = .ok (.enter 34 args) w := fun args w => by kernel_rfl
  clear h hl hn
  go_enter Try.func51, Try.ntmps51
  go_wp2
  go_loop [8] (fun v => ∃ i : Nat, i ≤ n ∧ v = .int .i64 i ∧ Hid (((L.take i).any fun s => !textMay s) = false)) (fun v => n - (RowKit.intOf v).toNat)
  case atStart => exact ⟨0, Nat.zero_le _, rfl, by show _ = _; rfl⟩
  case round =>
    obtain ⟨i, hi, rfl, HA⟩ := hrel
    by_cases hlt : i < n
    · have hil : i < L.length := by rw [Hn.out]; exact hlt
      obtain ⟨blk, off, rfl, hc⟩ := HI.out.at hil
      have c := str_at hc hil
      have HS : Hid (((L.take (i + 1)).any fun s => !textMay s) = (((L.take i).any fun s => !textMay s) || !textMay L[i])) := by
        show _ = _
        rw [List.take_succ_eq_append_getElem hil, List.any_append]; simp
      have HM := Lib.hid (fun (hx : (!textMay L[i]) = true) => show (L.any fun s => !textMay s) = true from List.any_eq_true.2 ⟨L[i], List.getElem_mem hil, hx⟩)
      have hcall := isno L[i] w
      generalize L[i] = x at c HS HM hcall
      have ii : (i : Int) < n := by omega
      clear hc
      generalize (!textMay x) = q at *
      cases q with
      | true =>
        have HF := Lib.hid (HM.out rfl)
        clear HM HS
        go_wp2_with fail
        refine hcall.mono ?_
        rintro e w' ⟨rfl, rfl⟩
        go_wp2
        go_ret
        exact ⟨⟨_, rfl, by show _ = _; rw [HF.out]; simp⟩, rfl⟩
      | false =>
        have HF : Hid (((L.take (i + 1)).any fun s => !textMay s) = false) := by show _ = _; rw [HS.out, HA.out]; rfl
        clear HM HS
        go_wp2_with fail
        refine hcall.mono ?_
        rintro e w' ⟨rfl, rfl⟩
        go_wp2
        go_round
        case rel => exact ⟨i + 1, by omega, by go_num, HF⟩
        case measure => simp [RowKit.intOf]; omega
    · have e : i = n := by omega
      subst e
      have HT : Hid ((L.any fun s => !textMay s) = false) := by have := HA.out; rw [List.take_of_length_le (by rw [Hn.out]; exact Nat.le_refl _)] at this; exact this
      clear HA
      go_wp2
      go_ret
      exact ⟨⟨_, rfl, by show _ = _; rw [HT.out]; rfl⟩, rfl⟩
theorem contains_str (L : List ByteArray) (n : Nat) (hn : L.length = n) (hl : n ≤ 281474976710656) (p : Option Addr) (cap : Nat) (w : World) (h : SLie strS w p L cap) :
    Calls Try.prog 38 #[.slice p n cap, .func (.func 34) #[] #[]] w fun e w' => e = .returned (.bool (L.any fun s => !textMay s)) ∧ w' = w := by
  have hc := index_str L n hn hl p cap w h
  clear h hl hn
  go_enter Try.func38, Try.ntmps38
  go_wp2_with (go_at_call 51; refine hc.mono ?_; rintro e w' ⟨⟨k, rfl, hk⟩, rfl⟩)
  go_ret
  exact ⟨ret_bool hk.out, rfl⟩
/-- May's test of a write: it reads the disk's block -/
theorem test_put (bx : Nat) (p0 : Option Addr) (n c0 : Nat) (p1 : Option Addr) (m c1 : Nat) (fuse : Int) (p3 : Option Addr) (k c3 : Nat) (dead : Bool) (a : Int) (s : ByteArray) (w : World) (hb : Box w bx p0 n c0 p1 m c1 fuse p3 k c3 dead) :
    Calls Try.prog 40 #[.agg #[.int .i64 a, .string s], .pointer (some ⟨bx, 0, none⟩)] w fun e w' => e = .returned (.bool (!putMay n (a, s))) ∧ Below w.heap.size w w' := by
  have B1 := (Below.refl w.heap.size w).alloc (Nat.le_refl _) (.cells #[.int .i64 a, .string s] 45)
  have hx := hb.below B1
  have hh := has_code p0 n c0 p1 m c1 fuse p3 k c3 dead a (w.alloc (.cells #[.int .i64 a, .string s] 45))
  have g0 : (w.alloc (.cells #[.int .i64 a, .string s] 45)).cell? ⟨w.heap.size, 0, none⟩ = some (.int .i64 a) := by rw [cell_of_row _ _ 0 _ 45 (0, 0) (heap_alloc_new w _)]; rfl
  have g1 : (w.alloc (.cells #[.int .i64 a, .string s] 45)).cell? ⟨w.heap.size, 1, none⟩ = some (.string s) := by rw [cell_of_row _ _ 1 _ 45 (0, 0) (heap_alloc_new w _)]; rfl
  have b0 := hx.kept
  have b1 := hx.cache
  have b2 := hx.fuse
  have b3 := hx.keep
  have b4 := hx.dead
  have HG1 := Lib.hid g1
  have HB := Lib.hid B1
  have hp : putMay n (a, s) = ((decide (0 ≤ a) && decide (a < n)) && textMay s) := by unfold putMay textMay; rw [Bool.and_assoc]
  clear hb hx B1
  generalize hw1 : w.alloc (.cells #[.int .i64 a, .string s] 45) = w1 at *
  rw [hp]
  clear hp
  generalize (decide (0 ≤ a) && decide (a < (n : Int))) = q at *
  cases q with
  | true =>
    have ht := fun w => isno s w
    rw [Bool.true_and]
    go_enter Try.func40, Try.ntmps40
    go_wp2_with fail
    go_at_call 30
    refine hh.mono ?_
    rintro e w2 ⟨rfl, hb2⟩
    have k1 : w2.cell? ⟨w.heap.size, 1, none⟩ = some (.string s) := by rw [hb2.cell (p := ⟨w.heap.size, 1, none⟩) (World.block_lt_of_cell? w1 _ HG1.out)]; exact HG1.out
    have HB2 := Lib.hid (HB.out.next hb2)
    clear hh hb2 b0 b1 b2 b3 b4 g0 g1
    go_wp2_with (go_at_call 34; refine (ht _).mono ?_; rintro e w' ⟨rfl, rfl⟩)
    go_ret
    exact ⟨rfl, HB2.out⟩
  | false =>
    rw [Bool.false_and]
    go_enter Try.func40, Try.ntmps40
    go_wp2_with fail
    go_at_call 30
    refine hh.mono ?_
    rintro e w2 ⟨rfl, hb2⟩
    have HB2 := Lib.hid (HB.out.next hb2)
    clear hh hb2 b0 b1 b2 b3 b4 g0 g1
    go_wp2
    go_ret
    exact ⟨rfl, HB2.out⟩
set_option maxHeartbeats 2000000 in
theorem index_put (bx : Nat) (p0 : Option Addr) (n c0 : Nat) (p1 : Option Addr) (m c1 : Nat) (fuse : Int) (p3 : Option Addr) (k c3 : Nat) (dead : Bool) (L : List (Int × ByteArray)) (hn : L.length = m) (hl : m ≤ 281474976710656) (w : World) (hb : Box w bx p0 n c0 p1 m c1 fuse p3 k c3 dead) (h : SLie putS w p1 L c1) :
    Calls Try.prog 52 #[.slice p1 m c1, .func (.func 40) #[] #[.pointer (some ⟨bx, 0, none⟩)]] w fun e w' => (∃ k : Int, e = .returned (.int .i64 k) ∧ Hid (decide (0 ≤ k) = L.any fun s => !putMay n s)) ∧ Below w.heap.size w w' := by
  have HI := Lib.hid h
  have HX := Lib.hid hb
  have Hn := Lib.hid hn
  have zl : (m : Int) ≤ 281474976710656 := by omega
  have hcap : (m : Int) ≤ c1 := by have := h.len; omega
  have eg : ∀ args w, (callFunc 40 args).run Try.prog w = .ok (.enter 40 args) w := fun args w => by kernel_rfl
  clear h hl hn hb
  go_enter Try.func52, Try.ntmps52
  go_wp2
  go_loopw [8] (fun v wr => ∃ i : Nat, i ≤ m ∧ v = .int .i64 i ∧ Hid (((L.take i).any fun s => !putMay n s) = false) ∧ Hid (Below w.heap.size w wr)) (fun v _ => m - (RowKit.intOf v).toNat)
  case atStart => exact ⟨0, Nat.zero_le _, rfl, Lib.hid rfl, Below.refl _ _⟩
  case round =>
    obtain ⟨i, hi, rfl, HA, HB⟩ := hrel
    by_cases hlt : i < m
    · have hil : i < L.length := by rw [Hn.out]; exact hlt
      obtain ⟨blk, off, rfl, hc⟩ := (HI.out.below HB.out).at hil
      obtain ⟨c, d⟩ := put_at hc hil
      have HS : Hid (((L.take (i + 1)).any fun s => !putMay n s) = (((L.take i).any fun s => !putMay n s) || !putMay n L[i])) := by
        show _ = _
        rw [List.take_succ_eq_append_getElem hil, List.any_append]; simp
      have HM := Lib.hid (fun (hx : (!putMay n L[i]) = true) => show (L.any fun s => !putMay n s) = true from List.any_eq_true.2 ⟨L[i], List.getElem_mem hil, hx⟩)
      have hcall := test_put bx p0 n c0 _ m c1 fuse p3 k c3 dead L[i].1 L[i].2 wr (HX.out.below HB.out)
      generalize L[i] = x at c d HS HM hcall
      obtain ⟨x, y⟩ := x
      dsimp only at c d hcall
      have ii : (i : Int) < m := by omega
      clear hc
      generalize (!putMay n (x, y)) = q at *
      cases q with
      | true =>
        have HF := Lib.hid (HM.out rfl)
        clear HM HS
        go_wp2_with fail
        refine hcall.mono ?_
        rintro e w' ⟨rfl, hb'⟩
        have HB2 := Lib.hid (HB.out.next hb')
        clear hcall hb' c d
        go_wp2
        go_ret
        exact ⟨⟨_, rfl, by show _ = _; rw [HF.out]; simp⟩, HB2.out⟩
      | false =>
        have HF : Hid (((L.take (i + 1)).any fun s => !putMay n s) = false) := by show _ = _; rw [HS.out, HA.out]; rfl
        clear HM HS
        go_wp2_with fail
        refine hcall.mono ?_
        rintro e w' ⟨rfl, hb'⟩
        have HB2 := Lib.hid (HB.out.next hb')
        clear hcall hb' c d
        go_wp2
        go_roundw
        case rel => exact ⟨i + 1, by omega, by go_num, HF, HB2⟩
        case measure => simp [RowKit.intOf]; omega
    · have e : i = m := by omega
      have HT : Hid ((L.any fun s => !putMay n s) = false) := by have := HA.out; rw [List.take_of_length_le (by rw [Hn.out, e]; exact Nat.le_refl _)] at this; exact this
      subst e
      clear HA
      go_wp2
      go_ret
      exact ⟨⟨_, rfl, by show _ = _; rw [HT.out]; rfl⟩, HB.out⟩
theorem contains_put (bx : Nat) (p0 : Option Addr) (n c0 : Nat) (p1 : Option Addr) (m c1 : Nat) (fuse : Int) (p3 : Option Addr) (k c3 : Nat) (dead : Bool) (L : List (Int × ByteArray)) (hn : L.length = m) (hl : m ≤ 281474976710656) (w : World) (hb : Box w bx p0 n c0 p1 m c1 fuse p3 k c3 dead) (h : SLie putS w p1 L c1) :
    Calls Try.prog 39 #[.slice p1 m c1, .func (.func 40) #[] #[.pointer (some ⟨bx, 0, none⟩)]] w fun e w' => e = .returned (.bool (L.any fun s => !putMay n s)) ∧ Below w.heap.size w w' := by
  have hc := index_put bx p0 n c0 p1 m c1 fuse p3 k c3 dead L hn hl w hb h
  clear h hl hn hb
  go_enter Try.func39, Try.ntmps39
  go_wp2_with fail
  go_at_call 52
  refine hc.mono ?_
  rintro e w' ⟨⟨k, rfl, hk⟩, hb⟩
  have HB := Lib.hid hb
  clear hc hb
  go_wp2
  go_ret
  exact ⟨ret_bool hk.out, HB.out⟩
end Go.Proofs.Ytaamjamcnnalbaa.Dv
