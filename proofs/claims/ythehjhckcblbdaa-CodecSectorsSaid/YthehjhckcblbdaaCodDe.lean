/-
  slices.Index and Contains over bits; codec.Decode with them.
-/
import Derived.Test.YthehjhckcblbdaaCodAd
import Derived.Test.YthehjhckcblbdaaCodSp
import Derived.BigQuiet
namespace Go.Proofs.Ythehjhckcblbdaa.Pk
set_option maxRecDepth 100000
open Go.RowKit Go.Lib Mt Ma Mb
theorem index_bits (b : List Bool) (n : Nat) (hn : b.length = n) (hl : n ≤ 281474976710656) (x : Bool) (p : Option Addr) (cap : Nat) (w : World) (h : FlagsLie w p b cap) :
    Calls Try.prog 95 #[.slice p n cap, .bool x] w fun e w' => (∃ k : Int, e = .returned (.int .i64 k) ∧ Hid (decide (0 ≤ k) = b.any fun y => x == y)) ∧ w' = w := by
  have HI := Lib.hid h
  have Hn := Lib.hid hn
  have zl : (n : Int) ≤ 281474976710656 := by omega
  have hcap : (n : Int) ≤ cap := by have := h.len; omega
  clear h hn hl
  go_enter Try.func95, Try.ntmps95
  go_wp2
  go_loop [8] (fun v => ∃ i : Nat, i ≤ n ∧ v = .int .i64 i ∧ Hid (((b.take i).any fun y => x == y) = false)) (fun v => n - (RowKit.intOf v).toNat)
  case atStart => exact ⟨0, Nat.zero_le _, rfl, Lib.hid rfl⟩
  case round =>
    obtain ⟨i, hi, rfl, HA⟩ := hrel
    by_cases hlt : i < n
    · have hib : i < b.length := by rw [Hn.out]; exact hlt
      obtain ⟨blk, off, rfl, hc⟩ := HI.out.at hib
      have c := hc i hib
      have hg : b.getD i false = b[i] := by rw [List.getD_eq_getElem?_getD, List.getElem?_eq_getElem hib]; rfl
      rw [hg] at c
      have HS : Hid (((b.take (i + 1)).any fun y => x == y) = (((b.take i).any fun y => x == y) || (x == b[i]))) := by
        show _ = _
        rw [List.take_succ_eq_append_getElem hib, List.any_append]; simp
      have HM := Lib.hid (fun (hx : (x == b[i]) = true) => show (b.any fun y => x == y) = true from List.any_eq_true.2 ⟨b[i], List.getElem_mem hib, hx⟩)
      generalize b[i] = y at c HS HM
      have ii : (i : Int) < n := by omega
      clear hc hg
      cases hq : (x == y) with
      | true =>
        have HF := Lib.hid (HM.out hq)
        clear HM HS
        go_wp2
        go_ret
        exact ⟨⟨_, rfl, by show _ = _; rw [HF.out]; simp⟩, rfl⟩
      | false =>
        rw [hq] at HS
        have HF : Hid (((b.take (i + 1)).any fun y => x == y) = false) := by show _ = _; rw [HS.out, HA.out]; rfl
        clear HM HS
        go_wp2
        go_round
        case rel => exact ⟨i + 1, by omega, by go_num, HF⟩
        case measure => simp [RowKit.intOf]; omega
    · have e : i = n := by omega
      subst e
      have HT : Hid ((b.any fun y => x == y) = false) := by have := HA.out; rw [List.take_of_length_le (by rw [Hn.out]; exact Nat.le_refl _)] at this; exact this
      clear HA
      go_wp2
      go_ret
      exact ⟨⟨_, rfl, by show _ = _; rw [HT.out]; rfl⟩, rfl⟩
theorem contains_bits (b : List Bool) (n : Nat) (hn : b.length = n) (hl : n ≤ 281474976710656) (x : Bool) (p : Option Addr) (cap : Nat) (w : World) (h : FlagsLie w p b cap) :
    Calls Try.prog 78 #[.slice p n cap, .bool x] w fun e w' => e = .returned (.bool (b.any fun y => x == y)) ∧ w' = w := by
  have hc := index_bits b n hn hl x p cap w h
  clear h hl hn
  go_enter Try.func78, Try.ntmps78
  go_wp2_with (go_at_call 95; refine hc.mono ?_; rintro e w' ⟨⟨k, rfl, hk⟩, rfl⟩)
  go_ret
  exact ⟨ret_bool hk.out, rfl⟩
/-- a list of bits from a place on -/
theorem FlagsLie.drop {w : World} {q : Option Addr} {b : List Bool} {d x : Nat} (h : FlagsLie w q b d) (hx : x < b.length) : ∃ blk off, q = some ⟨blk, off, Option.none⟩ ∧ FlagsLie w (some ⟨blk, off + x, Option.none⟩) (b.drop x) (d - x) := by
  obtain ⟨blk, off, e, hc⟩ := h.at hx
  refine ⟨blk, off, e, ⟨by rw [List.length_drop]; have := h.len; omega, by have := h.cap; omega, .inr ⟨blk, off + x, rfl, fun i hi => ?_⟩⟩⟩
  rw [List.length_drop] at hi
  rw [Nat.add_assoc, hc (x + i) (by omega), List.getD_eq_getElem?_getD, List.getD_eq_getElem?_getD, List.getElem?_drop]
end Go.Proofs.Ythehjhckcblbdaa.Pk

