/-
  The document's Split.
-/
import Derived.Test.YthehjhckcblbdaaCodLg
import Derived.Test.YthehjhckcblbdaaPacRe
namespace Go.Proofs.Ythehjhckcblbdaa.Pk
set_option maxRecDepth 100000
open Go.RowKit Go.Lib Mt Ma
theorem split_full (s : List UInt8) {p : Nat} (hp : p < s.length) : split s s.length p = step1 s p :: split s s.length (next s p) := by
  obtain ⟨k, hk⟩ : ∃ k, s.length = k + 1 := ⟨s.length - 1, by omega⟩
  have := next_gt s p
  rw [split_fuel s s.length (k + 1) p (by omega) (by omega), split_more s k p hp, split_fuel s k s.length (next s p) (by omega) (by omega)]
set_option maxHeartbeats 2000000 in
theorem split_doc (s : ByteArray) (w : World) (hs : s.size ≤ 2000) :
    Calls Try.prog 21 #[.string s] w fun e w' => ∃ p cap, e = .returned (.slice p (split s.data.toList s.size 0).length cap) ∧ ToksLie w' p (split s.data.toList s.size 0) cap ∧ Below w.heap.size w w' := by
  have zs : (s.size : Int) ≤ 2000 := by omega
  have hsl : Hid (s.data.toList.length = s.size) := by show _ = _; simp
  obtain ⟨i0, hi0, hz0, hz1, hz2⟩ := info_parts infoTok
  generalize hF : split s.data.toList s.size 0 = F
  have HF : Hid (([] : List Tok) ++ split s.data.toList s.size 0 = F) := Lib.hid (by simpa using hF)
  clear hF
  have HR : Hid ((w.alloc (.cells #[] 48)).ownsRow w.heap.size 48 3 (.slice (some ⟨w.heap.size, 0, none⟩) 0 0) 0 (tc [])) := World.ownsRow_made (base := w.heap.size) (e := 48) (size := 3) w #[] 0 (Nat.le_refl _) (by decide) rfl
  have HB : Hid (Below w.heap.size w (w.alloc (.cells #[] 48))) := (Below.refl _ _).alloc (Nat.le_refl _) _
  go_enter Try.func21, Try.ntmps21
  go_wp2
  go_loopw [3, 4] (fun v n wr => ∃ (p L : Nat) (T : List Tok), n = .int .i64 p ∧ p ≤ s.size ∧ Hid (L = T.length) ∧ L ≤ p ∧ Hid (wr.ownsRow w.heap.size 48 3 v L (tc T)) ∧ Hid (Below w.heap.size w wr) ∧ Hid (T ++ split s.data.toList s.size p = F)) (fun _ n _ => s.size - (RowKit.intOf n).toNat)
  case atStart => exact ⟨0, 0, [], rfl, Nat.zero_le _, rfl, Nat.le_refl _, HR, HB, HF⟩
  case round =>
    clear HR HB HF
    obtain ⟨p, L, T, rfl, hp, HL, hLp, HR, HB, HF⟩ := hrel
    by_cases hlt : p < s.size
    · have zp : (p : Int) < s.size := by omega
      have zL : (L : Int) ≤ 2000 := by omega
      have hlo := longest_doc s (by omega) p hlt wr
      have hbest := longest_best s.data.toList p
      have hfull := split_full s.data.toList (p := p) (by rw [hsl.out]; exact hlt)
      have hnext := next_le s.data.toList p (by rw [hsl.out]; exact hlt)
      have hgt := next_gt s.data.toList p
      obtain ⟨n, hn⟩ : ∃ n, (longest s.data.toList p).1 = n := ⟨_, rfl⟩
      obtain ⟨d, hd⟩ : ∃ d, (longest s.data.toList p).2 = d := ⟨_, rfl⟩
      unfold step1 next at hfull
      unfold next at hnext hgt
      rw [hn, hd] at hlo hbest
      rw [hn, hd, hsl.out] at hfull
      rw [hn, hsl.out] at hnext
      rw [hn] at hgt
      have hn18 : n ≤ 18 := by rcases hbest.hit with ⟨h1, _⟩ | ⟨_, h1, _⟩ <;> omega
      have hd255 : d ≤ 255 := by rcases hbest.hit with ⟨_, h1⟩ | ⟨_, _, h1, _⟩ <;> omega
      clear hbest hn hd
      have zn : (n : Int) ≤ 18 := by omega
      have zd : (d : Int) ≤ 255 := by omega
      by_cases hn0 : n = 0
      · subst hn0
        simp only [if_true] at hfull hnext
        obtain ⟨c, hc⟩ : ∃ c, s[p] = c := ⟨_, rfl⟩
        have hcg : s.data.toList.getD p 0 = c := by rw [text_at s hlt, hc]
        rw [hcg] at hfull
        rw [hfull] at HF
        have zc : (c.toNat : Int) ≤ 255 := by have := c.toNat_lt; omega
        have hwc : IntKind.i64.wrap (c.toNat : Int) = (c.toNat : Int) := by rw [IntKind.wrap_i64]; omega
        have HN := Lib.hid hnext
        have HLt := Lib.hid hlt
        clear hfull hcg hn18 hd255 zn hgt
        replace hlt := HLt
        replace hnext := HN
        go_wp2_with fail
        go_at_call 45
        refine hlo.mono ?_
        rintro e w1 ⟨rfl, hb1⟩
        have B1 := hb1.alloc hb1.size (.cells #[.int .i64 (c.toNat : Int), .int .i64 0, .int .i64 0] 48)
        have R1 := row_later HR.out B1
        have X1 := HB.out.next B1
        have o2 := tok_new w1 ⟨(c.toNat : Int), 0, 0⟩
        have o3 := X1.size
        have X1' := Lib.hid X1
        have R1' := Lib.hid R1
        clear hlo B1 hb1 X1
        go_wp2_with (first
          | (at_builtin; refine wpList_append_own _ rfl _ _ 36 rfl w.heap.size 48 i0 (.agg #[.int .i64 0, .int .i64 0, .int .i64 0]) 3 24 Try.underlying36 hi0 hz0 hz1 hz2 rfl (by decide) u3 L (tc T) rfl R1 ⟨w1.heap.size, 0, Option.none⟩ 1 1 (tc [⟨(c.toNat : Int), 0, 0⟩]) rfl rfl o2 (tc_one _) (by unfold maxLen; omega) (by omega) o3 ?_)
          | go_in)
        intro v3 w3 own3 gr3 nn3
        have X3 : Hid (Below w.heap.size w w3) := X1'.out.grown gr3 X1'.out.size (fun b hb => (R1'.out.lt b hb).1)
        have R3 : Hid (w3.ownsRow w.heap.size 48 3 v3 (L + 1) (tc (T ++ [⟨(c.toNat : Int), 0, 0⟩]))) := by show World.ownsRow _ _ _ _ _ _ _; rw [tc_append]; exact own3
        have HL4 : Hid (L + 1 = (T ++ [(⟨(c.toNat : Int), 0, 0⟩ : Tok)]).length) := by show _ = _; rw [List.length_append, ← HL.out]; rfl
        have HF4 : Hid ((T ++ [(⟨(c.toNat : Int), 0, 0⟩ : Tok)]) ++ split s.data.toList s.size (p + 1) = F) := by show _ = _; rw [List.append_assoc]; exact HF.out
        clear own3 gr3 nn3 R1 R1' X1' o2 o3
        go_wp2
        go_roundw
        case rel => exact ⟨p + 1, L + 1, T ++ [⟨(c.toNat : Int), 0, 0⟩], by go_num, HN.out, HL4, by omega, R3, X3, HF4⟩
        case measure => have := HLt.out; simp [RowKit.intOf]; omega
      · rw [if_neg hn0, if_neg hn0] at hfull
        rw [if_neg hn0] at hnext
        rw [hfull] at HF
        have zn0 : ((n : Int) == 0) = false := by rw [beq_eq_false_iff_ne]; omega
        have zn1 : (1 : Int) ≤ n := by omega
        have zpn : (p : Int) + n ≤ s.size := by omega
        have HN := Lib.hid hnext
        have HLt := Lib.hid hlt
        clear hfull hn18 hd255 hgt hnext hlt hn0
        go_wp2_with fail
        go_at_call 45
        refine hlo.mono ?_
        rintro e w1 ⟨rfl, hb1⟩
        have B1 := hb1.alloc hb1.size (.cells #[.int .i64 0, .int .i64 (d : Int), .int .i64 (n : Int)] 48)
        have R1 := row_later HR.out B1
        have X1 := HB.out.next B1
        have o2 := tok_new w1 ⟨0, (d : Int), (n : Int)⟩
        have o3 := X1.size
        have X1' := Lib.hid X1
        have R1' := Lib.hid R1
        clear hlo B1 hb1 X1
        go_wp2_with (first
          | (at_builtin; refine wpList_append_own _ rfl _ _ 36 rfl w.heap.size 48 i0 (.agg #[.int .i64 0, .int .i64 0, .int .i64 0]) 3 24 Try.underlying36 hi0 hz0 hz1 hz2 rfl (by decide) u3 L (tc T) rfl R1 ⟨w1.heap.size, 0, Option.none⟩ 1 1 (tc [⟨0, (d : Int), (n : Int)⟩]) rfl rfl o2 (tc_one _) (by unfold maxLen; omega) (by omega) o3 ?_)
          | go_in)
        intro v3 w3 own3 gr3 nn3
        have X3 : Hid (Below w.heap.size w w3) := X1'.out.grown gr3 X1'.out.size (fun b hb => (R1'.out.lt b hb).1)
        have R3 : Hid (w3.ownsRow w.heap.size 48 3 v3 (L + 1) (tc (T ++ [⟨0, (d : Int), (n : Int)⟩]))) := by show World.ownsRow _ _ _ _ _ _ _; rw [tc_append]; exact own3
        have HL4 : Hid (L + 1 = (T ++ [(⟨0, (d : Int), (n : Int)⟩ : Tok)]).length) := by show _ = _; rw [List.length_append, ← HL.out]; rfl
        have HF4 : Hid ((T ++ [(⟨0, (d : Int), (n : Int)⟩ : Tok)]) ++ split s.data.toList s.size (p + n) = F) := by show _ = _; rw [List.append_assoc]; exact HF.out
        clear own3 gr3 nn3 R1 R1' X1' o2 o3
        go_wp2
        go_roundw
        case rel => exact ⟨p + n, L + 1, T ++ [⟨0, (d : Int), (n : Int)⟩], by go_num, HN.out, HL4, by omega, R3, X3, HF4⟩
        case measure => have := HLt.out; simp [RowKit.intOf]; omega
    · have e : p = s.size := by omega
      have HE : Hid (T = F) := by show _ = _; rw [← HF.out, e, ← hsl.out, split_done _ _ _ (Nat.le_refl _), List.append_nil]
      obtain ⟨q, c, rfl, HLies⟩ := toks_lie HL.out HR.out
      have HLl := Lib.hid HLies
      subst e
      clear HLies
      go_wp2
      go_ret
      exact ⟨q, c, by rw [← HE.out, ← HL.out]; rfl, by rw [← HE.out]; exact HLl.out, HB.out⟩
end Go.Proofs.Ythehjhckcblbdaa.Pk

