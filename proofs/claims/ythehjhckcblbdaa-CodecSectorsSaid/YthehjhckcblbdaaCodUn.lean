/-
  The document's Unpack.
-/
import Derived.Test.YthehjhckcblbdaaCanD
import Derived.Test.YthehjhckcblbdaaCodLg
namespace Go.Proofs.Ythehjhckcblbdaa.Pk
set_option maxRecDepth 100000
open Go.RowKit Go.Lib Mb
/-- a call of a function that only reads, as one step of a region that draws its order -/
theorem step_call_read {P : Program} {ops : Array Oper} {o : Oper} {a : Act} {w : World} {K : Act → World → Prop} {Q : Exit → Act → World → Prop} {E : Prop}
    (hg : o.guard = none) (f : FuncId) (args : Array Value) (hr : (execOp a.eval o).run P w = .ok (.enter f args) w) (v : Value) (h : Calls P f args w fun e w' => e = .returned v ∧ w' = w) (hK : K (a.put o.dst v) w) :
    if Region.wanted o (yielded ops a.tmps) = true then Oper.wp P o a w K Q else E := by
  have hw : Region.wanted o (yielded ops a.tmps) = true := by simp [Region.wanted, hg]
  rw [if_pos hw]
  unfold Oper.wp
  rw [hr, Oper.upon_enter]
  refine h.mono ?_
  rintro e w' ⟨rfl, rfl⟩
  exact hK
set_option maxHeartbeats 4000000 in
theorem unpack_doc (s : ByteArray) (hs : s.size ≤ 100000) (w : World) :
    Calls Try.prog 25 #[.string s] w fun e w' => ∃ q c, e = .returned (.slice q (unpackL s.data.toList).length c) ∧ FlagsLie w' q (unpackL s.data.toList) c ∧ Below w.heap.size w w' := by
  have zs : (s.size : Int) ≤ 100000 := by omega
  have hsl : Hid (s.data.toList.length = s.size) := by show _ = _; simp
  have HR := Lib.hid (FRow.made w)
  obtain ⟨i0, hi0, hz0, hz1, hz2⟩ := info_parts infoBool
  have HP := Lib.hid (fun (k : Nat) (hk : k ≤ 30) (w : World) => power_any k hk w)
  go_enter Try.func25, Try.ntmps25
  go_wp2
  go_loopw [3, 4] (fun v i wr => ∃ (k g c : Nat), i = .int .i64 k ∧ k ≤ s.size ∧ v = .slice (some ⟨g, 0, none⟩) (8 * k) c ∧ Hid (FRow w.heap.size w wr g c (unpackL (s.data.toList.take k)))) (fun _ i _ => s.size - (RowKit.intOf i).toNat)
  case atStart => exact ⟨0, _, 0, rfl, Nat.zero_le _, rfl, HR⟩
  case round =>
    clear HR
    obtain ⟨k, g, c, rfl, hk, rfl, HS⟩ := hrel
    by_cases hlt : k < s.size
    · have zk : (k : Int) < s.size := by omega
      obtain ⟨u, hu⟩ : ∃ u, s[k] = u := ⟨_, rfl⟩
      have HU : Hid (unpackL (s.data.toList.take (k + 1)) = unpackL (s.data.toList.take k) ++ dig u.toNat 8) := by
        show _ = _
        have e : s.data.toList.take (k + 1) = s.data.toList.take k ++ [u] := by
          rw [List.take_succ_eq_append_getElem (by rw [hsl.out]; exact hlt), ← hu]; rfl
        rw [e, unpackL_snoc]
      have HLk : Hid ((unpackL (s.data.toList.take k)).length = 8 * k) := by show _ = _; rw [unpackL_length, List.length_take, hsl.out]; omega
      have zu : (u.toNat : Int) ≤ 255 := by have := u.toNat_lt; omega
      generalize unpackL (s.data.toList.take k) = L at *
      have zk2 : (k : Int) < 100000 := by omega
      go_wp2
      go_loopw [3, 5] (fun v j wr => ∃ (t r g c m : Nat), t + r = 8 ∧ j = .int .i64 ((r : Int) - 1) ∧ m = 8 * k + t ∧ v = .slice (some ⟨g, 0, none⟩) m c ∧ Hid (FRow w.heap.size w wr g c (L ++ (dig u.toNat 8).take t))) (fun _ j _ => (RowKit.intOf j + 1).toNat)
      case atStart => exact ⟨0, 8, g, c, 8 * k, rfl, rfl, rfl, rfl, by simpa using HS⟩
      case round =>
        clear HS
        obtain ⟨t, r, g1, c1, m, htr, rfl, hm, rfl, HS⟩ := hrel
        rcases Nat.eq_zero_or_pos r with h0 | h0
        · subst h0
          have e : (dig u.toNat 8).take t = dig u.toNat 8 := List.take_of_length_le (by rw [dig_length]; omega)
          rw [e, ← HU.out] at HS
          have em : m = 8 * (k + 1) := by omega
          subst em
          clear e hm
          go_wp2
          go_roundw
          case measure => simp [RowKit.intOf]; omega
          case rel => exact ⟨k + 1, g1, c1, by go_num, by omega, rfl, HS⟩
        · obtain ⟨r, rfl⟩ : ∃ q, r = q + 1 := ⟨r - 1, by omega⟩
          have er : ((r + 1 : Nat) : Int) - 1 = r := by omega
          simp only [er]
          have hb := digit_is u.toNat r
          have hpk := HP.out r (by omega) wr.drew
          have HM : Hid ((dig u.toNat 8).take (t + 1) = (dig u.toNat 8).take t ++ [u.toNat.testBit r]) := by
            show _ = _
            rw [dig_take u.toNat 8 t (by omega), show 8 - 1 - t = r by omega]
          generalize u.toNat.testBit r = b at hb HM
          have hpos : (1 : Int) ≤ ((2 ^ r : Nat) : Int) := by have : 0 < 2 ^ r := Nat.pow_pos (by decide); omega
          generalize (2 ^ r : Nat) = z at hb hpk hpos
          have hlen : (L ++ (dig u.toNat 8).take t).length = m := by rw [List.length_append, List.length_take, dig_length, HLk.out]; omega
          have HLt : Hid (L ++ (dig u.toNat 8).take t = L ++ (dig u.toNat 8).take t) := by show _ = _; rfl
          revert HLt
          generalize hLt : L ++ (dig u.toNat 8).take t = Lt at *
          intro _
          have HLt := Lib.hid hLt
          clear hLt
          have hq : 0 ≤ (u.toNat : Int) / (z : Int) := Int.ediv_nonneg (by omega) (by omega)
          have hq2 : (u.toNat : Int) / (z : Int) ≤ 255 := Int.le_trans (Int.ediv_le_self _ (by omega)) zu
          have hbt : (((u.toNat : Int) / (z : Int)).tmod 2 == 1) = b := by rw [Int.tmod_eq_emod_of_nonneg hq]; exact hb
          clear er hb
          have o1 : (wr.alloc (.cells #[.bool b] 4)).drew.ownsRow w.heap.size 4 1 (.slice (some ⟨g1, 0, none⟩) m c1) m (flv Lt) := by
            have h := (HS.out.own).alloc (w := wr) (.cells #[.bool b] 4)
            rw [hlen] at h
            exact h
          have o2 : ∀ j u, (flv [b])[j]? = some u → (wr.alloc (.cells #[.bool b] 4)).drew.cell? ((⟨wr.heap.size, 0, none⟩ : Addr).add j) = some u := one_flag wr b
          have o3 : w.heap.size ≤ (wr.alloc (.cells #[.bool b] 4)).drew.heap.size := by have := HS.out.size; simp; omega
          have HL := Lib.hid hlen
          have zm : m ≤ 1000000 := by omega
          have hwu : IntKind.i64.wrap (u.toNat : Int) = (u.toNat : Int) := by rw [IntKind.wrap_i64]; omega
          have hz' : ¬ z = 0 := by omega
          have hwq : IntKind.i64.wrap ((u.toNat : Int) / (z : Int)) = (u.toNat : Int) / (z : Int) := by rw [IntKind.wrap_i64]; omega
          have Hm := Lib.hid hm
          clear hlen hm
          go_wp2
          go_region_law (first
            | (refine step_call_read rfl 50 #[.int .i64 r] (by kernel_rfl) _ hpk ?_)
            | (refine step_append_mine rfl (.tmp 17) (.tmp 27) 33 rfl w.heap.size 4 i0 (.bool false) 1 1 Try.underlying33 hi0 hz0 hz1 hz2 rfl (by decide) (.slice (some ⟨g1, 0, none⟩) m c1) m (flv Lt) rfl o1 ⟨wr.heap.size, 0, none⟩ 1 1 (flv [b]) rfl rfl o2 (flv_one _) (by unfold maxLen; omega) (by omega) o3 ?_
               intro v1 w3 own1 gr1 nn1))
          all_goals
            rw [show m + 1 = Lt.length + [b].length by rw [HL.out]; rfl] at own1
            obtain ⟨g2, c2, rfl, HN⟩ := HS.out.more (((Below.refl wr.heap.size wr).alloc (Nat.le_refl _) (.cells #[.bool b] 4)).drew) own1 (by rw [HL.out]; exact gr1) (fun hv => by have := (nn1.1 hv).2; omega)
            replace HN := Lib.hid HN
            rw [show Lt.length + [b].length = m + 1 by rw [HL.out]; rfl]
            have HX : Hid (FRow w.heap.size w w3 g2 c2 (L ++ (dig u.toNat 8).take (t + 1))) := by
              show FRow _ _ _ _ _ _
              rw [HM.out, ← List.append_assoc, HLt.out]
              exact HN.out
            clear own1 gr1 nn1 o1 o2 o3 HN HS
            go_wp2
            go_roundw
            case measure => simp [RowKit.intOf]
            case rel => exact ⟨t + 1, r, g2, c2, m + 1, by omega, by go_num, by have := Hm.out; omega, rfl, HX⟩
    · have e : k = s.size := by omega
      have hE : s.data.toList.take k = s.data.toList := List.take_of_length_le (by rw [hsl.out]; omega)
      rw [hE] at HS
      have hl : (unpackL s.data.toList).length = 8 * k := by rw [unpackL_length, hsl.out, e]
      have HL := Lib.hid hl
      subst e
      clear hE hl
      go_wp2
      go_ret
      exact ⟨_, c, by rw [HL.out]; rfl, HS.out.lies, HS.out.below⟩
end Go.Proofs.Ythehjhckcblbdaa.Pk

