/-
  The document's Pack.
-/
import Derived.Test.YthehjhckcblbdaaLstX
import Derived.Test.YthehjhckcblbdaaBitX
import Derived.Test.YthehjhckcblbdaaMatD
import Derived.BigQuiet
namespace Go.Proofs.Ythehjhckcblbdaa.Pk
set_option maxRecDepth 100000
open Go.RowKit Go.Lib Mb Ma
theorem eight_take (l : List Bool) (k j : Nat) (hj : j < 8) : (eight l k).take (j + 1) = (eight l k).take j ++ [l.getD (8 * k + j) false] := by
  rw [take_getD _ _ (by rw [eight_length]; exact hj)]
  congr 2
  unfold eight
  rw [List.getD_eq_getElem?_getD, List.getElem?_map, List.getElem?_range hj]; rfl
theorem own_kept {w w' : World} {B n size : Nat} {e : TypeId} {v : Value} {xs : List Value} (h : w.ownsRow B e size v n xs) (hb : Below w.heap.size w w') : w'.ownsRow B e size v n xs :=
  h.kept (row := Option.none) ⟨hb.os, hb.tape, hb.output, hb.size, fun k hk _ => hb.block k hk⟩ (Classical.em _)
set_option maxHeartbeats 2000000 in
theorem pack_doc (l : List Bool) (m : Nat) (q : Option Addr) (d : Nat) (w : World) (hm : l.length = m) (hml : m ≤ 1000000) (h : FlagsLie w q l d) :
    Calls Try.prog 22 #[.slice q m d] w fun e w' => e = .returned (.string ⟨(packL l).toArray⟩) ∧ Below w.heap.size w w' := by
  have H0 : Hid (RowU w (w.alloc (.cells #[] 5)) w.heap.size 0 []) := ⟨World.ownsRow_made w #[] 0 (Nat.le_refl _) (by decide) rfl, (Below.refl _ _).alloc (Nat.le_refl _) _⟩
  obtain ⟨i0, hi0, hz0, hz1, hz2⟩ := info_parts info5
  have HF := Lib.hid h
  have Hm := Lib.hid hm
  have zm : (m : Int) ≤ 1000000 := by omega
  have zd : (m : Int) ≤ d := by have := h.len; omega
  clear h hm
  go_enter Try.func22, Try.ntmps22
  go_wp2
  go_loopw [3, 4] (fun v i wr => ∃ (k g c : Nat), i = .int .i64 ((8 * k : Nat) : Int) ∧ 8 * k ≤ m + 7 ∧ v = .slice (some ⟨g, 0, none⟩) k c ∧ Hid (RowU w wr g c (packN l k))) (fun _ i _ => m + 8 - (RowKit.intOf i).toNat)
  case atStart => exact ⟨0, _, 0, rfl, by omega, rfl, H0⟩
  case round =>
    clear H0
    obtain ⟨k, g, c, rfl, hk, rfl, HS⟩ := hrel
    by_cases hlt : 8 * k < m
    · have zk : ((8 * k : Nat) : Int) < m := by omega
      have hx2 := byteAt_lt l k
      have HBy : Hid (byteAt l k = num ((eight l k).take 8)) := by show _ = _; rw [List.take_of_length_le (by rw [eight_length]; exact Nat.le_refl _)]; rfl
      obtain ⟨i, hi⟩ : ∃ i, i = 8 * k := ⟨_, rfl⟩
      have Hi := Lib.hid hi
      rw [← hi] at zk
      rw [← hi]
      clear hi
      go_wp2
      go_loopw [5, 6] (fun x j wz => ∃ t : Nat, j = .int .i64 t ∧ t ≤ 8 ∧ x = .int .i64 (num ((eight l k).take t) : Nat) ∧ Hid (Below wr.heap.size wr wz)) (fun _ j _ => 8 - (RowKit.intOf j).toNat)
      case atStart => exact ⟨0, rfl, by omega, rfl, Below.refl _ _⟩
      case round =>
        obtain ⟨t, rfl, ht, rfl, HW⟩ := hrel
        by_cases h8 : t < 8
        · have HN : Hid (num ((eight l k).take (t + 1)) = 2 * num ((eight l k).take t) + (l.getD (8 * k + t) false).toNat) := by
            show _ = _; rw [eight_take l k t h8, num_snoc]
          have hb : num ((eight l k).take t) < 256 := by
            have h1 := num_lt ((eight l k).take t)
            have h2 : 2 ^ ((eight l k).take t).length ≤ 2 ^ 8 := Nat.pow_le_pow_right (by decide) (by rw [List.length_take]; omega)
            omega
          generalize num ((eight l k).take t) = x at *
          have zx : (x : Int) ≤ 255 := by omega
          have zt : (t : Int) < 8 := by omega
          rw [← Hi.out] at HN
          by_cases hin : i + t < m
          · obtain ⟨blk, off, rfl, hc⟩ := (HF.out.below (HS.out.below.next HW.out)).at (i := i + t) (by rw [Hm.out]; exact hin)
            have cx := hc (i + t) (by rw [Hm.out]; exact hin)
            obtain ⟨z, hz⟩ : ∃ z, z = i + t := ⟨_, rfl⟩
            rw [← hz] at cx hin HN
            have ez : (i : Int) + t = z := by omega
            have zin : (z : Int) < m := by omega
            clear hc hb hz
            cases hbit : l.getD z false with
            | true =>
              rw [hbit] at cx HN
              clear hin
              go_wp2
              go_roundw
              case measure => simp [RowKit.intOf]; omega
              case rel => exact ⟨t + 1, by go_num, by omega, by rw [HN.out]; go_num, HW⟩
            | false =>
              rw [hbit] at cx HN
              clear hin
              go_wp2
              go_roundw
              case measure => simp [RowKit.intOf]; omega
              case rel => exact ⟨t + 1, by go_num, by omega, by rw [HN.out]; go_num, HW⟩
          · have zin : (m : Int) ≤ (i : Int) + t := by omega
            have e0 : l.getD (i + t) false = false := by rw [List.getD_eq_getElem?_getD, List.getElem?_eq_none (by rw [Hm.out]; omega)]; rfl
            rw [e0] at HN
            clear hb hin e0
            go_wp2
            go_roundw
            case measure => simp [RowKit.intOf]; omega
            case rel => exact ⟨t + 1, by go_num, by omega, by rw [HN.out]; go_num, HW⟩
        · have e : t = 8 := by omega
          subst e
          rw [← HBy.out]
          obtain ⟨u, hu⟩ : ∃ u, u = UInt8.ofNat (byteAt l k) := ⟨_, rfl⟩
          have hun : u.toNat = byteAt l k := by rw [hu]; simp; omega
          have HP : Hid (packN l (k + 1) = packN l k ++ [u]) := by show _ = _; rw [packN_snoc, hu]
          rw [← hun]
          have hul := u.toNat_lt
          have zu : ((u.toNat : Nat) : Int) % 256 = (u.toNat : Nat) := by omega
          have hpl : (packN l k).length = k := packN_length l k
          have HS2 : Hid (RowU w wr g c (packN l k)) := ⟨own_kept HS.out.own HW.out, HS.out.below.next HW.out⟩
          have o1 := fun O => (HS2.out.own).alloc (w := wr) O
          rw [hpl] at o1
          have o2 := one_byte wr u
          have o3 : w.heap.size ≤ (wr.alloc (.cells #[.int .u8 (u.toNat : Int)] 5)).heap.size := by have := HS2.out.below.size; simp; omega
          have hbyte := HBy
          clear HBy hun hx2 HS hu
          generalize u.toNat = un at *
          go_wp2_with (first
            | (at_builtin; refine wpList_append_own _ rfl _ _ 66 rfl w.heap.size 5 i0 (.int .u8 0) 1 1 Try.underlying66 hi0 hz0 hz1 hz2 rfl (by decide) _ k (pb (packN l k)) rfl (o1 _) ⟨wr.heap.size, 0, none⟩ 1 1 (pb [u]) rfl rfl o2 (pb_one _) (by unfold maxLen; omega) (by omega) o3 ?_)
            | go_in)
          intro v1 w3 own1 gr1 nn1
          rw [show k + 1 = (packN l k).length + [u].length by rw [hpl]; rfl] at own1
          obtain ⟨g2, c2, rfl, HN⟩ := HS2.out.more ((Below.refl wr.heap.size wr).alloc (Nat.le_refl _) (.cells #[.int .u8 (un : Int)] 5)) own1 (by rw [hpl]; exact gr1) nn1
          replace HN := Lib.hid HN
          rw [← HP.out] at HN
          rw [hpl]
          clear own1 gr1 nn1 o1 o2 o3 HS2 hpl
          have hi2 := Hi.out
          go_wp2
          go_roundw
          case measure => simp [RowKit.intOf]; omega
          case rel => exact ⟨k + 1, g2, c2, by go_num, by omega, rfl, HN⟩
    · have htx := HS.out.text
      have ek : k = (m + 7) / 8 := by omega
      have HL : Hid (packN l k = packL l) := by show _ = _; rw [ek, ← Hm.out]; rfl
      rw [packN_length, HL.out] at htx
      have zk : ¬ ((8 * k : Nat) : Int) < m := by omega
      obtain ⟨i, hi⟩ : ∃ i, i = 8 * k := ⟨_, rfl⟩
      rw [← hi] at zk
      rw [← hi]
      clear hlt ek hi hk
      go_wp2
      go_ret
      exact ⟨rfl, HS.out.below⟩
end Go.Proofs.Ythehjhckcblbdaa.Pk

