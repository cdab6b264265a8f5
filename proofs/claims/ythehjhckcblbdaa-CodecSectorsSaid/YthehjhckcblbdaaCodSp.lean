/-
  What package codec owes; the law's fixed calls from it.
-/
import Derived.Test.YthehjhckcblbdaaCodDo
import Derived.Test.YthehjhckcblbdaaGe
namespace Go.Proofs.Ythehjhckcblbdaa.Pk
set_option maxRecDepth 100000
open Go.RowKit Go.Lib Mt Ma Mb
structure SpecE : Prop where
  enc : ∀ (s : ByteArray) (w : World), Calls Try.prog 9 #[.string s] w fun e w' => e = .returned (encV s) ∧ Below w.heap.size w w'
  dec : ∀ (s : ByteArray) (p : Bool) (w : World), s.size ≤ 3000 → Calls Try.prog 14 #[.string s, .bool p] w fun e w' => e = .returned (told (decA s p)) ∧ Below w.heap.size w w'
  sec : ∀ (n : Int) (w : World), -9223372036854775808 ≤ n → n ≤ 9223372036854775807 → Calls Try.prog 12 #[.int .i64 n] w fun e w' => e = .returned (.int .i64 (secI n)) ∧ Below w.heap.size w w'
def zb : ByteArray := ⟨(List.replicate 256 (0 : UInt8)).toArray⟩
theorem zb_size : zb.size = 256 := by unfold zb; rw [size_mk, List.length_replicate]
theorem zb_short : (encT zb).length < 32 := by decide +kernel
theorem zb_enc : (encA zb).2 = true ∧ (encA zb).1.size < 32 := by
  have h := zb_short
  unfold encA
  rw [if_pos (by omega)]
  exact ⟨rfl, by rw [size_mk]; exact h⟩
theorem zeros_any (w : World) : Calls Try.prog 23 #[] w fun e w' => e = .returned (.string zb) ∧ Below w.heap.size w w' := by
  obtain ⟨i0, hi0, hz0, hz1, hz2⟩ := info_parts info5
  have hmk := run_make (P := Try.prog) w 66 5 i0 (.int .u8 0) Try.underlying66 hi0 hz0 .i64 .i64 256 256 (by omega) (by omega) (by rw [hz2]; omega) (by omega)
  rw [hz1] at hmk
  replace hmk : (Instr.makeSlice 66 (.int .i64 256) (.int .i64 256)).run Try.prog w = .ok (.slice (some ⟨w.heap.size, 0, none⟩) 256 256) (w.alloc (.cells (madeCells #[.int .u8 0] 256) 5)) := hmk
  have hcv : (convert 66 9 (.slice (some ⟨w.heap.size, 0, none⟩) 256 256)).run Try.prog (w.alloc (.cells (madeCells #[.int .u8 0] 256) 5)) = .ok (.string zb) (w.alloc (.cells (madeCells #[.int .u8 0] 256) 5)) := by
    refine run_convert_bytes_back _ 66 9 5 ⟨w.heap.size, 0, none⟩ 256 (List.replicate 256 0) Try.underlying66 Try.underlying5 Try.underlying9 (fun j hj => ?_)
    rw [List.getElem_replicate]
    rw [List.length_replicate] at hj
    rw [Addr.add_lit, Nat.zero_add, cell_of_row _ _ j _ 5 (0, 0) (heap_alloc_new w _)]
    simp [madeCells, hj, Nat.mod_one]
  generalize zb = z at *
  clear hi0 hz0 hz1 hz2
  go_enter Try.func23, Try.ntmps23
  go_wp2
  go_ret
  exact ⟨rfl, (Below.refl _ _).alloc (Nat.le_refl _) _⟩
set_option maxHeartbeats 4000000 in
theorem fixed_any (S : SpecE) (w : World) : Calls Try.prog 11 #[] w fun e w' => e = .returned (.bool true) ∧ Below w.heap.size w w' := by
  have kz := fun w => zeros_any w
  have k1 := fun w => S.enc zb w
  have k2 := fun w => S.dec (encA zb).1 (encA zb).2 w (by have := (enc_size zb zb_size).1; omega)
  have k3 := fun w => S.enc ⟨#[97]⟩ w
  have k4 := fun w => S.dec ⟨#[97]⟩ false w (by decide)
  have k5 := fun w => S.sec 33 w (by decide) (by decide)
  have k6 := fun w => S.sec 0 w (by decide) (by decide)
  rw [show encV zb = .tuple #[.string (encA zb).1, .bool (encA zb).2, .bool true] from if_pos zb_size, zb_enc.1] at k1
  rw [dec_enc zb zb_size] at k2
  rw [zb_enc.1] at k2
  replace k2 : ∀ w, Calls Try.prog 14 #[.string (encA zb).1, .bool true] w fun e w' => e = .returned (.tuple #[.string zb, .bool true]) ∧ Below w.heap.size w w' := fun w => by
    have := k2 w
    unfold told at this
    simp only at this
    rw [mk_toList] at this
    exact this
  rw [show encV ⟨#[97]⟩ = .tuple #[.string ⟨#[]⟩, .bool false, .bool false] from if_neg (by decide)] at k3
  rw [show told (decA ⟨#[97]⟩ false) = .tuple #[.string ⟨#[]⟩, .bool false] from by unfold decA; rw [if_pos rfl, if_neg (by decide)]; rfl] at k4
  rw [show secI 33 = 2 by decide] at k5
  rw [show secI 0 = 0 by decide] at k6
  have zl : (((encA zb).1.size : Nat) : Int) < 32 := by have := zb_enc.2; omega
  generalize (encA zb).1 = t at *
  generalize zb = z at *
  go_enter Try.func11, Try.ntmps11
  go_wp2_with fail
  go_at_call 23
  refine (kz _).mono ?_
  rintro e w1 ⟨rfl, b1⟩
  have B1 := Lib.hid b1
  clear b1
  go_wp2_with fail
  go_at_call 9
  refine (k1 _).mono ?_
  rintro e w2 ⟨rfl, b2⟩
  have B2 := Lib.hid (B1.out.next b2)
  clear b2 B1 k1
  go_wp2_with fail
  go_at_call 14
  refine (k2 _).mono ?_
  rintro e w3 ⟨rfl, b3⟩
  have B3 := Lib.hid (B2.out.next b3)
  clear b3 B2 k2
  go_wp2_with fail
  go_at_call 9
  refine (k3 _).mono ?_
  rintro e w4 ⟨rfl, b4⟩
  have B4 := Lib.hid (B3.out.next b4)
  clear b4 B3 k3
  go_wp2_with fail
  go_at_call 14
  refine (k4 _).mono ?_
  rintro e w5 ⟨rfl, b5⟩
  have B5 := Lib.hid (B4.out.next b5)
  clear b5 B4 k4
  go_wp2_with fail
  go_at_call 23
  refine (kz _).mono ?_
  rintro e w6 ⟨rfl, b6⟩
  have B6 := Lib.hid (B5.out.next b6)
  clear b6 B5 kz
  go_wp2_with fail
  go_at_call 12
  refine (k5 _).mono ?_
  rintro e w7 ⟨rfl, b7⟩
  have B7 := Lib.hid (B6.out.next b7)
  clear b7 B6 k5
  go_wp2_with fail
  go_at_call 12
  refine (k6 _).mono ?_
  rintro e w8 ⟨rfl, b8⟩
  have B8 := Lib.hid (B7.out.next b8)
  clear b8 B7 k6
  go_wp2
  go_ret
  exact ⟨rfl, B8.out⟩
end Go.Proofs.Ythehjhckcblbdaa.Pk

