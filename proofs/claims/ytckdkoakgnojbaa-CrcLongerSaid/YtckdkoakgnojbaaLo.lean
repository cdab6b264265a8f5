/-
  The walk of CrcLonger: it returns true for every text and byte.
-/
import Derived.Test.YtckdkoakgnojbaaFi
import Derived.Deep.DeepCutAuto
namespace Go.Proofs.Ytckdkoakgnojbaa
open Go.RowKit Ma Go.Lib
theorem conv1 (W : World) (B : Nat) (b : Nat) (h : W.cell? ⟨B, 0, none⟩ = some (.int .u8 b)) : (convert 33 9 (.slice (some ⟨B, 0, none⟩) 1 1)).run Try.prog W =
      .ok (.string ⟨#[UInt8.ofNat b]⟩) W := by
  rw [run_convert_bytes_arg W 33 5 Try.underlying33 Try.underlying5 B 0 1 1 [(b : Int)] rfl (fun i hi => by
    obtain rfl : i = 0 := by omega
    exact h) 9 Try.underlying9]
  have e : strOfNums [(b : Int)] = ⟨#[UInt8.ofNat b]⟩ := by unfold strOfNums; simp
  rw [e]
def Keeps (w w' : World) : Prop := ∀ b o, b < w.heap.size → w'.cell? ⟨b, o, none⟩ = w.cell? ⟨b, o, none⟩
theorem seal_keep (s : ByteArray) (hs : s.size ≤ 281474976710656) (w0 w : World) (h : Below w0.heap.size w0 w) : Calls Try.prog 15 #[.string s] w fun e w' => e = .returned (.string (sealB s)) ∧ Below w0.heap.size w0 w' ∧ Keeps w w' :=
  (seal_any s w hs).mono fun _ _ ⟨he, hb⟩ => ⟨he, h.next hb, fun _ o hB => hb.cell (p := ⟨_, o, none⟩) hB⟩
theorem rseal_keep (s : ByteArray) (hs : s.size ≤ 281474976710656) (w0 w : World) (h : Below w0.heap.size w0 w) : Calls Try.prog 16 #[.string s] w fun e w' => e = .returned (.string (sealB s)) ∧ Below w0.heap.size w0 w' ∧ Keeps w w' :=
  (seal_doc s w hs).mono fun _ _ ⟨he, hb⟩ => ⟨he, h.next hb, fun _ o hB => hb.cell (p := ⟨_, o, none⟩) hB⟩
theorem belowNew {w0 w : World} (h : Below w0.heap.size w0 w) (o : Obj) : Below w0.heap.size w0 (w.alloc o) := h.alloc h.size o
set_option maxHeartbeats 1000000 in
theorem longer_big (s : ByteArray) (b : Nat) (hs : 10000 < s.size) (w0 w : World) (h : Below w0.heap.size w0 w) :
    Calls Try.prog 7 #[.string s, .int .u8 b] w fun e w' => e = .returned (.bool true) ∧ Below w0.heap.size w0 w' := by
  have k3 := fun w h => fixed_at w0 w h
  have hs' : (10000 : Int) < (s.size : Int) := by omega
  go_enter Try.func7, Try.ntmps7
  go_wp2_with (first
    | (go_at_call 10; ((with_reducible refine (k3 _ (by assumption)).mono ?_); rintro e w' ⟨rfl, hB⟩)))
  go_ret
  exact ⟨rfl, by assumption⟩
set_option maxHeartbeats 4000000 in
theorem longer_small (s : ByteArray) (b : Nat) (hs : s.size ≤ 10000) (w0 w : World) (h : Below w0.heap.size w0 w) :
    Calls Try.prog 7 #[.string s, .int .u8 b] w fun e w' => e = .returned (.bool true) ∧ Below w0.heap.size w0 w' := by
  have z1 := seal_size s
  have z2 := seal_size (sealB s)
  have k3 := fun w h => fixed_at w0 w h
  have k4 := fun w h => seal_at s (by omega) w0 w h
  have k5 := fun w h => seal_at (sealB s) (by omega) w0 w h
  have k6 := fun w h => sealed_from s (by omega) w0 w h
  have k7 := fun w h => sealed_from (sealB s) (by omega) w0 w h
  have k4b := fun w h => seal_keep s (by omega) w0 w h
  have k8 := fun w h => rseal_keep s (by omega) w0 w h
  have zx : (sealB s ++ ⟨#[UInt8.ofNat b]⟩).size = s.size + 5 := by rw [ByteArray.size_append, seal_size]; rfl
  have k9 := fun w h => open_at (sealB s ++ ⟨#[UInt8.ofNat b]⟩) (by omega) w0 w h
  have k10 := fun w h => ropen_at (sealB s ++ ⟨#[UInt8.ofNat b]⟩) (by omega) w0 w h
  have c1 := fun W B h => conv1 W B b h
  have zu : (ByteArray.mk #[UInt8.ofNat b]).size = 1 := rfl
  generalize (ByteArray.mk #[UInt8.ofNat b]) = ub at *
  generalize sealB (sealB s) = u at *
  generalize sealB s = v at *
  have zs : (s.size : Int) ≤ 10000 := by omega
  generalize openB (v ++ ub) = o at *
  generalize opens (v ++ ub) = p at *
  clear hs z2 zx
  go_enter Try.func7, Try.ntmps7
  go_upto_region 5 with (first
    | (go_at_call 10; ((with_reducible refine (k3 _ (by assumption)).mono ?_); rintro e w' ⟨rfl, hB⟩))
    | (go_at_call 15; ((with_reducible refine (k4 _ (by assumption)).mono ?_); rintro e w' ⟨rfl, hB⟩))
    | (go_at_call 15; ((with_reducible refine (k5 _ (by assumption)).mono ?_); rintro e w' ⟨rfl, hB⟩))
    | (go_at_call 8; ((with_reducible refine (k7 _ (by assumption)).mono ?_); rintro e w' ⟨rfl, hB⟩))
    | (go_at_call 8; ((with_reducible refine (k6 _ (by assumption)).mono ?_); rintro e w' ⟨rfl, hB⟩)))
  go_cut [9, 10] (fun s9 s10 wx => s9 = .string o ∧ s10 = .bool p ∧ Below w0.heap.size w0 wx)
  case first =>
    go_region_with (first
      | (go_at_call 15; ((with_reducible refine (k4b _ ?_).mono ?_); (repeat (first | assumption | apply belowNew | apply Below.drew)); rintro e w' ⟨rfl, hB, hK⟩; unfold Keeps at hK))
      | (go_at_call 8; ((with_reducible refine (k9 _ ?_).mono ?_); (repeat (first | assumption | apply belowNew | apply Below.drew)); rintro e w' ⟨rfl, hB⟩)))
    all_goals (go_wp2_with fail; go_meet; exact ⟨rfl, rfl, by assumption⟩)
  case rest =>
  obtain ⟨rfl, rfl, hB⟩ := hcut
  go_upto_region 6 with fail
  go_cut [11, 12] (fun s11 s12 wx => s11 = .string o ∧ s12 = .bool p ∧ Below w0.heap.size w0 wx)
  case first =>
    go_region_with (first
      | (go_at_call 16; ((with_reducible refine (k8 _ ?_).mono ?_); (repeat (first | assumption | apply belowNew | apply Below.drew)); rintro e w' ⟨rfl, hB, hK⟩; unfold Keeps at hK))
      | (go_at_call 9; ((with_reducible refine (k10 _ ?_).mono ?_); (repeat (first | assumption | apply belowNew | apply Below.drew)); rintro e w' ⟨rfl, hB⟩)))
    all_goals (go_wp2_with fail; go_meet; exact ⟨rfl, rfl, by assumption⟩)
  case rest =>
  obtain ⟨rfl, rfl, hB⟩ := hcut
  go_wp2_with fail
  go_ret
  exact ⟨rfl, hB⟩

end Go.Proofs.Ytckdkoakgnojbaa
