/-
  Package match's functions answer as the structure Spec tells.
-/
import Derived.Test.YtdiimebcahhieaaSl
namespace Go.Proofs.Ytdiimebcahhieaa
open Go.RowKit Mt Go.Lib
theorem expand_zero (p : Option Addr) (cap : Nat) (most : Int) (w : World) :
    Calls Try.prog 7 #[.slice p 0 cap, .int .i64 most] w fun e w' => e = .returned (told (some [])) ∧ Below w.heap.size w w' := by
  have HB := Lib.hid (Below.refl w.heap.size w)
  have htx := row_text (o := []) (World.ownsRow_nil w 0 5 1)
  go_enter Try.func7, Try.ntmps7
  go_wp2
  go_loopw [6, 11] (fun v n wr => v = .slice Option.none 0 0 ∧ n = .int .i64 0 ∧ wr = w) (fun _ _ _ => 0)
  case atStart => exact ⟨rfl, rfl, rfl⟩
  case round =>
    obtain ⟨rfl, rfl, rfl⟩ := hrel
    go_wp2
    go_ret2
    exact ⟨rfl, HB.out⟩
theorem spec : Spec where
  may t w := may_any t w
  expand T p cap most w hn h := by
    rcases h.2.2 with rfl | ⟨blk, off, rfl, k⟩
    · exact expand_zero p cap most w
    · exact expand_any T blk off cap most hn w k
  split s w hs := split_any s w hs
  longest s p w hs := longest_any s hs p w
end Go.Proofs.Ytdiimebcahhieaa
