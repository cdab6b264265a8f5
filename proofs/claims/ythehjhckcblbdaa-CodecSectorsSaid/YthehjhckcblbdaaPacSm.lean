/-
  The document's sameness of lists of tokens; its Expand of tokens that lie.
-/
import Derived.Test.YthehjhckcblbdaaPacTk
import Derived.Laws.StructEq
namespace Go.Proofs.Ythehjhckcblbdaa.Pk
set_option maxRecDepth 100000
open Go.RowKit Mt Ma Mb Cn Go.Lib
theorem ToksLie.at {w : World} {p : Option Addr} {T : List Tok} {cap : Nat} (h : ToksLie w p T cap) {i : Nat} (hi : i < T.length) : ∃ blk off, p = some ⟨blk, off, Option.none⟩ ∧ ToksAt w blk off T := by
  rcases h.lies with rfl | ⟨blk, off, e, k⟩
  · simp at hi
  · exact ⟨blk, off, e, k⟩
set_option maxHeartbeats 1000000 in
theorem expand_none (p : Option Addr) (cap : Nat) (most : Int) (w : World) :
    Calls Try.prog 27 #[.slice p 0 cap, .int .i64 most] w fun e w' => e = .returned (told (some [])) ∧ Below w.heap.size w w' := by
  have H0 : Hid (RowU w (w.alloc (.cells #[] 5)) w.heap.size 0 []) := ⟨World.ownsRow_made w #[] 0 (Nat.le_refl _) (by decide) rfl, (Below.refl _ _).alloc (Nat.le_refl _) _⟩
  have htx := H0.out.text
  simp only [List.length_nil] at htx
  go_enter Try.func27, Try.ntmps27
  go_wp2
  go_loopw [6, 7, 8, 9] (fun v n _ _ wr => v = .slice (some ⟨w.heap.size, 0, Option.none⟩) 0 0 ∧ n = .int .i64 0 ∧ wr = w.alloc (.cells #[] 5)) (fun _ _ _ _ _ => 0)
  case atStart => exact ⟨rfl, rfl, rfl⟩
  case round =>
    obtain ⟨rfl, rfl, rfl⟩ := hrel
    go_wp2
    go_ret2
    exact ⟨rfl, H0.out.below⟩
theorem expand_doc (T : List Tok) (n : Nat) (hT : T.length = n) (p : Option Addr) (cap : Nat) (most : Int) (w : World) (hn : n ≤ 2000) (h : ToksLie w p T cap) :
    Calls Try.prog 27 #[.slice p n cap, .int .i64 most] w fun e w' => e = .returned (told (Mt.expand most [] T)) ∧ Below w.heap.size w w' := by
  subst hT
  rcases h.lies with rfl | ⟨blk, off, rfl, k⟩
  · exact expand_none p cap most w
  · exact expand_ref T blk off cap most hn w k
end Go.Proofs.Ythehjhckcblbdaa.Pk
