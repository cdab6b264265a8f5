/-
  pack.Read: the deferred closure, and Read.
-/
import Derived.Test.YthehjhckcblbdaaPacKb
import Derived.Defers
import Derived.Recover
import Derived.Laws.Pointers
namespace Go.Proofs.Ythehjhckcblbdaa.Pk
set_option maxRecDepth 100000
open Go.RowKit Go.Lib
theorem wp_frame {P : Program} {c : Code} {Q : Exit → Act → World → Prop} {t1 t2 : Array Value} {ds : List Deferred} {w : World} (h : t1 = t2) (k : c.wp P Q ⟨t2, ds⟩ w) : c.wp P Q ⟨t1, ds⟩ w := h ▸ k
theorem known_none (w : World) : Calls Try.prog 75 #[.iface 112 (.agg #[])] w fun e w' => e = .returned (.tuple #[]) ∧ w' = w.alloc (.cells #[] 112) := by
  have has : ∀ w, (Instr.typeAssert (.iface 112 (.agg #[])) 20 112 true).run Try.prog w = .ok (.tuple #[.agg #[], .bool true]) w := fun _ => by kernel_rfl
  go_enter Try.func75, Try.ntmps75
  go_wp2
  go_end0
  exact ⟨rfl, rfl⟩
set_option maxHeartbeats 1000000 in
theorem catch_idle (p0 p1 p2 : Addr) (w : World) :
    CallsD Try.prog 74 #[.pointer (some p0), .pointer (some p1), .pointer (some p2)] .returning w fun e u' w' => e = .returned (.tuple #[]) ∧ u' = .returning ∧ w' = w := by
  refine callsD_of_wpS Try.func74 rfl fun c₀ cs hu => ?_
  apply wpS_seq
  apply wpS_region
  simp [wpOpsS, go_sem, recoverD, hu, Try.ntmps74, Exit.thenS]
  refine wpS_of_wp ?_
  have hnn : ∀ w, (binOp BinOp.neq 20 .nilIface .nilIface).run Try.prog w = .ok (.bool false) w := fun _ => by kernel_rfl
  go_wp2
  cases c₀
  simp_all [bodyPostS, results, Try.results74]
set_option maxHeartbeats 1000000 in
theorem catch_none (B : Nat) (q0 : Option Addr) (n0 c0 : Nat) (y0 : Int) (z0 : Bool) (w : World) (hB : B + 2 < w.heap.size) (h0 : w.cell? ⟨B, 0, none⟩ = some (.slice q0 n0 c0)) (h1 : w.cell? ⟨B + 1, 0, none⟩ = some (.int .i64 y0)) (h2 : w.cell? ⟨B + 2, 0, none⟩ = some (.bool z0)) (f0 : w.frozen? ⟨B, 0, none⟩ = false) (f1 : w.frozen? ⟨B + 1, 0, none⟩ = false) (f2 : w.frozen? ⟨B + 2, 0, none⟩ = false) :
    CallsD Try.prog 74 #[.pointer (some ⟨B, 0, none⟩), .pointer (some ⟨B + 1, 0, none⟩), .pointer (some ⟨B + 2, 0, none⟩)] (.panicking noneP) w fun e u' w' =>
      e = .returned (.tuple #[]) ∧ u' = .panicking [{ v := .iface 112 (.agg #[]), recovered := true }] ∧ w' = (((w.alloc (.cells #[] 112)).setCell ⟨B, 0, none⟩ (.slice none 0 0)).setCell ⟨B + 1, 0, none⟩ (.int .i64 0)).setCell ⟨B + 2, 0, none⟩ (.bool false) := by
  have hkn := known_none w
  unfold noneP
  refine callsD_of_wpS Try.func74 rfl fun c₀ cs hu => ?_
  apply wpS_seq
  apply wpS_region
  simp [wpOpsS, go_sem, recoverD, hu, Try.ntmps74, Exit.thenS]
  refine wpS_of_wp ?_
  have hnn : ∀ w, (binOp BinOp.neq 20 (.iface 112 (.agg #[])) .nilIface).run Try.prog w = .ok (.bool true) w := fun _ => by kernel_rfl
  have k0 : (w.alloc (.cells #[] 112)).cell? ⟨B, 0, none⟩ = some (.slice q0 n0 c0) := by rw [World.cell?_alloc_old _ _ _ (by show B ≠ _; omega)]; exact h0
  have k1 : (w.alloc (.cells #[] 112)).cell? ⟨B + 1, 0, none⟩ = some (.int .i64 y0) := by rw [World.cell?_alloc_old _ _ _ (by show B + 1 ≠ _; omega)]; exact h1
  have k2 : (w.alloc (.cells #[] 112)).cell? ⟨B + 2, 0, none⟩ = some (.bool z0) := by rw [World.cell?_alloc_old _ _ _ (by show B + 2 ≠ _; omega)]; exact h2
  have g0 : (w.alloc (.cells #[] 112)).frozen? ⟨B, 0, none⟩ = false := by rw [World.frozen?_alloc_old _ _ _ (by show B ≠ _; omega)]; exact f0
  have g1 : (w.alloc (.cells #[] 112)).frozen? ⟨B + 1, 0, none⟩ = false := by rw [World.frozen?_alloc_old _ _ _ (by show B + 1 ≠ _; omega)]; exact f1
  have g2 : (w.alloc (.cells #[] 112)).frozen? ⟨B + 2, 0, none⟩ = false := by rw [World.frozen?_alloc_old _ _ _ (by show B + 2 ≠ _; omega)]; exact f2
  refine wp_frame (t2 := #[.pointer (some ⟨B, 0, none⟩), .pointer (some ⟨B + 1, 0, none⟩), .pointer (some ⟨B + 2, 0, none⟩), .iface 112 (.agg #[]), .iface 112 (.agg #[]), undef, undef, undef, undef]) (by rfl) ?_
  go_wp2_with fail
  go_at_call 75
  refine hkn.mono ?_
  rintro e w' ⟨rfl, rfl⟩
  go_wp2
  cases c₀
  simp_all [bodyPostS, results, Try.results74]
end Go.Proofs.Ythehjhckcblbdaa.Pk

