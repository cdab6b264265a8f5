/-
  Contract of the document's May.
-/
import Derived.Test.YtdiimebcahhieaaGe
import Derived.Test.YtdiimebcahhieaaMatMt
namespace Go.Proofs.Ytdiimebcahhieaa
open Go.RowKit Mt Go.Lib
def tokV (t : Tok) : Value := .agg #[.int .i64 t.byte, .int .i64 t.dist, .int .i64 t.len]
theorem ret_bool {a b : Bool} (h : a = b) : Ending.returned (.bool a) = .returned (.bool b) := by rw [h]
set_option maxHeartbeats 1000000 in
theorem may_ref (t : Tok) (w : World) : Calls Try.prog 10 #[tokV t] w fun e w' => e = .returned (.bool (may t)) ∧ Below w.heap.size w w' := by
  have hB := Lib.hid (fun o => (Below.refl w.heap.size w).alloc (Nat.le_refl _) o)
  obtain ⟨b, d, n⟩ := t
  unfold tokV
  generalize hv : may ⟨b, d, n⟩ = v
  have HV := Lib.hid hv
  clear hv
  go_enter Try.func10, Try.ntmps10
  go_wp2
  all_goals
    go_ret
    refine ⟨ret_bool ?_, hB.out _⟩
    rw [← HV.out]
    simp only [may]
    clear HV hB
    try simp only [beq_iff_eq, beq_eq_false_iff_ne, ne_eq] at *
    split <;> (rw [Bool.eq_iff_iff]; simp only [Bool.and_eq_true, decide_eq_true_eq, Bool.false_eq_true]; constructor <;> intro hx <;> first | exact hx.elim | omega)
end Go.Proofs.Ytdiimebcahhieaa

