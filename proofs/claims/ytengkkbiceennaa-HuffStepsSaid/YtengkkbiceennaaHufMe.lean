/-
  Methods called through an interface value that holds a pointer to a slice: which function, with which receiver; a heap's Less and Swap over trees that lie in memory (over a stand-in).
-/
import Derived.Test.YtengkkbiceennaaHufRa
import Derived.Test.YtengkkbiceennaaHufHp
import Derived.Sort.WalkB2
import Derived.Deep.QuietTactic
import Derived.RegionTactic
namespace Go.Proofs.Ytengkkbiceennaa
open Go.RowKit Go.Lib
set_option maxRecDepth 100000

theorem meth_push (a : Addr) (w : World) : (method 178 51 (.pointer (some a)) "Push").run Try.prog w = .ok (57, .pointer (some a)) w := by kernel_rfl

theorem meth_pop (a : Addr) (w : World) : (method 178 51 (.pointer (some a)) "Pop").run Try.prog w = .ok (56, .pointer (some a)) w := by kernel_rfl

theorem load_head (a : Addr) (v : Value) (w : World) (h : w.cell? a = some v) : (loadVar 36 a).run Try.prog w = .ok v w := by
  simp [loadVar, isAgg, h]

theorem nil_check (a : Addr) (w : World) (n : String) : (Builtin.ssaWrapNilChk_ #[51] 51 #[.pointer (some a), strVal "", strVal n]).run Try.prog w = .ok (.pointer (some a)) w := by kernel_rfl

theorem recv_head (a : Addr) (v : Value) (w : World) (h : w.cell? a = some v) (n : String) : (receiverAt 51 (.val (.pointer (some a))) false (some n)).run Try.prog w = .ok v w := by
  have hu : (underlying 51).run Try.prog w = .ok (.pointer 36) w := by kernel_rfl
  unfold receiverAt
  rw [Sem.run_bind, hu]
  simp only [Result.andThen_ok, Place.get]
  simp only [Sem.run_bind, Sem.run_pure, Result.andThen_ok, asAddr]
  rw [nil_check]
  simp [load_head a v w h]

/-- A method of a value receiver, called through a pointer: its function, and what the pointer's cell holds. -/
theorem meth_head (s : String) (f : FuncId) (sig : TypeId) (a : Addr) (v : Value) (w : World) (h : w.cell? a = some v)
    (hm : (Try.prog.info? 51).bind (fun i => i.methods.find? (·.name == s)) = some ⟨s, sig, #[], some (f, false)⟩) : (method 178 51 (.pointer (some a)) s).run Try.prog w = .ok (f, v) w := by
  cases hi : Try.prog.info? 51 with
  | none => rw [hi] at hm; exact absurd hm (by simp)
  | some i =>
    rw [hi] at hm
    have hm' : i.methods.find? (·.name == s) = some ⟨s, sig, #[], some (f, false)⟩ := hm
    unfold method
    simp only [Sem.run_bind, typeInfo, run_program, Result.andThen_ok, hi, Sem.run_pure, hm']
    have hf : (follow (#[] : Array FieldStep).toList 51 (Place.val (.pointer (some a)))).run Try.prog w = .ok (51, Place.val (.pointer (some a))) w := rfl
    rw [hf]
    simp only [Result.andThen_ok, Array.isEmpty_empty, if_true, recv_head a v w h]

theorem meth_len (a : Addr) (v : Value) (w : World) (h : w.cell? a = some v) : (method 178 51 (.pointer (some a)) "Len").run Try.prog w = .ok (53, v) w := meth_head _ _ 55 _ _ _ h (by kernel_rfl)
theorem meth_less (a : Addr) (v : Value) (w : World) (h : w.cell? a = some v) : (method 178 51 (.pointer (some a)) "Less").run Try.prog w = .ok (54, v) w := meth_head _ _ 30 _ _ _ h (by kernel_rfl)
theorem meth_swap (a : Addr) (v : Value) (w : World) (h : w.cell? a = some v) : (method 178 51 (.pointer (some a)) "Swap").run Try.prog w = .ok (55, v) w := meth_head _ _ 60 _ _ _ h (by kernel_rfl)


theorem drewN_two (w : World) (n m : Nat) : (w.drewN n).drewN m = w.drewN (n + m) := by unfold World.drewN; simp [Nat.add_assoc]
/-- Which of two trees is taken first: by weight, by number. -/
theorem less_at (blk c size : Nat) (W : World) (gi gj : Nat) (x y : Hf.T) (i j : Nat) (hi : i < size) (hj : j < size)
    (ci : W.cell? ⟨blk, i, none⟩ = some (.pointer (some ⟨gi, 0, none⟩))) (cj : W.cell? ⟨blk, j, none⟩ = some (.pointer (some ⟨gj, 0, none⟩)))
    (wi : W.cell? ⟨gi, 0, none⟩ = some (.int .i64 x.w)) (ni : W.cell? ⟨gi, 1, none⟩ = some (.int .i64 x.n))
    (wj : W.cell? ⟨gj, 0, none⟩ = some (.int .i64 y.w)) (nj : W.cell? ⟨gj, 1, none⟩ = some (.int .i64 y.n)) :
    Calls Try.prog 54 #[.slice (some ⟨blk, 0, none⟩) size c, .int .i64 i, .int .i64 j] W fun e w' => e = .returned (.bool (decide (Hf.T.lt x y))) ∧ ∃ q, w' = W.drewN q := by
  have hlt : Hid (decide (Hf.T.lt x y) = decide (x.w < y.w ∨ x.w = y.w ∧ x.n < y.n)) := rfl
  generalize decide (Hf.T.lt x y) = be at *
  generalize x.w = a at *
  generalize y.w = b at *
  generalize x.n = d at *
  generalize y.n = e at *
  by_cases hab : a = b
  · subst hab
    go_enter Try.func54, Try.ntmps54
    go_wp2
    go_quiet (fail)
    go_wp2
    go_quiet (fail)
    go_wp2
    go_ret
    exact ⟨by rw [hlt.out]; simp, _, drewN_two _ _ _⟩
  · have hz : ((a : Int) == (b : Int)) = false := by simp; omega
    go_enter Try.func54, Try.ntmps54
    go_wp2
    go_quiet (fail)
    go_wp2
    go_quiet (fail)
    go_wp2
    go_ret
    exact ⟨by rw [hlt.out]; simp [hab], _, drewN_two _ _ _⟩
theorem swap_at (blk c size : Nat) (W : World) (x y : Addr) (i j : Nat) (hi : i < size) (hj : j < size)
    (ci : W.cell? ⟨blk, i, none⟩ = some (.pointer (some x))) (cj : W.cell? ⟨blk, j, none⟩ = some (.pointer (some y))) (fi : W.frozen? ⟨blk, i, none⟩ = false) (fj : W.frozen? ⟨blk, j, none⟩ = false) :
    Calls Try.prog 55 #[.slice (some ⟨blk, 0, none⟩) size c, .int .i64 i, .int .i64 j] W fun e w' => e = .returned (.tuple #[]) ∧ ∃ q, w' = ((W.setCell ⟨blk, i, none⟩ (.pointer (some y))).setCell ⟨blk, j, none⟩ (.pointer (some x))).drewN q := by
  obtain ⟨v', hy'⟩ := cell?_setCell_some (w := W) (p := ⟨blk, i, none⟩) (x := .pointer (some y)) (q := ⟨blk, j, none⟩) cj
  go_enter Try.func55, Try.ntmps55
  go_wp2
  go_region
  all_goals (try go_wp2)
  all_goals go_end0
  all_goals exact ⟨rfl, 1, rfl⟩
end Go.Proofs.Ytengkkbiceennaa

