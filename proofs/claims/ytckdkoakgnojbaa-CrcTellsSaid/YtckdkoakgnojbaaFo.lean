/-
  Four bytes as an argument: what is read of them, and that they read so wherever.
-/
import Derived.Test.YtckdkoakgnojbaaTe
import Derived.ProofKit
import Derived.OpenShut
import Derived.Lib.SmallJoins
namespace Go.Proofs.Ytckdkoakgnojbaa
open Go.ChangeShapes Go.WideShapes Go.ChangeAt Go.RowKit
theorem cells30 : Try.prog.cellsOf 30 = 4 := by kernel_rfl
theorem cells5 : Try.prog.cellsOf 5 = 1 := by kernel_rfl
def fourD {H : Type} (b : Nat → UInt8) : DataW H := .agg [.lit (.int .u8 ((b 0).toNat : Int)), .lit (.int .u8 ((b 1).toNat : Int)), .lit (.int .u8 ((b 2).toNat : Int)), .lit (.int .u8 ((b 3).toNat : Int))]
theorem byte_of {n : Int} (h : (Lit.int .u8 n).wf = true) : ∃ x : UInt8, n = ((x.toNat : Nat) : Int) := by
  have hb := bounds_u8 h
  refine ⟨UInt8.ofNat n.toNat, ?_⟩
  rw [byte_nat]
  omega
theorem byte_wf (x : UInt8) : (Lit.int .u8 ((x.toNat : Nat) : Int)).wf = true := by
  have := x.toNat_lt
  simp [Lit.wf, IntKind.min, IntKind.max, IntKind.signed, IntKind.bits]
  omega
theorem open_four {H : Type} {enc : TypeId × Value → H} {w : World} {base b0 : Nat} {r : Reach} {sp : Nat → Bool} {held : Bool} {v : Value} {d : DataW H} {ps : List MemPlace}
    (hv : Value.okWide Try.prog w r b0 30 v) (h : DataW.Trod enc Try.prog w base sp held 30 v d ps) : ∃ b : Nat → UInt8, v = .agg (four b) ∧ d = fourD b ∧ ps = [] := by
  simp only [Value.okWide, Try.underlying30] at hv
  obtain ⟨cs, rfl, hsz, _⟩ := hv
  obtain ⟨c0, c1, c2, c3, rfl⟩ := Joins.array4 (hsz.trans cells30)
  obtain ⟨fuel, hf⟩ := h
  obtain ⟨xs, m, rfl, hx, _, hxl, hel⟩ := DataW.trod_array Try.underlying30 hf
  rw [cells5] at hel
  obtain ⟨x0, x1, x2, x3, rfl⟩ : ∃ x0 x1 x2 x3, xs = [x0, x1, x2, x3] := by
    match xs, hxl with
    | [a, b, c, d], _ => exact ⟨a, b, c, d, rfl⟩
  obtain ⟨n0, e0, rfl, w0⟩ := DataW.trod_int Try.underlying5 (hel 0 (by decide))
  obtain ⟨n1, e1, rfl, w1⟩ := DataW.trod_int Try.underlying5 (hel 1 (by decide))
  obtain ⟨n2, e2, rfl, w2⟩ := DataW.trod_int Try.underlying5 (hel 2 (by decide))
  obtain ⟨n3, e3, rfl, w3⟩ := DataW.trod_int Try.underlying5 (hel 3 (by decide))
  simp [Value.cells] at e0 e1 e2 e3
  subst e0 e1 e2 e3
  obtain ⟨y0, rfl⟩ := byte_of w0
  obtain ⟨y1, rfl⟩ := byte_of w1
  obtain ⟨y2, rfl⟩ := byte_of w2
  obtain ⟨y3, rfl⟩ := byte_of w3
  refine ⟨fun j => if j = 0 then y0 else if j = 1 then y1 else if j = 2 then y2 else y3, rfl, ?_, ?_⟩
  · have := congrArg Prod.fst hx
    simpa [fourD] using this
  · have := congrArg Prod.snd hx
    simpa using this
theorem shut_four {H : Type} {enc : TypeId × Value → H} {w : World} {base : Nat} {sp : Nat → Bool} {held : Bool} (b : Nat → UInt8) : DataW.Trod enc Try.prog w base sp held 30 (.agg (four b)) (fourD b) [] :=
  ⟨2, by simp [DataW.trod, Try.underlying30, Try.underlying5, cells30, cells5, four, fourD, Value.cells, List.range, List.range.loop, byte_wf]⟩
end Go.Proofs.Ytckdkoakgnojbaa
