/-
  What a disk, and the law's Put, that came in read as.
-/
import Derived.Test.YtaamjamcnnalbaaOpG
import Derived.Test.YtaamjamcnnalbaaDevTk
namespace Go.Proofs.Ytaamjamcnnalbaa.Dv
set_option maxRecDepth 100000
open Go.ChangeShapes Go.WideShapes Go.ChangeAt Go.RowKit Go.Lib
theorem laidOut : laidOutB Try.prog = true := by kernel_rfl
theorem size_int : Try.prog.cellsOf 3 = 1 := by kernel_rfl
theorem size_bool : Try.prog.cellsOf 4 = 1 := by kernel_rfl
theorem size_string : Try.prog.cellsOf 9 = 1 := by kernel_rfl
theorem size_strings : Try.prog.cellsOf 22 = 1 := by kernel_rfl
theorem size_puts : Try.prog.cellsOf 23 = 1 := by kernel_rfl
theorem size_bools : Try.prog.cellsOf 24 = 1 := by kernel_rfl
theorem size_put : Try.prog.cellsOf 45 = 2 := by kernel_rfl
theorem size_disk : Try.prog.cellsOf 26 = 5 := by kernel_rfl
theorem size_lput : Try.prog.cellsOf 28 = 4 := by kernel_rfl
def boolS : Shape Bool := ⟨1, fun b => [.bool b], fun _ => rfl, fun _ u hu => by simp at hu; subst hu; rfl⟩
theorem flags_of {w : World} {p : Option Addr} {L : List Bool} {k : Nat} (h : SLie boolS w p L k) : FlagsLie w p L k := by
  refine ⟨h.len, h.cap, h.lies.imp id fun ⟨blk, off, e, hk⟩ => ⟨blk, off, e, fun i hi => ?_⟩⟩
  have := hk i hi 0 (.bool L[i]) rfl
  rw [show off + i * boolS.size + 0 = off + i by show off + i * 1 + 0 = _; omega] at this
  rw [this, List.getD_eq_getElem?_getD, List.getElem?_eq_getElem hi]; rfl
theorem array5 {α : Type} {cs : Array α} (h : cs.size = 5) : ∃ c0 c1 c2 c3 c4, cs = #[c0, c1, c2, c3, c4] := by
  obtain ⟨l⟩ := cs
  match l, h with
  | [c0, c1, c2, c3, c4], _ => exact ⟨c0, c1, c2, c3, c4, rfl⟩
theorem array4' {α : Type} {cs : Array α} (h : cs.size = 4) : ∃ c0 c1 c2 c3, cs = #[c0, c1, c2, c3] := by
  obtain ⟨l⟩ := cs
  match l, h with
  | [c0, c1, c2, c3], _ => exact ⟨c0, c1, c2, c3, rfl⟩
instance : Inhabited ByteArray := ⟨⟨#[]⟩⟩
section
variable {H : Type} {enc : TypeId × Value → H} {W : World}
theorem open_texts {b0 n : Nat} {sp : Nat → Bool} {hd : Bool} {cs : List Value} {x : DataW H × List MemPlace} (h : DataW.trod enc Try.prog W b0 sp hd n 22 cs = some x) : ∃ (p : Option Addr) (L : List ByteArray) (k : Nat), cs = [.slice p L.length k] ∧ SLie strS W p L k :=
  open_srow strS (by decide) Try.underlying22 size_string (fun m cs x hx => by
    obtain ⟨s, e, _⟩ := DataW.trod_string Try.underlying9 hx
    exact ⟨s, e⟩) h
theorem open_flags {b0 n : Nat} {sp : Nat → Bool} {hd : Bool} {cs : List Value} {x : DataW H × List MemPlace} (h : DataW.trod enc Try.prog W b0 sp hd n 24 cs = some x) : ∃ (p : Option Addr) (L : List Bool) (k : Nat), cs = [.slice p L.length k] ∧ FlagsLie W p L k := by
  obtain ⟨p, L, k, e, hl⟩ := open_srow boolS (by decide) Try.underlying24 size_bool (fun m cs x hx => by
    obtain ⟨s, e, _⟩ := DataW.trod_bool Try.underlying4 hx
    exact ⟨s, e⟩) h
  exact ⟨p, L, k, e, flags_of hl⟩
theorem put_cells {b0 n : Nat} {sp : Nat → Bool} {hd : Bool} {cs : List Value} {x : DataW H × List MemPlace} (h : DataW.trod enc Try.prog W b0 sp hd n 45 cs = some x) : ∃ a : Int × ByteArray, cs = putS.cells a := by
  obtain ⟨xs, n, _, _, hl, hlen, hf⟩ := DataW.trod_struct Try.underlying45 h
  rw [size_put] at hl
  match cs, hl, xs, hlen with
  | [c0, c1], _, [y0, y1], _ =>
    have h0 : DataW.trod enc Try.prog W b0 sp hd n 3 ([c0, c1].take (Try.prog.cellsOf 3)) = some y0 := hf 0 _ rfl
    have h1 : DataW.trod enc Try.prog W b0 sp hd n 9 ([c1].take (Try.prog.cellsOf 9)) = some y1 := hf 1 _ rfl
    rw [size_int] at h0
    rw [size_string] at h1
    obtain ⟨a, e0, _⟩ := DataW.trod_int Try.underlying3 h0
    obtain ⟨s, e1, _⟩ := DataW.trod_string Try.underlying9 h1
    simp at e0 e1
    exact ⟨(a, s), by rw [e0, e1]; rfl⟩
theorem open_puts {b0 n : Nat} {sp : Nat → Bool} {hd : Bool} {cs : List Value} {x : DataW H × List MemPlace} (h : DataW.trod enc Try.prog W b0 sp hd n 23 cs = some x) : ∃ (p : Option Addr) (L : List (Int × ByteArray)) (k : Nat), cs = [.slice p L.length k] ∧ SLie putS W p L k :=
  open_srow putS (by decide) Try.underlying23 size_put (fun _ _ _ hx => put_cells hx) h
theorem open_disk {v : Value} {d : DataW H} {ps : List MemPlace} {b0 : Nat} (hv : Value.okWide Try.prog W .any b0 26 v) (h : DataW.Trod enc Try.prog W 0 (fun _ => true) true 26 v d ps) :
    ∃ D : Dsk, DLie W v D ∧ -9223372036854775808 ≤ D.fuse ∧ D.fuse ≤ 9223372036854775807 := by
  obtain ⟨cs, rfl, hsz⟩ := okWide_struct Try.underlying26 hv
  obtain ⟨c0, c1, c2, c3, c4, rfl⟩ := array5 (hsz.trans size_disk)
  obtain ⟨fuel, hx⟩ := h
  obtain ⟨xs, n, _, _, hl, hlen, hf⟩ := DataW.trod_struct Try.underlying26 hx
  match xs, hlen with
  | [y0, y1, y2, y3, y4], _ =>
    have h0 : DataW.trod enc Try.prog W 0 (fun _ => true) true n 22 ([c0, c1, c2, c3, c4].take (Try.prog.cellsOf 22)) = some y0 := hf 0 _ rfl
    have h1 : DataW.trod enc Try.prog W 0 (fun _ => true) true n 23 ([c1, c2, c3, c4].take (Try.prog.cellsOf 23)) = some y1 := hf 1 _ rfl
    have h2 : DataW.trod enc Try.prog W 0 (fun _ => true) true n 3 ([c2, c3, c4].take (Try.prog.cellsOf 3)) = some y2 := hf 2 _ rfl
    have h3 : DataW.trod enc Try.prog W 0 (fun _ => true) true n 24 ([c3, c4].take (Try.prog.cellsOf 24)) = some y3 := hf 3 _ rfl
    have h4 : DataW.trod enc Try.prog W 0 (fun _ => true) true n 4 ([c4].take (Try.prog.cellsOf 4)) = some y4 := hf 4 _ rfl
    rw [size_strings] at h0
    rw [size_puts] at h1
    rw [size_int] at h2
    rw [size_bools] at h3
    rw [size_bool] at h4
    obtain ⟨p0, L0, k0, e0, l0⟩ := open_texts h0
    obtain ⟨p1, L1, k1, e1, l1⟩ := open_puts h1
    obtain ⟨f, e2, _, wf⟩ := DataW.trod_int Try.underlying3 h2
    obtain ⟨p3, L3, k3, e3, l3⟩ := open_flags h3
    obtain ⟨b, e4, _⟩ := DataW.trod_bool Try.underlying4 h4
    simp at e0 e1 e2 e3 e4
    subst e0 e1 e2 e3 e4
    have hb := bounds_i64 wf
    exact ⟨⟨L0, L1, f, L3, b⟩, ⟨p0, k0, p1, k1, p3, k3, rfl, l0, l1, l3⟩, by have := hb.1; show _ ≤ f; omega, by have := hb.2; show f ≤ _; omega⟩
theorem open_lput {v : Value} {d : DataW H} {ps : List MemPlace} {b0 : Nat} (hv : Value.okWide Try.prog W .any b0 28 v) (h : DataW.Trod enc Try.prog W 0 (fun _ => true) true 28 v d ps) :
    ∃ (a : Int) (t : ByteArray) (f : Int) (pk : Option Addr) (K : List Bool) (ck : Nat), v = .agg #[.int .i64 a, .string t, .int .i64 f, .slice pk K.length ck] ∧ FlagsLie W pk K ck ∧ (-9223372036854775808 ≤ a ∧ a ≤ 9223372036854775807) ∧ (-9223372036854775808 ≤ f ∧ f ≤ 9223372036854775807) := by
  obtain ⟨cs, rfl, hsz⟩ := okWide_struct Try.underlying28 hv
  obtain ⟨c0, c1, c2, c3, rfl⟩ := array4' (hsz.trans size_lput)
  obtain ⟨fuel, hx⟩ := h
  obtain ⟨xs, n, _, _, hl, hlen, hf⟩ := DataW.trod_struct Try.underlying28 hx
  match xs, hlen with
  | [y0, y1, y2, y3], _ =>
    have h0 : DataW.trod enc Try.prog W 0 (fun _ => true) true n 3 ([c0, c1, c2, c3].take (Try.prog.cellsOf 3)) = some y0 := hf 0 _ rfl
    have h1 : DataW.trod enc Try.prog W 0 (fun _ => true) true n 9 ([c1, c2, c3].take (Try.prog.cellsOf 9)) = some y1 := hf 1 _ rfl
    have h2 : DataW.trod enc Try.prog W 0 (fun _ => true) true n 3 ([c2, c3].take (Try.prog.cellsOf 3)) = some y2 := hf 2 _ rfl
    have h3 : DataW.trod enc Try.prog W 0 (fun _ => true) true n 24 ([c3].take (Try.prog.cellsOf 24)) = some y3 := hf 3 _ rfl
    rw [size_int] at h0
    rw [size_string] at h1
    rw [size_int] at h2
    rw [size_bools] at h3
    obtain ⟨a, e0, _, wa⟩ := DataW.trod_int Try.underlying3 h0
    obtain ⟨s, e1, _⟩ := DataW.trod_string Try.underlying9 h1
    obtain ⟨f, e2, _, wf⟩ := DataW.trod_int Try.underlying3 h2
    obtain ⟨p3, L3, k3, e3, l3⟩ := open_flags h3
    simp at e0 e1 e2 e3
    subst e0 e1 e2 e3
    have ba := bounds_i64 wa
    have bf := bounds_i64 wf
    exact ⟨a, s, f, p3, L3, k3, rfl, l3, ⟨by have := ba.1; omega, by have := ba.2; omega⟩, by have := bf.1; omega, by have := bf.2; omega⟩
theorem open_keep {v : Value} {d : DataW H} {ps : List MemPlace} {b0 : Nat} (hv : Value.okWide Try.prog W .any b0 24 v) (h : DataW.Trod enc Try.prog W 0 (fun _ => true) true 24 v d ps) :
    ∃ (pk : Option Addr) (K : List Bool) (ck : Nat), v = .slice pk K.length ck ∧ FlagsLie W pk K ck := by
  obtain ⟨a0, len0, cap0, rfl⟩ := okWide_slice Try.underlying24 hv
  obtain ⟨fuel, hx⟩ := h
  obtain ⟨p, L, k, e, hl⟩ := open_flags hx
  simp [Value.cells] at e
  obtain ⟨rfl, rfl, rfl⟩ := e
  exact ⟨_, L, _, rfl, hl⟩
end
theorem sized_small {d : Dsk} (h : smallD d = true) (h1 : -9223372036854775808 ≤ d.fuse) (h2 : d.fuse ≤ 9223372036854775807) : Sized d := by
  unfold smallD at h
  simp at h
  exact ⟨by omega, by omega, by omega, h1, h2⟩
end Go.Proofs.Ytaamjamcnnalbaa.Dv

