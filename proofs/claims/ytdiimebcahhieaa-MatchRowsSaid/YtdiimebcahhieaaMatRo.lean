/-
  A row of bytes of the call's own; tokens that lie in memory; a token's box.
-/
import Derived.Test.YtdiimebcahhieaaMatMy
namespace Go.Proofs.Ytdiimebcahhieaa
open Go.RowKit Mt Go.Lib
theorem info5 : (Try.prog.info? 5).map (fun i => (i.zero, i.size, i.bytes)) = some (some (.int .u8 0), 1, 1) := by kernel_rfl
def pb (o : List UInt8) : List Value := o.map fun x => Value.int .u8 (x.toNat : Int)
theorem pb_one (o : List UInt8) : ∀ u ∈ pb o, u.oneCell' = true := fun u hu => by
  obtain ⟨j, _, rfl⟩ := List.mem_map.1 hu
  rfl
/-- a row of bytes of the call's own -/
structure RowU (w0 w : World) (g cap : Nat) (o : List UInt8) : Prop where
  own : w.ownsRow w0.heap.size 5 1 (.slice (some ⟨g, 0, Option.none⟩) o.length cap) o.length (pb o)
  below : Below w0.heap.size w0 w
theorem RowU.text {o : List UInt8} {w0 w : World} {g cap : Nat} (h : RowU w0 w g cap o) : (convert 32 9 (.slice (some ⟨g, 0, Option.none⟩) o.length cap)).run Try.prog w = .ok (.string ⟨o.toArray⟩) w := by
  refine run_convert_bytes_back w 32 9 5 ⟨g, 0, Option.none⟩ cap o Try.underlying32 Try.underlying5 Try.underlying9 (fun j hj => ?_)
  exact h.own.cells (g := g) rfl j (.int .u8 (o[j].toNat : Int)) (by unfold pb; rw [List.getElem?_map, List.getElem?_eq_getElem hj]; rfl)
theorem RowU.cell {o : List UInt8} {w0 w : World} {g cap : Nat} (h : RowU w0 w g cap o) (j : Nat) (hj : j < o.length) : w.cell? ⟨g, j, Option.none⟩ = some (.int .u8 ((o.getD j 0).toNat : Int)) := by
  have := h.own.cells (g := g) rfl j (.int .u8 ((o.getD j 0).toNat : Int)) (by unfold pb; rw [List.getElem?_map, List.getElem?_eq_getElem hj]; simp [hj])
  rwa [Addr.add_lit, Nat.zero_add] at this
theorem RowU.cap {w0 w : World} {g cap : Nat} {o : List UInt8} (h : RowU w0 w g cap o) : o.length ≤ cap ∧ cap ≤ maxLen := by
  rcases h.own.2 with ⟨h1, _⟩ | ⟨g', cap', cur, h1, _, _, h2, h3, _⟩
  · cases h1
  · cases h1; exact ⟨h2, h3⟩
theorem RowU.more {w0 wr w2 w3 : World} {g cap : Nat} {l m : List UInt8} {v : Value} (h : RowU w0 wr g cap l) (hb : Below wr.heap.size wr w2)
    (own1 : w3.ownsRow w0.heap.size 5 1 v (l.length + m.length) (pb l ++ pb m)) (gr : w2.grownBy w3 (Value.slice (some ⟨g, 0, Option.none⟩) l.length cap).ownBlock)
    (nn : ¬ v = .slice Option.none 0 0) : ∃ g1 c1, v = .slice (some ⟨g1, 0, Option.none⟩) (l.length + m.length) c1 ∧ RowU w0 w3 g1 c1 (l ++ m) := by
  obtain ⟨g1, c1, rfl⟩ := own_some own1 nn
  refine ⟨g1, c1, rfl, by simpa [pb] using own1, ?_⟩
  have hb2 : Below w0.heap.size w0 w2 := h.below.trans (hb.mono h.below.size)
  exact hb2.grown gr hb2.size (fun b hb => (h.own.lt b hb).1)
theorem one_byte (wr : World) (x : UInt8) : ∀ j u, (pb [x])[j]? = some u → (wr.alloc (.cells #[.int .u8 (x.toNat : Int)] 5)).cell? ((⟨wr.heap.size, 0, Option.none⟩ : Addr).add j) = some u := fun j u hj => by
  match j, hj with
  | 0, hj => simp [pb] at hj; subst hj; simp [Addr.add]
  | j + 1, hj => simp [pb] at hj
/-- tokens that lie from a place on -/
structure ToksAt (w : World) (blk off : Nat) (T : List Tok) : Prop where
  byte : ∀ i (h : i < T.length), w.cell? ⟨blk, off + i * 3, Option.none⟩ = some (.int .i64 T[i].byte)
  dist : ∀ i (h : i < T.length), w.cell? ⟨blk, off + i * 3 + 1, Option.none⟩ = some (.int .i64 T[i].dist)
  len : ∀ i (h : i < T.length), w.cell? ⟨blk, off + i * 3 + 2, Option.none⟩ = some (.int .i64 T[i].len)
theorem ToksAt.below {w w' : World} {blk off : Nat} {T : List Tok} (h : ToksAt w blk off T) (hb : Below w.heap.size w w') : ToksAt w' blk off T :=
  ⟨fun i hi => by rw [hb.cell (p := ⟨blk, off + i * 3, Option.none⟩) (World.block_lt_of_cell? w _ (h.byte i hi))]; exact h.byte i hi,
   fun i hi => by rw [hb.cell (p := ⟨blk, off + i * 3 + 1, Option.none⟩) (World.block_lt_of_cell? w _ (h.dist i hi))]; exact h.dist i hi,
   fun i hi => by rw [hb.cell (p := ⟨blk, off + i * 3 + 2, Option.none⟩) (World.block_lt_of_cell? w _ (h.len i hi))]; exact h.len i hi⟩
theorem may_at {w0 w : World} {blk off : Nat} {T : List Tok} (h : ToksAt w0 blk off T) (hb : Below w0.heap.size w0 w) (i : Nat) (hi : i < T.length) :
    w.cell? ⟨blk, off + i * 3, Option.none⟩ = some (.int .i64 T[i].byte) ∧ w.cell? ⟨blk, off + i * 3 + 1, Option.none⟩ = some (.int .i64 T[i].dist) ∧ w.cell? ⟨blk, off + i * 3 + 2, Option.none⟩ = some (.int .i64 T[i].len) :=
  ⟨(h.below hb).byte i hi, (h.below hb).dist i hi, (h.below hb).len i hi⟩
end Go.Proofs.Ytdiimebcahhieaa

