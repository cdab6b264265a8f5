/-
  Disks: which may be, what is read, written, kept. No condition.
-/
import Derived.Test.YtaamjamcnnalbaaLieG
import Derived.Test.YtaamjamcnnalbaaLstLi
namespace Go.Proofs.Ytaamjamcnnalbaa.Dv
set_option maxRecDepth 100000
open Go.RowKit Go.Lib
/-- a disk -/
structure Dsk where
  kept : List ByteArray
  cache : List (Int × ByteArray)
  fuse : Int
  keep : List Bool
  dead : Bool
def noneD : Dsk := ⟨[], [], 0, [], false⟩
def putS : Shape (Int × ByteArray) := ⟨2, fun p => [.int .i64 p.1, .string p.2], fun _ => rfl, fun _ u hu => by simp at hu; rcases hu with rfl | rfl <;> rfl⟩
def putMay (n : Nat) (p : Int × ByteArray) : Bool := decide (0 ≤ p.1) && (decide (p.1 < n) && decide (p.2.size = 32))
def textMay (s : ByteArray) : Bool := decide (s.size = 32)
def mayD (d : Dsk) : Bool := (decide (1 ≤ d.kept.length) && (decide (d.kept.length ≤ 5000) && (decide (d.cache.length ≤ 20000) && decide (-1 ≤ d.fuse)))) && (d.kept.all textMay && d.cache.all (putMay d.kept.length))
def there (d : Dsk) (a : Int) : Bool := decide (0 ≤ a) && decide (a < d.kept.length)
/-- the last one that is written at a place -/
def lastAt (c : List (Int × ByteArray)) (a : Int) (s : ByteArray) : ByteArray := c.foldl (fun s p => if p.1 = a then p.2 else s) s
def empty0 : ByteArray := ⟨#[]⟩
def readD (d : Dsk) (a : Int) : ByteArray × Int :=
  if mayD d then if d.dead then (empty0, 90) else if there d a then (lastAt d.cache a (d.kept.getD a.toNat empty0), 0) else (empty0, 1) else (empty0, 1)
def setAt (l : List ByteArray) (a : Int) (s : ByteArray) : List ByteArray := l.set a.toNat s
def applyC (l : List ByteArray) (c : List (Int × ByteArray)) : List ByteArray := c.foldl (fun l p => setAt l p.1 p.2) l
/-- those of the cache at whose place keep has true -/
def dieC : List ByteArray → List (Int × ByteArray) → List Bool → List ByteArray
  | l, [], _ => l
  | l, _ :: _, [] => l
  | l, p :: c, b :: k => dieC (if b then setAt l p.1 p.2 else l) c k
def dieD (d : Dsk) (k : List Bool) : Dsk := if mayD d then ⟨dieC d.kept d.cache k, [], -1, [], true⟩ else noneD
def writeD (d : Dsk) (a : Int) (s : ByteArray) : Dsk × Int :=
  if mayD d then
    if d.dead then (d, 90)
    else if there d a = false ∨ ¬ s.size = 32 ∨ 20000 ≤ d.cache.length then (d, 1)
    else if d.fuse = 0 then (dieD { d with cache := d.cache ++ [(a, s)] } d.keep, 90)
    else ({ d with cache := d.cache ++ [(a, s)], fuse := if 0 < d.fuse then d.fuse - 1 else d.fuse }, 0)
  else (noneD, 1)
def flushD (d : Dsk) : Dsk × Int := if mayD d then if d.dead then (d, 90) else ({ d with kept := applyC d.kept d.cache, cache := [] }, 0) else (noneD, 1)
def armD (d : Dsk) (f : Int) (k : List Bool) : Dsk := if mayD d then { d with fuse := if f < -1 then -1 else f, keep := k } else noneD
def reviveD (d : Dsk) : Dsk := if mayD d then ⟨d.kept, [], -1, [], false⟩ else noneD
def zero32 : ByteArray := ⟨(List.replicate 32 (0 : UInt8)).toArray⟩
def newD (n : Int) : Dsk × Int := if 1 ≤ n ∧ n ≤ 5000 then (⟨List.replicate n.toNat zero32, [], -1, [], false⟩, 0) else (noneD, 1)
def smallD (d : Dsk) : Bool := decide (d.kept.length ≤ 200) && (decide (d.cache.length ≤ 200) && decide (d.keep.length ≤ 400))
/-- how a disk lies -/
def DLie (w : World) (v : Value) (d : Dsk) : Prop := ∃ p0 c0 p1 c1 p3 c3, v = .agg #[.slice p0 d.kept.length c0, .slice p1 d.cache.length c1, .int .i64 d.fuse, .slice p3 d.keep.length c3, .bool d.dead] ∧
  SLie strS w p0 d.kept c0 ∧ SLie putS w p1 d.cache c1 ∧ FlagsLie w p3 d.keep c3
theorem DLie.below {w w' : World} {v : Value} {d : Dsk} (h : DLie w v d) (hb : Below w.heap.size w w') : DLie w' v d := by
  obtain ⟨p0, c0, p1, c1, p3, c3, e, h0, h1, h3⟩ := h
  exact ⟨p0, c0, p1, c1, p3, c3, e, h0.below hb, h1.below hb, h3.below hb⟩
/-- the numbers that there may be of a disk's parts -/
structure Sized (d : Dsk) : Prop where
  kept : d.kept.length ≤ 140737488351232
  cache : d.cache.length ≤ 140737488351232
  keep : d.keep.length ≤ 140737488351232
  lo : -9223372036854775808 ≤ d.fuse
  hi : d.fuse ≤ 9223372036854775807
theorem flagsNone (w : World) : FlagsLie w none [] 0 := ⟨Nat.le_refl _, Nat.zero_le _, .inl rfl⟩
/-- a disk's block -/
theorem box_cell {w : World} {b : Nat} {cs : Array Value} {t : TypeId} (h : w.heap[b]? = some (.cells cs t (0, 0))) (i : Nat) : w.cell? ⟨b, i, none⟩ = cs[i]? := cell_of_row w b i cs t _ h
end Go.Proofs.Ytaamjamcnnalbaa.Dv

