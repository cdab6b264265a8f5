/-
  What the law's fixed calls come to.
-/
import Derived.Test.YtaamjamcnnalbaaDevSp
namespace Go.Proofs.Ytaamjamcnnalbaa.Dv
set_option maxRecDepth 100000
/-- the law's first disk, what is written to it, and what it is when it died -/
def fd : Dsk := (newD 2).1
def fw : Dsk := (writeD fd 1 (sectorB 7)).1
def fa : Dsk := dieD fw [true]
def fb : Dsk := dieD fw []
def fx : Dsk × Int := writeD (armD fd 0 []) 0 (sectorB 1)
theorem fix_new : (newD 2).2 = 0 ∧ (newD 0).2 = 1 := by decide +kernel
theorem fix_write : (writeD fd 1 (sectorB 7)).2 = 0 := by decide +kernel
theorem fix_read : (readD fw 1).1 = sectorB 7 ∧ (readD fw 1).2 = 0 := by decide +kernel
theorem fix_kept : (readD (reviveD fa) 1).1 = sectorB 7 := by decide +kernel
theorem fix_lost : (readD (reviveD fb) 1).1 = zero32 := by decide +kernel
theorem fix_dead : fx.2 = 90 ∧ fx.1.dead = true ∧ (readD fa 1).2 = 90 := by decide +kernel
theorem fix_may : mayD fd = true ∧ fd.kept.length = 2 := by decide +kernel
end Go.Proofs.Ytaamjamcnnalbaa.Dv

