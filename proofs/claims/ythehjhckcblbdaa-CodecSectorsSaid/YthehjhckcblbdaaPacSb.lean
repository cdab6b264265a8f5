/-
  What Write and Read owe.
-/
import Derived.Test.YthehjhckcblbdaaPacRe
import Derived.Test.YthehjhckcblbdaaPacWr
namespace Go.Proofs.Ythehjhckcblbdaa.Pk
set_option maxRecDepth 100000
open Go.RowKit Mt Ma Mb Cn Go.Lib
/-- what Write owes -/
def WriteB (T : List Tok) (e : Ending) (w' : World) : Prop :=
  (mayW T = true ∧ ∃ q d, e = .returned (.tuple #[.slice q (encode T).length d, .bool true]) ∧ FlagsLie w' q (encode T) d) ∨ (mayW T = false ∧ ∃ q d, d ≤ maxLen ∧ e = .returned (.tuple #[.slice q 0 d, .bool false]))
/-- what Read owes -/
def ReadB (R : Option (List Tok × Nat)) (e : Ending) (w' : World) : Prop := match R with
  | some (T, x) => ∃ q c, e = .returned (.tuple #[.slice q T.length c, .int .i64 (x : Nat), .bool true]) ∧ ToksLie w' q T c
  | none => ∃ q d, d ≤ maxLen ∧ e = .returned (.tuple #[.slice q 0 d, .int .i64 0, .bool false])
end Go.Proofs.Ythehjhckcblbdaa.Pk
