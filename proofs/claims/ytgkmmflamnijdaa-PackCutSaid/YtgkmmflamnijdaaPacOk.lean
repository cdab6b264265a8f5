/-
  Package pack's functions answer as SpecK tells.
-/
import Derived.Test.YtgkmmflamnijdaaPacKd
import Derived.Test.YtgkmmflamnijdaaPacKx
namespace Go.Proofs.Ytgkmmflamnijdaa.Pk
theorem spec_pack : SpecK := ⟨sym_code, write_code, read_code⟩
end Go.Proofs.Ytgkmmflamnijdaa.Pk
