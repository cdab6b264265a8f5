/-
  Package device keeps what it owes. No condition.
-/
import Derived.Test.YtaamjamcnnalbaaDvM
import Derived.Test.YtaamjamcnnalbaaDvN
import Derived.Test.YtaamjamcnnalbaaDvW
namespace Go.Proofs.Ytaamjamcnnalbaa.Dv
set_option maxRecDepth 100000
open Go.RowKit Go.Lib
theorem spec_device : SpecD := {
  new := fun n w h1 h2 => new_code n w h1 h2
  may := fun d v w hd h => may_code d v w hd h
  read := fun d v a w hd _ _ h => read_code d v a w hd h
  write4 := fun P d v a s w hd _ _ h => write_code P d v a s w hd h.lie
  flush := fun d v w hd h => flush_code d v w hd h
  arm4 := fun P d v f K kk pk ck w hd h1 h2 hk hk4 h hK _ => arm_code P d v f K kk pk ck w hd h1 h2 hk hk4 h hK
  die := fun d v K kk pk ck w hd hk h hK => die_code d v K kk pk ck w hd hk h hK
  revive := fun d v w hd h => revive_own d v w hd h }
end Go.Proofs.Ytaamjamcnnalbaa.Dv
