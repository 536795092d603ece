/- What the proofs of duality exclude; small inputs. -/
import Derived.Test.YtdbccidlnhjfhaaGreatDoorExs
import Derived.Test.YtdbccidlnhjfhaaGreatDoorDuaA
namespace Go.Proofs.YtdbccidlnhjfhaaGreatDoor
open Go.RowKit
structure Pw (w : World) (p : PD) : Prop where
  vs : Vs w p.V0 p.vn p.vc p.lo p.up p.op p.it p.co
  rs : Rs w p.R0 p.rn p.rc p.nm p.gr p.ki p.bo p.TA p.tn p.tc p.v p.cf
  nms : ∀ j, j < p.rn → (p.nm j).size ≤ 9223372036854775807
end Go.Proofs.YtdbccidlnhjfhaaGreatDoor
