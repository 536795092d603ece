/- Inside, Point, Holds, Violated of the specification. -/
import Derived.Test.YtdbccidlnhjfhaaGreatDoorExs
import Derived.Deep.DeepCutAuto
import Derived.BigQuiet
namespace Go.Proofs.YtdbccidlnhjfhaaGreatDoor
open Go.RowKit
set_option maxRecDepth 100000
section
variable {w W W' : World} {cs : List Value} {B : Nat} {v : Value} {l : List Nat}
end
end Go.Proofs.YtdbccidlnhjfhaaGreatDoor
