/- Inside, Point, Holds, Violated of the specification. -/
import Derived.Test.YthbogaindaflpaaGreatDoorExs
import Derived.Deep.DeepCutAuto
import Derived.BigQuiet
namespace Go.Proofs.YthbogaindaflpaaGreatDoor
open Go.RowKit
section
variable {w W W' : World} {cs : List Value} {B : Nat} {v : Value} {l : List Nat}
end
end Go.Proofs.YthbogaindaflpaaGreatDoor
