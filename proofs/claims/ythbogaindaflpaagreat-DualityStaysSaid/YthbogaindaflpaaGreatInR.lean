/- Inside, Point, Holds, Violated of the specification. -/
import Derived.Test.YthbogaindaflpaaGreatExs
import Derived.Deep.DeepCutAuto
import Derived.BigQuiet
namespace Go.Proofs.YthbogaindaflpaaGreat
open Go.RowKit
section
variable {w W W' : World} {cs : List Value} {B : Nat} {v : Value} {l : List Nat}
end
end Go.Proofs.YthbogaindaflpaaGreat
