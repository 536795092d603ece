/- Contracts: Parse of the specification of layer 1. -/
import Derived.Test.YthbogaindaflpaaGreatPar2
import Derived.Test.YthbogaindaflpaaGreatRef10
import Derived.Deep.RegionWith
namespace Go.Proofs.YthbogaindaflpaaGreat
open Go.RowKit
end Go.Proofs.YthbogaindaflpaaGreat
