/- The contract of Gcd of the specification of layer 1. -/
import Derived.Test.YthbogaindaflpaaGreatBitR
import Derived.Test.YthbogaindaflpaaGreatGcd
namespace Go.Proofs.YthbogaindaflpaaGreat
open Go.RowKit
end Go.Proofs.YthbogaindaflpaaGreat
