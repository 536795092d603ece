/- Contracts: Uint, Bits of the specification of layer 1. -/
import Derived.Test.YthbogaindaflpaaGreatRef8
namespace Go.Proofs.YthbogaindaflpaaGreat
open Go.RowKit
end Go.Proofs.YthbogaindaflpaaGreat
