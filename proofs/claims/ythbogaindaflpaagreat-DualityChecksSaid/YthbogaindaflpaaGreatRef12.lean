/- Contracts: Parse of the specification of layer 1, every string. -/
import Derived.Test.YthbogaindaflpaaGreatRef11
namespace Go.Proofs.YthbogaindaflpaaGreat
open Go.RowKit
end Go.Proofs.YthbogaindaflpaaGreat
