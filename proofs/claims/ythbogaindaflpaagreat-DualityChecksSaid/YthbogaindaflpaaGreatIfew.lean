/- Contracts: few of the laws of layer 2. -/
import Derived.Test.YthbogaindaflpaaGreatRinA
import Derived.Test.YthbogaindaflpaaGreatAid
namespace Go.Proofs.YthbogaindaflpaaGreat
open Go.RowKit
end Go.Proofs.YthbogaindaflpaaGreat
