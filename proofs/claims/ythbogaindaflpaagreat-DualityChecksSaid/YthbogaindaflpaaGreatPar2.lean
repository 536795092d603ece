/- Contracts: readChunk, Parse of package natural. -/
import Derived.Test.YthbogaindaflpaaGreatPar
namespace Go.Proofs.YthbogaindaflpaaGreat
open Go.RowKit
end Go.Proofs.YthbogaindaflpaaGreat
