/- Slices of bytes in memory; the contract of reverse of package natural. -/
import Derived.Test.YthbogaindaflpaaGreatDivA
import Derived.Test.YthbogaindaflpaaGreatApp
import Derived.Test.YthbogaindaflpaaGreatDec
import Derived.Laws.IdiomStrings
import Derived.Deep.LoopGhost
namespace Go.Proofs.YthbogaindaflpaaGreat
open Go.RowKit
end Go.Proofs.YthbogaindaflpaaGreat
