/- RefT: Ref10, Ref11, Ref12 in one text. -/
import Derived.Test.YthbogaindaflpaaGreatTxt
import Derived.Test.YthbogaindaflpaaGreatBitR
import Derived.Test.YthbogaindaflpaaGreatParA
import Derived.Deep.RegionWith
namespace Go.Proofs.YthbogaindaflpaaGreat
open Go.RowKit
def bs (l : List UInt8) : ByteArray := ⟨l.toArray⟩
end Go.Proofs.YthbogaindaflpaaGreat
