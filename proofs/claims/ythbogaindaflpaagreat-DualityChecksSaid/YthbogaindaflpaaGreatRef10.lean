/- Contracts: Text of the specification of layer 1. -/
import Derived.Test.YthbogaindaflpaaGreatTxt
import Derived.Test.YthbogaindaflpaaGreatRef9
namespace Go.Proofs.YthbogaindaflpaaGreat
open Go.RowKit
def bs (l : List UInt8) : ByteArray := ⟨l.toArray⟩
end Go.Proofs.YthbogaindaflpaaGreat
