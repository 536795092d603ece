/- Decimal texts; contracts: Text of package natural. -/
import Derived.Test.YthbogaindaflpaaGreatByt
namespace Go.Proofs.YthbogaindaflpaaGreat
open Go.RowKit
def ch (d : Nat) : UInt8 := UInt8.ofNat (48 + d)
end Go.Proofs.YthbogaindaflpaaGreat
