/- Decimal texts; contracts: Text of package natural. -/
import Derived.Test.YtdbccidlnhjfhaaGreatDoorDivA
import Derived.Test.YtdbccidlnhjfhaaGreatDoorApp
import Derived.Test.YtdbccidlnhjfhaaGreatDoorDec
import Derived.Laws.IdiomStrings
import Derived.Deep.LoopGhost
namespace Go.Proofs.YtdbccidlnhjfhaaGreatDoor
open Go.RowKit
def ch (d : Nat) : UInt8 := UInt8.ofNat (48 + d)
end Go.Proofs.YtdbccidlnhjfhaaGreatDoor
