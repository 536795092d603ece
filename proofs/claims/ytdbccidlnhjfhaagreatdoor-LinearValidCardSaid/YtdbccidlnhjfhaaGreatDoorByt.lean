/- Slices of bytes in memory; the contract of reverse of package natural. -/
import Derived.Test.YtdbccidlnhjfhaaGreatDoorDivA
import Derived.Test.YtdbccidlnhjfhaaGreatDoorApp
import Derived.Test.YtdbccidlnhjfhaaGreatDoorDec
import Derived.Laws.IdiomStrings
import Derived.Deep.LoopGhost
namespace Go.Proofs.YtdbccidlnhjfhaaGreatDoor
open Go.RowKit
def bc (b : UInt8) : Value := .int .u8 (b.toNat : Int)
end Go.Proofs.YtdbccidlnhjfhaaGreatDoor
