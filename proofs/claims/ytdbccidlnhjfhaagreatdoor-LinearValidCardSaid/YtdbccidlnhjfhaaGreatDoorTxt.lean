/- Decimal texts; contracts: Text of package natural. -/
import Derived.Test.YtdbccidlnhjfhaaGreatDoorByt
namespace Go.Proofs.YtdbccidlnhjfhaaGreatDoor
open Go.RowKit
def ch (d : Nat) : UInt8 := UInt8.ofNat (48 + d)
end Go.Proofs.YtdbccidlnhjfhaaGreatDoor
