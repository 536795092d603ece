/- The contract of the rounding of Floor of package integer. -/
import Derived.Test.YtdbccidlnhjfhaaGreatDoorExt
namespace Go.Proofs.YtdbccidlnhjfhaaGreatDoor
open Go.RowKit
def lowB (x y : Int) : Bool := decide (sgnZ (x.tmod y) * sgnZ y < 0)
def fr (x y : Int) : Int := if lowB x y then x.tmod y + y else x.tmod y
end Go.Proofs.YtdbccidlnhjfhaaGreatDoor
