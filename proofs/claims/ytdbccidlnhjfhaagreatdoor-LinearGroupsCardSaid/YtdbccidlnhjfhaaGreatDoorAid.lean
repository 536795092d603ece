/- Small facts of the numbers of layer 1, used by several laws. -/
import Derived.Test.YtdbccidlnhjfhaaGreatDoorRefT
import Derived.Test.YtdbccidlnhjfhaaGreatDoorLit
namespace Go.Proofs.YtdbccidlnhjfhaaGreatDoor
open Go.RowKit
theorem quoD_zero (x : Nat) : quoD x 0 = [] := rfl
theorem remD_zero (x : Nat) : remD x 0 = [] := rfl
theorem divE_zero : divE 0 = 2 := rfl
end Go.Proofs.YtdbccidlnhjfhaaGreatDoor
