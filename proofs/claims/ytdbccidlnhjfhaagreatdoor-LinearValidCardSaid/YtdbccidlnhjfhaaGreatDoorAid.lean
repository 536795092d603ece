/- Small facts of the numbers of layer 1, used by several laws. -/
import Derived.Test.YtdbccidlnhjfhaaGreatDoorRefT
import Derived.Test.YtdbccidlnhjfhaaGreatDoorLit
namespace Go.Proofs.YtdbccidlnhjfhaaGreatDoor
open Go.RowKit
theorem quoD_zero (x : Nat) : quoD x 0 = [] := rfl
theorem remD_zero (x : Nat) : remD x 0 = [] := rfl
theorem divE_zero : divE 0 = 2 := rfl
theorem quoD_pos {x y : Nat} (h : 0 < y) : quoD x y = dg (x / y) := by unfold quoD; rw [if_neg (by omega)]
theorem remD_pos {x y : Nat} (h : 0 < y) : remD x y = dg (x % y) := by unfold remD; rw [if_neg (by omega)]
theorem divE_pos {y : Nat} (h : 0 < y) : divE y = 0 := by unfold divE; rw [if_neg (by omega)]
end Go.Proofs.YtdbccidlnhjfhaaGreatDoor
