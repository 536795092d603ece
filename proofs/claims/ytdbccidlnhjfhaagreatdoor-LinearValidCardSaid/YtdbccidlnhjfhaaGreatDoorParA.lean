/- ParA: Par, Par2 in one text. -/
import Derived.Test.YtdbccidlnhjfhaaGreatDoorTxt
namespace Go.Proofs.YtdbccidlnhjfhaaGreatDoor
open Go.RowKit
end Go.Proofs.YtdbccidlnhjfhaaGreatDoor
