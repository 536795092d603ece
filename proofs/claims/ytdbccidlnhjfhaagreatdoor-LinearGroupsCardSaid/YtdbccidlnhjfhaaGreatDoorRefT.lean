/- RefT: Ref10, Ref11, Ref12 in one text. -/
import Derived.Test.YtdbccidlnhjfhaaGreatDoorTxt
import Derived.Test.YtdbccidlnhjfhaaGreatDoorRefA
import Derived.RegionTactic
import Derived.ChangeAlike
import Derived.Deep.RegionWith
namespace Go.Proofs.YtdbccidlnhjfhaaGreatDoor
open Go.RowKit
def bs (l : List UInt8) : ByteArray := ⟨l.toArray⟩
end Go.Proofs.YtdbccidlnhjfhaaGreatDoor
