/- DuaB: Dua6, Dua7 in one text. -/
import Derived.Test.YtdbccidlnhjfhaaGreatDoorDuaA
import Derived.Deep.DeepCutAuto
import Derived.MapKept
import Derived.RangeFuncRecord
import Derived.BigQuiet
namespace Go.Proofs.YtdbccidlnhjfhaaGreatDoor
open Go.RowKit
def entry (k : Int) (v : Value) (n : Nat) : MapEntry := { key := .int .i64 k, val := v, born := n }
end Go.Proofs.YtdbccidlnhjfhaaGreatDoor
