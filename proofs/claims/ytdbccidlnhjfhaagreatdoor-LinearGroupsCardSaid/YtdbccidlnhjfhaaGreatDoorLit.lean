/- The examples of chapter 1, as numbers and texts. -/
import Derived.Test.YtdbccidlnhjfhaaGreatDoorTxt
namespace Go.Proofs.YtdbccidlnhjfhaaGreatDoor
open Go.RowKit
theorem dg_lit {ds : List Nat} (h : Digs ds) (hf : Full ds) (n : Nat) (hv : val ds = n) : dg n = ds := by rw [← hv, dg_of_full h hf]
end Go.Proofs.YtdbccidlnhjfhaaGreatDoor
