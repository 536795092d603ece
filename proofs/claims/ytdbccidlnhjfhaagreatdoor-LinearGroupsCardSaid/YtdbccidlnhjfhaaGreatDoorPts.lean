/- The law LinearPoints. -/
import Derived.Test.YtdbccidlnhjfhaaGreatDoorAkz
import Derived.Test.YtdbccidlnhjfhaaGreatDoorDrf
import Derived.Test.YtdbccidlnhjfhaaGreatDoorLinB
import Derived.Test.YtdbccidlnhjfhaaGreatDoorRatX
import Derived.Test.YtdbccidlnhjfhaaGreatDoorSam
import Derived.Deep.DeepCutAuto
import Derived.BigQuiet
namespace Go.Proofs.YtdbccidlnhjfhaaGreatDoor
open Go.RowKit
theorem ints_self {w : World} {A : Option Addr} {n c : Nat} {B : Option Addr} {d : Nat} {a : Nat → Int} (h : Il w A n c a) (h2 : Il w B n d a) : Calls Tryz.prog 23 #[.slice A n c, .slice B n d] w (RetB w true) := by
  have t := l_ints A n c a B n d a w h h2
  rw [show intsB n n a a = true from decide_eq_true ⟨rfl, fun _ _ => rfl⟩] at t
  exact t
end Go.Proofs.YtdbccidlnhjfhaaGreatDoor
