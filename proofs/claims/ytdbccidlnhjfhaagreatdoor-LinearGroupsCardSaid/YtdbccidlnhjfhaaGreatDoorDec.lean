/- Plain mathematics: natural numbers as lists of digits in base 10, least significant first. -/
import Derived.Test.YtdbccidlnhjfhaaGreatDoorDig
namespace Go.Proofs.YtdbccidlnhjfhaaGreatDoor
def ddF : Nat → Nat → List Nat
  | 0, _ => []
  | f + 1, n => if n = 0 then [] else n % 10 :: ddF f (n / 10)
def dd (n : Nat) : List Nat := ddF n n
end Go.Proofs.YtdbccidlnhjfhaaGreatDoor
