/- The contract of the rounding of Floor of package integer. -/
import Derived.Test.YtlgdlabhaehdpaaGreatExt
namespace Go.Proofs.YtlgdlabhaehdpaaGreat
open Go.RowKit

/-- The quotient is to be lowered. -/
def lowB (x y : Int) : Bool := decide (sgnZ (x.tmod y) * sgnZ y < 0)
/-- The quotient, rounded down. -/
def fq (x y : Int) : Int := if lowB x y then x.tdiv y - 1 else x.tdiv y
/-- Its remainder. -/
def fr (x y : Int) : Int := if lowB x y then x.tmod y + y else x.tmod y

theorem sgnZ_cases (z : Int) : sgnZ z = -1 ∨ sgnZ z = 0 ∨ sgnZ z = 1 := by
  unfold sgnZ
  split
  · exact .inl rfl
  · split
    · exact .inr (.inr rfl)
    · exact .inr (.inl rfl)

end Go.Proofs.YtlgdlabhaehdpaaGreat
