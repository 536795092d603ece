/- The contract of the rounding of Floor of package integer. -/
import Derived.Test.YthbogaindaflpaaGreatExt
namespace Go.Proofs.YthbogaindaflpaaGreat
open Go.RowKit
def lowB (x y : Int) : Bool := decide (sgnZ (x.tmod y) * sgnZ y < 0)
def fq (x y : Int) : Int := if lowB x y then x.tdiv y - 1 else x.tdiv y
def fr (x y : Int) : Int := if lowB x y then x.tmod y + y else x.tmod y
end Go.Proofs.YthbogaindaflpaaGreat
