/- RatY: RatF, RatG, RatH, RatI, RatJ, RatK in one text. -/
import Derived.Test.YthbogaindaflpaaGreatRatX
namespace Go.Proofs.YthbogaindaflpaaGreat
open Go.RowKit
end Go.Proofs.YthbogaindaflpaaGreat
