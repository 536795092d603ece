/- ParA: Par, Par2 in one text. -/
import Derived.Test.YthbogaindaflpaaGreatTxt
namespace Go.Proofs.YthbogaindaflpaaGreat
open Go.RowKit
end Go.Proofs.YthbogaindaflpaaGreat
