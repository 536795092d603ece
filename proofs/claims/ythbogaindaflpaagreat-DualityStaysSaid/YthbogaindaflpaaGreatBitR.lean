/- BitR: Bit, Ref7, Ref8, Ref9 in one text. -/
import Derived.Test.YthbogaindaflpaaGreatRefA
import Derived.RegionTactic
import Derived.ChangeAlike
namespace Go.Proofs.YthbogaindaflpaaGreat
open Go.RowKit
end Go.Proofs.YthbogaindaflpaaGreat
