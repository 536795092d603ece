/- Contracts: few of the laws of layer 2. -/
import Derived.Test.YtlgdlabhaehdpaaGreatRinA
import Derived.Test.YtlgdlabhaehdpaaGreatAid
namespace Go.Proofs.YtlgdlabhaehdpaaGreat
open Go.RowKit

end Go.Proofs.YtlgdlabhaehdpaaGreat
