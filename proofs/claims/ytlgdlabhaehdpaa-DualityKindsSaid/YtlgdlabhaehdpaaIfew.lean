/- Contracts: few of the laws of layer 2. -/
import Derived.Test.YtlgdlabhaehdpaaRinA
import Derived.Test.YtlgdlabhaehdpaaAid
namespace Go.Proofs.Ytlgdlabhaehdpaa
open Go.RowKit

end Go.Proofs.Ytlgdlabhaehdpaa
