/- Reading decimal texts; contracts: isText, readChunk of package natural. -/
import Derived.Test.YthbogaindaflpaaGreatTxt
namespace Go.Proofs.YthbogaindaflpaaGreat
open Go.RowKit
theorem ret_bool {a b : Bool} (h : b = a) : Ending.returned (.bool a) = .returned (.bool b) := by rw [h]
end Go.Proofs.YthbogaindaflpaaGreat
