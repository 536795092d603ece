/- Contracts of the specification of layer 4, over programs; the law's box. -/
import Derived.Test.YthbogaindaflpaaGreatDmat
import Derived.Test.YthbogaindaflpaaGreatInR
namespace Go.Proofs.YthbogaindaflpaaGreat
open Go.RowKit
structure Kp (w : World) (V0 : Option Addr) (vn vc : Nat) (R0 : Option Addr) (rn rc : Nat) (W : World) : Prop where
  bel : Below w.heap.size w W
  box : Blk W w.heap.size [.slice V0 vn vc, .slice R0 rn rc] 25
section
variable (p : PD) (A : Option Addr) (n c k : Nat) (qs : Nat → Rat) (w : World)
end
end Go.Proofs.YthbogaindaflpaaGreat
