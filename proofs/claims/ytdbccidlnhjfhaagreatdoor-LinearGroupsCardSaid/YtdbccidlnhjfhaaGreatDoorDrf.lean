/- Contracts of the specification of layer 4, over programs; the law's box. -/
import Derived.Test.YtdbccidlnhjfhaaGreatDoorDmat
import Derived.Test.YtdbccidlnhjfhaaGreatDoorExs
import Derived.Deep.DeepCutAuto
import Derived.BigQuiet
namespace Go.Proofs.YtdbccidlnhjfhaaGreatDoor
open Go.RowKit
structure Kp (w : World) (V0 : Option Addr) (vn vc : Nat) (R0 : Option Addr) (rn rc : Nat) (W : World) : Prop where
  bel : Below w.heap.size w W
  box : Blk W w.heap.size [.slice V0 vn vc, .slice R0 rn rc] 25
theorem Kp.keep {w : World} {V0 : Option Addr} {vn vc : Nat} {R0 : Option Addr} {rn rc : Nat} {W W' : World} (h : Kp w V0 vn vc R0 rn rc W) (b : Below W.heap.size W W') : Kp w V0 vn vc R0 rn rc W' := ⟨bx_call h.bel b, h.box.keep b⟩
section
variable (p : PD) (A : Option Addr) (n c k : Nat) (qs : Nat → Rat) (w : World)
end
end Go.Proofs.YtdbccidlnhjfhaaGreatDoor
