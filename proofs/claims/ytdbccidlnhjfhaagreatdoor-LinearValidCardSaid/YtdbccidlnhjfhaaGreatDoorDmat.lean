/- What the proofs of duality exclude; small inputs. -/
import Derived.Test.YtdbccidlnhjfhaaGreatDoorExs
import Derived.Test.YtdbccidlnhjfhaaGreatDoorDuaA
namespace Go.Proofs.YtdbccidlnhjfhaaGreatDoor
open Go.RowKit
structure Pw (w : World) (p : PD) : Prop where
  vs : Vs w p.V0 p.vn p.vc p.lo p.up p.op p.it p.co
  rs : Rs w p.R0 p.rn p.rc p.nm p.gr p.ki p.bo p.TA p.tn p.tc p.v p.cf
  nms : ∀ j, j < p.rn → (p.nm j).size ≤ 9223372036854775807
theorem Pw.keep {w w' : World} {p : PD} (h : Pw w p) (b : Below w.heap.size w w') : Pw w' p := ⟨h.vs.keep b, h.rs.keep b, h.nms⟩
theorem Pw.pg {w : World} {p : PD} (h : Pw w p) (hs : fewP p.vn p.rn p.nm p.tn 6 8 = true) : Pg w p := by
  unfold fewP at hs
  simp only [Bool.and_eq_true] at hs
  have h1 := of_decide_eq_true hs.1
  have h2 := of_decide_eq_true hs.2.1
  have h3 := of_decide_eq_true hs.2.2
  exact ⟨h.vs, h.rs, h.nms, by omega, by omega, fun i hi => by have := (h1 i hi).1; omega⟩
structure LD where
  A : Option Addr
  n : Nat
  c : Nat
  N : Nat → Nat
  M : Nat → Nat
  qs : Nat → Rat
def LD.ok (w : World) (l : LD) : Prop := Qw w l.A l.n l.c l.N l.M l.qs
theorem LD.ok.keep {w w' : World} {l : LD} (h : l.ok w) (b : Below w.heap.size w w') : l.ok w' := Qw.keep h b
end Go.Proofs.YtdbccidlnhjfhaaGreatDoor
