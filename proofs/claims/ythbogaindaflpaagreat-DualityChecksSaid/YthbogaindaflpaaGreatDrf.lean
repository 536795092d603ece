/- Contracts of the specification of layer 4, over programs; the law's box. -/
import Derived.Test.YthbogaindaflpaaGreatDmat
import Derived.Test.YthbogaindaflpaaGreatInR
namespace Go.Proofs.YthbogaindaflpaaGreat
open Go.RowKit
structure Kp (w : World) (V0 : Option Addr) (vn vc : Nat) (R0 : Option Addr) (rn rc : Nat) (W : World) : Prop where
  bel : Below w.heap.size w W
  box : Blk W w.heap.size [.slice V0 vn vc, .slice R0 rn rc] 25
theorem Kp.keep {w : World} {V0 : Option Addr} {vn vc : Nat} {R0 : Option Addr} {rn rc : Nat} {W W' : World} (h : Kp w V0 vn vc R0 rn rc W) (b : Below W.heap.size W W') : Kp w V0 vn vc R0 rn rc W' := ⟨bx_call h.bel b, h.box.keep b⟩
section
variable (p : PD) (A : Option Addr) (n c k : Nat) (qs : Nat → Rat) (w : World)
theorem r_inside (h : Pg w p) (hQ : Qs w A n c k qs) (hk : k ≤ 100) : Calls Tryz.prog 120 #[.agg #[.slice p.V0 p.vn p.vc, .slice p.R0 p.rn p.rc], .slice A n c] w (RetB w (p.inB (pt n qs))) :=
  rinside p.V0 p.vn p.vc p.R0 p.rn p.rc p.lo p.up p.op p.it p.co A n c k qs w h.vs hQ (by omega)
theorem r_violated (h : Pg w p) (hQ : Qs w A n c k qs) (hk : k ≤ 100) : Calls Tryz.prog 121 #[.agg #[.slice p.V0 p.vn p.vc, .slice p.R0 p.rn p.rc], .slice A n c] w (RetL w (vio (p.rowB (pt n qs)) p.rn)) :=
  rviolated p.V0 p.vn p.vc p.R0 p.rn p.rc p.nm p.gr p.ki p.bo p.TA p.tn p.tc p.v p.cf A n c k qs w (by have := h.vl; omega) (by have := h.rl; omega) h.rs (fun i hi => by have := h.tl i hi; omega) hQ (by omega)
theorem r_cost (h : Pg w p) (hQ : Qs w A n c k qs) (hk : k ≤ 100) : Calls Tryz.prog 57 #[.agg #[.slice p.V0 p.vn p.vc, .slice p.R0 p.rn p.rc], .slice A n c] w (RetV w (p.costV (pt n qs)) 10301) := by
  have h1 := h.vl
  have h3 : p.vn * (k + 3) ≤ 100 * 103 := mul_le (by omega) (by omega)
  exact (rcost p.V0 p.vn p.vc p.R0 p.rn p.rc p.lo p.up p.op p.it p.co A n c k qs w h.vs hQ (by omega)).mono fun e w' ⟨g, A, n, c, D, m, d, e1, e2, e3⟩ => ⟨g, A, n, c, D, m, d, e1, e2.up (by omega), e3⟩
end
end Go.Proofs.YthbogaindaflpaaGreat
