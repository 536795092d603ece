/- DuaA: Dua1, Dua2, Dua3, Dua4, Dua5 in one text. -/
import Derived.Test.YtdbccidlnhjfhaaGreatDoorLinC
import Derived.Test.YtdbccidlnhjfhaaGreatDoorLinB
import Derived.Deep.DeepCutAuto
import Derived.BigQuiet
import Derived.Deep.DeepMust
namespace Go.Proofs.YtdbccidlnhjfhaaGreatDoor
open Go.RowKit
structure PD where
  V0 : Option Addr
  vn : Nat
  vc : Nat
  lo : Nat → Int
  up : Nat → Int
  op : Nat → Bool
  it : Nat → Bool
  co : Nat → Int
  R0 : Option Addr
  rn : Nat
  rc : Nat
  nm : Nat → ByteArray
  gr : Nat → Int
  ki : Nat → Int
  bo : Nat → Int
  TA : Nat → Option Addr
  tn : Nat → Nat
  tc : Nat → Nat
  v : Nat → Nat → Int
  cf : Nat → Nat → Int
structure Pg (w : World) (p : PD) : Prop where
  vs : Vs w p.V0 p.vn p.vc p.lo p.up p.op p.it p.co
  rs : Rs w p.R0 p.rn p.rc p.nm p.gr p.ki p.bo p.TA p.tn p.tc p.v p.cf
  nms : ∀ j, j < p.rn → (p.nm j).size ≤ 9223372036854775807
  vl : p.vn ≤ 100
  rl : p.rn ≤ 100
  tl : ∀ i, i < p.rn → p.tn i ≤ 100
theorem Pg.keep {w w' : World} {p : PD} (h : Pg w p) (b : Below w.heap.size w w') : Pg w' p := ⟨h.vs.keep b, h.rs.keep b, h.nms, h.vl, h.rl, h.tl⟩
def PD.okB (p : PD) : Bool := vldB p.vn p.rn p.lo p.up p.op p.co p.nm p.gr p.ki p.bo p.tn p.v p.cf
def PD.inB (p : PD) (x : Nat → Rat) : Bool := insB p.vn p.lo p.up p.op x
def PD.rowB (p : PD) (x : Nat → Rat) (i : Nat) : Bool := holdB (p.ki i) (p.bo i) (rowV p.vn (p.tn i) (p.v i) (p.cf i) x)
def pt (n : Nat) (qs : Nat → Rat) (i : Nat) : Rat := atQ n qs (i : Int)
section
variable (p : PD) (A : Option Addr) (n c k : Nat) (qs : Nat → Rat) (w : World)
theorem d_valid (h : Pg w p) : Calls Tryz.prog 12 #[.agg #[.slice p.V0 p.vn p.vc, .slice p.R0 p.rn p.rc]] w (RetB w p.okB) :=
  vvalidp p.V0 p.vn p.vc p.R0 p.rn p.rc p.lo p.up p.op p.it p.co p.nm p.gr p.ki p.bo p.TA p.tn p.tc p.v p.cf w h.vs h.rs h.nms
theorem d_violated (h : Pg w p) (hQ : Qs w A n c k qs) (hk : k ≤ 100) : Calls Tryz.prog 24 #[.agg #[.slice p.V0 p.vn p.vc, .slice p.R0 p.rn p.rc], .slice A n c] w (RetL w (vio (p.rowB (pt n qs)) p.rn)) := by
  have h1 := h.vl
  have h2 := h.rl
  exact vviolated p.V0 p.vn p.vc p.R0 p.rn p.rc p.nm p.gr p.ki p.bo p.TA p.tn p.tc p.v p.cf A n c k qs w (by omega) h.rs 100 h.tl (by omega) hQ (by omega)
theorem d_inside (h : Pg w p) (hQ : Qs w A n c k qs) (hk : k ≤ 100) : Calls Tryz.prog 26 #[.agg #[.slice p.V0 p.vn p.vc, .slice p.R0 p.rn p.rc], .slice A n c] w (RetB w (p.inB (pt n qs))) := by
  have := vinside p.V0 p.vn p.vc p.R0 p.rn p.rc p.lo p.up p.op p.it p.co A n c k qs w h.vs hQ (by omega)
  rw [insB_congr (q := pt n qs) (fun j hj => atQ_min p.vn n qs hj)] at this
  exact this
end
section
variable {w W W' : World} {cs : List Value} {rb bb Cb vn : Nat} {g : Bool} {A : Option Addr} {n c : Nat} {D : Option Addr} {m d : Nat} {b : Rat} {f : Nat → Rat}
end
section
variable {w W W' : World} {cs : List Value} {bb Cb vn : Nat} {g : Bool} {A : Option Addr} {n c : Nat} {D : Option Addr} {m d : Nat} {b : Rat} {f : Nat → Rat}
end
end Go.Proofs.YtdbccidlnhjfhaaGreatDoor
