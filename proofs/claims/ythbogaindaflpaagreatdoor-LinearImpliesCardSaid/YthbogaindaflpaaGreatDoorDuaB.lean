/- DuaB: Dua6, Dua7 in one text. -/
import Derived.Test.YthbogaindaflpaaGreatDoorDuaA
import Derived.Deep.DeepCutAuto
import Derived.MapKept
import Derived.RangeFuncRecord
import Derived.BigQuiet

namespace Go.Proofs.YthbogaindaflpaaGreatDoor
open Go.RowKit

def entry (k : Int) (v : Value) (n : Nat) : MapEntry := { key := .int .i64 k, val := v, born := n }
theorem putObj_bel {w W : World} {b : Nat} {o : Obj} (h : Below w.heap.size w W) (hb : w.heap.size ≤ b) : Below w.heap.size w (W.putObj b o) :=
  h.trans ⟨rfl, rfl, rfl, by simp, fun k hk => World.putObj_heap_other (by omega)⟩
/-- The table of the checkers. -/
def chk0 : Array MapEntry := #[]
end Go.Proofs.YthbogaindaflpaaGreatDoor

namespace Go.Proofs.YthbogaindaflpaaGreatDoor
open Go.RowKit

theorem blk_seven {w : World} {b t : Nat} {x0 x1 x2 x3 x4 x5 x6 : Value} (h : Blk w b [x0, x1, x2, x3, x4, x5, x6] t) : w.cell? ⟨b, 0, none⟩ = some x0 ∧ w.cell? ⟨b, 1, none⟩ = some x1 ∧ w.cell? ⟨b, 2, none⟩ = some x2 ∧ w.cell? ⟨b, 3, none⟩ = some x3 ∧ w.cell? ⟨b, 4, none⟩ = some x4 ∧ w.cell? ⟨b, 5, none⟩ = some x5 ∧ w.cell? ⟨b, 6, none⟩ = some x6 := ⟨Blk.cell h 0, Blk.cell h 1, Blk.cell h 2, Blk.cell h 3, Blk.cell h 4, Blk.cell h 5, Blk.cell h 6⟩
/-- The lists of an outcome have these lengths. -/
def szB (pn mn yn a b c : Nat) : Bool := (decide (pn = a) && decide (mn = b)) && decide (yn = c)

/-- An outcome's data, as they lie in memory. -/
structure OD where
  kd : Int
  g : Bool
  A : Option Addr
  n : Nat
  c : Nat
  D : Option Addr
  m : Nat
  d : Nat
  q : Rat
  PA : Option Addr
  pn : Nat
  pc : Nat
  ps : Nat → Rat
  MA : Option Addr
  mn : Nat
  mc : Nat
  ms : Nat → Rat
  YA : Option Addr
  yn : Nat
  yc : Nat
  ys : Nat → Rat
/-- The outcome lies in memory, with fractions of few digits. -/
structure Og (w : World) (o : OD) (k : Nat) : Prop where
  val : FrV w o.g o.A o.n o.c o.D o.m o.d k o.q
  pt : Qs w o.PA o.pn o.pc k o.ps
  mu : Qs w o.MA o.mn o.mc k o.ms
  ray : Qs w o.YA o.yn o.yc k o.ys
theorem Og.keep {w w' : World} {o : OD} {k : Nat} (h : Og w o k) (b : Below w.heap.size w w') : Og w' o k := ⟨h.val.keep b, h.pt.keep b, h.mu.keep b, h.ray.keep b⟩
/-- What the checker of optima says. -/
def PD.ck1 (p : PD) (o : OD) : Bool := (szB o.pn o.mn o.yn p.vn p.rn 0 && p.optB (pt o.pn o.ps) (pt o.mn o.ms)) && decide (sgnQ (o.q - p.costV (pt o.pn o.ps)) = 0)

end Go.Proofs.YthbogaindaflpaaGreatDoor
