/- What is kept while a region makes memory in whatever order. -/
import Derived.Test.YtdbccidlnhjfhaaGreatDoorIntA
import Derived.Deep.RegionHeld3
namespace Go.Proofs.YtdbccidlnhjfhaaGreatDoor
open Go.RowKit
section
variable {w W W' : World} {b t : Nat} {cs : List Value}
theorem bx_refl (w : World) : Below w.heap.size w w := Below.refl _ _
theorem bx_alloc (h : Below w.heap.size w W) (o : Obj) : Below w.heap.size w (W.alloc o) := h.alloc h.size o
theorem bx_drew (h : Below w.heap.size w W) : Below w.heap.size w W.drew := ⟨h.os, h.tape, h.output, h.size, h.block⟩
theorem bx_call (h : Below w.heap.size w W) (k : Below W.heap.size W W') : Below w.heap.size w W' := h.trans (k.mono h.size)
theorem Blk.keep (h : Blk w b cs t) (k : Below w.heap.size w W) : Blk W b cs t := h.below k h.lt
theorem blk_new1 (w : World) (o : Obj) (cs : List Value) (t : TypeId) : Blk ((w.alloc o).alloc (.cells cs.toArray t)) (w.heap.size + 1) cs t := by
  have h := Blk.new (w.alloc o) cs t
  rwa [World.size_alloc] at h
end
theorem cell_al {w : World} {a : Addr} {v : Value} {o : Obj} (h : w.cell? a = some v) : (w.alloc o).cell? a = some v := by
  rw [World.cell?_alloc_some _ _ _ (by rw [h]; rfl)]
  exact h
theorem cell_fr {W : World} {b i g j : Nat} {v u : Value} (h : W.cell? ⟨b, i, none⟩ = some v) (hne : b ≠ g) : (W.setCell ⟨g, j, none⟩ u).cell? ⟨b, i, none⟩ = some v := by
  rw [World.cell?_setCell_far _ _ _ _ (show g ≠ b from Ne.symm hne)]
  exact h
theorem bx_set {w W : World} {g i : Nat} {u : Value} (h : Below w.heap.size w W) (hg : w.heap.size ≤ g) : Below w.heap.size w (W.setCell ⟨g, i, none⟩ u) := h.setCell (by exact hg) _
theorem blk_set2 {W : World} {p t : Nat} {x y u v : Value} (h : Blk W p [x, y] t) : Blk ((W.setCell ⟨p, 0, none⟩ u).setCell ⟨p, 1, none⟩ v) p [u, v] t := (h.set_ 0 u).set_ 1 v
theorem blk_facts {W : World} {b t : Nat} {x y : Value} (h : Blk W b [x, y] t) : W.cell? ⟨b, 0, none⟩ = some x ∧ W.cell? ⟨b, 1, none⟩ = some y ∧ W.frozen? ⟨b, 0, none⟩ = false ∧ W.frozen? ⟨b, 1, none⟩ = false ∧
    (∀ o, (W.alloc o).cell? ⟨b, 0, none⟩ = some x) ∧ (∀ o, (W.alloc o).cell? ⟨b, 1, none⟩ = some y) ∧ (∀ o, (W.alloc o).frozen? ⟨b, 0, none⟩ = false) ∧ (∀ o, (W.alloc o).frozen? ⟨b, 1, none⟩ = false) ∧ b < W.heap.size ∧ b ≠ W.heap.size ∧ W.heap.size ≠ b :=
  ⟨Blk.cell h 0, Blk.cell h 1, Blk.free h 0, Blk.free h 1, fun o => Blk.cell (h.alloc o) 0, fun o => Blk.cell (h.alloc o) 1, fun o => Blk.free (h.alloc o) 0, fun o => Blk.free (h.alloc o) 1, h.lt, Nat.ne_of_lt h.lt, Nat.ne_of_gt h.lt⟩
theorem cell_bx {w W : World} {a : Addr} {v : Value} (h : w.cell? a = some v) (k : Below w.heap.size w W) : W.cell? a = some v := (k.cell (World.block_lt_of_cell? w a h)).trans h
theorem cell_dr {w : World} {a : Addr} {v : Value} (h : w.cell? a = some v) : w.drew.cell? a = some v := h
theorem gx0 {α : Type _} {l : List α} {i : Nat} : l.toArray[i]? = l[i]? := List.getElem?_toArray
theorem gx1 {α : Type _} {a : α} {l : List α} {i : Nat} : (a :: l)[i + 1]? = l[i]? := List.getElem?_cons_succ
theorem gx2 {α : Type _} {a : α} {l : List α} : (a :: l)[0]? = some a := List.getElem?_cons_zero
theorem gy0 {α : Type _} {l : List α} {i : Nat} {a : α} : l.toArray.setIfInBounds i a = (l.set i a).toArray := List.setIfInBounds_toArray _ _ _
theorem gy1 {α : Type _} {a b : α} {l : List α} : (a :: l).set 0 b = b :: l := List.set_cons_zero
theorem gy2 {α : Type _} {a b : α} {l : List α} {i : Nat} : (a :: l).set (i + 1) b = a :: l.set i b := List.set_cons_succ
theorem mk_int (w : World) : ∃ W p, W = w.alloc (.cells #[.bool false, .slice none 0 0] 39) ∧ p = w.heap.size ∧ Below w.heap.size w W ∧ Blk W p [.bool false, .slice none 0 0] 39 :=
  ⟨_, _, rfl, rfl, bx_alloc (bx_refl w) _, Blk.new w [.bool false, .slice none 0 0] 39⟩
structure Two (z1 z2 : Int) (p q : Nat) (A : Option Addr) (n c : Nat) (B : Option Addr) (m d : Nat) (W : World) : Prop where
  ne : p ≠ q
  one : Blk W p [.bool (sg z1), .slice A n c] 39
  two : Blk W q [.bool (sg z2), .slice B m d] 39
  rd1 : Rd W A n c (dg z1.natAbs)
  rd2 : Rd W B m d (dg z2.natAbs)
theorem Two.keep {z1 z2 : Int} {p q : Nat} {A : Option Addr} {n c : Nat} {B : Option Addr} {m d : Nat} {W W' : World} (h : Two z1 z2 p q A n c B m d W) (k : Below W.heap.size W W') : Two z1 z2 p q A n c B m d W' :=
  ⟨h.ne, h.one.keep k, h.two.keep k, h.rd1.keep k, h.rd2.keep k⟩
theorem Two.cells {z1 z2 : Int} {p q : Nat} {A : Option Addr} {n c : Nat} {B : Option Addr} {m d : Nat} {W : World} (h : Two z1 z2 p q A n c B m d W) : W.cell? ⟨p, 0, none⟩ = some (.bool (sg z1)) ∧ W.cell? ⟨p, 1, none⟩ = some (.slice A n c) ∧ W.cell? ⟨q, 0, none⟩ = some (.bool (sg z2)) ∧ W.cell? ⟨q, 1, none⟩ = some (.slice B m d) :=
  ⟨Blk.cell h.one 0, Blk.cell h.one 1, Blk.cell h.two 0, Blk.cell h.two 1⟩
theorem two_made {w W : World} {z1 z2 : Int} {p q : Nat} {A : Option Addr} {n c : Nat} {B : Option Addr} {m d : Nat} {cs1 cs2 : List Value} (hB : Below w.heap.size w W) (hp : w.heap.size ≤ p) (hq : w.heap.size ≤ q) (hpq : p ≠ q)
    (e1 : cs1 = [.bool false, .slice none 0 0]) (e2 : cs2 = [.bool false, .slice none 0 0])
    (bp : Blk W p cs1 39) (bq : Blk W q cs2 39) (r : Rd W A n c (dg z1.natAbs)) (s : Rd W B m d (dg z2.natAbs)) :
    Two z1 z2 p q A n c B m d ((((W.setCell ⟨p, 0, none⟩ (.bool (sg z1))).setCell ⟨p, 1, none⟩ (.slice A n c)).setCell ⟨q, 0, none⟩ (.bool (sg z2))).setCell ⟨q, 1, none⟩ (.slice B m d)) ∧
    Below w.heap.size w ((((W.setCell ⟨p, 0, none⟩ (.bool (sg z1))).setCell ⟨p, 1, none⟩ (.slice A n c)).setCell ⟨q, 0, none⟩ (.bool (sg z2))).setCell ⟨q, 1, none⟩ (.slice B m d)) := by
  subst e1 e2
  have h2 := (bq.far (g := p) (i := 0) (Ne.symm hpq) (.bool (sg z1))).far (g := p) (i := 1) (Ne.symm hpq) (.slice A n c)
  refine ⟨⟨hpq, ?_, ?_, rd_cell_far (rd_cell_far r bp _ _) h2 _ _, rd_cell_far (rd_cell_far s bp _ _) h2 _ _⟩, ?_⟩
  · exact (((bp.set_ 0 _).set_ 1 _).far hpq _).far hpq _
  · exact (h2.set_ 0 _).set_ 1 _
  · exact (((hB.setCell (by exact hp) _).setCell (by exact hp) _).setCell (by exact hq) _).setCell (by exact hq) _
end Go.Proofs.YtdbccidlnhjfhaaGreatDoor
