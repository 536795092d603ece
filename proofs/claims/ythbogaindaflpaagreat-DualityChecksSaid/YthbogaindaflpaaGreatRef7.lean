/- Contracts: DivMod of the specification of layer 1. -/
import Derived.Test.YthbogaindaflpaaGreatBit
namespace Go.Proofs.YthbogaindaflpaaGreat
open Go.RowKit
structure DEnv (w : World) (Qb : Nat) (qs : List Nat) (A : Option Addr) (n c : Nat) (xs : List Nat) (B : Option Addr) (m d y : Nat) (wr : World) : Prop where
  row : Row wr Qb qs
  a : Rd wr A n c xs
  b : Rd wr B m d (dg y)
  below : Below w.heap.size w wr
  old : w.heap.size ≤ Qb
theorem DEnv.keep {w wr w' : World} {Qb : Nat} {qs : List Nat} {A : Option Addr} {n c : Nat} {xs : List Nat} {B : Option Addr} {m d y : Nat} (h : DEnv w Qb qs A n c xs B m d y wr) (hb : Below wr.heap.size wr w') : DEnv w Qb qs A n c xs B m d y w' :=
  ⟨Blk.below h.row hb (Blk.lt h.row), h.a.keep hb, h.b.keep hb, h.below.trans (hb.mono h.below.size), h.old⟩
theorem DEnv.store {w wr : World} {Qb : Nat} {qs : List Nat} {A : Option Addr} {n c : Nat} {xs : List Nat} {B : Option Addr} {m d y : Nat} (h : DEnv w Qb qs A n c xs B m d y wr) (hA : ∀ b o, 0 < n → A = some ⟨b, o, none⟩ → b ≠ Qb) (hB : ∀ b o, 0 < m → B = some ⟨b, o, none⟩ → b ≠ Qb) (i u : Nat) : DEnv w Qb (qs.set i u) A n c xs B m d y (wr.setCell ⟨Qb, i, none⟩ (.int .u32 u)) := by
  refine ⟨h.row.set_ i u, ?_, ?_, h.below.setCell h.old _, h.old⟩
  · obtain ⟨a1, a2, a3, a4, a5⟩ := h.a
    refine ⟨a1, a2, a3, a4, fun hn => ?_⟩
    obtain ⟨b, o, e, hlt, hc⟩ := a5 hn
    exact ⟨b, o, e, by rw [World.size_setCell]; exact hlt, fun j hj => (World.cell?_of_block (Below.heap_setCell wr ⟨Qb, i, none⟩ _ b (hA b o hn e))).trans (hc j hj)⟩
  · obtain ⟨a1, a2, a3, a4, a5⟩ := h.b
    refine ⟨a1, a2, a3, a4, fun hn => ?_⟩
    obtain ⟨b, o, e, hlt, hc⟩ := a5 hn
    exact ⟨b, o, e, by rw [World.size_setCell]; exact hlt, fun j hj => (World.cell?_of_block (Below.heap_setCell wr ⟨Qb, i, none⟩ _ b (hB b o hn e))).trans (hc j hj)⟩
theorem dig_store {wr : World} {v : Value} {xs : List Nat} {Qb i : Nat} (u : Value) (h : Dig wr v xs) (hA : ∀ A n c b o, v = .slice A n c → 0 < n → A = some ⟨b, o, none⟩ → b ≠ Qb) : Dig (wr.setCell ⟨Qb, i, none⟩ u) v xs := by
  obtain ⟨A, n, c, rfl, a1, a2, a3, a4, a5⟩ := h
  refine ⟨A, n, c, rfl, a1, a2, a3, a4, fun hn => ?_⟩
  obtain ⟨b, o, e, hlt, hc⟩ := a5 hn
  exact ⟨b, o, e, by rw [World.size_setCell]; exact hlt, fun j hj => (World.cell?_of_block (Below.heap_setCell wr ⟨Qb, i, none⟩ u b (hA A n c b o rfl hn e))).trans (hc j hj)⟩
end Go.Proofs.YthbogaindaflpaaGreat
