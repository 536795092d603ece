/- Contracts: Parse of the specification of layer 1. -/
import Derived.Test.YtlgdlabhaehdpaaGreatPar2
import Derived.Test.YtlgdlabhaehdpaaGreatRef10
import Derived.Deep.RegionWith
namespace Go.Proofs.YtlgdlabhaehdpaaGreat
open Go.RowKit

def RPar (w : World) (l : List UInt8) (k : Nat) (A : Option Addr) (p c : Nat) (wr : World) : Prop := Rd wr A p c (dg (numT (l.take k))) ∧ (l.take k).all isDig = true ∧ Below w.heap.size w wr
def RMid (w : World) (X : Nat) (A : Option Addr) (p c : Nat) (w1 : World) : Prop := Rd w1 A p c (dg (10 * X)) ∧ p ≤ 1000 ∧ Below w.heap.size w w1
theorem RPar.drew {w wr : World} {l : List UInt8} {k : Nat} {A : Option Addr} {p c : Nat} (h : RPar w l k A p c wr) : RPar w l k A p c wr.drew := ⟨h.1, h.2.1, h.2.2.drew⟩
theorem num_len (K : Nat) {l : List UInt8} {k : Nat} (h : (l.take k).all isDig = true) (hk : k ≤ 9 * K) : (dg (numT (l.take k))).length ≤ K := by
  refine dg_len_le ?_
  have h1 := numT_lt h
  have h2 : 10 ^ (l.take k).length ≤ 10 ^ (9 * K) := Nat.pow_le_pow_right (by omega) (by simp; omega)
  have h3 : (10 ^ 9) ^ K ≤ 4294967296 ^ K := Nat.pow_le_pow_left (by omega) K
  rw [← Nat.pow_mul] at h3
  exact Nat.lt_of_lt_of_le h1 (Nat.le_trans h2 h3)
theorem ten_len {x K : Nat} (h : (dg x).length ≤ K) : (dg (10 * x)).length ≤ K + 1 := by
  refine dg_len_le ?_
  have h3 := dg_len_lt x
  have h4 := Nat.pow_le_pow_right (n := 4294967296) (by omega) h
  rw [Nat.pow_succ]
  generalize 4294967296 ^ K = P at *
  omega
/-- The product, in a world in which 10 lies at g. -/
theorem par_mul {w wr W : World} {l : List UInt8} {k : Nat} {A : Option Addr} {p c g : Nat} (h : RPar w l k A p c wr) (hk : k ≤ 4000) (hb : Below wr.heap.size wr W) (ht : Rd W (some ⟨g, 0, none⟩) 1 1 [10]) :
    Calls Tryz.prog 69 #[.slice A p c, .slice (some ⟨g, 0, none⟩) 1 1] W fun e w1 => ∃ A1 p1 c1, e = .returned (.slice A1 p1 c1) ∧ Hid (RMid w (numT (l.take k)) A1 p1 c1 w1) ∧ Below W.heap.size W w1 := by
  have hl := num_len 900 h.2.1 (by omega)
  refine (rmul_any A _ p c 1 1 _ [10] W (h.1.keep hb) ht (by have := h.1.1; omega) (by omega)).mono ?_
  rintro e w1 ⟨v, rfl, ⟨A1, p1, c1, rfl, r1⟩, b1⟩
  rw [val_dg, show val [10] = 10 from rfl, Nat.mul_comm] at r1
  refine ⟨A1, p1, c1, rfl, hid ⟨r1, ?_, h.2.2.trans ((hb.trans (b1.mono hb.size)).mono h.2.2.size)⟩, b1⟩
  rw [← r1.1]
  have h2 := ten_len hl
  omega
theorem par_add2 {w wr W : World} {l : List UInt8} {k : Nat} {A1 : Option Addr} {p1 c1 g d : Nat} (h : RMid w (numT (l.take k)) A1 p1 c1 wr) (hk : k < l.length) (hk2 : k < 4000) (hd : d = l[k].toNat - 48) (ha : (l.take (k + 1)).all isDig = true) (hb : Below wr.heap.size wr W) (ht : Rd W (some ⟨g, 0, none⟩) 1 1 [d]) :
    Calls Tryz.prog 111 #[.slice A1 p1 c1, .slice (some ⟨g, 0, none⟩) 1 1] W fun e w2 => ∃ A2 p2 c2, e = .returned (.slice A2 p2 c2) ∧ p2 ≤ 65536 ∧ Hid (RPar w l (k + 1) A2 p2 c2 w2) := by
  refine (radd_any A1 _ p1 c1 1 1 _ [d] W (h.1.keep hb) ht (by have := h.2.1; omega) (by omega)).mono ?_
  rintro e w2 ⟨v, rfl, ⟨A2, p2, c2, rfl, r2⟩, b2⟩
  rw [val_dg, show val [d] = d from by simp [val], hd, ← take_succ_numT hk] at r2
  refine ⟨A2, p2, c2, rfl, ?_, hid ⟨r2, ha, h.2.2.trans ((hb.trans (b2.mono hb.size)).mono h.2.2.size)⟩⟩
  have := num_len 900 ha (by omega)
  rw [← r2.1]
  omega

theorem dig_wrap {c : UInt8} (h1 : 48 ≤ c.toNat) (h2 : c.toNat ≤ 57) : IntKind.u32.wrap (IntKind.u8.wrap ((c.toNat : Int) - 48)) = ((c.toNat - 48 : Nat) : Int) := by
  simp only [IntKind.wrap, IntKind.bits, IntKind.signed]
  simp
  omega
theorem below_two (w : World) (o o2 : Obj) : Below w.heap.size w ((w.alloc o).alloc o2).drew := (((Below.refl _ _).alloc (Nat.le_refl _) _).alloc (by simp) _).drew
theorem rd_drew {w : World} {A : Option Addr} {n c : Nat} {xs : List Nat} (h : Rd w A n c xs) : Rd w.drew A n c xs := h
theorem one_rd2 (w : World) (o : Obj) (d : Nat) (hd : d < 4294967296) : Rd ((w.alloc o).alloc (.cells #[.int .u32 (d : Int)] 112)) (some ⟨w.heap.size + 1, 0, none⟩) 1 1 [d] := by
  have := one_rd (w.alloc o) d hd (d : Int) rfl
  rwa [World.size_alloc] at this

end Go.Proofs.YtlgdlabhaehdpaaGreat
