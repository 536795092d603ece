/- Small facts for the laws of layers 2 and 3; the contract of From of the specification of layer 2. -/
import Derived.Test.YtlgdlabhaehdpaaGreatIfew
import Derived.Test.YtlgdlabhaehdpaaGreatInt11
namespace Go.Proofs.YtlgdlabhaehdpaaGreat
open Go.RowKit

theorem rifrom_any (z : Int) (w : World) (h1 : -9223372036854775808 ≤ z) (h2 : z ≤ 9223372036854775807) :
    Calls Tryz.prog 70 #[.int .i64 z] w (RetInt w z) := by
  rcases Int.lt_or_le z 0 with h | h
  · exact rifrom_neg z w h1 h
  · exact rifrom_pos z w h h2
/-- Same of two integers in their only form that are equal. -/
theorem risame_true (z : Int) (A : Option Addr) (n c : Nat) (B : Option Addr) (m d : Nat) (w : World) (h : Rd w A n c (dg z.natAbs)) (k : Rd w B m d (dg z.natAbs)) :
    Calls Tryz.prog 46 #[.agg #[.bool (sg z), .slice A n c], .agg #[.bool (sg z), .slice B m d]] w (RetB w true) := by
  have := risame_any (sg z) A n c _ (sg z) B m d _ w h k
  rwa [decide_eq_true rfl, decide_eq_true rfl] at this

theorem blk_two {w : World} {b t : Nat} {x y : Value} (h : Blk w b [x, y] t) : w.cell? ⟨b, 0, none⟩ = some x ∧ w.cell? ⟨b, 1, none⟩ = some y := ⟨Blk.cell h 0, Blk.cell h 1⟩
/-- The integer has at most k digits. -/
def sz (k : Nat) (z : Int) : Prop := z.natAbs < 4294967296 ^ k
theorem sz_len {k : Nat} {z : Int} (h : sz k z) : (dg z.natAbs).length ≤ k := dg_len_le h
theorem sz_iv {w : World} {g : Bool} {A : Option Addr} {n c k : Nat} {xs : List Nat} (h : Rd w A n c xs) (hn : n ≤ k) : sz k (iv g xs) := by
  unfold sz
  rw [iv_natAbs]
  have h1 := val_lt h.2.2.2.1
  rw [h.1] at h1
  exact Nat.lt_of_lt_of_le h1 (Nat.pow_le_pow_right (by omega) hn)
theorem sz_up {j k : Nat} {z : Int} (h : sz j z) (hj : j ≤ k) : sz k z := Nat.lt_of_lt_of_le h (Nat.pow_le_pow_right (by omega) hj)
theorem sz_add {k : Nat} {x y : Int} (hx : sz k x) (hy : sz k y) : sz (k + 1) (x + y) := by
  unfold sz at *
  rw [Nat.pow_succ]
  generalize 4294967296 ^ k = P at *
  omega
theorem sz_sub {k : Nat} {x y : Int} (hx : sz k x) (hy : sz k y) : sz (k + 1) (x - y) := by
  unfold sz at *
  rw [Nat.pow_succ]
  generalize 4294967296 ^ k = P at *
  omega
theorem sz_neg {k : Nat} {x : Int} (hx : sz k x) : sz k (-x) := by
  unfold sz at *
  rwa [Int.natAbs_neg]
theorem sz_mul {j k : Nat} {x y : Int} (hx : sz j x) (hy : sz k y) : sz (j + k) (x * y) := by
  unfold sz at *
  rw [Int.natAbs_mul, Nat.pow_add]
  exact Nat.mul_lt_mul'' hx hy
theorem risame_eq {x y : Int} (A : Option Addr) (n c : Nat) (B : Option Addr) (m d : Nat) (w : World) (h : Rd w A n c (dg x.natAbs)) (k : Rd w B m d (dg y.natAbs)) (e : x = y) :
    Calls Tryz.prog 46 #[.agg #[.bool (sg x), .slice A n c], .agg #[.bool (sg y), .slice B m d]] w (RetB w true) := by
  subst e
  exact risame_true x A n c B m d w h k

end Go.Proofs.YtlgdlabhaehdpaaGreat
