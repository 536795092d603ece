/- Contracts: Uint, Bits of the specification of layer 1. -/
import Derived.Test.YtlgdlabhaehdpaaGreatRef8
namespace Go.Proofs.YtlgdlabhaehdpaaGreat
open Go.RowKit

def uintV (n : Nat) : Int := if n < 18446744073709551616 then n else 0
def uintB (n : Nat) : Bool := decide (n < 18446744073709551616)
theorem len_two {x : Nat} (h : (dg x).length ≤ 2) : x < 18446744073709551616 := by
  have h1 := dg_len_lt x
  have h2 := Nat.pow_le_pow_right (n := 4294967296) (by omega) h
  omega
theorem len_big {x : Nat} (h : 2 < (dg x).length) : ¬ x < 18446744073709551616 := fun h1 => by
  have := dg_len_le (n := x) (k := 2) (by omega)
  omega
theorem uint_any (A : Option Addr) (n c : Nat) (xs : List Nat) (w : World) (h : Rd w A n c xs) :
    Calls Tryz.prog 137 #[.slice A n c] w fun e w' => e = .returned (.tuple #[.int .u64 (uintV (val xs)), .bool (uintB (val xs))]) ∧ w = w' := by
  unfold uintV uintB
  rcases Nat.lt_or_ge 2 (dg (val xs)).length with h1 | h1
  · rw [if_neg (len_big h1), decide_eq_false (len_big h1)]
    exact uint_big A n c xs w h h1
  · rw [if_pos (len_two h1), decide_eq_true (len_two h1)]
    exact uint_small A n c xs w h h1
def RetUint (w : World) (n : Nat) (e : Ending) (w' : World) : Prop := e = .returned (.tuple #[.int .u64 (uintV n), .bool (uintB n)]) ∧ Below w.heap.size w w'

end Go.Proofs.YtlgdlabhaehdpaaGreat
