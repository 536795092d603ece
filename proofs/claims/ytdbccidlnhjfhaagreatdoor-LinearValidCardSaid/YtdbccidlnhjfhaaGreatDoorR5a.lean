/- R5a: VaR, ComR in one text. -/
import Derived.Test.YtdbccidlnhjfhaaGreatDoorDrf
import Derived.Deep.DeepCutAuto
import Derived.BigQuiet
namespace Go.Proofs.YtdbccidlnhjfhaaGreatDoor
open Go.RowKit
def cmbI (tn : Nat → Nat) (v cf : Nat → Nat → Int) (y : Nat → Rat) (i t j : Nat) : Rat := cmbA i tn v cf y j + sumN (fun s => if v i s = (j : Int) then (cf i s : Rat) * y i else 0) t
theorem cmbI_zero (tn : Nat → Nat) (v cf : Nat → Nat → Int) (y : Nat → Rat) (i j : Nat) : cmbI tn v cf y i 0 j = cmbA i tn v cf y j := by
  show _ + (0 : Rat) = _; grind
theorem cmbI_in (tn : Nat → Nat) (v cf : Nat → Nat → Int) (y : Nat → Rat) (i t j : Nat) (h : v i t = (j : Int)) : cmbI tn v cf y i (t + 1) j = cmbI tn v cf y i t j + (cf i t : Rat) * y i := by
  show cmbA i tn v cf y j + (sumN _ t + (if v i t = (j : Int) then (cf i t : Rat) * y i else 0)) = cmbA i tn v cf y j + sumN _ t + _
  rw [if_pos h]; grind
theorem cmbI_out (tn : Nat → Nat) (v cf : Nat → Nat → Int) (y : Nat → Rat) (i t j : Nat) (h : v i t ≠ (j : Int)) : cmbI tn v cf y i (t + 1) j = cmbI tn v cf y i t j := by
  show cmbA i tn v cf y j + (sumN _ t + (if v i t = (j : Int) then (cf i t : Rat) * y i else 0)) = cmbA i tn v cf y j + sumN _ t
  rw [if_neg h]; grind
theorem part_lq {v cf : Nat → Int} {y : Rat} {k t : Nat} (j : Nat) (hy : LQ k y) (hk : 1 ≤ k) (hc : ∀ s, s < t → -9223372036854775808 ≤ cf s ∧ cf s ≤ 9223372036854775807) : LQ (t * (k + 3) + 1) (sumN (fun s => if v s = (j : Int) then (cf s : Rat) * y else 0) t) := by
  have := sumN_lq (f := fun s => if v s = (j : Int) then (cf s : Rat) * y else 0) (k := k + 2) (n := t) (fun s hs => by
    show LQ (k + 2) (if v s = (j : Int) then (cf s : Rat) * y else 0)
    split
    · exact (LQ_mul (LQ_int (hc s hs).1 (hc s hs).2) hy).up (by omega)
    · exact LQ_zero.up (by omega))
  exact this
theorem cmbA_lq {rn m : Nat} {tn : Nat → Nat} {v cf : Nat → Nat → Int} {y : Nat → Rat} {k : Nat} (j : Nat) (hy : ∀ i, LQ k (y i)) (hk : 1 ≤ k) (ht : ∀ i, i < rn → tn i ≤ m) (hc : ∀ i, i < rn → ∀ s, s < tn i → -9223372036854775808 ≤ cf i s ∧ cf i s ≤ 9223372036854775807) : LQ (rn * (m * (k + 3) + 1 + 1) + 1) (cmbA rn tn v cf y j) :=
  sumN_lq fun i hi => (part_lq j (hy i) hk (hc i hi)).up (Nat.add_le_add_right (Nat.mul_le_mul_right _ (ht i hi)) 1)
section
variable {w W W' : World} {cs : List Value} {rb bb Cb vn : Nat} {g : Bool} {A : Option Addr} {n c : Nat} {D : Option Addr} {m d : Nat} {b : Rat} {f : Nat → Rat}
end
end Go.Proofs.YtdbccidlnhjfhaaGreatDoor
