/- The contract of Gcd of the specification of layer 1. -/
import Derived.Test.YtlgdlabhaehdpaaRef8
import Derived.Test.YtlgdlabhaehdpaaGcd
namespace Go.Proofs.Ytlgdlabhaehdpaa
open Go.RowKit

theorem rgcd_end {w wr : World} {G p : Nat} {A : Option Addr} {c : Nat} {B : Option Addr} {d x y : Nat} (h : GcdRel w G p 0 A c B d x y wr) : RetDig w (dg G) (.returned (.slice A p c)) wr := by
  obtain ⟨h1, h2, h3, h4⟩ := h
  have hy : y = 0 := dg_nil_iff.1 (List.eq_nil_of_length_eq_zero h2.1)
  rw [hy, Nat.gcd_zero_right] at h3
  subst h3
  exact ⟨_, rfl, ⟨_, _, _, rfl, h1⟩, h4⟩

end Go.Proofs.Ytlgdlabhaehdpaa
