/- The law LinearImplies. -/
import Derived.Test.YtdbccidlnhjfhaaGreatDoorAkz
import Derived.Test.YtdbccidlnhjfhaaGreatDoorDrf
import Derived.Deep.DeepCutAuto
import Derived.BigQuiet
namespace Go.Proofs.YtdbccidlnhjfhaaGreatDoor
open Go.RowKit
section
variable {w W W' : World} {Cb vn : Nat} {cm : Nat → Rat} {bb : Nat} {gb : Bool} {Ab : Option Addr} {nb cb : Nat} {Db : Option Addr} {mb db : Nat} {qb : Rat}
end
theorem few68 {vn rn : Nat} {nm : Nat → ByteArray} {tn : Nat → Nat} (h : fewP vn rn nm tn 6 6 = true) : fewP vn rn nm tn 6 8 = true ∧ vn ≤ 6 := by
  unfold fewP at h ⊢
  simp only [Bool.and_eq_true, decide_eq_true_eq] at h ⊢
  exact ⟨⟨h.1, h.2.1, by omega⟩, h.2.1⟩
theorem short_few {most n : Nat} {N M : Nat → Nat} (h : shortB most n N M = true) : fewQ n N M = true ∧ n ≤ most := by
  unfold shortB at h
  simp only [Bool.and_eq_true, decide_eq_true_eq] at h
  exact ⟨h.2, h.1⟩
end Go.Proofs.YtdbccidlnhjfhaaGreatDoor
