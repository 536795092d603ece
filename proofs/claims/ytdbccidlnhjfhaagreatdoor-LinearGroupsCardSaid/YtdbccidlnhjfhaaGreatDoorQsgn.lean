/- Signs of rational numbers. -/
import Derived.Test.YtdbccidlnhjfhaaGreatDoorRatB
namespace Go.Proofs.YtdbccidlnhjfhaaGreatDoor
theorem sgnQ_range (q : Rat) : sgnQ q = -1 ∨ sgnQ q = 0 ∨ sgnQ q = 1 := by
  unfold sgnQ
  split
  · exact .inl rfl
  · split
    · exact .inr (.inr rfl)
    · exact .inr (.inl rfl)
theorem sgnQ_lt {q : Rat} : sgnQ q = -1 ↔ q < 0 := by
  unfold sgnQ
  constructor
  · intro h
    by_cases a : q < 0
    · exact a
    · rw [if_neg a] at h; split at h <;> omega
  · intro h; rw [if_pos h]
theorem sgnQ_gt {q : Rat} : sgnQ q = 1 ↔ 0 < q := by
  unfold sgnQ
  constructor
  · intro h
    by_cases a : q < 0
    · rw [if_pos a] at h; omega
    · rw [if_neg a] at h
      by_cases b : 0 < q
      · exact b
      · rw [if_neg b] at h; omega
  · intro h; rw [if_neg (by grind), if_pos h]
theorem sgnQ_zero {q : Rat} : sgnQ q = 0 ↔ q = 0 := by
  have h1 := @sgnQ_lt q
  have h2 := @sgnQ_gt q
  have h3 := sgnQ_range q
  constructor
  · intro h
    have a : ¬q < 0 := fun e => by have := h1.2 e; omega
    have b : ¬0 < q := fun e => by have := h2.2 e; omega
    grind
  · intro h
    subst h
    rfl
end Go.Proofs.YtdbccidlnhjfhaaGreatDoor
