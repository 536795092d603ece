/- Signs of rational numbers. -/
import Derived.Test.YthbogaindaflpaaGreatDoorRatB
namespace Go.Proofs.YthbogaindaflpaaGreatDoor

theorem sgnQ_range (q : Rat) : sgnQ q = -1 ∨ sgnQ q = 0 ∨ sgnQ q = 1 := by
  unfold sgnQ
  split
  · exact .inl rfl
  · split
    · exact .inr (.inr rfl)
    · exact .inr (.inl rfl)
theorem sgnQ_lt {q : Rat} : sgnQ q = -1 ↔ q < 0 := by
  unfold sgnQ
  constructor
  · intro h
    by_cases a : q < 0
    · exact a
    · rw [if_neg a] at h; split at h <;> omega
  · intro h; rw [if_pos h]
theorem sgnQ_gt {q : Rat} : sgnQ q = 1 ↔ 0 < q := by
  unfold sgnQ
  constructor
  · intro h
    by_cases a : q < 0
    · rw [if_pos a] at h; omega
    · rw [if_neg a] at h
      by_cases b : 0 < q
      · exact b
      · rw [if_neg b] at h; omega
  · intro h; rw [if_neg (by grind), if_pos h]
theorem sgnQ_zero {q : Rat} : sgnQ q = 0 ↔ q = 0 := by
  have h1 := @sgnQ_lt q
  have h2 := @sgnQ_gt q
  have h3 := sgnQ_range q
  constructor
  · intro h
    have a : ¬q < 0 := fun e => by have := h1.2 e; omega
    have b : ¬0 < q := fun e => by have := h2.2 e; omega
    grind
  · intro h
    subst h
    rfl
theorem sgnQ_le {q : Rat} : sgnQ q ≤ 0 ↔ q ≤ 0 := by
  have h2 := @sgnQ_gt q
  have h3 := sgnQ_range q
  constructor
  · intro h
    have b : ¬0 < q := fun e => by have := h2.2 e; omega
    grind
  · intro h
    have b : ¬sgnQ q = 1 := fun e => by have := h2.1 e; grind
    omega
theorem sgnQ_neg (q : Rat) : sgnQ (-q) = -sgnQ q := by
  rcases sgnQ_range q with h | h | h
  · rw [h]; exact sgnQ_gt.2 (by have := sgnQ_lt.1 h; grind)
  · rw [h]; exact sgnQ_zero.2 (by have := sgnQ_zero.1 h; grind)
  · rw [h]; exact sgnQ_lt.2 (by have := sgnQ_gt.1 h; grind)
theorem sgnQ_mul (p q : Rat) : sgnQ (p * q) = sgnQ p * sgnQ q := by
  have pos : ∀ {a b : Rat}, 0 < a → 0 < b → 0 < a * b := fun h k => Rat.mul_pos h k
  rcases sgnQ_range p with h | h | h <;> rcases sgnQ_range q with k | k | k <;> rw [h, k]
  · exact sgnQ_gt.2 (by have := @pos (-p) (-q) (by have := sgnQ_lt.1 h; grind) (by have := sgnQ_lt.1 k; grind); grind)
  · exact sgnQ_zero.2 (by have := sgnQ_zero.1 k; grind)
  · exact sgnQ_lt.2 (by have := @pos (-p) q (by have := sgnQ_lt.1 h; grind) (sgnQ_gt.1 k); grind)
  · exact sgnQ_zero.2 (by have := sgnQ_zero.1 h; grind)
  · exact sgnQ_zero.2 (by have := sgnQ_zero.1 h; grind)
  · exact sgnQ_zero.2 (by have := sgnQ_zero.1 h; grind)
  · exact sgnQ_lt.2 (by have := @pos p (-q) (sgnQ_gt.1 h) (by have := sgnQ_lt.1 k; grind); grind)
  · exact sgnQ_zero.2 (by have := sgnQ_zero.1 k; grind)
  · exact sgnQ_gt.2 (pos (sgnQ_gt.1 h) (sgnQ_gt.1 k))
theorem sgnQ_trans {a b c : Rat} (h : sgnQ (a - b) ≤ 0) (k : sgnQ (b - c) ≤ 0) : sgnQ (a - c) ≤ 0 := by
  have := sgnQ_le.1 h
  have := sgnQ_le.1 k
  exact sgnQ_le.2 (by grind)
theorem sgnQ_same {a b : Rat} (h : sgnQ (a - b) = 0) : a = b := by
  have := sgnQ_zero.1 h
  grind

end Go.Proofs.YthbogaindaflpaaGreatDoor
