/- Mixtures of two points. -/
import Derived.Test.YtdbccidlnhjfhaaGreatDoorDrf
import Derived.Deep.DeepCutAuto
import Derived.BigQuiet
namespace Go.Proofs.YtdbccidlnhjfhaaGreatDoor
open Go.RowKit
def mixQ (a : Rat) (x y : Nat → Rat) (j : Nat) : Rat := a * x j + (1 - a) * y j
theorem sumN_mix {f : Nat → Rat} {a : Rat} {x y : Nat → Rat} {n : Nat} : sumN (fun j => f j * mixQ a x y j) n = a * sumN (fun j => f j * x j) n + (1 - a) * sumN (fun j => f j * y j) n := by
  rw [← sumN_mul, ← sumN_mul, ← sumN_add]
  refine sumN_congr fun j _ => ?_
  unfold mixQ
  grind
theorem rowV_mix {vn tn : Nat} {v cf : Nat → Int} {x y : Nat → Rat} {a : Rat} : rowV vn tn v cf (mixQ a x y) = a * rowV vn tn v cf x + (1 - a) * rowV vn tn v cf y := by
  unfold rowV
  rw [← sumN_mul, ← sumN_mul, ← sumN_add]
  refine sumN_congr fun t _ => ?_
  have : atQ vn (mixQ a x y) (v t) = a * atQ vn x (v t) + (1 - a) * atQ vn y (v t) := by
    unfold atQ mixQ
    split
    · rfl
    · grind
  rw [this]
  grind
theorem hold_mix {ki bo : Int} {s t a : Rat} (h0 : 0 ≤ a) (h9 : a ≤ 1) (h1 : holdB ki bo s = true) (h2 : holdB ki bo t = true) : holdB ki bo (a * s + (1 - a) * t) = true := by
  have a1 := @sgnQ_neg' (s - (bo : Rat))
  have a2 := @sgnQ_pos' (s - (bo : Rat))
  have b1 := @sgnQ_neg' (t - (bo : Rat))
  have b2 := @sgnQ_pos' (t - (bo : Rat))
  have c1 := @sgnQ_neg' (a * s + (1 - a) * t - (bo : Rat))
  have c2 := @sgnQ_pos' (a * s + (1 - a) * t - (bo : Rat))
  have g9 : 0 ≤ 1 - a := by grind
  unfold holdB at h1 h2 ⊢
  by_cases k0 : ki = 0
  · rw [if_pos k0] at h1 h2 ⊢
    have h1 := of_decide_eq_true h1
    have h2 := of_decide_eq_true h2
    refine decide_eq_true ?_
    have x1 : ¬0 < s - (bo : Rat) := fun h => by have := a2.2 h; omega
    have x2 : ¬0 < t - (bo : Rat) := fun h => by have := b2.2 h; omega
    have y1 : 0 ≤ a * ((bo : Rat) - s) := Rat.mul_nonneg h0 (by grind)
    have y2 : 0 ≤ (1 - a) * ((bo : Rat) - t) := Rat.mul_nonneg g9 (by grind)
    have x4 : ¬0 < a * s + (1 - a) * t - (bo : Rat) := by grind
    have : ¬0 < sgnQ (a * s + (1 - a) * t - (bo : Rat)) := fun h => x4 (c2.1 h)
    omega
  · rw [if_neg k0] at h1 h2 ⊢
    by_cases k1 : ki = 1
    · rw [if_pos k1] at h1 h2 ⊢
      have h1 := of_decide_eq_true h1
      have h2 := of_decide_eq_true h2
      refine decide_eq_true ?_
      have x1 : ¬s - (bo : Rat) < 0 := fun h => by have := a1.2 h; omega
      have x2 : ¬t - (bo : Rat) < 0 := fun h => by have := b1.2 h; omega
      have y1 : 0 ≤ a * (s - (bo : Rat)) := Rat.mul_nonneg h0 (by grind)
      have y2 : 0 ≤ (1 - a) * (t - (bo : Rat)) := Rat.mul_nonneg g9 (by grind)
      have x4 : ¬a * s + (1 - a) * t - (bo : Rat) < 0 := by grind
      have : ¬sgnQ (a * s + (1 - a) * t - (bo : Rat)) < 0 := fun h => x4 (c1.1 h)
      omega
    · rw [if_neg k1] at h1 h2 ⊢
      have h1 := of_decide_eq_true h1
      have h2 := of_decide_eq_true h2
      refine decide_eq_true ?_
      have x1 : ¬s - (bo : Rat) < 0 := fun h => by have := a1.2 h; omega
      have x1' : ¬0 < s - (bo : Rat) := fun h => by have := a2.2 h; omega
      have x2 : ¬t - (bo : Rat) < 0 := fun h => by have := b1.2 h; omega
      have x2' : ¬0 < t - (bo : Rat) := fun h => by have := b2.2 h; omega
      have x3 : s = (bo : Rat) := by grind
      have x4 : t = (bo : Rat) := by grind
      have x5 : a * s + (1 - a) * t = (bo : Rat) := by rw [x3, x4]; grind
      have y1 : ¬sgnQ (a * s + (1 - a) * t - (bo : Rat)) < 0 := fun h => by have := c1.1 h; grind
      have y2 : ¬0 < sgnQ (a * s + (1 - a) * t - (bo : Rat)) := fun h => by have := c2.1 h; grind
      omega
theorem within_mix {op : Bool} {lo up : Int} {s t a : Rat} (h0 : 0 ≤ a) (h9 : a ≤ 1) (h1 : within op lo up s) (h2 : within op lo up t) : within op lo up (a * s + (1 - a) * t) := by
  have a1 := @sgnQ_neg' (s - (lo : Rat))
  have a2 := @sgnQ_pos' (s - (up : Rat))
  have b1 := @sgnQ_neg' (t - (lo : Rat))
  have b2 := @sgnQ_pos' (t - (up : Rat))
  have c1 := @sgnQ_neg' (a * s + (1 - a) * t - (lo : Rat))
  have c2 := @sgnQ_pos' (a * s + (1 - a) * t - (up : Rat))
  have g9 : 0 ≤ 1 - a := by grind
  unfold within at h1 h2 ⊢
  rw [a1, a2] at h1
  rw [b1, b2] at h2
  rw [c1, c2]
  refine ⟨?_, fun ⟨o, h⟩ => ?_⟩
  · have y1 : 0 ≤ a * (s - (lo : Rat)) := Rat.mul_nonneg h0 (by grind)
    have y2 : 0 ≤ (1 - a) * (t - (lo : Rat)) := Rat.mul_nonneg g9 (by grind)
    grind
  · have g1 : ¬0 < s - (up : Rat) := fun g => h1.2 ⟨o, g⟩
    have g2 : ¬0 < t - (up : Rat) := fun g => h2.2 ⟨o, g⟩
    have y1 : 0 ≤ a * ((up : Rat) - s) := Rat.mul_nonneg h0 (by grind)
    have y2 : 0 ≤ (1 - a) * ((up : Rat) - t) := Rat.mul_nonneg g9 (by grind)
    grind
theorem PD.mix_in {p : PD} {x y : Nat → Rat} {a : Rat} (h0 : 0 ≤ a) (h9 : a ≤ 1) (hx : p.inB x = true) (hy : p.inB y = true) : p.inB (mixQ a x y) = true := by
  unfold PD.inB insB at hx hy ⊢
  have h1 := of_decide_eq_true hx
  have h2 := of_decide_eq_true hy
  exact decide_eq_true fun j hj => within_mix h0 h9 (h1 j hj) (h2 j hj)
theorem PD.mix_vio {p : PD} {x y : Nat → Rat} {a : Rat} (h0 : 0 ≤ a) (h9 : a ≤ 1) (hx : vio (p.rowB x) p.rn = []) (hy : vio (p.rowB y) p.rn = []) : vio (p.rowB (mixQ a x y)) p.rn = [] := by
  have h1 := vio_nil.1 hx
  have h2 := vio_nil.1 hy
  refine vio_nil.2 fun i hi => ?_
  unfold PD.rowB
  rw [rowV_mix]
  exact hold_mix h0 h9 (h1 i hi) (h2 i hi)
theorem PD.mix_cost {p : PD} {x y : Nat → Rat} {a : Rat} : p.costV (mixQ a x y) = a * p.costV x + (1 - a) * p.costV y := by
  unfold PD.costV
  exact sumN_mix
end Go.Proofs.YtdbccidlnhjfhaaGreatDoor
