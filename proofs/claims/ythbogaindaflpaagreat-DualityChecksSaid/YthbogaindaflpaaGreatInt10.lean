/- Contracts: the division of package integer, rounded down. -/
import Derived.Test.YthbogaindaflpaaGreatInt9
import Derived.Test.YthbogaindaflpaaGreatIntF
namespace Go.Proofs.YthbogaindaflpaaGreat
open Go.RowKit
theorem iv_sg (z : Int) : iv (sg z) (dg z.natAbs) = z := by
  unfold iv sg
  rw [val_dg]
  by_cases h : z < 0
  · rw [decide_eq_true h, if_pos rfl]; omega
  · rw [decide_eq_false h, if_neg (by simp)]; omega
end Go.Proofs.YthbogaindaflpaaGreat
