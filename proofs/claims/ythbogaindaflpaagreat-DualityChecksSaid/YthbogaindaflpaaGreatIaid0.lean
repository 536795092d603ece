/- Small facts for the laws of layers 2 and 3; the contract of From of the specification of layer 2. -/
import Derived.Test.YthbogaindaflpaaGreatIfew
import Derived.Test.YthbogaindaflpaaGreatInt11
namespace Go.Proofs.YthbogaindaflpaaGreat
open Go.RowKit
theorem rifrom_any (z : Int) (w : World) (h1 : -9223372036854775808 ≤ z) (h2 : z ≤ 9223372036854775807) :
    Calls Tryz.prog 38 #[.int .i64 z] w (RetInt w z) := by
  rcases Int.lt_or_le z 0 with h | h
  · exact rifrom_neg z w h1 h
  · exact rifrom_pos z w h h2
theorem blk_two {w : World} {b t : Nat} {x y : Value} (h : Blk w b [x, y] t) : w.cell? ⟨b, 0, none⟩ = some x ∧ w.cell? ⟨b, 1, none⟩ = some y := ⟨Blk.cell h 0, Blk.cell h 1⟩
def sz (k : Nat) (z : Int) : Prop := z.natAbs < 4294967296 ^ k
end Go.Proofs.YthbogaindaflpaaGreat
