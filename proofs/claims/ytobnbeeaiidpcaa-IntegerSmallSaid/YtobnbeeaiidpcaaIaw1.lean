/- Contracts: From of the specification of layer 2; the closure of awake of the laws of layer 2. -/
import Derived.Test.YtobnbeeaiidpcaaIfew
import Derived.Test.YtobnbeeaiidpcaaExt
namespace Go.Proofs.Ytobnbeeaiidpcaa
open Go.RowKit

theorem rifrom_any (z : Int) (w : World) (h1 : -9223372036854775808 ≤ z) (h2 : z ≤ 9223372036854775807) :
    Calls Try.prog 25 #[.int .i64 z] w (RetInt w z) := by
  rcases Int.lt_or_le z 0 with h | h
  · exact rifrom_neg z w h1 h
  · exact rifrom_pos z w h h2
/-- Same of two integers in their only form that are equal. -/
theorem risame_true (z : Int) (A : Option Addr) (n c : Nat) (B : Option Addr) (m d : Nat) (w : World) (h : Rd w A n c (dg z.natAbs)) (k : Rd w B m d (dg z.natAbs)) :
    Calls Try.prog 24 #[.agg #[.bool (sg z), .slice A n c], .agg #[.bool (sg z), .slice B m d]] w (RetB w true) := by
  have := risame_any (sg z) A n c _ (sg z) B m d _ w h k
  rwa [decide_eq_true rfl, decide_eq_true rfl] at this

set_option maxRecDepth 100000 in
set_option maxHeartbeats 1000000 in
theorem iawk1_any (z : Int) (A : Option Addr) (n c fb t : Nat) (w : World) (h : Rd w A n c (dg z.natAbs)) (kb : Blk w fb [.func (.func 25) #[] #[]] t) (h1 : -9223372036854775808 ≤ z) (h2 : z ≤ 9223372036854775807) :
    Calls Try.prog 81 #[.agg #[.bool (sg z), .slice A n c], .int .i64 z, .pointer (some ⟨fb, 0, none⟩)] w (RetB w true) := by
  have b0 : Below w.heap.size w (w.alloc (.cells #[.bool (sg z), .slice A n c] 25)) := bx_alloc (bx_refl w) _
  have RA := hid (h.keep b0)
  have B0 := hid b0
  have s1 : (w.alloc (.cells #[.bool (sg z), .slice A n c] 25)).cell? ⟨w.heap.size, 0, none⟩ = some (.bool (sg z)) := Blk.cell (Blk.new w [.bool (sg z), .slice A n c] 25) 0
  have s2 : (w.alloc (.cells #[.bool (sg z), .slice A n c] 25)).cell? ⟨w.heap.size, 1, none⟩ = some (.slice A n c) := Blk.cell (Blk.new w [.bool (sg z), .slice A n c] 25) 1
  have x1 : (w.alloc (.cells #[.bool (sg z), .slice A n c] 25)).cell? ⟨fb, 0, none⟩ = some (.func (.func 25) #[] #[]) := Blk.cell (kb.keep b0) 0
  have FR := hid (fun (W : World) => rifrom_any z W h1 h2)
  have SM := hid (fun (W : World) B m d (hw : Rd W A n c (dg z.natAbs)) (kw : Rd W B m d (dg z.natAbs)) => risame_true z A n c B m d W hw kw)
  clear b0 h kb h1 h2
  go_enter Try.func81, Try.ntmps81
  go_wp2_with fail
  go_region_held3 (fun W => W.cell? ⟨w.heap.size, 0, none⟩ = some (.bool (sg z)) ∧ W.cell? ⟨w.heap.size, 1, none⟩ = some (.slice A n c) ∧ W.cell? ⟨fb, 0, none⟩ = some (.func (.func 25) #[] #[]))
    (refine ⟨?_, ?_, ?_⟩ <;> repeat' (first | with_reducible assumption | with_reducible refine cell_dr ?_))
    (first
      | (go_at_call 24; refine (SM.out w1 B1 m1 d1 (RA.out.keep X1.out) R1.out).mono ?_; rintro e w2 ⟨rfl, b2⟩; have y1 := cell_bx t1 b2; have y2 := cell_bx t2 b2; have y3 := cell_bx t3 b2; have X2 := hid (bx_call X1.out b2); clear b2)
      | (go_at_call 25; refine (FR.out _).mono ?_; rintro e w1 ⟨B1, m1, d1, rfl, r1, b1⟩; have t1 := cell_bx (cell_dr s1) b1; have t2 := cell_bx (cell_dr s2) b1; have t3 := cell_bx (cell_dr x1) b1; have R1 := hid r1; have X1 := hid (bx_call (bx_drew (bx_refl _)) b1); clear b1 r1))
  go_wp2_with fail
  go_ret
  exact ⟨rfl, bx_call B0.out X2.out⟩

end Go.Proofs.Ytobnbeeaiidpcaa
