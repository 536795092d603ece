/- The contract of the rounding of Floor of package integer. -/
import Derived.Test.YtdbccidlnhjfhaaGreatDoorExt
namespace Go.Proofs.YtdbccidlnhjfhaaGreatDoor
open Go.RowKit
set_option maxRecDepth 100000
def lowB (x y : Int) : Bool := decide (sgnZ (x.tmod y) * sgnZ y < 0)
def fq (x y : Int) : Int := if lowB x y then x.tdiv y - 1 else x.tdiv y
def fr (x y : Int) : Int := if lowB x y then x.tmod y + y else x.tmod y
theorem sgnZ_cases (z : Int) : sgnZ z = -1 ∨ sgnZ z = 0 ∨ sgnZ z = 1 := by
  unfold sgnZ
  split
  · exact .inl rfl
  · split
    · exact .inr (.inr rfl)
    · exact .inr (.inl rfl)
set_option maxHeartbeats 1000000 in
theorem ifloor1_any (g : Bool) (A : Option Addr) (n c : Nat) (xs : List Nat) (fb t : Nat) (g2 : Bool) (B : Option Addr) (m d : Nat) (ys : List Nat) (w : World) (h : Rd w A n c xs) (kb : Blk w fb [.bool g2, .slice B m d] t) (k : Rd w B m d ys) :
    Calls Tryz.prog 149 #[.agg #[.bool g, .slice A n c], .pointer (some ⟨fb, 0, none⟩)] w (RetB w (decide (sgnZ (iv g xs) * sgnZ (iv g2 ys) < 0))) := by
  have b0 : Below w.heap.size w (w.alloc (.cells #[.bool g, .slice A n c] 39)) := bx_alloc (bx_refl w) _
  have RA := hid (h.keep b0)
  have KB := hid (kb.keep b0)
  have RB := hid (k.keep b0)
  have B0 := hid b0
  have s1 : (w.alloc (.cells #[.bool g, .slice A n c] 39)).cell? ⟨w.heap.size, 0, none⟩ = some (.bool g) := Blk.cell (Blk.new w [.bool g, .slice A n c] 39) 0
  have s2 : (w.alloc (.cells #[.bool g, .slice A n c] 39)).cell? ⟨w.heap.size, 1, none⟩ = some (.slice A n c) := Blk.cell (Blk.new w [.bool g, .slice A n c] 39) 1
  have x1 : (w.alloc (.cells #[.bool g, .slice A n c] 39)).cell? ⟨fb, 0, none⟩ = some (.bool g2) := Blk.cell KB.out 0
  have x2 : (w.alloc (.cells #[.bool g, .slice A n c] 39)).cell? ⟨fb, 1, none⟩ = some (.slice B m d) := Blk.cell KB.out 1
  obtain ⟨x, hx⟩ : ∃ x, x = sgnZ (iv g xs) := ⟨_, rfl⟩
  obtain ⟨y, hy⟩ : ∃ y, y = sgnZ (iv g2 ys) := ⟨_, rfl⟩
  have hxc := sgnZ_cases (iv g xs)
  have hyc := sgnZ_cases (iv g2 ys)
  have SA := hid (fun (W : World) (hw : Rd W A n c xs) => isign_any g A n c xs W hw)
  have SB := hid (fun (W : World) (hw : Rd W B m d ys) => isign_any g2 B m d ys W hw)
  rw [← hx] at SA hxc ⊢
  rw [← hy] at SB hyc ⊢
  have hwr : IntKind.i64.wrap (x * y) = x * y := by
    rcases hxc with rfl | rfl | rfl <;> rcases hyc with rfl | rfl | rfl <;> rfl
  clear b0 h kb k hx hy hxc hyc
  go_enter Tryz.func149, Tryz.ntmps149
  go_wp2_with fail
  go_region_held3 (fun W => W.cell? ⟨w.heap.size, 0, none⟩ = some (.bool g) ∧ W.cell? ⟨w.heap.size, 1, none⟩ = some (.slice A n c) ∧ W.cell? ⟨fb, 0, none⟩ = some (.bool g2) ∧ W.cell? ⟨fb, 1, none⟩ = some (.slice B m d))
    (refine ⟨?_, ?_, ?_, ?_⟩ <;> repeat' (first | with_reducible assumption | with_reducible refine cell_dr ?_))
    (first
      | (go_at_call_of 115 (Value.slice B m d); refine (SB.out w1 (RB.out.keep B1.out)).mono ?_; rintro e w2 ⟨rfl, b2⟩; have y1 := cell_bx t1 b2; have y2 := cell_bx t2 b2; have y3 := cell_bx t3 b2; have y4 := cell_bx t4 b2; have B2 := hid (bx_call B1.out b2); clear b2)
      | (go_at_call_of 115 (Value.slice A n c); refine (SA.out _ (RA.out.keep (bx_drew (bx_refl _)))).mono ?_; rintro e w1 ⟨rfl, b1⟩; have t1 := cell_bx (cell_dr s1) b1; have t2 := cell_bx (cell_dr s2) b1; have t3 := cell_bx (cell_dr x1) b1; have t4 := cell_bx (cell_dr x2) b1; have B1 := hid (bx_call (bx_drew (bx_refl _)) b1); clear b1))
  go_wp2_with fail
  go_ret
  exact ⟨rfl, bx_call B0.out B2.out⟩
end Go.Proofs.YtdbccidlnhjfhaaGreatDoor
