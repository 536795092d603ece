/- Contracts: Quo, Floor of package integer. -/
import Derived.Test.YthbogaindaflpaaGreatInt10
import Derived.Test.YthbogaindaflpaaGreatAid
namespace Go.Proofs.YthbogaindaflpaaGreat
open Go.RowKit
set_option maxRecDepth 100000
def qz (x y : Int) : Int := if y = 0 then 0 else x.tdiv y
def rz (x y : Int) : Int := if y = 0 then 0 else x.tmod y
def ez (y : Int) : Int := if y = 0 then 2 else 0
theorem iv_zero_iff (g : Bool) (ys : List Nat) : iv g ys = 0 ↔ val ys = 0 := by
  cases g <;> simp [iv] <;> omega
theorem idivide_zero (g1 : Bool) (A : Option Addr) (n c : Nat) (xs : List Nat) (g2 : Bool) (B : Option Addr) (m d : Nat) (ys : List Nat) (F : Value) (w : World) (h : Rd w A n c xs) (hn : n ≤ 1099511627776) (k : Rd w B m d ys) (hm : m ≤ 1099511627776) (hy : val ys = 0) :
    Calls Tryz.prog 130 #[.agg #[.bool g1, .slice A n c], .agg #[.bool g2, .slice B m d], F] w (RetQR w 0 0 2) := by
  have P0 := hid (Pre4.start w g1 (.slice A n c) g2 (.slice B m d))
  have DM := hid (fun (W : World) (p : Pre4 w g1 (.slice A n c) g2 (.slice B m d) W) => divMod_any A B n c m d xs ys W (h.keep p.bel) (k.keep p.bel) hn hm)
  rw [hy, quoD_zero, remD_zero, divE_zero] at DM
  obtain ⟨s1, s2, s3, s4⟩ := P0.out.cells
  clear h k hy
  go_enter Tryz.func130, Tryz.ntmps130
  go_wp2_with fail
  refine (DM.out _ P0.out).mono ?_
  rintro e w1 ⟨v, u, rfl, ⟨A1, n1, c1, rfl, r1⟩, ⟨A2, n2, c2, rfl, r2⟩, b1⟩
  have P1 := hid (P0.out.keep b1)
  clear r1 r2 b1 DM s1 s2 s3 s4 P0
  obtain ⟨x1, x2, x3, x4, y1, y2, y3, y4⟩ := P1.out.rcells
  have E := hid (P1.out.end_ (z1 := 0) (z2 := 0) (k := 2) (Rd.nil w1 none) (Rd.nil w1 none))
  clear P1
  go_wp2_with fail
  exact bodyPost_ret (v := .tuple #[.agg #[.bool (sg 0), .slice none 0 0], .agg #[.bool (sg 0), .slice none 0 0], .int .i64 2]) (by simp [results, Tryz.results130, go_sem, x1, x2, y1, y2, sg]) rfl E.out
set_option maxHeartbeats 1000000 in
theorem iquo_any (g1 : Bool) (A : Option Addr) (n c : Nat) (xs : List Nat) (g2 : Bool) (B : Option Addr) (m d : Nat) (ys : List Nat) (w : World) (h : Rd w A n c xs) (hn : n ≤ 1099511627776) (k : Rd w B m d ys) (hm : m ≤ 1099511627776) :
    Calls Tryz.prog 102 #[.agg #[.bool g1, .slice A n c], .agg #[.bool g2, .slice B m d]] w (RetQR w (qz (iv g1 xs) (iv g2 ys)) (rz (iv g1 xs) (iv g2 ys)) (ez (iv g2 ys))) := by
  have P0 := hid (Pre4.start w g1 (.slice A n c) g2 (.slice B m d))
  have DV : Hid (∀ W : World, Pre4 w g1 (.slice A n c) g2 (.slice B m d) W → Calls Tryz.prog 130 #[.agg #[.bool g1, .slice A n c], .agg #[.bool g2, .slice B m d], .func (.func 131) #[] #[]] W (RetQR W (qz (iv g1 xs) (iv g2 ys)) (rz (iv g1 xs) (iv g2 ys)) (ez (iv g2 ys)))) := by
    refine hid fun W p => ?_
    unfold qz rz ez
    by_cases hy : iv g2 ys = 0
    · rw [if_pos hy, if_pos hy, if_pos hy]
      exact idivide_zero g1 A n c xs g2 B m d ys _ W (h.keep p.bel) hn (k.keep p.bel) hm ((iv_zero_iff g2 ys).1 hy)
    · rw [if_neg hy, if_neg hy, if_neg hy]
      exact idivide_quo g1 A n c xs g2 B m d ys W (h.keep p.bel) hn (k.keep p.bel) hm (Nat.pos_of_ne_zero fun e => hy ((iv_zero_iff g2 ys).2 e))
  obtain ⟨z1, hz1⟩ : ∃ z, z = qz (iv g1 xs) (iv g2 ys) := ⟨_, rfl⟩
  obtain ⟨z2, hz2⟩ : ∃ z, z = rz (iv g1 xs) (iv g2 ys) := ⟨_, rfl⟩
  obtain ⟨z3, hz3⟩ : ∃ z, z = ez (iv g2 ys) := ⟨_, rfl⟩
  rw [← hz1, ← hz2, ← hz3] at DV ⊢
  obtain ⟨s1, s2, s3, s4⟩ := P0.out.cells
  clear h k hz1 hz2 hz3
  go_enter Tryz.func102, Tryz.ntmps102
  go_wp2_with fail
  refine (DV.out _ P0.out).mono ?_
  rintro e w1 ⟨A1, n1, c1, A2, n2, c2, rfl, r1, r2, b1⟩
  have P1 := hid (P0.out.keep b1)
  have R1 := hid r1
  have R2 := hid r2
  clear r1 r2 b1 DV s1 s2 s3 s4 P0
  obtain ⟨x1, x2, x3, x4, y1, y2, y3, y4⟩ := P1.out.rcells
  have E := hid (P1.out.end_ (k := z3) R1.out R2.out)
  clear P1 R1 R2
  go_wp2_with fail
  exact bodyPost_ret (v := .tuple #[.agg #[.bool (sg z1), .slice A1 n1 c1], .agg #[.bool (sg z2), .slice A2 n2 c2], .int .i64 z3]) (by simp [results, Tryz.results102, go_sem, x1, x2, y1, y2]) rfl E.out
end Go.Proofs.YthbogaindaflpaaGreat
