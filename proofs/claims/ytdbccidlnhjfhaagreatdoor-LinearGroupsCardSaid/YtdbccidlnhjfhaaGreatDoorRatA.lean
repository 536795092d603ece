/- RatA: Rat1, Rat2, Rat3, Frac, Rat4, Rat5, Rat6, Rat7 in one text. -/
import Derived.Test.YtdbccidlnhjfhaaGreatDoorIntD
import Derived.Test.YtdbccidlnhjfhaaGreatDoorRefA
import Derived.RegionTactic
import Derived.ChangeAlike
import Derived.Test.YtdbccidlnhjfhaaGreatDoorGcd
import Derived.Deep.DeepCutAuto
namespace Go.Proofs.YtdbccidlnhjfhaaGreatDoor
open Go.RowKit
set_option maxRecDepth 100000
def dn (y : Nat) : List Nat := if y = 1 then [] else dg y
def dv1 (ys : List Nat) : Nat := if val ys = 0 then 1 else val ys
def RetRat (w : World) (z : Int) (y : Nat) (e : Ending) (w' : World) : Prop := ∃ A n c D m d, e = .returned (.agg #[.bool (sg z), .slice A n c, .slice D m d]) ∧ Rd w' A n c (dg z.natAbs) ∧ Rd w' D m d (dn y) ∧ Below w.heap.size w w'
theorem blk_three {w : World} {b t : Nat} {x y z : Value} (h : Blk w b [x, y, z] t) : w.cell? ⟨b, 0, none⟩ = some x ∧ w.cell? ⟨b, 1, none⟩ = some y ∧ w.cell? ⟨b, 2, none⟩ = some z := ⟨Blk.cell h 0, Blk.cell h 1, Blk.cell h 2⟩
theorem dv1_pos (ys : List Nat) : 0 < dv1 ys := by unfold dv1; split <;> omega
theorem val_dn {y : Nat} (h : 0 < y) : dv1 (dn y) = y := by
  unfold dv1 dn
  by_cases h1 : y = 1
  · subst h1; rfl
  · rw [if_neg h1, val_dg, if_neg (by omega)]
set_option maxHeartbeats 1000000 in
theorem qsign_any (g : Bool) (A : Option Addr) (n c : Nat) (xs : List Nat) (D : Option Addr) (m d : Nat) (w : World) (h : Rd w A n c xs) :
    Calls Tryz.prog 81 #[.agg #[.bool g, .slice A n c, .slice D m d]] w (RetI w (sgnZ (iv g xs))) := by
  have b0 : Below w.heap.size w (w.alloc (.cells #[.bool g, .slice A n c, .slice D m d] 41)) := bx_alloc (bx_refl w) _
  have S := hid (isign_any g A n c xs _ (h.keep b0))
  have B := hid b0
  clear h b0
  go_enter Tryz.func81, Tryz.ntmps81
  go_wp2_with fail
  refine (S.out).mono ?_
  rintro e w1 ⟨rfl, b⟩
  have X := hid (bx_call B.out b)
  clear b B
  go_wp2_with fail
  go_ret
  exact ⟨rfl, X.out⟩
theorem rd_cell_far3 {w : World} {A A0 D0 : Option Addr} {n c n0 c0 m0 d0 g : Nat} {b0 : Bool} {xs : List Nat} (h : Rd w A n c xs) (K : Blk w g [.bool b0, .slice A0 n0 c0, .slice D0 m0 d0] 41) (u v x : Value) : Rd (((w.setCell ⟨g, 0, none⟩ u).setCell ⟨g, 1, none⟩ v).setCell ⟨g, 2, none⟩ x) A n c xs := by
  obtain ⟨h1, h2, h3, h4, h5⟩ := h
  refine ⟨h1, h2, h3, h4, fun hn => ?_⟩
  obtain ⟨b, o, hA, hlt, hc⟩ := h5 hn
  have hne : b ≠ g := by
    rintro rfl
    have h6 := hc 0 hn
    rw [Blk.cell K (o + 0)] at h6
    match o with
    | 0 => simp at h6
    | 1 => simp at h6
    | 2 => simp at h6
    | o + 3 => simp at h6
  refine ⟨b, o, hA, by rw [World.size_setCell, World.size_setCell, World.size_setCell]; exact hlt, fun j hj => ?_⟩
  rw [← hc j hj]
  exact ((World.cell?_of_block (Below.heap_setCell _ ⟨g, 2, none⟩ x b hne)).trans (World.cell?_of_block (Below.heap_setCell _ ⟨g, 1, none⟩ v b hne))).trans (World.cell?_of_block (Below.heap_setCell w ⟨g, 0, none⟩ u b hne))
theorem ret_rat_end {w w2 : World} {z : Int} {y : Nat} {A A0 D D0 : Option Addr} {n c n0 c0 m d m0 d0 g : Nat} {b0 : Bool} (h : Rd w2 A n c (dg z.natAbs)) (k : Rd w2 D m d (dn y)) (K : Blk w2 g [.bool b0, .slice A0 n0 c0, .slice D0 m0 d0] 41) (hb : Below w.heap.size w w2) (hg : w.heap.size ≤ g) :
    RetRat w z y (.returned (.agg #[.bool (sg z), .slice A n c, .slice D m d])) (((w2.setCell ⟨g, 0, none⟩ (.bool (sg z))).setCell ⟨g, 1, none⟩ (.slice A n c)).setCell ⟨g, 2, none⟩ (.slice D m d)) :=
  ⟨A, n, c, D, m, d, rfl, rd_cell_far3 h K _ _ _, rd_cell_far3 k K _ _ _, bx_set (bx_set (bx_set hb hg) hg) hg⟩
set_option maxHeartbeats 1000000 in
theorem qfrom_any (z : Int) (w : World) (h1 : -9223372036854775808 ≤ z) (h2 : z ≤ 9223372036854775807) :
    Calls Tryz.prog 74 #[.int .i64 z] w (RetRat w z 1) := by
  have K := hid (Blk.new w [.bool false, .slice none 0 0, .slice none 0 0] 41)
  have B := hid (bx_alloc (bx_refl w) (.cells #[.bool false, .slice none 0 0, .slice none 0 0] 41))
  have F := hid (fun (W : World) => ifrom_any z W h1 h2)
  clear h1 h2
  go_enter Tryz.func74, Tryz.ntmps74
  go_wp2_with fail
  refine (F.out _).mono ?_
  rintro e w1 ⟨A1, n1, c1, rfl, r1, b⟩
  have K1 := hid (K.out.keep b)
  have E := hid (ret_rat_end r1 (y := 1) (Rd.nil w1 none) K1.out (bx_call B.out b) (Nat.le_refl _))
  obtain ⟨x0, x1, x2⟩ := blk_three K1.out
  have f0 := Blk.free K1.out 0
  have f1 := Blk.free K1.out 1
  have f2 := Blk.free K1.out 2
  clear r1 b K B F K1
  go_wp2_with fail
  exact bodyPost_ret (v := .agg #[.bool (sg z), .slice A1 n1 c1, .slice none 0 0]) (by simp [results, Tryz.results74, go_sem, x0, x1, x2]) rfl E.out
set_option maxHeartbeats 1000000 in
theorem qrfrom_any (z : Int) (w : World) (h1 : -9223372036854775808 ≤ z) (h2 : z ≤ 9223372036854775807) :
    Calls Tryz.prog 43 #[.int .i64 z] w (RetRat w z 1) := by
  have K := hid (Blk.new w [.bool false, .slice none 0 0, .slice none 0 0] 41)
  have B := hid (bx_alloc (bx_refl w) (.cells #[.bool false, .slice none 0 0, .slice none 0 0] 41))
  have F := hid (fun (W : World) => rifrom_any z W h1 h2)
  clear h1 h2
  go_enter Tryz.func43, Tryz.ntmps43
  go_wp2_with fail
  refine (F.out _).mono ?_
  rintro e w1 ⟨A1, n1, c1, rfl, r1, b⟩
  have K1 := hid (K.out.keep b)
  have E := hid (ret_rat_end r1 (y := 1) (Rd.nil w1 none) K1.out (bx_call B.out b) (Nat.le_refl _))
  obtain ⟨x0, x1, x2⟩ := blk_three K1.out
  have f0 := Blk.free K1.out 0
  have f1 := Blk.free K1.out 1
  have f2 := Blk.free K1.out 2
  clear r1 b K B F K1
  go_wp2_with fail
  exact bodyPost_ret (v := .agg #[.bool (sg z), .slice A1 n1 c1, .slice none 0 0]) (by simp [results, Tryz.results43, go_sem, x0, x1, x2]) rfl E.out
set_option maxHeartbeats 2000000 in
theorem qrsame_any (g1 : Bool) (A : Option Addr) (n c : Nat) (xs : List Nat) (D : Option Addr) (m d : Nat) (ds : List Nat) (g2 : Bool) (B : Option Addr) (n2 c2 : Nat) (ys : List Nat) (E : Option Addr) (m2 d2 : Nat) (es : List Nat) (w : World) (h : Rd w A n c xs) (k : Rd w D m d ds) (h2 : Rd w B n2 c2 ys) (k2 : Rd w E m2 d2 es) :
    Calls Tryz.prog 18 #[.agg #[.bool g1, .slice A n c, .slice D m d], .agg #[.bool g2, .slice B n2 c2, .slice E m2 d2]] w (RetB w ((decide (g1 = g2) && decide (xs = ys)) && decide (ds = es))) := by
  have bx : Below w.heap.size w ((w.alloc (.cells #[.bool g1, .slice A n c, .slice D m d] 41)).alloc (.cells #[.bool g2, .slice B n2 c2, .slice E m2 d2] 41)) := bx_alloc (bx_alloc (bx_refl w) _) _
  have S1 := hid (risame_any g1 A n c xs g2 B n2 c2 ys _ (h.keep bx) (h2.keep bx))
  have S2 := hid (fun (W : World) (hw : Below w.heap.size w W) => rsame_any D E m d m2 d2 ds es W (k.keep hw) (k2.keep hw))
  have X := hid bx
  have K1 := hid ((Blk.new w [.bool g1, .slice A n c, .slice D m d] 41).alloc (.cells #[.bool g2, .slice B n2 c2, .slice E m2 d2] 41))
  have K2 := hid (blk_new1 w (.cells #[.bool g1, .slice A n c, .slice D m d] 41) [.bool g2, .slice B n2 c2, .slice E m2 d2] 41)
  obtain ⟨b1, hb1⟩ : ∃ b, b = (decide (g1 = g2) && decide (xs = ys)) := ⟨_, rfl⟩
  obtain ⟨b2, hb2⟩ : ∃ b, b = decide (ds = es) := ⟨_, rfl⟩
  rw [← hb1] at S1 ⊢
  rw [← hb2] at S2 ⊢
  clear bx h k h2 k2 hb1 hb2
  rcases b1 with _ | _
  · go_enter Tryz.func18, Tryz.ntmps18
    go_wp2_with fail
    refine (S1.out).mono ?_
    rintro e w1 ⟨rfl, b⟩
    have Y := hid (bx_call X.out b)
    clear b X
    go_wp2_with fail
    go_ret
    exact ⟨rfl, Y.out⟩
  · go_enter Tryz.func18, Tryz.ntmps18
    go_wp2_with fail
    refine (S1.out).mono ?_
    rintro e w1 ⟨rfl, b⟩
    have Y := hid (bx_call X.out b)
    obtain ⟨x0, x1, x2⟩ := blk_three (K1.out.keep b)
    obtain ⟨y0, y1, y2⟩ := blk_three (K2.out.keep b)
    clear b X S1
    go_wp2_with fail
    refine (S2.out w1 Y.out).mono ?_
    rintro e w2 ⟨rfl, b⟩
    have Z := hid (bx_call Y.out b)
    clear b Y
    go_wp2_with fail
    go_ret
    exact ⟨rfl, Z.out⟩
theorem dg_one : dg 1 = [1] := dg_lit (Digs.cons (by omega) Digs.nil) (.inr (by decide)) _ (by decide)
def lz (x : Int) (y : Nat) : Int := if sg x then -((x.natAbs / Nat.gcd x.natAbs y : Nat) : Int) else ((x.natAbs / Nat.gcd x.natAbs y : Nat) : Int)
def ly (x : Int) (y : Nat) : Nat := y / Nat.gcd x.natAbs y
end Go.Proofs.YtdbccidlnhjfhaaGreatDoor
namespace Go.Proofs.YtdbccidlnhjfhaaGreatDoor
set_option maxRecDepth 100000
theorem lz_sgn (x : Int) (y : Nat) : lz x y = (if x < 0 then -1 else 1) * ((x.natAbs / Nat.gcd x.natAbs y : Nat) : Int) := by
  unfold lz sg
  by_cases h : x < 0
  · rw [decide_eq_true h, if_pos rfl, if_pos h]; omega
  · rw [decide_eq_false h, if_neg (by simp), if_neg h]; omega
theorem low_num (x : Int) (y : Nat) : lz x y * (Nat.gcd x.natAbs y : Int) = x := by
  rw [lz_sgn, Int.mul_assoc, ← Int.natCast_mul, Nat.div_mul_cancel (Nat.gcd_dvd_left _ _)]
  split <;> omega
theorem low_den (x : Int) (y : Nat) : ly x y * Nat.gcd x.natAbs y = y := Nat.div_mul_cancel (Nat.gcd_dvd_right _ _)
end Go.Proofs.YtdbccidlnhjfhaaGreatDoor
namespace Go.Proofs.YtdbccidlnhjfhaaGreatDoor
open Go.RowKit
set_option maxRecDepth 100000
theorem dv1_len {w : World} {D : Option Addr} {m d k : Nat} {ds : List Nat} (h : Rd w D m d ds) (hm : m ≤ k) (hk : 1 ≤ k) : (dg (dv1 ds)).length ≤ k := by
  unfold dv1
  split
  · rw [dg_one]; exact hk
  · have := val_lt h.2.2.2.1
    rw [h.1] at this
    exact Nat.le_trans (dg_len_le this) hm
structure PreQ2 (w : World) (g1 : Bool) (s1 u1 : Value) (g2 : Bool) (s2 u2 : Value) (W : World) : Prop where
  arg1 : Blk W w.heap.size [.bool g1, s1, u1] 41
  arg2 : Blk W (w.heap.size + 1) [.bool g2, s2, u2] 41
  res : Blk W (w.heap.size + 1 + 1) [.bool false, .slice none 0 0, .slice none 0 0] 41
  bel : Below w.heap.size w W
theorem PreQ2.start (w : World) (g1 : Bool) (s1 u1 : Value) (g2 : Bool) (s2 u2 : Value) : PreQ2 w g1 s1 u1 g2 s2 u2 (((w.alloc (.cells #[.bool g1, s1, u1] 41)).alloc (.cells #[.bool g2, s2, u2] 41)).alloc (.cells #[.bool false, .slice none 0 0, .slice none 0 0] 41)) :=
  ⟨((Blk.new w [.bool g1, s1, u1] _).alloc _).alloc _, (blk_new1 w _ [.bool g2, s2, u2] _).alloc _, by have t := blk_new1 (w.alloc (.cells #[.bool g1, s1, u1] 41)) (.cells #[.bool g2, s2, u2] 41) [.bool false, .slice none 0 0, .slice none 0 0] 41; rw [World.size_alloc] at t; exact t, bx_alloc (bx_alloc (bx_alloc (bx_refl w) _) _) _⟩
section
variable {w W W' : World} {g1 g2 : Bool} {s1 u1 s2 u2 : Value}
theorem PreQ2.keep (h : PreQ2 w g1 s1 u1 g2 s2 u2 W) (k : Below W.heap.size W W') : PreQ2 w g1 s1 u1 g2 s2 u2 W' := ⟨h.arg1.keep k, h.arg2.keep k, h.res.keep k, bx_call h.bel k⟩
theorem PreQ2.cells1 (h : PreQ2 w g1 s1 u1 g2 s2 u2 W) : W.cell? ⟨w.heap.size, 0, none⟩ = some (.bool g1) ∧ W.cell? ⟨w.heap.size, 1, none⟩ = some s1 ∧ W.cell? ⟨w.heap.size, 2, none⟩ = some u1 := blk_three h.arg1
theorem PreQ2.cells2 (h : PreQ2 w g1 s1 u1 g2 s2 u2 W) : W.cell? ⟨w.heap.size + 1, 0, none⟩ = some (.bool g2) ∧ W.cell? ⟨w.heap.size + 1, 1, none⟩ = some s2 ∧ W.cell? ⟨w.heap.size + 1, 2, none⟩ = some u2 := blk_three h.arg2
theorem PreQ2.rcells (h : PreQ2 w g1 s1 u1 g2 s2 u2 W) : W.cell? ⟨w.heap.size + 1 + 1, 0, none⟩ = some (.bool false) ∧ W.cell? ⟨w.heap.size + 1 + 1, 1, none⟩ = some (.slice none 0 0) ∧ W.cell? ⟨w.heap.size + 1 + 1, 2, none⟩ = some (.slice none 0 0) ∧ W.frozen? ⟨w.heap.size + 1 + 1, 0, none⟩ = false ∧ W.frozen? ⟨w.heap.size + 1 + 1, 1, none⟩ = false ∧ W.frozen? ⟨w.heap.size + 1 + 1, 2, none⟩ = false :=
  ⟨Blk.cell h.res 0, Blk.cell h.res 1, Blk.cell h.res 2, Blk.free h.res 0, Blk.free h.res 1, Blk.free h.res 2⟩
end
theorem one_made {w W : World} {z : Int} {p : Nat} {A : Option Addr} {n c : Nat} (hB : Below w.heap.size w W) (hp : w.heap.size ≤ p)
    (bp : Blk W p [.bool false, .slice none 0 0] 39) (r : Rd W A n c (dg z.natAbs)) :
    (Blk ((W.setCell ⟨p, 0, none⟩ (.bool (sg z))).setCell ⟨p, 1, none⟩ (.slice A n c)) p [.bool (sg z), .slice A n c] 39 ∧ Rd ((W.setCell ⟨p, 0, none⟩ (.bool (sg z))).setCell ⟨p, 1, none⟩ (.slice A n c)) A n c (dg z.natAbs)) ∧
    Below w.heap.size w ((W.setCell ⟨p, 0, none⟩ (.bool (sg z))).setCell ⟨p, 1, none⟩ (.slice A n c)) :=
  ⟨⟨blk_set2 bp, rd_cell_far r bp _ _⟩, bx_set (bx_set hB hp) hp⟩
theorem far_facts {W : World} {p t o B : Nat} (bp : Blk W p [.bool false, .slice none 0 0] t) (hp : B ≤ p) (ho : o + 1 < B) :
    (W.cell? ⟨p, 0, none⟩ = some (.bool false) ∧ W.cell? ⟨p, 1, none⟩ = some (.slice none 0 0) ∧ W.frozen? ⟨p, 0, none⟩ = false ∧ W.frozen? ⟨p, 1, none⟩ = false) ∧ Hid (o ≠ p ∧ o + 1 ≠ p) :=
  ⟨⟨Blk.cell bp 0, Blk.cell bp 1, Blk.free bp 0, Blk.free bp 1⟩, hid ⟨by omega, by omega⟩⟩
theorem sum_len {x y : Int} {k : Nat} (hx : (dg x.natAbs).length ≤ k) (hy : (dg y.natAbs).length ≤ k) : (dg (x + y).natAbs).length ≤ k + 1 := by
  have h1 := dg_len_lt x.natAbs
  have h2 := dg_len_lt y.natAbs
  have h3 := Nat.pow_le_pow_right (n := 4294967296) (by decide) hx
  have h4 := Nat.pow_le_pow_right (n := 4294967296) (by decide) hy
  refine dg_len_le ?_
  rw [Nat.pow_succ]
  omega
end Go.Proofs.YtdbccidlnhjfhaaGreatDoor
