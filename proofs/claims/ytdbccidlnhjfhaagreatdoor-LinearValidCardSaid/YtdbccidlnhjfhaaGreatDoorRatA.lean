/- RatA: Rat1, Rat2, Rat3, Frac, Rat4, Rat5, Rat6, Rat7 in one text. -/
import Derived.Test.YtdbccidlnhjfhaaGreatDoorIntD
import Derived.Test.YtdbccidlnhjfhaaGreatDoorRgcd
import Derived.Deep.DeepCutAuto
namespace Go.Proofs.YtdbccidlnhjfhaaGreatDoor
open Go.RowKit
set_option maxRecDepth 100000
def dn (y : Nat) : List Nat := if y = 1 then [] else dg y
def dv1 (ys : List Nat) : Nat := if val ys = 0 then 1 else val ys
def RetRat (w : World) (z : Int) (y : Nat) (e : Ending) (w' : World) : Prop := ∃ A n c D m d, e = .returned (.agg #[.bool (sg z), .slice A n c, .slice D m d]) ∧ Rd w' A n c (dg z.natAbs) ∧ Rd w' D m d (dn y) ∧ Below w.heap.size w w'
theorem blk_three {w : World} {b t : Nat} {x y z : Value} (h : Blk w b [x, y, z] t) : w.cell? ⟨b, 0, none⟩ = some x ∧ w.cell? ⟨b, 1, none⟩ = some y ∧ w.cell? ⟨b, 2, none⟩ = some z := ⟨Blk.cell h 0, Blk.cell h 1, Blk.cell h 2⟩
theorem dv1_pos (ys : List Nat) : 0 < dv1 ys := by unfold dv1; split <;> omega
theorem val_dn {y : Nat} (h : 0 < y) : dv1 (dn y) = y := by
  unfold dv1 dn
  by_cases h1 : y = 1
  · subst h1; rfl
  · rw [if_neg h1, val_dg, if_neg (by omega)]
set_option maxHeartbeats 1000000 in
theorem qsign_any (g : Bool) (A : Option Addr) (n c : Nat) (xs : List Nat) (D : Option Addr) (m d : Nat) (w : World) (h : Rd w A n c xs) :
    Calls Tryz.prog 81 #[.agg #[.bool g, .slice A n c, .slice D m d]] w (RetI w (sgnZ (iv g xs))) := by
  have b0 : Below w.heap.size w (w.alloc (.cells #[.bool g, .slice A n c, .slice D m d] 41)) := bx_alloc (bx_refl w) _
  have S := hid (isign_any g A n c xs _ (h.keep b0))
  have B := hid b0
  clear h b0
  go_enter Tryz.func81, Tryz.ntmps81
  go_wp2_with fail
  refine (S.out).mono ?_
  rintro e w1 ⟨rfl, b⟩
  have X := hid (bx_call B.out b)
  clear b B
  go_wp2_with fail
  go_ret
  exact ⟨rfl, X.out⟩
set_option maxHeartbeats 1000000 in
theorem qrsign_any (g : Bool) (A : Option Addr) (n c : Nat) (xs : List Nat) (D : Option Addr) (m d : Nat) (w : World) (h : Rd w A n c xs) (hn : n ≤ 1099511627776) :
    Calls Tryz.prog 42 #[.agg #[.bool g, .slice A n c, .slice D m d]] w (RetI w (sgnZ (iv g xs))) := by
  have b0 : Below w.heap.size w (w.alloc (.cells #[.bool g, .slice A n c, .slice D m d] 41)) := bx_alloc (bx_refl w) _
  have S := hid (risign_any g A n c xs _ (h.keep b0) hn)
  have B := hid b0
  clear h b0
  go_enter Tryz.func42, Tryz.ntmps42
  go_wp2_with fail
  refine (S.out).mono ?_
  rintro e w1 ⟨rfl, b⟩
  have X := hid (bx_call B.out b)
  clear b B
  go_wp2_with fail
  go_ret
  exact ⟨rfl, X.out⟩
theorem rd_cell_far3 {w : World} {A A0 D0 : Option Addr} {n c n0 c0 m0 d0 g : Nat} {b0 : Bool} {xs : List Nat} (h : Rd w A n c xs) (K : Blk w g [.bool b0, .slice A0 n0 c0, .slice D0 m0 d0] 41) (u v x : Value) : Rd (((w.setCell ⟨g, 0, none⟩ u).setCell ⟨g, 1, none⟩ v).setCell ⟨g, 2, none⟩ x) A n c xs := by
  obtain ⟨h1, h2, h3, h4, h5⟩ := h
  refine ⟨h1, h2, h3, h4, fun hn => ?_⟩
  obtain ⟨b, o, hA, hlt, hc⟩ := h5 hn
  have hne : b ≠ g := by
    rintro rfl
    have h6 := hc 0 hn
    rw [Blk.cell K (o + 0)] at h6
    match o with
    | 0 => simp at h6
    | 1 => simp at h6
    | 2 => simp at h6
    | o + 3 => simp at h6
  refine ⟨b, o, hA, by rw [World.size_setCell, World.size_setCell, World.size_setCell]; exact hlt, fun j hj => ?_⟩
  rw [← hc j hj]
  exact ((World.cell?_of_block (Below.heap_setCell _ ⟨g, 2, none⟩ x b hne)).trans (World.cell?_of_block (Below.heap_setCell _ ⟨g, 1, none⟩ v b hne))).trans (World.cell?_of_block (Below.heap_setCell w ⟨g, 0, none⟩ u b hne))
theorem ret_rat_end {w w2 : World} {z : Int} {y : Nat} {A A0 D D0 : Option Addr} {n c n0 c0 m d m0 d0 g : Nat} {b0 : Bool} (h : Rd w2 A n c (dg z.natAbs)) (k : Rd w2 D m d (dn y)) (K : Blk w2 g [.bool b0, .slice A0 n0 c0, .slice D0 m0 d0] 41) (hb : Below w.heap.size w w2) (hg : w.heap.size ≤ g) :
    RetRat w z y (.returned (.agg #[.bool (sg z), .slice A n c, .slice D m d])) (((w2.setCell ⟨g, 0, none⟩ (.bool (sg z))).setCell ⟨g, 1, none⟩ (.slice A n c)).setCell ⟨g, 2, none⟩ (.slice D m d)) :=
  ⟨A, n, c, D, m, d, rfl, rd_cell_far3 h K _ _ _, rd_cell_far3 k K _ _ _, bx_set (bx_set (bx_set hb hg) hg) hg⟩
set_option maxHeartbeats 1000000 in
theorem qfrom_any (z : Int) (w : World) (h1 : -9223372036854775808 ≤ z) (h2 : z ≤ 9223372036854775807) :
    Calls Tryz.prog 74 #[.int .i64 z] w (RetRat w z 1) := by
  have K := hid (Blk.new w [.bool false, .slice none 0 0, .slice none 0 0] 41)
  have B := hid (bx_alloc (bx_refl w) (.cells #[.bool false, .slice none 0 0, .slice none 0 0] 41))
  have F := hid (fun (W : World) => ifrom_any z W h1 h2)
  clear h1 h2
  go_enter Tryz.func74, Tryz.ntmps74
  go_wp2_with fail
  refine (F.out _).mono ?_
  rintro e w1 ⟨A1, n1, c1, rfl, r1, b⟩
  have K1 := hid (K.out.keep b)
  have E := hid (ret_rat_end r1 (y := 1) (Rd.nil w1 none) K1.out (bx_call B.out b) (Nat.le_refl _))
  obtain ⟨x0, x1, x2⟩ := blk_three K1.out
  have f0 := Blk.free K1.out 0
  have f1 := Blk.free K1.out 1
  have f2 := Blk.free K1.out 2
  clear r1 b K B F K1
  go_wp2_with fail
  exact bodyPost_ret (v := .agg #[.bool (sg z), .slice A1 n1 c1, .slice none 0 0]) (by simp [results, Tryz.results74, go_sem, x0, x1, x2]) rfl E.out
set_option maxHeartbeats 1000000 in
theorem qrfrom_any (z : Int) (w : World) (h1 : -9223372036854775808 ≤ z) (h2 : z ≤ 9223372036854775807) :
    Calls Tryz.prog 43 #[.int .i64 z] w (RetRat w z 1) := by
  have K := hid (Blk.new w [.bool false, .slice none 0 0, .slice none 0 0] 41)
  have B := hid (bx_alloc (bx_refl w) (.cells #[.bool false, .slice none 0 0, .slice none 0 0] 41))
  have F := hid (fun (W : World) => rifrom_any z W h1 h2)
  clear h1 h2
  go_enter Tryz.func43, Tryz.ntmps43
  go_wp2_with fail
  refine (F.out _).mono ?_
  rintro e w1 ⟨A1, n1, c1, rfl, r1, b⟩
  have K1 := hid (K.out.keep b)
  have E := hid (ret_rat_end r1 (y := 1) (Rd.nil w1 none) K1.out (bx_call B.out b) (Nat.le_refl _))
  obtain ⟨x0, x1, x2⟩ := blk_three K1.out
  have f0 := Blk.free K1.out 0
  have f1 := Blk.free K1.out 1
  have f2 := Blk.free K1.out 2
  clear r1 b K B F K1
  go_wp2_with fail
  exact bodyPost_ret (v := .agg #[.bool (sg z), .slice A1 n1 c1, .slice none 0 0]) (by simp [results, Tryz.results43, go_sem, x0, x1, x2]) rfl E.out
set_option maxHeartbeats 2000000 in
theorem qrsame_any (g1 : Bool) (A : Option Addr) (n c : Nat) (xs : List Nat) (D : Option Addr) (m d : Nat) (ds : List Nat) (g2 : Bool) (B : Option Addr) (n2 c2 : Nat) (ys : List Nat) (E : Option Addr) (m2 d2 : Nat) (es : List Nat) (w : World) (h : Rd w A n c xs) (k : Rd w D m d ds) (h2 : Rd w B n2 c2 ys) (k2 : Rd w E m2 d2 es) :
    Calls Tryz.prog 18 #[.agg #[.bool g1, .slice A n c, .slice D m d], .agg #[.bool g2, .slice B n2 c2, .slice E m2 d2]] w (RetB w ((decide (g1 = g2) && decide (xs = ys)) && decide (ds = es))) := by
  have bx : Below w.heap.size w ((w.alloc (.cells #[.bool g1, .slice A n c, .slice D m d] 41)).alloc (.cells #[.bool g2, .slice B n2 c2, .slice E m2 d2] 41)) := bx_alloc (bx_alloc (bx_refl w) _) _
  have S1 := hid (risame_any g1 A n c xs g2 B n2 c2 ys _ (h.keep bx) (h2.keep bx))
  have S2 := hid (fun (W : World) (hw : Below w.heap.size w W) => rsame_any D E m d m2 d2 ds es W (k.keep hw) (k2.keep hw))
  have X := hid bx
  have K1 := hid ((Blk.new w [.bool g1, .slice A n c, .slice D m d] 41).alloc (.cells #[.bool g2, .slice B n2 c2, .slice E m2 d2] 41))
  have K2 := hid (blk_new1 w (.cells #[.bool g1, .slice A n c, .slice D m d] 41) [.bool g2, .slice B n2 c2, .slice E m2 d2] 41)
  obtain ⟨b1, hb1⟩ : ∃ b, b = (decide (g1 = g2) && decide (xs = ys)) := ⟨_, rfl⟩
  obtain ⟨b2, hb2⟩ : ∃ b, b = decide (ds = es) := ⟨_, rfl⟩
  rw [← hb1] at S1 ⊢
  rw [← hb2] at S2 ⊢
  clear bx h k h2 k2 hb1 hb2
  rcases b1 with _ | _
  · go_enter Tryz.func18, Tryz.ntmps18
    go_wp2_with fail
    refine (S1.out).mono ?_
    rintro e w1 ⟨rfl, b⟩
    have Y := hid (bx_call X.out b)
    clear b X
    go_wp2_with fail
    go_ret
    exact ⟨rfl, Y.out⟩
  · go_enter Tryz.func18, Tryz.ntmps18
    go_wp2_with fail
    refine (S1.out).mono ?_
    rintro e w1 ⟨rfl, b⟩
    have Y := hid (bx_call X.out b)
    obtain ⟨x0, x1, x2⟩ := blk_three (K1.out.keep b)
    obtain ⟨y0, y1, y2⟩ := blk_three (K2.out.keep b)
    clear b X S1
    go_wp2_with fail
    refine (S2.out w1 Y.out).mono ?_
    rintro e w2 ⟨rfl, b⟩
    have Z := hid (bx_call Y.out b)
    clear b Y
    go_wp2_with fail
    go_ret
    exact ⟨rfl, Z.out⟩
theorem digit_one (w : World) : Rd (w.alloc (.cells #[.int .u32 1] 127)) (some ⟨w.heap.size, 0, none⟩) 1 1 [1] :=
  (show Row (w.alloc (.cells #[.int .u32 (1 : Int)] 127)) w.heap.size [1] from Blk.new w [dv 1] _).rd0 (Digs.cons (by omega) Digs.nil) (Nat.le_refl _) (by simp)
theorem dg_one : dg 1 = [1] := dg_lit (Digs.cons (by omega) Digs.nil) (.inr (by decide)) _ (by decide)
set_option maxHeartbeats 1000000 in
theorem qrden_any (g : Bool) (A : Option Addr) (n c : Nat) (D : Option Addr) (m d : Nat) (ds : List Nat) (w : World) (k : Rd w D m d ds) (hm : m ≤ 2199023255552) :
    Calls Tryz.prog 85 #[.agg #[.bool g, .slice A n c, .slice D m d]] w (RetDig w (dg (dv1 ds))) := by
  have b0 : Below w.heap.size w (w.alloc (.cells #[.bool g, .slice A n c, .slice D m d] 41)) := bx_alloc (bx_refl w) _
  have T := hid (rtrim_any D m d ds _ (k.keep b0) hm)
  have B := hid b0
  clear b0 k
  by_cases hv : val ds = 0
  · rw [hv] at T
    have ed : dv1 ds = 1 := by unfold dv1; rw [if_pos hv]
    rw [ed]
    clear hv ed
    go_enter Tryz.func85, Tryz.ntmps85
    go_wp2_with fail
    refine (T.out).mono ?_
    rintro e w1 ⟨v1, rfl, ⟨A1, n1, c1, rfl, r1⟩, b⟩
    obtain rfl : n1 = 0 := by rw [← r1.1, dg_zero]; rfl
    have E := hid (show RetDig w (dg 1) (.returned (.slice (some ⟨w1.heap.size, 0, none⟩) 1 1)) (w1.alloc (.cells #[.int .u32 1] 127)) from ⟨_, rfl, ⟨_, _, _, rfl, by rw [dg_one]; exact digit_one w1⟩, bx_alloc (bx_call B.out b) _⟩)
    clear r1 b B T
    go_wp2_with fail
    go_ret
    exact E.out
  · have ed : dv1 ds = val ds := by unfold dv1; rw [if_neg hv]
    have hl := dg_len_pos (Nat.pos_of_ne_zero hv)
    rw [ed]
    clear hv ed
    go_enter Tryz.func85, Tryz.ntmps85
    go_wp2_with fail
    refine (T.out).mono ?_
    rintro e w1 ⟨v1, rfl, ⟨A1, n1, c1, rfl, r1⟩, b⟩
    have hn0 : ((n1 : Int) == 0) = false := by rw [beq_eq_false_iff_ne]; have := r1.1; omega
    have E := hid (show RetDig w (dg (val ds)) (.returned (.slice A1 n1 c1)) w1 from ⟨_, rfl, ⟨_, _, _, rfl, r1⟩, bx_call B.out b⟩)
    clear r1 b B T hl
    go_wp2_with fail
    go_ret
    exact E.out
def lz (x : Int) (y : Nat) : Int := if sg x then -((x.natAbs / Nat.gcd x.natAbs y : Nat) : Int) else ((x.natAbs / Nat.gcd x.natAbs y : Nat) : Int)
def ly (x : Int) (y : Nat) : Nat := y / Nat.gcd x.natAbs y
set_option maxHeartbeats 4000000 in
theorem qrbuild_any (g : Bool) (A : Option Addr) (n c : Nat) (xs : List Nat) (D : Option Addr) (m d : Nat) (ds : List Nat) (w : World) (h : Rd w A n c xs) (hn : n ≤ 1099511627775) (k : Rd w D m d ds) (hm : m ≤ 1099511627775) (hd : 0 < val ds) :
    Calls Tryz.prog 86 #[.agg #[.bool g, .slice A n c], .slice D m d] w (RetRat w (lz (iv g xs) (val ds)) (ly (iv g xs) (val ds))) := by
  have bx : Below w.heap.size w ((w.alloc (.cells #[.bool g, .slice A n c] 39)).alloc (.cells #[.bool false, .slice none 0 0, .slice none 0 0] 41)) := bx_alloc (bx_alloc (bx_refl w) _) _
  have K := hid ((Blk.new w [.bool g, .slice A n c] 39).alloc (.cells #[.bool false, .slice none 0 0, .slice none 0 0] 41))
  have Q := hid (blk_new1 w (.cells #[.bool g, .slice A n c] 39) [.bool false, .slice none 0 0, .slice none 0 0] 41)
  have F := hid (rfix_any g A n c xs _ (h.keep bx) (by omega))
  have Dd := hid (k.keep bx)
  have X := hid bx
  have lx : (dg (iv g xs).natAbs).length ≤ 1099511627775 := Nat.le_trans (dg_abs_len (g := g) h.2.2.2.1 h.1) hn
  obtain ⟨x, hx⟩ : ∃ x, x = iv g xs := ⟨_, rfl⟩
  obtain ⟨y, hy⟩ : ∃ y, y = val ds := ⟨_, rfl⟩
  rw [← hx] at F lx ⊢
  rw [← hy] at hd ⊢
  obtain ⟨G, hG⟩ : ∃ G, G = Nat.gcd x.natAbs y := ⟨_, rfl⟩
  have gpos : 0 < G := by rw [hG]; exact Nat.gcd_pos_of_pos_right _ hd
  have gle : G ≤ y := by rw [hG]; exact Nat.gcd_le_right _ hd
  have lyd : (dg y).length ≤ 1099511627775 := by
    have := val_lt k.2.2.2.1
    rw [k.1, ← hy] at this
    exact Nat.le_trans (dg_len_le this) hm
  have lG : (dg G).length ≤ 1099511627775 := Nat.le_trans (dg_len_mono gle) lyd
  have lq : (dg (x.natAbs / G)).length ≤ 1099511627775 := Nat.le_trans (dg_len_mono (Nat.div_le_self _ _)) lx
  obtain ⟨z, hz⟩ : ∃ z, z = lz x y := ⟨_, rfl⟩
  obtain ⟨e0, he⟩ : ∃ e0, e0 = ly x y := ⟨_, rfl⟩
  have HG := hid hG
  have HY := hid hy
  have HZ := hid (show iv (sg x) (dg (x.natAbs / G)) = z from by rw [hz]; unfold lz iv; rw [val_dg, ← hG])
  have HE := hid (show y / G = e0 from by rw [he]; unfold ly; rw [← hG])
  rw [← hz, ← he]
  clear bx h k hx hy hG hz he
  go_enter Tryz.func86, Tryz.ntmps86
  go_wp2_with fail
  obtain ⟨k0, k1⟩ := blk_two K.out
  go_wp2_with fail
  refine (F.out).mono ?_
  rintro e w1 ⟨A1, n1, c1, rfl, r1, b⟩
  have K1 := hid (K.out.keep b)
  have Q1 := hid (Q.out.keep b)
  have D1 := hid (Dd.out.keep b)
  have X1 := hid (bx_call X.out b)
  have R1 := hid r1
  clear r1 b k0 k1 K Q Dd X F
  obtain ⟨k0, k1⟩ := blk_two K1.out
  have f0 := Blk.free K1.out 0
  have f1 := Blk.free K1.out 1
  obtain ⟨W, hW⟩ : ∃ W, W = (w1.setCell ⟨w.heap.size, 0, none⟩ (.bool (sg x))).setCell ⟨w.heap.size, 1, none⟩ (.slice A1 n1 c1) := ⟨_, rfl⟩
  have K2 : Hid (Blk W w.heap.size [.bool (sg x), .slice A1 n1 c1] 39) := hid (by rw [hW]; exact K1.out.reset)
  have Q2 : Hid (Blk W (w.heap.size + 1) [.bool false, .slice none 0 0, .slice none 0 0] 41) := hid (by rw [hW]; exact (Q1.out.far (by omega) _).far (by omega) _)
  have D2 : Hid (Rd W D m d ds) := hid (by rw [hW]; exact rd_cell_far D1.out K1.out _ _)
  have R2 : Hid (Rd W A1 n1 c1 (dg x.natAbs)) := hid (by rw [hW]; exact rd_cell_far R1.out K1.out _ _)
  have X2 : Hid (Below w.heap.size w W) := hid (by rw [hW]; exact bx_set (bx_set X1.out (Nat.le_refl _)) (Nat.le_refl _))
  have l1 : n1 ≤ 1099511627775 := by rw [← R1.out.1]; exact lx
  clear K1 Q1 D1 X1 R1
  go_upto_region 2 with fail
  rw [← hW]
  clear hW k0 k1 f0 f1
  have cc := rgcd_any A1 D n1 c1 m d _ _ W R2.out D2.out l1 hm
  rw [val_dg, ← HY.out, ← HG.out] at cc
  have CC := hid cc
  clear cc
  obtain ⟨k0, k1⟩ := blk_two K2.out
  go_wp2_with fail
  refine (CC.out).mono ?_
  rintro e w3 ⟨v, rfl, ⟨A2, n2, c2, rfl, r2⟩, b⟩
  have K3 := hid (K2.out.keep b)
  have Q3 := hid (Q2.out.keep b)
  have D3 := hid (D2.out.keep b)
  have R3 := hid (R2.out.keep b)
  have X3 := hid (bx_call X2.out b)
  have G3 := hid r2
  have l2 : n2 ≤ 1099511627775 := by rw [← r2.1]; exact lG
  clear r2 b CC K2 Q2 D2 R2 X2 k0 k1
  have cc := rdivMod_any A1 A2 n1 c1 n2 c2 _ _ w3 R3.out G3.out (by omega) l2
  rw [val_dg, val_dg, quoD_pos gpos, remD_pos gpos, divE_pos gpos] at cc
  have CC := hid cc
  clear cc
  obtain ⟨k0, k1⟩ := blk_two K3.out
  go_wp2_with fail
  refine (CC.out).mono ?_
  rintro e w4 ⟨v, u, rfl, ⟨A3, n3, c3, rfl, r3⟩, ⟨A4, n4, c4, rfl, r4⟩, b⟩
  have K4 := hid (K3.out.keep b)
  have Q4 := hid (Q3.out.keep b)
  have D4 := hid (D3.out.keep b)
  have G4 := hid (G3.out.keep b)
  have M4 := hid r3
  have X4 := hid (bx_call X3.out b)
  have l3 : n3 ≤ 1099511627775 := by rw [← r3.1]; exact lq
  clear r3 r4 b CC K3 Q3 D3 R3 G3 X3 k0 k1
  have cc := rdivMod_any D A2 m d n2 c2 _ _ w4 D4.out G4.out (by omega) l2
  rw [← HY.out, val_dg, quoD_pos gpos, remD_pos gpos, divE_pos gpos, HE.out] at cc
  have CC := hid cc
  clear cc
  go_wp2_with fail
  refine (CC.out).mono ?_
  rintro e w5 ⟨v, u, rfl, ⟨A5, n5, c5, rfl, r5⟩, ⟨A6, n6, c6, rfl, r6⟩, b⟩
  have K5 := hid (K4.out.keep b)
  have Q5 := hid (Q4.out.keep b)
  have M5 := hid (M4.out.keep b)
  have E5 := hid r5
  have X5 := hid (bx_call X4.out b)
  clear r5 r6 b CC K4 Q4 D4 G4 M4 X4
  have ba := bx_alloc (bx_refl w5) (.cells #[.int .u32 1] 127)
  have cc := rsame_any A5 _ n5 c5 1 1 _ _ (w5.alloc (.cells #[.int .u32 1] 127)) (E5.out.keep ba) (digit_one w5)
  have HS : decide (dg e0 = [1]) = decide (e0 = 1) := decide_eq_decide.2 ⟨fun h => by have := congrArg val h; rw [val_dg] at this; exact this, fun h => by rw [h, dg_one]⟩
  rw [HS] at cc
  have CC := hid cc
  have BA := hid ba
  clear cc ba HS
  by_cases h1 : e0 = 1
  all_goals
    first
      | (have t1 : decide (e0 = 1) = true := decide_eq_true h1)
      | (have t1 : decide (e0 = 1) = false := decide_eq_false h1)
    rw [t1] at CC
    clear t1
    have H1 := hid h1
    clear h1
    go_wp2_with fail
    refine (CC.out).mono ?_
    rintro e w6 ⟨rfl, b⟩
    have b6 := bx_call BA.out b
    have K6 := hid (K5.out.keep b6)
    have Q6 := hid (Q5.out.keep b6)
    have M6 := hid (M5.out.keep b6)
    have E6 := hid (E5.out.keep b6)
    have X6 := hid (bx_call X5.out b6)
    clear b b6 CC BA K5 Q5 M5 E5 X5
    have cc := rfix_any (sg x) A3 n3 c3 _ w6 M6.out (by omega)
    rw [HZ.out] at cc
    have CC := hid cc
    clear cc
    obtain ⟨k0, k1⟩ := blk_two K6.out
    go_wp2_with fail
    refine (CC.out).mono ?_
    rintro e w7 ⟨A7, n7, c7, rfl, r7, b⟩
    have Q7 := hid (Q6.out.keep b)
    first
      | (have E7 := hid (show Rd w7 none 0 0 (dn e0) from by rw [show dn e0 = [] from by unfold dn; rw [if_pos H1.out]]; exact Rd.nil w7 none)
         have EE := hid (ret_rat_end r7 E7.out Q7.out (bx_call X6.out b) (Nat.le_succ _)))
      | (have E7 := hid (show Rd w7 A5 n5 c5 (dn e0) from by rw [show dn e0 = dg e0 from by unfold dn; rw [if_neg H1.out]]; exact E6.out.keep b)
         have EE := hid (ret_rat_end r7 E7.out Q7.out (bx_call X6.out b) (Nat.le_succ _)))
    obtain ⟨x0, x1, x2⟩ := blk_three Q7.out
    have f0 := Blk.free Q7.out 0
    have f1 := Blk.free Q7.out 1
    have f2 := Blk.free Q7.out 2
    clear r7 b CC K6 Q6 M6 E6 X6 Q7 E7 k0 k1
    go_wp2_with fail
    first
      | exact bodyPost_ret (v := .agg #[.bool (sg z), .slice A7 n7 c7, .slice none 0 0]) (by simp [results, Tryz.results86, go_sem, x0, x1, x2]) rfl EE.out
      | exact bodyPost_ret (v := .agg #[.bool (sg z), .slice A7 n7 c7, .slice A5 n5 c5]) (by simp [results, Tryz.results86, go_sem, x0, x1, x2]) rfl EE.out
end Go.Proofs.YtdbccidlnhjfhaaGreatDoor
namespace Go.Proofs.YtdbccidlnhjfhaaGreatDoor
set_option maxRecDepth 100000
theorem lz_sgn (x : Int) (y : Nat) : lz x y = (if x < 0 then -1 else 1) * ((x.natAbs / Nat.gcd x.natAbs y : Nat) : Int) := by
  unfold lz sg
  by_cases h : x < 0
  · rw [decide_eq_true h, if_pos rfl, if_pos h]; omega
  · rw [decide_eq_false h, if_neg (by simp), if_neg h]; omega
theorem low_num (x : Int) (y : Nat) : lz x y * (Nat.gcd x.natAbs y : Int) = x := by
  rw [lz_sgn, Int.mul_assoc, ← Int.natCast_mul, Nat.div_mul_cancel (Nat.gcd_dvd_left _ _)]
  split <;> omega
theorem low_den (x : Int) (y : Nat) : ly x y * Nat.gcd x.natAbs y = y := Nat.div_mul_cancel (Nat.gcd_dvd_right _ _)
theorem gcd_pos {x : Int} {y : Nat} (h : 0 < y) : 0 < Nat.gcd x.natAbs y := Nat.gcd_pos_of_pos_right _ h
theorem ly_pos {x : Int} {y : Nat} (h : 0 < y) : 0 < ly x y := Nat.div_pos (Nat.gcd_le_right _ h) (gcd_pos h)
theorem low_scale (x : Int) (y k : Nat) (hk : 0 < k) : lz (x * k) (y * k) = lz x y ∧ ly (x * k) (y * k) = ly x y := by
  have e : (x * (k : Int)).natAbs = x.natAbs * k := by rw [Int.natAbs_mul, Int.natAbs_natCast]
  have g : Nat.gcd (x * (k : Int)).natAbs (y * k) = Nat.gcd x.natAbs y * k := by rw [e, Nat.gcd_mul_right]
  have s : (x * (k : Int) < 0) ↔ x < 0 := by
    constructor
    · intro h
      rcases Int.lt_or_le x 0 with h1 | h1
      · exact h1
      · have := Int.mul_nonneg h1 (Int.natCast_nonneg k); omega
    · intro h
      exact Int.mul_neg_of_neg_of_pos h (by omega)
  constructor
  · rw [lz_sgn, lz_sgn, g, e, Nat.mul_div_mul_right _ _ hk]
    simp only [s]
  · unfold ly
    rw [g, Nat.mul_div_mul_right _ _ hk]
theorem low_eq {x1 x2 : Int} {y1 y2 : Nat} (h1 : 0 < y1) (h2 : 0 < y2) (h : x1 * y2 = x2 * y1) : lz x1 y1 = lz x2 y2 ∧ ly x1 y1 = ly x2 y2 := by
  have a := low_scale x1 y1 y2 h2
  have b := low_scale x2 y2 y1 h1
  rw [h, Nat.mul_comm y1 y2] at a
  exact ⟨a.1.symm.trans b.1, a.2.symm.trans b.2⟩
theorem low_val (x : Int) (y : Nat) : lz x y * (y : Int) = x * (ly x y : Int) := by
  have h1 := low_num x y
  have h2 := low_den x y
  calc lz x y * (y : Int) = lz x y * ((ly x y * Nat.gcd x.natAbs y : Nat) : Int) := by rw [h2]
    _ = (lz x y * (Nat.gcd x.natAbs y : Int)) * (ly x y : Int) := by rw [Int.natCast_mul, Int.mul_comm (ly x y : Int), Int.mul_assoc]
    _ = x * (ly x y : Int) := by rw [h1]
theorem sgnZ_low {x : Int} {y : Nat} (h : 0 < y) : sgnZ (lz x y) = sgnZ x := by
  have h1 := low_num x y
  have h2 := gcd_pos (x := x) h
  generalize lz x y = z at *
  generalize Nat.gcd x.natAbs y = G at *
  unfold sgnZ
  rcases Int.lt_trichotomy z 0 with a | a | a
  · have := Int.mul_neg_of_neg_of_pos a (show (0 : Int) < G by omega)
    rw [if_pos a, if_pos (by omega)]
  · subst a
    rw [Int.zero_mul] at h1
    rw [← h1]
  · have := Int.mul_pos a (show (0 : Int) < G by omega)
    rw [if_neg (by omega), if_pos a, if_neg (by omega), if_pos (by omega)]
theorem low_add {x1 x2 : Int} {y1 y2 : Nat} (h1 : 0 < y1) (h2 : 0 < y2) : lz (x1 * (ly x2 y2 : Int) + lz x2 y2 * (y1 : Int)) (y1 * ly x2 y2) = lz (x1 * (y2 : Int) + x2 * (y1 : Int)) (y1 * y2) ∧ ly (x1 * (ly x2 y2 : Int) + lz x2 y2 * (y1 : Int)) (y1 * ly x2 y2) = ly (x1 * (y2 : Int) + x2 * (y1 : Int)) (y1 * y2) := by
  refine low_eq (Nat.mul_pos h1 (ly_pos h2)) (Nat.mul_pos h1 h2) ?_
  have hv := low_val x2 y2
  generalize lz x2 y2 = z at *
  generalize ly x2 y2 = l at *
  simp only [Int.natCast_mul, Int.add_mul]
  have e1 : x1 * (l : Int) * ((y1 : Int) * (y2 : Int)) = x1 * (y2 : Int) * ((y1 : Int) * (l : Int)) := by
    rw [Int.mul_assoc, Int.mul_assoc, Int.mul_left_comm (l : Int) (y1 : Int), Int.mul_left_comm (y2 : Int) (y1 : Int), Int.mul_comm (l : Int) (y2 : Int)]
  have e2 : z * (y1 : Int) * ((y1 : Int) * (y2 : Int)) = x2 * (y1 : Int) * ((y1 : Int) * (l : Int)) := by
    have : z * (y1 : Int) * ((y1 : Int) * (y2 : Int)) = (z * (y2 : Int)) * ((y1 : Int) * (y1 : Int)) := by
      rw [Int.mul_assoc, Int.mul_assoc, ← Int.mul_assoc (y1 : Int) (y1 : Int), Int.mul_comm ((y1 : Int) * (y1 : Int))]
    rw [this, hv, Int.mul_assoc, Int.mul_assoc, Int.mul_comm (l : Int), Int.mul_assoc]
  rw [e1, e2]
end Go.Proofs.YtdbccidlnhjfhaaGreatDoor
namespace Go.Proofs.YtdbccidlnhjfhaaGreatDoor
open Go.RowKit
set_option maxRecDepth 100000
structure PreQ1 (w : World) (g : Bool) (s u : Value) (W : World) : Prop where
  arg : Blk W w.heap.size [.bool g, s, u] 41
  res : Blk W (w.heap.size + 1) [.bool false, .slice none 0 0, .slice none 0 0] 41
  bel : Below w.heap.size w W
theorem PreQ1.start (w : World) (g : Bool) (s u : Value) : PreQ1 w g s u ((w.alloc (.cells #[.bool g, s, u] 41)).alloc (.cells #[.bool false, .slice none 0 0, .slice none 0 0] 41)) :=
  ⟨(Blk.new w [.bool g, s, u] _).alloc _, blk_new1 w _ [.bool false, .slice none 0 0, .slice none 0 0] _, bx_alloc (bx_alloc (bx_refl w) _) _⟩
theorem PreQ1.keep {w W W' : World} {g : Bool} {s u : Value} (h : PreQ1 w g s u W) (k : Below W.heap.size W W') : PreQ1 w g s u W' := ⟨h.arg.keep k, h.res.keep k, bx_call h.bel k⟩
theorem PreQ1.cells {w W : World} {g : Bool} {s u : Value} (h : PreQ1 w g s u W) : W.cell? ⟨w.heap.size, 0, none⟩ = some (.bool g) ∧ W.cell? ⟨w.heap.size, 1, none⟩ = some s ∧ W.cell? ⟨w.heap.size, 2, none⟩ = some u := blk_three h.arg
theorem PreQ1.rcells {w W : World} {g : Bool} {s u : Value} (h : PreQ1 w g s u W) : W.cell? ⟨w.heap.size + 1, 0, none⟩ = some (.bool false) ∧ W.cell? ⟨w.heap.size + 1, 1, none⟩ = some (.slice none 0 0) ∧ W.cell? ⟨w.heap.size + 1, 2, none⟩ = some (.slice none 0 0) ∧ W.frozen? ⟨w.heap.size + 1, 0, none⟩ = false ∧ W.frozen? ⟨w.heap.size + 1, 1, none⟩ = false ∧ W.frozen? ⟨w.heap.size + 1, 2, none⟩ = false :=
  ⟨Blk.cell h.res 0, Blk.cell h.res 1, Blk.cell h.res 2, Blk.free h.res 0, Blk.free h.res 1, Blk.free h.res 2⟩
theorem PreQ1.end_ {w W : World} {g : Bool} {s u : Value} {z : Int} {y : Nat} {A D : Option Addr} {n c m d : Nat} (h : PreQ1 w g s u W) (r : Rd W A n c (dg z.natAbs)) (q : Rd W D m d (dn y)) :
    RetRat w z y (.returned (.agg #[.bool (sg z), .slice A n c, .slice D m d])) (((W.setCell ⟨w.heap.size + 1, 0, none⟩ (.bool (sg z))).setCell ⟨w.heap.size + 1, 1, none⟩ (.slice A n c)).setCell ⟨w.heap.size + 1, 2, none⟩ (.slice D m d)) :=
  ret_rat_end r q h.res h.bel (Nat.le_succ _)
theorem dv1_len {w : World} {D : Option Addr} {m d k : Nat} {ds : List Nat} (h : Rd w D m d ds) (hm : m ≤ k) (hk : 1 ≤ k) : (dg (dv1 ds)).length ≤ k := by
  unfold dv1
  split
  · rw [dg_one]; exact hk
  · have := val_lt h.2.2.2.1
    rw [h.1] at this
    exact Nat.le_trans (dg_len_le this) hm
set_option maxHeartbeats 2000000 in
theorem qrfix_any (g : Bool) (A : Option Addr) (n c : Nat) (xs : List Nat) (D : Option Addr) (m d : Nat) (ds : List Nat) (w : World) (h : Rd w A n c xs) (hn : n ≤ 1099511627775) (k : Rd w D m d ds) (hm : m ≤ 1099511627775) :
    Calls Tryz.prog 78 #[.agg #[.bool g, .slice A n c, .slice D m d]] w (RetRat w (lz (iv g xs) (dv1 ds)) (ly (iv g xs) (dv1 ds))) := by
  have P0 := hid (PreQ1.start w g (.slice A n c) (.slice D m d))
  obtain ⟨W0, hW⟩ : ∃ W, W = (w.alloc (.cells #[.bool g, .slice A n c, .slice D m d] 41)).alloc (.cells #[.bool false, .slice none 0 0, .slice none 0 0] 41) := ⟨_, rfl⟩
  rw [← hW] at P0
  have RA := hid (h.keep P0.out.bel)
  have RD := hid (k.keep P0.out.bel)
  have ld := dv1_len k hm (by omega)
  have DN := hid (fun (W : World) (hw : Below W0.heap.size W0 W) => qrden_any g A n c D m d ds W (RD.out.keep hw) (by omega))
  have BU := hid (fun (W : World) D1 m1 d1 (hw : Below W0.heap.size W0 W) (q : Rd W D1 m1 d1 (dg (dv1 ds))) => qrbuild_any g A n c xs D1 m1 d1 _ W (RA.out.keep hw) hn q (by have := q.1; omega) (by rw [val_dg]; exact dv1_pos ds))
  simp only [val_dg] at BU
  obtain ⟨X, hX⟩ : ∃ X, X = iv g xs := ⟨_, rfl⟩
  rw [← hX] at BU ⊢
  obtain ⟨z, hz⟩ : ∃ z, z = lz X (dv1 ds) := ⟨_, rfl⟩
  obtain ⟨y, hy⟩ : ∃ y, y = ly X (dv1 ds) := ⟨_, rfl⟩
  rw [← hz, ← hy] at BU ⊢
  clear h k hz hy hX
  go_enter Tryz.func78, Tryz.ntmps78
  go_upto_region 1 with fail
  rw [← hW]
  clear hW
  obtain ⟨s1, s2, s3⟩ := P0.out.cells
  go_region_held3 (fun W => W.cell? ⟨w.heap.size, 0, none⟩ = some (.bool g) ∧ W.cell? ⟨w.heap.size, 1, none⟩ = some (.slice A n c) ∧ W.cell? ⟨w.heap.size, 2, none⟩ = some (.slice D m d))
    (refine ⟨?_, ?_, ?_⟩ <;> repeat' (first | with_reducible assumption | with_reducible refine cell_dr ?_ | with_reducible refine cell_fr ?_ (by omega)))
    (first
      | (go_at_call 86; refine (BU.out w1 D1 m1 d1 X1.out Q1.out).mono ?_; rintro e w3 ⟨A2, n2, c2, E2, m2, d2, rfl, r2, q2, b2⟩; have y1 := cell_bx t1 b2; have y2 := cell_bx t2 b2; have y3 := cell_bx t3 b2; have P3 := hid (P0.out.keep (bx_call X1.out b2)); have EE := hid (P3.out.end_ r2 q2); obtain ⟨x0, x1, x2, x3, x4, x5⟩ := P3.out.rcells; clear b2 r2 q2)
      | (go_at_call 85; refine (DN.out _ (bx_drew (bx_refl _))).mono ?_; rintro e w1 ⟨v, rfl, ⟨D1, m1, d1, rfl, q1⟩, b1⟩; have t1 := cell_bx (cell_dr s1) b1; have t2 := cell_bx (cell_dr s2) b1; have t3 := cell_bx (cell_dr s3) b1; have Q1 := hid q1; have X1 := hid (bx_call (bx_drew (bx_refl _)) b1); clear b1 q1))
  go_wp2_with fail
  exact bodyPost_ret (v := .agg #[.bool (sg z), .slice A2 n2 c2, .slice E2 m2 d2]) (by simp [results, Tryz.results78, go_sem, x0, x1, x2]) rfl EE.out
set_option maxHeartbeats 2000000 in
theorem qrneg_any (g : Bool) (A : Option Addr) (n c : Nat) (xs : List Nat) (D : Option Addr) (m d : Nat) (ds : List Nat) (w : World) (h : Rd w A n c xs) (hn : n ≤ 1099511627775) (k : Rd w D m d ds) (hm : m ≤ 1099511627775) :
    Calls Tryz.prog 97 #[.agg #[.bool g, .slice A n c, .slice D m d]] w (RetRat w (lz (-iv g xs) (dv1 ds)) (ly (-iv g xs) (dv1 ds))) := by
  have P0 := hid (PreQ1.start w g (.slice A n c) (.slice D m d))
  obtain ⟨W0, hW⟩ : ∃ W, W = (w.alloc (.cells #[.bool g, .slice A n c, .slice D m d] 41)).alloc (.cells #[.bool false, .slice none 0 0, .slice none 0 0] 41) := ⟨_, rfl⟩
  rw [← hW] at P0
  have RA := hid (h.keep P0.out.bel)
  have RD := hid (k.keep P0.out.bel)
  have ld := dv1_len k hm (by omega)
  have DN := hid (fun (W : World) (hw : Below W0.heap.size W0 W) => qrden_any g A n c D m d ds W (RD.out.keep hw) (by omega))
  have NG := hid (fun (_ : Unit) => rineg_any g A n c xs W0.drew (RA.out.keep (bx_drew (bx_refl _))) (by omega))
  have ln : (dg (-iv g xs).natAbs).length ≤ 1099511627775 := by rw [Int.natAbs_neg]; exact Nat.le_trans (dg_abs_len (g := g) h.2.2.2.1 h.1) hn
  have BU := hid (fun (W : World) A1 n1 c1 D1 m1 d1 (r1 : Rd W A1 n1 c1 (dg (-iv g xs).natAbs)) (q : Rd W D1 m1 d1 (dg (dv1 ds))) => qrbuild_any (sg (-iv g xs)) A1 n1 c1 _ D1 m1 d1 _ W r1 (by have := r1.1; omega) q (by have := q.1; omega) (by rw [val_dg]; exact dv1_pos ds))
  simp only [iv_sg, val_dg] at BU
  obtain ⟨X, hX⟩ : ∃ X, X = -iv g xs := ⟨_, rfl⟩
  rw [← hX] at NG BU ⊢
  obtain ⟨z, hz⟩ : ∃ z, z = lz X (dv1 ds) := ⟨_, rfl⟩
  obtain ⟨y, hy⟩ : ∃ y, y = ly X (dv1 ds) := ⟨_, rfl⟩
  rw [← hz, ← hy] at BU ⊢
  clear h k hz hy hX ln
  go_enter Tryz.func97, Tryz.ntmps97
  go_upto_region 1 with fail
  rw [← hW]
  clear hW
  obtain ⟨s1, s2, s3⟩ := P0.out.cells
  go_region_held3 (fun W => W.cell? ⟨w.heap.size, 0, none⟩ = some (.bool g) ∧ W.cell? ⟨w.heap.size, 1, none⟩ = some (.slice A n c) ∧ W.cell? ⟨w.heap.size, 2, none⟩ = some (.slice D m d))
    (refine ⟨?_, ?_, ?_⟩ <;> repeat' (first | with_reducible assumption | with_reducible refine cell_dr ?_ | with_reducible refine cell_fr ?_ (by omega)))
    (first
      | (go_at_call 86; refine (BU.out w2 A1 n1 c1 D1 m1 d1 R2.out Q2.out).mono ?_; rintro e w3 ⟨A2, n2, c2, E2, m2, d2, rfl, r2, q2, b2⟩; have y1 := cell_bx u1 b2; have y2 := cell_bx u2 b2; have y3 := cell_bx u3 b2; have P3 := hid (P0.out.keep (bx_call X2.out b2)); have EE := hid (P3.out.end_ r2 q2); obtain ⟨x0, x1, x2, x3, x4, x5⟩ := P3.out.rcells; clear b2 r2 q2)
      | (go_at_call 85; refine (DN.out w1 X1.out).mono ?_; rintro e w2 ⟨v, rfl, ⟨D1, m1, d1, rfl, q1⟩, b1⟩; have u1 := cell_bx t1 b1; have u2 := cell_bx t2 b1; have u3 := cell_bx t3 b1; have Q2 := hid q1; have R2 := hid (R1.out.keep b1); have X2 := hid (bx_call X1.out b1); clear b1 q1)
      | (go_at_call 132; refine (NG.out ()).mono ?_; rintro e w1 ⟨A1, n1, c1, rfl, r1, b1⟩; have t1 := cell_bx (cell_dr s1) b1; have t2 := cell_bx (cell_dr s2) b1; have t3 := cell_bx (cell_dr s3) b1; have R1 := hid r1; have X1 := hid (bx_call (bx_drew (bx_refl _)) b1); clear b1 r1))
  go_wp2_with fail
  exact bodyPost_ret (v := .agg #[.bool (sg z), .slice A2 n2 c2, .slice E2 m2 d2]) (by simp [results, Tryz.results97, go_sem, x0, x1, x2]) rfl EE.out
structure PreQ2 (w : World) (g1 : Bool) (s1 u1 : Value) (g2 : Bool) (s2 u2 : Value) (W : World) : Prop where
  arg1 : Blk W w.heap.size [.bool g1, s1, u1] 41
  arg2 : Blk W (w.heap.size + 1) [.bool g2, s2, u2] 41
  res : Blk W (w.heap.size + 1 + 1) [.bool false, .slice none 0 0, .slice none 0 0] 41
  bel : Below w.heap.size w W
theorem PreQ2.start (w : World) (g1 : Bool) (s1 u1 : Value) (g2 : Bool) (s2 u2 : Value) : PreQ2 w g1 s1 u1 g2 s2 u2 (((w.alloc (.cells #[.bool g1, s1, u1] 41)).alloc (.cells #[.bool g2, s2, u2] 41)).alloc (.cells #[.bool false, .slice none 0 0, .slice none 0 0] 41)) :=
  ⟨((Blk.new w [.bool g1, s1, u1] _).alloc _).alloc _, (blk_new1 w _ [.bool g2, s2, u2] _).alloc _, by have t := blk_new1 (w.alloc (.cells #[.bool g1, s1, u1] 41)) (.cells #[.bool g2, s2, u2] 41) [.bool false, .slice none 0 0, .slice none 0 0] 41; rw [World.size_alloc] at t; exact t, bx_alloc (bx_alloc (bx_alloc (bx_refl w) _) _) _⟩
section
variable {w W W' : World} {g1 g2 : Bool} {s1 u1 s2 u2 : Value}
theorem PreQ2.keep (h : PreQ2 w g1 s1 u1 g2 s2 u2 W) (k : Below W.heap.size W W') : PreQ2 w g1 s1 u1 g2 s2 u2 W' := ⟨h.arg1.keep k, h.arg2.keep k, h.res.keep k, bx_call h.bel k⟩
theorem PreQ2.cells1 (h : PreQ2 w g1 s1 u1 g2 s2 u2 W) : W.cell? ⟨w.heap.size, 0, none⟩ = some (.bool g1) ∧ W.cell? ⟨w.heap.size, 1, none⟩ = some s1 ∧ W.cell? ⟨w.heap.size, 2, none⟩ = some u1 := blk_three h.arg1
theorem PreQ2.cells2 (h : PreQ2 w g1 s1 u1 g2 s2 u2 W) : W.cell? ⟨w.heap.size + 1, 0, none⟩ = some (.bool g2) ∧ W.cell? ⟨w.heap.size + 1, 1, none⟩ = some s2 ∧ W.cell? ⟨w.heap.size + 1, 2, none⟩ = some u2 := blk_three h.arg2
theorem PreQ2.rcells (h : PreQ2 w g1 s1 u1 g2 s2 u2 W) : W.cell? ⟨w.heap.size + 1 + 1, 0, none⟩ = some (.bool false) ∧ W.cell? ⟨w.heap.size + 1 + 1, 1, none⟩ = some (.slice none 0 0) ∧ W.cell? ⟨w.heap.size + 1 + 1, 2, none⟩ = some (.slice none 0 0) ∧ W.frozen? ⟨w.heap.size + 1 + 1, 0, none⟩ = false ∧ W.frozen? ⟨w.heap.size + 1 + 1, 1, none⟩ = false ∧ W.frozen? ⟨w.heap.size + 1 + 1, 2, none⟩ = false :=
  ⟨Blk.cell h.res 0, Blk.cell h.res 1, Blk.cell h.res 2, Blk.free h.res 0, Blk.free h.res 1, Blk.free h.res 2⟩
theorem PreQ2.end_ {z : Int} {y : Nat} {A D : Option Addr} {n c m d : Nat} (h : PreQ2 w g1 s1 u1 g2 s2 u2 W) (r : Rd W A n c (dg z.natAbs)) (q : Rd W D m d (dn y)) :
    RetRat w z y (.returned (.agg #[.bool (sg z), .slice A n c, .slice D m d])) (((W.setCell ⟨w.heap.size + 1 + 1, 0, none⟩ (.bool (sg z))).setCell ⟨w.heap.size + 1 + 1, 1, none⟩ (.slice A n c)).setCell ⟨w.heap.size + 1 + 1, 2, none⟩ (.slice D m d)) :=
  ret_rat_end r q h.res h.bel (by omega)
end
set_option maxHeartbeats 4000000 in
theorem qrmul_any (ga : Bool) (Aa : Option Addr) (na ca : Nat) (xsa : List Nat) (Da0 : Option Addr) (ma da : Nat) (dsa : List Nat) (gb : Bool) (Ab : Option Addr) (nb cb : Nat) (xsb : List Nat) (Db0 : Option Addr) (mb db : Nat) (dsb : List Nat) (w : World) (ha : Rd w Aa na ca xsa) (hna : na ≤ 549755813887) (ka : Rd w Da0 ma da dsa) (hma : ma ≤ 549755813887) (hb : Rd w Ab nb cb xsb) (hnb : nb ≤ 549755813887) (kb : Rd w Db0 mb db dsb) (hmb : mb ≤ 549755813887) :
    Calls Tryz.prog 38 #[.agg #[.bool ga, .slice Aa na ca, .slice Da0 ma da], .agg #[.bool gb, .slice Ab nb cb, .slice Db0 mb db]] w (RetRat w (lz (iv ga xsa * iv gb xsb) (dv1 dsa * dv1 dsb)) (ly (iv ga xsa * iv gb xsb) (dv1 dsa * dv1 dsb))) := by
  have P0 := hid (PreQ2.start w ga (.slice Aa na ca) (.slice Da0 ma da) gb (.slice Ab nb cb) (.slice Db0 mb db))
  obtain ⟨W0, hW⟩ : ∃ W, W = ((w.alloc (.cells #[.bool ga, .slice Aa na ca, .slice Da0 ma da] 41)).alloc (.cells #[.bool gb, .slice Ab nb cb, .slice Db0 mb db] 41)).alloc (.cells #[.bool false, .slice none 0 0, .slice none 0 0] 41) := ⟨_, rfl⟩
  rw [← hW] at P0
  have Ra := hid (ha.keep P0.out.bel)
  have Da := hid (ka.keep P0.out.bel)
  have Rb := hid (hb.keep P0.out.bel)
  have Db := hid (kb.keep P0.out.bel)
  have lda := dv1_len ka hma (by omega)
  have ldb := dv1_len kb hmb (by omega)
  have lx : (dg (iv ga xsa * iv gb xsb).natAbs).length ≤ 1099511627775 := by
    rw [Int.natAbs_mul]
    have := dg_mul_len (Nat.le_trans (dg_abs_len (g := ga) ha.2.2.2.1 ha.1) hna) (Nat.le_trans (dg_abs_len (g := gb) hb.2.2.2.1 hb.1) hnb)
    omega
  have ly0 : (dg (dv1 dsa * dv1 dsb)).length ≤ 1099511627775 := by
    have := dg_mul_len lda ldb
    omega
  have BU := hid (fun (W : World) A1 n1 c1 D1 m1 d1 (r1 : Rd W A1 n1 c1 (dg (iv ga xsa * iv gb xsb).natAbs)) (q : Rd W D1 m1 d1 (dg (dv1 dsa * dv1 dsb))) => qrbuild_any (sg (iv ga xsa * iv gb xsb)) A1 n1 c1 _ D1 m1 d1 _ W r1 (by have := r1.1; omega) q (by have := q.1; omega) (by rw [val_dg]; exact Nat.mul_pos (dv1_pos dsa) (dv1_pos dsb)))
  simp only [iv_sg, val_dg] at BU
  obtain ⟨zz, hzz⟩ : ∃ z, z = lz (iv ga xsa * iv gb xsb) (dv1 dsa * dv1 dsb) := ⟨_, rfl⟩
  obtain ⟨yy, hyy⟩ : ∃ y, y = ly (iv ga xsa * iv gb xsb) (dv1 dsa * dv1 dsb) := ⟨_, rfl⟩
  rw [← hzz, ← hyy] at BU ⊢
  have HZ := hid hzz
  have HY := hid hyy
  clear hzz hyy ha ka hb kb
  go_enter Tryz.func38, Tryz.ntmps38
  go_upto_region 1 with fail
  rw [← hW]
  clear hW
  obtain ⟨ca0, ca1, ca2⟩ := P0.out.cells1
  obtain ⟨cb0, cb1, cb2⟩ := P0.out.cells2
  go_region_held3 (fun W => W.cell? ⟨w.heap.size, 0, none⟩ = some (.bool ga) ∧ W.cell? ⟨w.heap.size, 1, none⟩ = some (.slice Aa na ca) ∧ W.cell? ⟨w.heap.size, 2, none⟩ = some (.slice Da0 ma da) ∧ W.cell? ⟨w.heap.size + 1, 0, none⟩ = some (.bool gb) ∧ W.cell? ⟨w.heap.size + 1, 1, none⟩ = some (.slice Ab nb cb) ∧ W.cell? ⟨w.heap.size + 1, 2, none⟩ = some (.slice Db0 mb db))
    (refine ⟨?_, ?_, ?_, ?_, ?_, ?_⟩ <;> repeat' (first | with_reducible assumption | with_reducible refine cell_dr ?_ | with_reducible refine cell_fr ?_ (by omega)))
    (first
      | (go_at_call 86; have cc := BU.out w4 A1 n1 c1 A4 n4 c4 (RN_4.out) (RM.out); refine cc.mono ?_; rintro e w5 ⟨Az, nz, cz, Ez, mz, dz, rfl, rz, qz, b⟩; clear cc; have Ra_5 := hid (Ra_4.out.keep b); have Da_5 := hid (Da_4.out.keep b); have Rb_5 := hid (Rb_4.out.keep b); have Db_5 := hid (Db_4.out.keep b); have RN_5 := hid (RN_4.out.keep b); have RP_5 := hid (RP_4.out.keep b); have RQ_5 := hid (RQ_4.out.keep b); have RM_5 := hid (RM.out.keep b); have X_5 := hid (bx_call X_4.out b); have ca_5_0 := cell_bx ca_4_0 b; have ca_5_1 := cell_bx ca_4_1 b; have ca_5_2 := cell_bx ca_4_2 b; have cb_5_0 := cell_bx cb_4_0 b; have cb_5_1 := cell_bx cb_4_1 b; have cb_5_2 := cell_bx cb_4_2 b; have P3 := hid (P0.out.keep X_5.out); have EE := hid (P3.out.end_ rz qz); obtain ⟨x0, x1, x2, x3, x4, x5⟩ := P3.out.rcells; clear rz qz; clear b Ra_4 Da_4 Rb_4 Db_4 RN_4 RP_4 RQ_4 RM)
      | (go_at_call 88; have cc := rmul_any A2 A3 n2 c2 n3 c3 _ _ w3 (RP_3.out) (RQ.out) (by omega) (by omega); refine cc.mono ?_; rintro e w4 ⟨v3, rfl, ⟨A4, n4, c4, rfl, r⟩, b⟩; clear cc; rw [val_dg, val_dg] at r; have RM := hid r; clear r; have Ra_4 := hid (Ra_3.out.keep b); have Da_4 := hid (Da_3.out.keep b); have Rb_4 := hid (Rb_3.out.keep b); have Db_4 := hid (Db_3.out.keep b); have RN_4 := hid (RN_3.out.keep b); have RP_4 := hid (RP_3.out.keep b); have RQ_4 := hid (RQ.out.keep b); have X_4 := hid (bx_call X_3.out b); have ca_4_0 := cell_bx ca_3_0 b; have ca_4_1 := cell_bx ca_3_1 b; have ca_4_2 := cell_bx ca_3_2 b; have cb_4_0 := cell_bx cb_3_0 b; have cb_4_1 := cell_bx cb_3_1 b; have cb_4_2 := cell_bx cb_3_2 b; clear b Ra_3 Da_3 Rb_3 Db_3 RN_3 RP_3 RQ X_3)
      | (go_at_call 85; have cc := qrden_any gb Ab nb cb Db0 mb db dsb w2 (Db_2.out) (by omega); refine cc.mono ?_; rintro e w3 ⟨v2, rfl, ⟨A3, n3, c3, rfl, r⟩, b⟩; clear cc; have RQ := hid r; have lq := r.1; clear r; have Ra_3 := hid (Ra_2.out.keep b); have Da_3 := hid (Da_2.out.keep b); have Rb_3 := hid (Rb_2.out.keep b); have Db_3 := hid (Db_2.out.keep b); have RN_3 := hid (RN_2.out.keep b); have RP_3 := hid (RP.out.keep b); have X_3 := hid (bx_call X_2.out b); have ca_3_0 := cell_bx ca_2_0 b; have ca_3_1 := cell_bx ca_2_1 b; have ca_3_2 := cell_bx ca_2_2 b; have cb_3_0 := cell_bx cb_2_0 b; have cb_3_1 := cell_bx cb_2_1 b; have cb_3_2 := cell_bx cb_2_2 b; clear b Ra_2 Da_2 Rb_2 Db_2 RN_2 RP X_2)
      | (go_at_call 85; have cc := qrden_any ga Aa na ca Da0 ma da dsa w1 (Da_1.out) (by omega); refine cc.mono ?_; rintro e w2 ⟨v1, rfl, ⟨A2, n2, c2, rfl, r⟩, b⟩; clear cc; have RP := hid r; have lp := r.1; clear r; have Ra_2 := hid (Ra_1.out.keep b); have Da_2 := hid (Da_1.out.keep b); have Rb_2 := hid (Rb_1.out.keep b); have Db_2 := hid (Db_1.out.keep b); have RN_2 := hid (RN.out.keep b); have X_2 := hid (bx_call X_1.out b); have ca_2_0 := cell_bx ca_1_0 b; have ca_2_1 := cell_bx ca_1_1 b; have ca_2_2 := cell_bx ca_1_2 b; have cb_2_0 := cell_bx cb_1_0 b; have cb_2_1 := cell_bx cb_1_1 b; have cb_2_2 := cell_bx cb_1_2 b; clear b Ra_1 Da_1 Rb_1 Db_1 RN X_1)
      | (go_at_call 84; have cc := rimul_any ga Aa na ca _ gb Ab nb cb _ _ (Ra.out.keep (bx_drew (bx_refl _))) (by omega) (Rb.out.keep (bx_drew (bx_refl _))) (by omega); refine cc.mono ?_; rintro e w1 ⟨A1, n1, c1, rfl, r, b⟩; clear cc; have RN := hid r; clear r; have Ra_1 := hid (Ra.out.keep (bx_call (bx_drew (bx_refl _)) b)); have Da_1 := hid (Da.out.keep (bx_call (bx_drew (bx_refl _)) b)); have Rb_1 := hid (Rb.out.keep (bx_call (bx_drew (bx_refl _)) b)); have Db_1 := hid (Db.out.keep (bx_call (bx_drew (bx_refl _)) b)); have X_1 := hid (bx_call (bx_drew (bx_refl _)) b); have ca_1_0 := cell_bx (cell_dr ca0) b; have ca_1_1 := cell_bx (cell_dr ca1) b; have ca_1_2 := cell_bx (cell_dr ca2) b; have cb_1_0 := cell_bx (cell_dr cb0) b; have cb_1_1 := cell_bx (cell_dr cb1) b; have cb_1_2 := cell_bx (cell_dr cb2) b; clear b Ra Da Rb Db))
  go_wp2_with fail
  exact bodyPost_ret (v := .agg #[.bool (sg zz), .slice Az nz cz, .slice Ez mz dz]) (by simp [results, Tryz.results38, go_sem, x0, x1, x2]) rfl EE.out
theorem iv_pos (y : Nat) : iv false (dg y) = (y : Int) := by unfold iv; rw [val_dg]; rfl
theorem one_made {w W : World} {z : Int} {p : Nat} {A : Option Addr} {n c : Nat} (hB : Below w.heap.size w W) (hp : w.heap.size ≤ p)
    (bp : Blk W p [.bool false, .slice none 0 0] 39) (r : Rd W A n c (dg z.natAbs)) :
    (Blk ((W.setCell ⟨p, 0, none⟩ (.bool (sg z))).setCell ⟨p, 1, none⟩ (.slice A n c)) p [.bool (sg z), .slice A n c] 39 ∧ Rd ((W.setCell ⟨p, 0, none⟩ (.bool (sg z))).setCell ⟨p, 1, none⟩ (.slice A n c)) A n c (dg z.natAbs)) ∧
    Below w.heap.size w ((W.setCell ⟨p, 0, none⟩ (.bool (sg z))).setCell ⟨p, 1, none⟩ (.slice A n c)) :=
  ⟨⟨blk_set2 bp, rd_cell_far r bp _ _⟩, bx_set (bx_set hB hp) hp⟩
theorem far_facts {W : World} {p t o B : Nat} (bp : Blk W p [.bool false, .slice none 0 0] t) (hp : B ≤ p) (ho : o + 1 < B) :
    (W.cell? ⟨p, 0, none⟩ = some (.bool false) ∧ W.cell? ⟨p, 1, none⟩ = some (.slice none 0 0) ∧ W.frozen? ⟨p, 0, none⟩ = false ∧ W.frozen? ⟨p, 1, none⟩ = false) ∧ Hid (o ≠ p ∧ o + 1 ≠ p) :=
  ⟨⟨Blk.cell bp 0, Blk.cell bp 1, Blk.free bp 0, Blk.free bp 1⟩, hid ⟨by omega, by omega⟩⟩
theorem mul_den_len {g : Bool} {xs : List Nat} {y n : Nat} (h : Digs xs) (hl : xs.length = n) (hn : n ≤ 274877906943) (hy : (dg y).length ≤ 274877906943) : (dg (iv g xs * (y : Int)).natAbs).length ≤ 549755813886 := by
  rw [Int.natAbs_mul, Int.natAbs_natCast]
  have := dg_mul_len (Nat.le_trans (dg_abs_len (g := g) h hl) hn) hy
  omega
theorem sum_len {x y : Int} {k : Nat} (hx : (dg x.natAbs).length ≤ k) (hy : (dg y.natAbs).length ≤ k) : (dg (x + y).natAbs).length ≤ k + 1 := by
  have h1 := dg_len_lt x.natAbs
  have h2 := dg_len_lt y.natAbs
  have h3 := Nat.pow_le_pow_right (n := 4294967296) (by decide) hx
  have h4 := Nat.pow_le_pow_right (n := 4294967296) (by decide) hy
  refine dg_len_le ?_
  rw [Nat.pow_succ]
  omega
set_option maxHeartbeats 8000000 in
theorem qradd_any (ga : Bool) (Aa : Option Addr) (na ca : Nat) (xsa : List Nat) (Da0 : Option Addr) (ma da : Nat) (dsa : List Nat) (gb : Bool) (Ab : Option Addr) (nb cb : Nat) (xsb : List Nat) (Db0 : Option Addr) (mb db : Nat) (dsb : List Nat) (w : World) (ha : Rd w Aa na ca xsa) (hna : na ≤ 274877906943) (ka : Rd w Da0 ma da dsa) (hma : ma ≤ 274877906943) (hb : Rd w Ab nb cb xsb) (hnb : nb ≤ 274877906943) (kb : Rd w Db0 mb db dsb) (hmb : mb ≤ 274877906943) :
    Calls Tryz.prog 37 #[.agg #[.bool ga, .slice Aa na ca, .slice Da0 ma da], .agg #[.bool gb, .slice Ab nb cb, .slice Db0 mb db]] w (RetRat w (lz (iv ga xsa * (dv1 dsb : Int) + iv gb xsb * (dv1 dsa : Int)) (dv1 dsa * dv1 dsb)) (ly (iv ga xsa * (dv1 dsb : Int) + iv gb xsb * (dv1 dsa : Int)) (dv1 dsa * dv1 dsb))) := by
  have P0 := hid (PreQ2.start w ga (.slice Aa na ca) (.slice Da0 ma da) gb (.slice Ab nb cb) (.slice Db0 mb db))
  obtain ⟨V0, hW⟩ : ∃ W, W = ((w.alloc (.cells #[.bool ga, .slice Aa na ca, .slice Da0 ma da] 41)).alloc (.cells #[.bool gb, .slice Ab nb cb, .slice Db0 mb db] 41)).alloc (.cells #[.bool false, .slice none 0 0, .slice none 0 0] 41) := ⟨_, rfl⟩
  rw [← hW] at P0
  have lda := dv1_len ka hma (by omega)
  have ldb := dv1_len kb hmb (by omega)
  have lx1 := mul_den_len (g := ga) (y := dv1 dsb) ha.2.2.2.1 ha.1 hna ldb
  have lx2 := mul_den_len (g := gb) (y := dv1 dsa) hb.2.2.2.1 hb.1 hnb lda
  have lxs := sum_len lx1 lx2
  have lys : (dg (dv1 dsa * dv1 dsb)).length ≤ 549755813886 := by have := dg_mul_len lda ldb; omega
  have Na := hid (fun (W : World) (p : PreQ2 w ga (.slice Aa na ca) (.slice Da0 ma da) gb (.slice Ab nb cb) (.slice Db0 mb db) W) => qrden_any ga Aa na ca Da0 ma da dsa W (ka.keep p.bel) (by omega))
  have Nb := hid (fun (W : World) (p : PreQ2 w ga (.slice Aa na ca) (.slice Da0 ma da) gb (.slice Ab nb cb) (.slice Db0 mb db) W) => qrden_any gb Ab nb cb Db0 mb db dsb W (kb.keep p.bel) (by omega))
  have Ma := hid (fun (W : World) A2 n2 c2 (p : PreQ2 w ga (.slice Aa na ca) (.slice Da0 ma da) gb (.slice Ab nb cb) (.slice Db0 mb db) W) (r : Rd W A2 n2 c2 (dg (dv1 dsb))) => rimul_any ga Aa na ca xsa false A2 n2 c2 _ W (ha.keep p.bel) (by omega) r (by have := r.1; omega))
  have Mb := hid (fun (W : World) A2 n2 c2 (p : PreQ2 w ga (.slice Aa na ca) (.slice Da0 ma da) gb (.slice Ab nb cb) (.slice Db0 mb db) W) (r : Rd W A2 n2 c2 (dg (dv1 dsa))) => rimul_any gb Ab nb cb xsb false A2 n2 c2 _ W (hb.keep p.bel) (by omega) r (by have := r.1; omega))
  simp only [iv_pos] at Ma Mb
  obtain ⟨x1, hx1⟩ : ∃ x, x = iv ga xsa * (dv1 dsb : Int) := ⟨_, rfl⟩
  obtain ⟨x2, hx2⟩ : ∃ x, x = iv gb xsb * (dv1 dsa : Int) := ⟨_, rfl⟩
  rw [← hx1] at Ma lx1 lxs
  rw [← hx2] at Mb lx2 lxs
  rw [← hx1, ← hx2]
  have AD := hid (fun (W : World) A1 n1 c1 A2 n2 c2 (r : Rd W A1 n1 c1 (dg x1.natAbs)) (q : Rd W A2 n2 c2 (dg x2.natAbs)) => riadd_any (sg x1) A1 n1 c1 _ (sg x2) A2 n2 c2 _ W r (by have := r.1; omega) q (by have := q.1; omega))
  simp only [iv_sg] at AD
  have MU := hid (fun (W : World) A1 n1 c1 A2 n2 c2 (r : Rd W A1 n1 c1 (dg (dv1 dsa))) (q : Rd W A2 n2 c2 (dg (dv1 dsb))) => rmul_any A1 A2 n1 c1 n2 c2 _ _ W r q (by have := r.1; omega) (by have := q.1; omega))
  simp only [val_dg] at MU
  have BU := hid (fun (W : World) A1 n1 c1 D1 m1 d1 (r1 : Rd W A1 n1 c1 (dg (x1 + x2).natAbs)) (q : Rd W D1 m1 d1 (dg (dv1 dsa * dv1 dsb))) => qrbuild_any (sg (x1 + x2)) A1 n1 c1 _ D1 m1 d1 _ W r1 (by have := r1.1; omega) q (by have := q.1; omega) (by rw [val_dg]; exact Nat.mul_pos (dv1_pos dsa) (dv1_pos dsb)))
  simp only [iv_sg, val_dg] at BU
  obtain ⟨zz, hzz⟩ : ∃ z, z = lz (x1 + x2) (dv1 dsa * dv1 dsb) := ⟨_, rfl⟩
  obtain ⟨yy, hyy⟩ : ∃ y, y = ly (x1 + x2) (dv1 dsa * dv1 dsb) := ⟨_, rfl⟩
  rw [← hzz, ← hyy] at BU ⊢
  obtain ⟨sx, hsx⟩ : ∃ x, x = x1 + x2 := ⟨_, rfl⟩
  rw [← hsx] at AD BU
  clear hzz hyy hsx hx1 hx2 ha ka hb kb lda ldb lx1 lx2 lxs lys
  go_enter Tryz.func37, Tryz.ntmps37
  go_upto_region 1 with fail
  rw [← hW]
  clear hW
  have nw := hid (show w.heap.size + 1 < V0.heap.size from Nat.lt_trans (Nat.lt_succ_self _) P0.out.res.lt)
  go_cut [5] (fun s5 wx => ∃ (p : Nat) (A3 : Option Addr) (n3 c3 : Nat), s5 = .pointer (some ⟨p, 0, none⟩) ∧ Hid (Blk wx p [.bool (sg x1), .slice A3 n3 c3] 39 ∧ Rd wx A3 n3 c3 (dg x1.natAbs) ∧ PreQ2 w ga (.slice Aa na ca) (.slice Da0 ma da) gb (.slice Ab nb cb) (.slice Db0 mb db) wx ∧ Below V0.heap.size V0 wx))
  case first =>
   refine wp_region_noPanic ?_
   refine wp_region_held_drew (S := (fun W => (W.cell? ⟨w.heap.size, 0, none⟩ = some (.bool ga) ∧ W.cell? ⟨w.heap.size, 1, none⟩ = some (.slice Aa na ca) ∧ W.cell? ⟨w.heap.size, 2, none⟩ = some (.slice Da0 ma da)) ∧ (W.cell? ⟨w.heap.size + 1, 0, none⟩ = some (.bool gb) ∧ W.cell? ⟨w.heap.size + 1, 1, none⟩ = some (.slice Ab nb cb) ∧ W.cell? ⟨w.heap.size + 1, 2, none⟩ = some (.slice Db0 mb db)))) (by kernel_rfl) ?_ (fun hH => ?_)
   exact And.intro (P0.out.cells1) (P0.out.cells2)
   refine wpAnyH_take (i := 0) (v := ?_) (by simp only [gx0, gx2]; rfl) (by kernel_rfl) (by kernel_rfl) (by kernel_rfl) (fun _ _ _ h => h) (.inl ⟨by rfl, ?_⟩) hH ?_
   rotate_left
   · intro w hSw; (try dsimp only at hSw); first | (go_simp; done) | (go_simp; with_reducible rfl)
   (try simp only [Act.put, gy0, gy1, gy2])
   refine wpAnyH_take (i := 1) (v := ?_) (by simp only [gx0, gx1, gx2]; rfl) (by kernel_rfl) (by kernel_rfl) (by kernel_rfl) (fun _ _ _ h => h) (.inl ⟨by rfl, ?_⟩) hH ?_
   rotate_left
   · intro w hSw; (try dsimp only at hSw); first | (go_simp; done) | (go_simp; with_reducible rfl)
   (try simp only [Act.put, gy0, gy1, gy2])
   refine wpAnyH_take (i := 2) (v := ?_) (by simp only [gx0, gx1, gx2]; rfl) (by kernel_rfl) (by kernel_rfl) (by kernel_rfl) (fun _ _ _ h => h) (.inl ⟨by rfl, ?_⟩) hH ?_
   rotate_left
   · intro w hSw; (try dsimp only at hSw); first | (go_simp; done) | (go_simp; with_reducible rfl)
   (try simp only [Act.put, gy0, gy1, gy2])
   have bd := bx_drew (bx_refl V0)
   obtain ⟨W0, hW0⟩ : ∃ W, W = V0.drew := ⟨_, rfl⟩
   rw [← hW0] at bd hH ⊢
   clear hW0
   have BW_0 := hid bd
   clear bd
   refine wpAnyH_ready (rs := [3, 6]) (by kernel_rfl) (by simp) ?_
   refine AllReadyH.cons (by simp only [gx0, gx1, gx2]; rfl) (fun K hK => ?_) ?_
   go_simp
   refine (Nb.out _ (P0.out.keep BW_0.out)).mono ?_
   rintro e W1 ⟨vd, rfl, ⟨AD, nD, cD, rfl, rd_⟩, b⟩
   have RD := hid rd_
   clear rd_
   have BW_1 := hid (bx_call BW_0.out b)
   clear BW_0
   have H2 := And.intro (And.intro (cell_bx hH.1.1 b) (And.intro (cell_bx hH.1.2.1 b) (cell_bx hH.1.2.2 b))) (And.intro (cell_bx hH.2.1 b) (And.intro (cell_bx hH.2.2.1 b) (cell_bx hH.2.2.2 b)))
   clear hH b
   (try go_wp2_with fail)
   refine hK.out _ _ ?_ (fun hH => ?_)
   exact H2
   clear hK K H2
   (try simp only [Act.put, gy0, gy1, gy2])
   refine wpAnyH_take (i := 4) (v := ?_) (by simp only [gx0, gx1, gx2]; rfl) (by kernel_rfl) (by kernel_rfl) (by kernel_rfl) (fun _ _ _ h => h) (.inl ⟨by rfl, ?_⟩) hH ?_
   rotate_left
   · intro w hSw; (try dsimp only at hSw); first | (go_simp; done) | (go_simp; with_reducible rfl)
   (try simp only [Act.put, gy0, gy1, gy2])
   refine wpAnyH_ready (rs := [5, 6]) (by kernel_rfl) (by simp) ?_
   refine AllReadyH.cons (by simp only [gx0, gx1, gx2]; rfl) (fun K hK => ?_) ?_
   go_simp
   refine (Ma.out _ AD nD cD (P0.out.keep BW_1.out) RD.out).mono ?_
   rintro e W2 ⟨AZ, nZ, cZ, rfl, rz, b⟩
   have RZ := hid rz
   clear rz
   have RD_2 := hid (RD.out.keep b)
   have BW_2 := hid (bx_call BW_1.out b)
   clear RD BW_1
   have H2 := And.intro (And.intro (cell_bx hH.1.1 b) (And.intro (cell_bx hH.1.2.1 b) (cell_bx hH.1.2.2 b))) (And.intro (cell_bx hH.2.1 b) (And.intro (cell_bx hH.2.2.1 b) (cell_bx hH.2.2.2 b)))
   clear hH b
   (try go_wp2_with fail)
   refine hK.out _ _ ?_ (fun hH => ?_)
   exact H2
   clear hK K H2
   (try simp only [Act.put, gy0, gy1, gy2])
   clear RD_2
   refine wpAnyH_ready (rs := [6]) (by kernel_rfl) (by simp) ?_
   refine AllReadyH.cons (by simp only [gx0, gx1, gx2]; rfl) (fun K hK => ?_) ?_
   go_simp
   obtain ⟨W3, p, hW, hp, b, kk⟩ := mk_int W2
   have gp : V0.heap.size ≤ p := by rw [hp]; exact BW_2.out.size
   rw [← hW, ← hp]
   clear hW hp
   have Kp := hid kk
   clear kk
   have RZ_3 := hid (RZ.out.keep b)
   have BW_3 := hid (bx_call BW_2.out b)
   clear RZ BW_2
   have H2 := And.intro (And.intro (cell_bx hH.1.1 b) (And.intro (cell_bx hH.1.2.1 b) (cell_bx hH.1.2.2 b))) (And.intro (cell_bx hH.2.1 b) (And.intro (cell_bx hH.2.2.1 b) (cell_bx hH.2.2.2 b)))
   clear hH b
   refine hK.out _ _ ?_ (fun hH => ?_)
   exact H2
   clear hK K H2
   (try simp only [Act.put, gy0, gy1, gy2])
   have TM := hid (one_made BW_3.out gp Kp.out RZ_3.out)
   obtain ⟨⟨a1, a2, a3, a4⟩, O⟩ := far_facts Kp.out gp nw.out
   refine wpAnyH_ready (rs := [7]) (by kernel_rfl) (by simp) ?_
   refine AllReadyH.cons (by simp only [gx0, gx1, gx2]; rfl) (fun K hK => ?_) AllReadyH.nil
   go_simp
   refine hK.out _ _ (And.intro (And.intro (cell_fr (cell_fr hH.1.1 O.out.1) O.out.1) (And.intro (cell_fr (cell_fr hH.1.2.1 O.out.1) O.out.1) (cell_fr (cell_fr hH.1.2.2 O.out.1) O.out.1))) (And.intro (cell_fr (cell_fr hH.2.1 O.out.2) O.out.2) (And.intro (cell_fr (cell_fr hH.2.2.1 O.out.2) O.out.2) (cell_fr (cell_fr hH.2.2.2 O.out.2) O.out.2)))) (fun hH2 => ?_)
   clear hK K hH a1 a2 a3 a4
   refine wpAnyH_done (by kernel_rfl) ?_ _
   refine NoPanic.normal ?_
   go_wp2_with fail
   go_meet
   exact ⟨p, AZ, nZ, cZ, rfl, hid ⟨TM.out.1.1, TM.out.1.2, P0.out.keep TM.out.2, TM.out.2⟩⟩
   exact AllReadyH.nil
   refine AllReadyH.cons (by simp only [gx0, gx1, gx2]; rfl) (fun K hK => ?_) ?_
   go_simp
   obtain ⟨W2, p, hW, hp, b, kk⟩ := mk_int W1
   have gp : V0.heap.size ≤ p := by rw [hp]; exact BW_1.out.size
   rw [← hW, ← hp]
   clear hW hp
   have Kp := hid kk
   clear kk
   have RD_2 := hid (RD.out.keep b)
   have BW_2 := hid (bx_call BW_1.out b)
   clear RD BW_1
   have H2 := And.intro (And.intro (cell_bx hH.1.1 b) (And.intro (cell_bx hH.1.2.1 b) (cell_bx hH.1.2.2 b))) (And.intro (cell_bx hH.2.1 b) (And.intro (cell_bx hH.2.2.1 b) (cell_bx hH.2.2.2 b)))
   clear hH b
   refine hK.out _ _ ?_ (fun hH => ?_)
   exact H2
   clear hK K H2
   (try simp only [Act.put, gy0, gy1, gy2])
   refine wpAnyH_ready (rs := [5]) (by kernel_rfl) (by simp) ?_
   refine AllReadyH.cons (by simp only [gx0, gx1, gx2]; rfl) (fun K hK => ?_) ?_
   go_simp
   refine (Ma.out _ AD nD cD (P0.out.keep BW_2.out) RD_2.out).mono ?_
   rintro e W3 ⟨AZ, nZ, cZ, rfl, rz, b⟩
   have RZ := hid rz
   clear rz
   have RD_3 := hid (RD_2.out.keep b)
   have Kp_3 := hid (Kp.out.keep b)
   have BW_3 := hid (bx_call BW_2.out b)
   clear RD_2 Kp BW_2
   have H2 := And.intro (And.intro (cell_bx hH.1.1 b) (And.intro (cell_bx hH.1.2.1 b) (cell_bx hH.1.2.2 b))) (And.intro (cell_bx hH.2.1 b) (And.intro (cell_bx hH.2.2.1 b) (cell_bx hH.2.2.2 b)))
   clear hH b
   (try go_wp2_with fail)
   refine hK.out _ _ ?_ (fun hH => ?_)
   exact H2
   clear hK K H2
   (try simp only [Act.put, gy0, gy1, gy2])
   clear RD_3
   have TM := hid (one_made BW_3.out gp Kp_3.out RZ.out)
   obtain ⟨⟨a1, a2, a3, a4⟩, O⟩ := far_facts Kp_3.out gp nw.out
   refine wpAnyH_ready (rs := [7]) (by kernel_rfl) (by simp) ?_
   refine AllReadyH.cons (by simp only [gx0, gx1, gx2]; rfl) (fun K hK => ?_) AllReadyH.nil
   go_simp
   refine hK.out _ _ (And.intro (And.intro (cell_fr (cell_fr hH.1.1 O.out.1) O.out.1) (And.intro (cell_fr (cell_fr hH.1.2.1 O.out.1) O.out.1) (cell_fr (cell_fr hH.1.2.2 O.out.1) O.out.1))) (And.intro (cell_fr (cell_fr hH.2.1 O.out.2) O.out.2) (And.intro (cell_fr (cell_fr hH.2.2.1 O.out.2) O.out.2) (cell_fr (cell_fr hH.2.2.2 O.out.2) O.out.2)))) (fun hH2 => ?_)
   clear hK K hH a1 a2 a3 a4
   refine wpAnyH_done (by kernel_rfl) ?_ _
   refine NoPanic.normal ?_
   go_wp2_with fail
   go_meet
   exact ⟨p, AZ, nZ, cZ, rfl, hid ⟨TM.out.1.1, TM.out.1.2, P0.out.keep TM.out.2, TM.out.2⟩⟩
   exact AllReadyH.nil
   exact AllReadyH.nil
   refine AllReadyH.cons (by simp only [gx0, gx1, gx2]; rfl) (fun K hK => ?_) ?_
   go_simp
   obtain ⟨W1, p, hW, hp, b, kk⟩ := mk_int W0
   have gp : V0.heap.size ≤ p := by rw [hp]; exact BW_0.out.size
   rw [← hW, ← hp]
   clear hW hp
   have Kp := hid kk
   clear kk
   have BW_1 := hid (bx_call BW_0.out b)
   clear BW_0
   have H2 := And.intro (And.intro (cell_bx hH.1.1 b) (And.intro (cell_bx hH.1.2.1 b) (cell_bx hH.1.2.2 b))) (And.intro (cell_bx hH.2.1 b) (And.intro (cell_bx hH.2.2.1 b) (cell_bx hH.2.2.2 b)))
   clear hH b
   refine hK.out _ _ ?_ (fun hH => ?_)
   exact H2
   clear hK K H2
   (try simp only [Act.put, gy0, gy1, gy2])
   refine wpAnyH_ready (rs := [3]) (by kernel_rfl) (by simp) ?_
   refine AllReadyH.cons (by simp only [gx0, gx1, gx2]; rfl) (fun K hK => ?_) ?_
   go_simp
   refine (Nb.out _ (P0.out.keep BW_1.out)).mono ?_
   rintro e W2 ⟨vd, rfl, ⟨AD, nD, cD, rfl, rd_⟩, b⟩
   have RD := hid rd_
   clear rd_
   have Kp_2 := hid (Kp.out.keep b)
   have BW_2 := hid (bx_call BW_1.out b)
   clear Kp BW_1
   have H2 := And.intro (And.intro (cell_bx hH.1.1 b) (And.intro (cell_bx hH.1.2.1 b) (cell_bx hH.1.2.2 b))) (And.intro (cell_bx hH.2.1 b) (And.intro (cell_bx hH.2.2.1 b) (cell_bx hH.2.2.2 b)))
   clear hH b
   (try go_wp2_with fail)
   refine hK.out _ _ ?_ (fun hH => ?_)
   exact H2
   clear hK K H2
   (try simp only [Act.put, gy0, gy1, gy2])
   refine wpAnyH_take (i := 4) (v := ?_) (by simp only [gx0, gx1, gx2]; rfl) (by kernel_rfl) (by kernel_rfl) (by kernel_rfl) (fun _ _ _ h => h) (.inl ⟨by rfl, ?_⟩) hH ?_
   rotate_left
   · intro w hSw; (try dsimp only at hSw); first | (go_simp; done) | (go_simp; with_reducible rfl)
   (try simp only [Act.put, gy0, gy1, gy2])
   refine wpAnyH_ready (rs := [5]) (by kernel_rfl) (by simp) ?_
   refine AllReadyH.cons (by simp only [gx0, gx1, gx2]; rfl) (fun K hK => ?_) ?_
   go_simp
   refine (Ma.out _ AD nD cD (P0.out.keep BW_2.out) RD.out).mono ?_
   rintro e W3 ⟨AZ, nZ, cZ, rfl, rz, b⟩
   have RZ := hid rz
   clear rz
   have Kp_3 := hid (Kp_2.out.keep b)
   have RD_3 := hid (RD.out.keep b)
   have BW_3 := hid (bx_call BW_2.out b)
   clear Kp_2 RD BW_2
   have H2 := And.intro (And.intro (cell_bx hH.1.1 b) (And.intro (cell_bx hH.1.2.1 b) (cell_bx hH.1.2.2 b))) (And.intro (cell_bx hH.2.1 b) (And.intro (cell_bx hH.2.2.1 b) (cell_bx hH.2.2.2 b)))
   clear hH b
   (try go_wp2_with fail)
   refine hK.out _ _ ?_ (fun hH => ?_)
   exact H2
   clear hK K H2
   (try simp only [Act.put, gy0, gy1, gy2])
   clear RD_3
   have TM := hid (one_made BW_3.out gp Kp_3.out RZ.out)
   obtain ⟨⟨a1, a2, a3, a4⟩, O⟩ := far_facts Kp_3.out gp nw.out
   refine wpAnyH_ready (rs := [7]) (by kernel_rfl) (by simp) ?_
   refine AllReadyH.cons (by simp only [gx0, gx1, gx2]; rfl) (fun K hK => ?_) AllReadyH.nil
   go_simp
   refine hK.out _ _ (And.intro (And.intro (cell_fr (cell_fr hH.1.1 O.out.1) O.out.1) (And.intro (cell_fr (cell_fr hH.1.2.1 O.out.1) O.out.1) (cell_fr (cell_fr hH.1.2.2 O.out.1) O.out.1))) (And.intro (cell_fr (cell_fr hH.2.1 O.out.2) O.out.2) (And.intro (cell_fr (cell_fr hH.2.2.1 O.out.2) O.out.2) (cell_fr (cell_fr hH.2.2.2 O.out.2) O.out.2)))) (fun hH2 => ?_)
   clear hK K hH a1 a2 a3 a4
   refine wpAnyH_done (by kernel_rfl) ?_ _
   refine NoPanic.normal ?_
   go_wp2_with fail
   go_meet
   exact ⟨p, AZ, nZ, cZ, rfl, hid ⟨TM.out.1.1, TM.out.1.2, P0.out.keep TM.out.2, TM.out.2⟩⟩
   exact AllReadyH.nil
   exact AllReadyH.nil
   exact AllReadyH.nil
  case rest =>
  obtain ⟨p1, A3, n3, c3, rfl, hT⟩ := hcut
  obtain ⟨w1, rfl⟩ : ∃ W : World, W = wc := ⟨_, rfl⟩
  have P1 := hid hT.out.2.2.1
  have K1 := hid hT.out.1
  have R1 := hid hT.out.2.1
  clear hT P0 nw
  have nw := hid (show w.heap.size + 1 < w1.heap.size from Nat.lt_trans (Nat.lt_succ_self _) P1.out.res.lt)
  go_upto_region 2 with fail
  go_cut [6] (fun s6 wx => ∃ (p : Nat) (A4 : Option Addr) (n4 c4 : Nat), s6 = .pointer (some ⟨p, 0, none⟩) ∧ Hid (Blk wx p [.bool (sg x2), .slice A4 n4 c4] 39 ∧ Rd wx A4 n4 c4 (dg x2.natAbs) ∧ PreQ2 w ga (.slice Aa na ca) (.slice Da0 ma da) gb (.slice Ab nb cb) (.slice Db0 mb db) wx ∧ Below w1.heap.size w1 wx))
  case first =>
   refine wp_region_noPanic ?_
   refine wp_region_held_drew (S := (fun W => (W.cell? ⟨w.heap.size, 0, none⟩ = some (.bool ga) ∧ W.cell? ⟨w.heap.size, 1, none⟩ = some (.slice Aa na ca) ∧ W.cell? ⟨w.heap.size, 2, none⟩ = some (.slice Da0 ma da)) ∧ (W.cell? ⟨w.heap.size + 1, 0, none⟩ = some (.bool gb) ∧ W.cell? ⟨w.heap.size + 1, 1, none⟩ = some (.slice Ab nb cb) ∧ W.cell? ⟨w.heap.size + 1, 2, none⟩ = some (.slice Db0 mb db)))) (by kernel_rfl) ?_ (fun hH => ?_)
   exact And.intro (P1.out.cells1) (P1.out.cells2)
   refine wpAnyH_take (i := 0) (v := ?_) (by simp only [gx0, gx2]; rfl) (by kernel_rfl) (by kernel_rfl) (by kernel_rfl) (fun _ _ _ h => h) (.inl ⟨by rfl, ?_⟩) hH ?_
   rotate_left
   · intro w hSw; (try dsimp only at hSw); first | (go_simp; done) | (go_simp; with_reducible rfl)
   (try simp only [Act.put, gy0, gy1, gy2])
   refine wpAnyH_take (i := 1) (v := ?_) (by simp only [gx0, gx1, gx2]; rfl) (by kernel_rfl) (by kernel_rfl) (by kernel_rfl) (fun _ _ _ h => h) (.inl ⟨by rfl, ?_⟩) hH ?_
   rotate_left
   · intro w hSw; (try dsimp only at hSw); first | (go_simp; done) | (go_simp; with_reducible rfl)
   (try simp only [Act.put, gy0, gy1, gy2])
   refine wpAnyH_take (i := 2) (v := ?_) (by simp only [gx0, gx1, gx2]; rfl) (by kernel_rfl) (by kernel_rfl) (by kernel_rfl) (fun _ _ _ h => h) (.inl ⟨by rfl, ?_⟩) hH ?_
   rotate_left
   · intro w hSw; (try dsimp only at hSw); first | (go_simp; done) | (go_simp; with_reducible rfl)
   (try simp only [Act.put, gy0, gy1, gy2])
   have bd := bx_drew (bx_refl w1)
   obtain ⟨W0, hW0⟩ : ∃ W, W = w1.drew := ⟨_, rfl⟩
   rw [← hW0] at bd hH ⊢
   clear hW0
   have BW_0 := hid bd
   clear bd
   refine wpAnyH_ready (rs := [3, 6]) (by kernel_rfl) (by simp) ?_
   refine AllReadyH.cons (by simp only [gx0, gx1, gx2]; rfl) (fun K hK => ?_) ?_
   go_simp
   refine (Na.out _ (P1.out.keep BW_0.out)).mono ?_
   rintro e W1 ⟨vd, rfl, ⟨AD, nD, cD, rfl, rd_⟩, b⟩
   have RD := hid rd_
   clear rd_
   have BW_1 := hid (bx_call BW_0.out b)
   clear BW_0
   have H2 := And.intro (And.intro (cell_bx hH.1.1 b) (And.intro (cell_bx hH.1.2.1 b) (cell_bx hH.1.2.2 b))) (And.intro (cell_bx hH.2.1 b) (And.intro (cell_bx hH.2.2.1 b) (cell_bx hH.2.2.2 b)))
   clear hH b
   (try go_wp2_with fail)
   refine hK.out _ _ ?_ (fun hH => ?_)
   exact H2
   clear hK K H2
   (try simp only [Act.put, gy0, gy1, gy2])
   refine wpAnyH_take (i := 4) (v := ?_) (by simp only [gx0, gx1, gx2]; rfl) (by kernel_rfl) (by kernel_rfl) (by kernel_rfl) (fun _ _ _ h => h) (.inl ⟨by rfl, ?_⟩) hH ?_
   rotate_left
   · intro w hSw; (try dsimp only at hSw); first | (go_simp; done) | (go_simp; with_reducible rfl)
   (try simp only [Act.put, gy0, gy1, gy2])
   refine wpAnyH_ready (rs := [5, 6]) (by kernel_rfl) (by simp) ?_
   refine AllReadyH.cons (by simp only [gx0, gx1, gx2]; rfl) (fun K hK => ?_) ?_
   go_simp
   refine (Mb.out _ AD nD cD (P1.out.keep BW_1.out) RD.out).mono ?_
   rintro e W2 ⟨AZ, nZ, cZ, rfl, rz, b⟩
   have RZ := hid rz
   clear rz
   have RD_2 := hid (RD.out.keep b)
   have BW_2 := hid (bx_call BW_1.out b)
   clear RD BW_1
   have H2 := And.intro (And.intro (cell_bx hH.1.1 b) (And.intro (cell_bx hH.1.2.1 b) (cell_bx hH.1.2.2 b))) (And.intro (cell_bx hH.2.1 b) (And.intro (cell_bx hH.2.2.1 b) (cell_bx hH.2.2.2 b)))
   clear hH b
   (try go_wp2_with fail)
   refine hK.out _ _ ?_ (fun hH => ?_)
   exact H2
   clear hK K H2
   (try simp only [Act.put, gy0, gy1, gy2])
   clear RD_2
   refine wpAnyH_ready (rs := [6]) (by kernel_rfl) (by simp) ?_
   refine AllReadyH.cons (by simp only [gx0, gx1, gx2]; rfl) (fun K hK => ?_) ?_
   go_simp
   obtain ⟨W3, p, hW, hp, b, kk⟩ := mk_int W2
   have gp : w1.heap.size ≤ p := by rw [hp]; exact BW_2.out.size
   rw [← hW, ← hp]
   clear hW hp
   have Kp := hid kk
   clear kk
   have RZ_3 := hid (RZ.out.keep b)
   have BW_3 := hid (bx_call BW_2.out b)
   clear RZ BW_2
   have H2 := And.intro (And.intro (cell_bx hH.1.1 b) (And.intro (cell_bx hH.1.2.1 b) (cell_bx hH.1.2.2 b))) (And.intro (cell_bx hH.2.1 b) (And.intro (cell_bx hH.2.2.1 b) (cell_bx hH.2.2.2 b)))
   clear hH b
   refine hK.out _ _ ?_ (fun hH => ?_)
   exact H2
   clear hK K H2
   (try simp only [Act.put, gy0, gy1, gy2])
   have TM := hid (one_made BW_3.out gp Kp.out RZ_3.out)
   obtain ⟨⟨a1, a2, a3, a4⟩, O⟩ := far_facts Kp.out gp nw.out
   refine wpAnyH_ready (rs := [7]) (by kernel_rfl) (by simp) ?_
   refine AllReadyH.cons (by simp only [gx0, gx1, gx2]; rfl) (fun K hK => ?_) AllReadyH.nil
   go_simp
   refine hK.out _ _ (And.intro (And.intro (cell_fr (cell_fr hH.1.1 O.out.1) O.out.1) (And.intro (cell_fr (cell_fr hH.1.2.1 O.out.1) O.out.1) (cell_fr (cell_fr hH.1.2.2 O.out.1) O.out.1))) (And.intro (cell_fr (cell_fr hH.2.1 O.out.2) O.out.2) (And.intro (cell_fr (cell_fr hH.2.2.1 O.out.2) O.out.2) (cell_fr (cell_fr hH.2.2.2 O.out.2) O.out.2)))) (fun hH2 => ?_)
   clear hK K hH a1 a2 a3 a4
   refine wpAnyH_done (by kernel_rfl) ?_ _
   refine NoPanic.normal ?_
   go_wp2_with fail
   go_meet
   exact ⟨p, AZ, nZ, cZ, rfl, hid ⟨TM.out.1.1, TM.out.1.2, P1.out.keep TM.out.2, TM.out.2⟩⟩
   exact AllReadyH.nil
   refine AllReadyH.cons (by simp only [gx0, gx1, gx2]; rfl) (fun K hK => ?_) ?_
   go_simp
   obtain ⟨W2, p, hW, hp, b, kk⟩ := mk_int W1
   have gp : w1.heap.size ≤ p := by rw [hp]; exact BW_1.out.size
   rw [← hW, ← hp]
   clear hW hp
   have Kp := hid kk
   clear kk
   have RD_2 := hid (RD.out.keep b)
   have BW_2 := hid (bx_call BW_1.out b)
   clear RD BW_1
   have H2 := And.intro (And.intro (cell_bx hH.1.1 b) (And.intro (cell_bx hH.1.2.1 b) (cell_bx hH.1.2.2 b))) (And.intro (cell_bx hH.2.1 b) (And.intro (cell_bx hH.2.2.1 b) (cell_bx hH.2.2.2 b)))
   clear hH b
   refine hK.out _ _ ?_ (fun hH => ?_)
   exact H2
   clear hK K H2
   (try simp only [Act.put, gy0, gy1, gy2])
   refine wpAnyH_ready (rs := [5]) (by kernel_rfl) (by simp) ?_
   refine AllReadyH.cons (by simp only [gx0, gx1, gx2]; rfl) (fun K hK => ?_) ?_
   go_simp
   refine (Mb.out _ AD nD cD (P1.out.keep BW_2.out) RD_2.out).mono ?_
   rintro e W3 ⟨AZ, nZ, cZ, rfl, rz, b⟩
   have RZ := hid rz
   clear rz
   have RD_3 := hid (RD_2.out.keep b)
   have Kp_3 := hid (Kp.out.keep b)
   have BW_3 := hid (bx_call BW_2.out b)
   clear RD_2 Kp BW_2
   have H2 := And.intro (And.intro (cell_bx hH.1.1 b) (And.intro (cell_bx hH.1.2.1 b) (cell_bx hH.1.2.2 b))) (And.intro (cell_bx hH.2.1 b) (And.intro (cell_bx hH.2.2.1 b) (cell_bx hH.2.2.2 b)))
   clear hH b
   (try go_wp2_with fail)
   refine hK.out _ _ ?_ (fun hH => ?_)
   exact H2
   clear hK K H2
   (try simp only [Act.put, gy0, gy1, gy2])
   clear RD_3
   have TM := hid (one_made BW_3.out gp Kp_3.out RZ.out)
   obtain ⟨⟨a1, a2, a3, a4⟩, O⟩ := far_facts Kp_3.out gp nw.out
   refine wpAnyH_ready (rs := [7]) (by kernel_rfl) (by simp) ?_
   refine AllReadyH.cons (by simp only [gx0, gx1, gx2]; rfl) (fun K hK => ?_) AllReadyH.nil
   go_simp
   refine hK.out _ _ (And.intro (And.intro (cell_fr (cell_fr hH.1.1 O.out.1) O.out.1) (And.intro (cell_fr (cell_fr hH.1.2.1 O.out.1) O.out.1) (cell_fr (cell_fr hH.1.2.2 O.out.1) O.out.1))) (And.intro (cell_fr (cell_fr hH.2.1 O.out.2) O.out.2) (And.intro (cell_fr (cell_fr hH.2.2.1 O.out.2) O.out.2) (cell_fr (cell_fr hH.2.2.2 O.out.2) O.out.2)))) (fun hH2 => ?_)
   clear hK K hH a1 a2 a3 a4
   refine wpAnyH_done (by kernel_rfl) ?_ _
   refine NoPanic.normal ?_
   go_wp2_with fail
   go_meet
   exact ⟨p, AZ, nZ, cZ, rfl, hid ⟨TM.out.1.1, TM.out.1.2, P1.out.keep TM.out.2, TM.out.2⟩⟩
   exact AllReadyH.nil
   exact AllReadyH.nil
   refine AllReadyH.cons (by simp only [gx0, gx1, gx2]; rfl) (fun K hK => ?_) ?_
   go_simp
   obtain ⟨W1, p, hW, hp, b, kk⟩ := mk_int W0
   have gp : w1.heap.size ≤ p := by rw [hp]; exact BW_0.out.size
   rw [← hW, ← hp]
   clear hW hp
   have Kp := hid kk
   clear kk
   have BW_1 := hid (bx_call BW_0.out b)
   clear BW_0
   have H2 := And.intro (And.intro (cell_bx hH.1.1 b) (And.intro (cell_bx hH.1.2.1 b) (cell_bx hH.1.2.2 b))) (And.intro (cell_bx hH.2.1 b) (And.intro (cell_bx hH.2.2.1 b) (cell_bx hH.2.2.2 b)))
   clear hH b
   refine hK.out _ _ ?_ (fun hH => ?_)
   exact H2
   clear hK K H2
   (try simp only [Act.put, gy0, gy1, gy2])
   refine wpAnyH_ready (rs := [3]) (by kernel_rfl) (by simp) ?_
   refine AllReadyH.cons (by simp only [gx0, gx1, gx2]; rfl) (fun K hK => ?_) ?_
   go_simp
   refine (Na.out _ (P1.out.keep BW_1.out)).mono ?_
   rintro e W2 ⟨vd, rfl, ⟨AD, nD, cD, rfl, rd_⟩, b⟩
   have RD := hid rd_
   clear rd_
   have Kp_2 := hid (Kp.out.keep b)
   have BW_2 := hid (bx_call BW_1.out b)
   clear Kp BW_1
   have H2 := And.intro (And.intro (cell_bx hH.1.1 b) (And.intro (cell_bx hH.1.2.1 b) (cell_bx hH.1.2.2 b))) (And.intro (cell_bx hH.2.1 b) (And.intro (cell_bx hH.2.2.1 b) (cell_bx hH.2.2.2 b)))
   clear hH b
   (try go_wp2_with fail)
   refine hK.out _ _ ?_ (fun hH => ?_)
   exact H2
   clear hK K H2
   (try simp only [Act.put, gy0, gy1, gy2])
   refine wpAnyH_take (i := 4) (v := ?_) (by simp only [gx0, gx1, gx2]; rfl) (by kernel_rfl) (by kernel_rfl) (by kernel_rfl) (fun _ _ _ h => h) (.inl ⟨by rfl, ?_⟩) hH ?_
   rotate_left
   · intro w hSw; (try dsimp only at hSw); first | (go_simp; done) | (go_simp; with_reducible rfl)
   (try simp only [Act.put, gy0, gy1, gy2])
   refine wpAnyH_ready (rs := [5]) (by kernel_rfl) (by simp) ?_
   refine AllReadyH.cons (by simp only [gx0, gx1, gx2]; rfl) (fun K hK => ?_) ?_
   go_simp
   refine (Mb.out _ AD nD cD (P1.out.keep BW_2.out) RD.out).mono ?_
   rintro e W3 ⟨AZ, nZ, cZ, rfl, rz, b⟩
   have RZ := hid rz
   clear rz
   have Kp_3 := hid (Kp_2.out.keep b)
   have RD_3 := hid (RD.out.keep b)
   have BW_3 := hid (bx_call BW_2.out b)
   clear Kp_2 RD BW_2
   have H2 := And.intro (And.intro (cell_bx hH.1.1 b) (And.intro (cell_bx hH.1.2.1 b) (cell_bx hH.1.2.2 b))) (And.intro (cell_bx hH.2.1 b) (And.intro (cell_bx hH.2.2.1 b) (cell_bx hH.2.2.2 b)))
   clear hH b
   (try go_wp2_with fail)
   refine hK.out _ _ ?_ (fun hH => ?_)
   exact H2
   clear hK K H2
   (try simp only [Act.put, gy0, gy1, gy2])
   clear RD_3
   have TM := hid (one_made BW_3.out gp Kp_3.out RZ.out)
   obtain ⟨⟨a1, a2, a3, a4⟩, O⟩ := far_facts Kp_3.out gp nw.out
   refine wpAnyH_ready (rs := [7]) (by kernel_rfl) (by simp) ?_
   refine AllReadyH.cons (by simp only [gx0, gx1, gx2]; rfl) (fun K hK => ?_) AllReadyH.nil
   go_simp
   refine hK.out _ _ (And.intro (And.intro (cell_fr (cell_fr hH.1.1 O.out.1) O.out.1) (And.intro (cell_fr (cell_fr hH.1.2.1 O.out.1) O.out.1) (cell_fr (cell_fr hH.1.2.2 O.out.1) O.out.1))) (And.intro (cell_fr (cell_fr hH.2.1 O.out.2) O.out.2) (And.intro (cell_fr (cell_fr hH.2.2.1 O.out.2) O.out.2) (cell_fr (cell_fr hH.2.2.2 O.out.2) O.out.2)))) (fun hH2 => ?_)
   clear hK K hH a1 a2 a3 a4
   refine wpAnyH_done (by kernel_rfl) ?_ _
   refine NoPanic.normal ?_
   go_wp2_with fail
   go_meet
   exact ⟨p, AZ, nZ, cZ, rfl, hid ⟨TM.out.1.1, TM.out.1.2, P1.out.keep TM.out.2, TM.out.2⟩⟩
   exact AllReadyH.nil
   exact AllReadyH.nil
   exact AllReadyH.nil
  case rest =>
  obtain ⟨p2, A4, n4, c4, rfl, hT⟩ := hcut
  obtain ⟨w2, rfl⟩ : ∃ W : World, W = wc := ⟨_, rfl⟩
  have P2 := hid hT.out.2.2.1
  have K2 := hid hT.out.1
  have R2 := hid hT.out.2.1
  have K1' := hid (K1.out.keep hT.out.2.2.2)
  have R1' := hid (R1.out.keep hT.out.2.2.2)
  have o1 : p1 ≠ w.heap.size + 1 + 1 := fun e => by have h1 := K1'.out; rw [e] at h1; have h2 := P2.out.res; unfold Blk at h1 h2; rw [h1] at h2; simp at h2
  have o2 : p2 ≠ w.heap.size + 1 + 1 := fun e => by have h1 := K2.out; rw [e] at h1; have h2 := P2.out.res; unfold Blk at h1 h2; rw [h1] at h2; simp at h2
  clear hT P1 nw K1 R1
  obtain ⟨a0, a1, a2⟩ := P2.out.cells1
  obtain ⟨b0, b1, b2⟩ := P2.out.cells2
  obtain ⟨u0, u1⟩ := blk_two K1'.out
  obtain ⟨v0, v1⟩ := blk_two K2.out
  go_upto_region 3 with fail
  go_region_held3 (fun W => W.cell? ⟨p1, 0, none⟩ = some (.bool (sg x1)) ∧ W.cell? ⟨p1, 1, none⟩ = some (.slice A3 n3 c3) ∧ W.cell? ⟨p2, 0, none⟩ = some (.bool (sg x2)) ∧ W.cell? ⟨p2, 1, none⟩ = some (.slice A4 n4 c4) ∧ W.cell? ⟨w.heap.size, 0, none⟩ = some (.bool ga) ∧ W.cell? ⟨w.heap.size, 1, none⟩ = some (.slice Aa na ca) ∧ W.cell? ⟨w.heap.size, 2, none⟩ = some (.slice Da0 ma da) ∧ W.cell? ⟨w.heap.size + 1, 0, none⟩ = some (.bool gb) ∧ W.cell? ⟨w.heap.size + 1, 1, none⟩ = some (.slice Ab nb cb) ∧ W.cell? ⟨w.heap.size + 1, 2, none⟩ = some (.slice Db0 mb db))
    (refine ⟨?_, ?_, ?_, ?_, ?_, ?_, ?_, ?_, ?_, ?_⟩ <;> repeat' (first | with_reducible assumption | with_reducible refine cell_dr ?_ | with_reducible refine cell_fr ?_ (by first | assumption | omega)))
    (first
      | (go_at_call 86; refine (BU.out y4 A5 n5 c5 A8 n8 c8 Q4.out V4.out).mono ?_; rintro e y5 ⟨Az, nz, cz, Ez, mz, dz, rfl, rz, qz, b⟩; have t5u0 := cell_bx t4u0 b; have t5u1 := cell_bx t4u1 b; have t5v0 := cell_bx t4v0 b; have t5v1 := cell_bx t4v1 b; have t5a0 := cell_bx t4a0 b; have t5a1 := cell_bx t4a1 b; have t5a2 := cell_bx t4a2 b; have t5b0 := cell_bx t4b0 b; have t5b1 := cell_bx t4b1 b; have t5b2 := cell_bx t4b2 b; have P3 := hid (P2.out.keep (bx_call X4.out b)); have EE := hid (P3.out.end_ rz qz); obtain ⟨e0, e1, e2, e3, e4, e5⟩ := P3.out.rcells; clear b rz qz)
      | (go_at_call 88; refine (MU.out y3 A6 n6 c6 A7 n7 c7 S3.out U3.out).mono ?_; rintro e y4 ⟨vf, rfl, ⟨A8, n8, c8, rfl, r⟩, b⟩; have t4u0 := cell_bx t3u0 b; have t4u1 := cell_bx t3u1 b; have t4v0 := cell_bx t3v0 b; have t4v1 := cell_bx t3v1 b; have t4a0 := cell_bx t3a0 b; have t4a1 := cell_bx t3a1 b; have t4a2 := cell_bx t3a2 b; have t4b0 := cell_bx t3b0 b; have t4b1 := cell_bx t3b1 b; have t4b2 := cell_bx t3b2 b; have V4 := hid r; have Q4 := hid (Q3.out.keep b); have X4 := hid (bx_call X3.out b); clear b r)
      | (go_at_call 85; refine (Nb.out y2 (P2.out.keep X2.out)).mono ?_; rintro e y3 ⟨ve, rfl, ⟨A7, n7, c7, rfl, r⟩, b⟩; have t3u0 := cell_bx t2u0 b; have t3u1 := cell_bx t2u1 b; have t3v0 := cell_bx t2v0 b; have t3v1 := cell_bx t2v1 b; have t3a0 := cell_bx t2a0 b; have t3a1 := cell_bx t2a1 b; have t3a2 := cell_bx t2a2 b; have t3b0 := cell_bx t2b0 b; have t3b1 := cell_bx t2b1 b; have t3b2 := cell_bx t2b2 b; have U3 := hid r; have S3 := hid (S2.out.keep b); have Q3 := hid (Q2.out.keep b); have X3 := hid (bx_call X2.out b); clear b r)
      | (go_at_call 85; refine (Na.out y1 (P2.out.keep X1.out)).mono ?_; rintro e y2 ⟨vd, rfl, ⟨A6, n6, c6, rfl, r⟩, b⟩; have t2u0 := cell_bx t1u0 b; have t2u1 := cell_bx t1u1 b; have t2v0 := cell_bx t1v0 b; have t2v1 := cell_bx t1v1 b; have t2a0 := cell_bx t1a0 b; have t2a1 := cell_bx t1a1 b; have t2a2 := cell_bx t1a2 b; have t2b0 := cell_bx t1b0 b; have t2b1 := cell_bx t1b1 b; have t2b2 := cell_bx t1b2 b; have S2 := hid r; have Q2 := hid (Q1.out.keep b); have X2 := hid (bx_call X1.out b); clear b r)
      | (go_at_call 87; refine (AD.out _ A3 n3 c3 A4 n4 c4 (R1'.out.keep (bx_drew (bx_refl _))) (R2.out.keep (bx_drew (bx_refl _)))).mono ?_; rintro e y1 ⟨A5, n5, c5, rfl, r, b⟩; have t1u0 := cell_bx (cell_dr u0) b; have t1u1 := cell_bx (cell_dr u1) b; have t1v0 := cell_bx (cell_dr v0) b; have t1v1 := cell_bx (cell_dr v1) b; have t1a0 := cell_bx (cell_dr a0) b; have t1a1 := cell_bx (cell_dr a1) b; have t1a2 := cell_bx (cell_dr a2) b; have t1b0 := cell_bx (cell_dr b0) b; have t1b1 := cell_bx (cell_dr b1) b; have t1b2 := cell_bx (cell_dr b2) b; have Q1 := hid r; have X1 := hid (bx_call (bx_drew (bx_refl w2)) b); clear b r))
  go_wp2_with fail
  exact bodyPost_ret (v := .agg #[.bool (sg zz), .slice Az nz cz, .slice Ez mz dz]) (by simp [results, Tryz.results37, go_sem, e0, e1, e2]) rfl EE.out
theorem lz_len {x : Int} {y k : Nat} (h : (dg x.natAbs).length ≤ k) : (dg (lz x y).natAbs).length ≤ k := by
  refine Nat.le_trans (dg_len_mono ?_) h
  have e : (lz x y).natAbs = x.natAbs / Nat.gcd x.natAbs y := by
    rw [lz_sgn]
    generalize x.natAbs / Nat.gcd x.natAbs y = q
    split <;> omega
  rw [e]
  exact Nat.div_le_self _ _
theorem dn_len {x : Int} {y k : Nat} (h : (dg y).length ≤ k) : (dn (ly x y)).length ≤ k := by
  unfold dn
  split
  · exact Nat.zero_le _
  · exact Nat.le_trans (dg_len_mono (Nat.div_le_self _ _)) h
set_option maxHeartbeats 4000000 in
theorem qrsub_any (ga : Bool) (Aa : Option Addr) (na ca : Nat) (xsa : List Nat) (Da0 : Option Addr) (ma da : Nat) (dsa : List Nat) (gb : Bool) (Ab : Option Addr) (nb cb : Nat) (xsb : List Nat) (Db0 : Option Addr) (mb db : Nat) (dsb : List Nat) (w : World) (ha : Rd w Aa na ca xsa) (hna : na ≤ 274877906943) (ka : Rd w Da0 ma da dsa) (hma : ma ≤ 274877906943) (hb : Rd w Ab nb cb xsb) (hnb : nb ≤ 274877906943) (kb : Rd w Db0 mb db dsb) (hmb : mb ≤ 274877906943) :
    Calls Tryz.prog 51 #[.agg #[.bool ga, .slice Aa na ca, .slice Da0 ma da], .agg #[.bool gb, .slice Ab nb cb, .slice Db0 mb db]] w (RetRat w (lz (iv ga xsa * (dv1 dsb : Int) + -iv gb xsb * (dv1 dsa : Int)) (dv1 dsa * dv1 dsb)) (ly (iv ga xsa * (dv1 dsb : Int) + -iv gb xsb * (dv1 dsa : Int)) (dv1 dsa * dv1 dsb))) := by
  have P0 := hid (PreQ2.start w ga (.slice Aa na ca) (.slice Da0 ma da) gb (.slice Ab nb cb) (.slice Db0 mb db))
  obtain ⟨W0, hW⟩ : ∃ W, W = ((w.alloc (.cells #[.bool ga, .slice Aa na ca, .slice Da0 ma da] 41)).alloc (.cells #[.bool gb, .slice Ab nb cb, .slice Db0 mb db] 41)).alloc (.cells #[.bool false, .slice none 0 0, .slice none 0 0] 41) := ⟨_, rfl⟩
  rw [← hW] at P0
  have Ra := hid (ha.keep P0.out.bel)
  have Da := hid (ka.keep P0.out.bel)
  have Rb := hid (hb.keep P0.out.bel)
  have Db := hid (kb.keep P0.out.bel)
  have ldb := dv1_len kb hmb (by omega)
  have lxb : (dg (-iv gb xsb).natAbs).length ≤ 274877906943 := by rw [Int.natAbs_neg]; exact Nat.le_trans (dg_abs_len (g := gb) hb.2.2.2.1 hb.1) hnb
  have AD := hid (fun (W : World) A1 n1 c1 D1 m1 d1 (ra : Rd W Aa na ca xsa) (rd : Rd W Da0 ma da dsa) (r1 : Rd W A1 n1 c1 (dg (lz (-iv gb xsb) (dv1 dsb)).natAbs)) (q : Rd W D1 m1 d1 (dn (ly (-iv gb xsb) (dv1 dsb)))) => qradd_any ga Aa na ca xsa Da0 ma da dsa (sg (lz (-iv gb xsb) (dv1 dsb))) A1 n1 c1 _ D1 m1 d1 _ W ra hna rd hma r1 (by have := r1.1; have := lz_len (y := dv1 dsb) lxb; omega) q (by have := q.1; have := dn_len (x := -iv gb xsb) ldb; omega))
  simp only [iv_sg, val_dn (ly_pos (x := -iv gb xsb) (dv1_pos dsb)), (low_add (x1 := iv ga xsa) (x2 := -iv gb xsb) (dv1_pos dsa) (dv1_pos dsb)).1, (low_add (x1 := iv ga xsa) (x2 := -iv gb xsb) (dv1_pos dsa) (dv1_pos dsb)).2] at AD
  obtain ⟨zz, hzz⟩ : ∃ z, z = lz (iv ga xsa * (dv1 dsb : Int) + -iv gb xsb * (dv1 dsa : Int)) (dv1 dsa * dv1 dsb) := ⟨_, rfl⟩
  obtain ⟨yy, hyy⟩ : ∃ y, y = ly (iv ga xsa * (dv1 dsb : Int) + -iv gb xsb * (dv1 dsa : Int)) (dv1 dsa * dv1 dsb) := ⟨_, rfl⟩
  rw [← hzz, ← hyy] at AD ⊢
  have HZ := hid hzz
  have HY := hid hyy
  clear hzz hyy ha ka hb kb
  go_enter Tryz.func51, Tryz.ntmps51
  go_upto_region 1 with fail
  rw [← hW]
  clear hW
  obtain ⟨ca0, ca1, ca2⟩ := P0.out.cells1
  obtain ⟨cb0, cb1, cb2⟩ := P0.out.cells2
  go_region_held3 (fun W => W.cell? ⟨w.heap.size, 0, none⟩ = some (.bool ga) ∧ W.cell? ⟨w.heap.size, 1, none⟩ = some (.slice Aa na ca) ∧ W.cell? ⟨w.heap.size, 2, none⟩ = some (.slice Da0 ma da) ∧ W.cell? ⟨w.heap.size + 1, 0, none⟩ = some (.bool gb) ∧ W.cell? ⟨w.heap.size + 1, 1, none⟩ = some (.slice Ab nb cb) ∧ W.cell? ⟨w.heap.size + 1, 2, none⟩ = some (.slice Db0 mb db))
    (refine ⟨?_, ?_, ?_, ?_, ?_, ?_⟩ <;> repeat' (first | with_reducible assumption | with_reducible refine cell_dr ?_ | with_reducible refine cell_fr ?_ (by omega)))
    (first
      | (go_at_call 37; have cc := AD.out w1 A1 n1 c1 E1 m1 d1 (Ra_1.out) (Da_1.out) (RN.out) (RE.out); refine cc.mono ?_; rintro e w2 ⟨Az, nz, cz, Ez, mz, dz, rfl, rz, qz, b⟩; clear cc; have Ra_2 := hid (Ra_1.out.keep b); have Da_2 := hid (Da_1.out.keep b); have Rb_2 := hid (Rb_1.out.keep b); have Db_2 := hid (Db_1.out.keep b); have RN_2 := hid (RN.out.keep b); have RE_2 := hid (RE.out.keep b); have X_2 := hid (bx_call X_1.out b); have ca_2_0 := cell_bx ca_1_0 b; have ca_2_1 := cell_bx ca_1_1 b; have ca_2_2 := cell_bx ca_1_2 b; have cb_2_0 := cell_bx cb_1_0 b; have cb_2_1 := cell_bx cb_1_1 b; have cb_2_2 := cell_bx cb_1_2 b; have P3 := hid (P0.out.keep X_2.out); have EE := hid (P3.out.end_ rz qz); obtain ⟨x0, x1, x2, x3, x4, x5⟩ := P3.out.rcells; clear rz qz; clear b Ra_1 Da_1 Rb_1 Db_1 RN RE)
      | (go_at_call 97; have cc := qrneg_any gb Ab nb cb xsb Db0 mb db dsb _ (Rb.out.keep (bx_drew (bx_refl _))) (by omega) (Db.out.keep (bx_drew (bx_refl _))) (by omega); refine cc.mono ?_; rintro e w1 ⟨A1, n1, c1, E1, m1, d1, rfl, r, r2, b⟩; clear cc; have RN := hid r; have RE := hid r2; clear r r2; have Ra_1 := hid (Ra.out.keep (bx_call (bx_drew (bx_refl _)) b)); have Da_1 := hid (Da.out.keep (bx_call (bx_drew (bx_refl _)) b)); have Rb_1 := hid (Rb.out.keep (bx_call (bx_drew (bx_refl _)) b)); have Db_1 := hid (Db.out.keep (bx_call (bx_drew (bx_refl _)) b)); have X_1 := hid (bx_call (bx_drew (bx_refl _)) b); have ca_1_0 := cell_bx (cell_dr ca0) b; have ca_1_1 := cell_bx (cell_dr ca1) b; have ca_1_2 := cell_bx (cell_dr ca2) b; have cb_1_0 := cell_bx (cell_dr cb0) b; have cb_1_1 := cell_bx (cell_dr cb1) b; have cb_1_2 := cell_bx (cell_dr cb2) b; clear b Ra Da Rb Db))
  go_wp2_with fail
  exact bodyPost_ret (v := .agg #[.bool (sg zz), .slice Az nz cz, .slice Ez mz dz]) (by simp [results, Tryz.results51, go_sem, x0, x1, x2]) rfl EE.out
set_option maxHeartbeats 1000000 in
theorem qrcmp_any (ga : Bool) (Aa : Option Addr) (na ca : Nat) (xsa : List Nat) (Da0 : Option Addr) (ma da : Nat) (dsa : List Nat) (gb : Bool) (Ab : Option Addr) (nb cb : Nat) (xsb : List Nat) (Db0 : Option Addr) (mb db : Nat) (dsb : List Nat) (w : World) (ha : Rd w Aa na ca xsa) (hna : na ≤ 274877906943) (ka : Rd w Da0 ma da dsa) (hma : ma ≤ 274877906943) (hb : Rd w Ab nb cb xsb) (hnb : nb ≤ 274877906943) (kb : Rd w Db0 mb db dsb) (hmb : mb ≤ 274877906943) :
    Calls Tryz.prog 40 #[.agg #[.bool ga, .slice Aa na ca, .slice Da0 ma da], .agg #[.bool gb, .slice Ab nb cb, .slice Db0 mb db]] w (RetI w (sgnZ (iv ga xsa * (dv1 dsb : Int) - iv gb xsb * (dv1 dsa : Int)))) := by
  have bx : Below w.heap.size w ((w.alloc (.cells #[.bool ga, .slice Aa na ca, .slice Da0 ma da] 41)).alloc (.cells #[.bool gb, .slice Ab nb cb, .slice Db0 mb db] 41)) := bx_alloc (bx_alloc (bx_refl w) _) _
  have S1 := hid (qrsub_any ga Aa na ca xsa Da0 ma da dsa gb Ab nb cb xsb Db0 mb db dsb _ (ha.keep bx) hna (ka.keep bx) hma (hb.keep bx) hnb (kb.keep bx) hmb)
  have lda := dv1_len ka hma (by omega)
  have ldb := dv1_len kb hmb (by omega)
  have lz1 : (dg (lz (iv ga xsa * (dv1 dsb : Int) + -iv gb xsb * (dv1 dsa : Int)) (dv1 dsa * dv1 dsb)).natAbs).length ≤ 1099511627776 := by
    refine Nat.le_trans (lz_len (k := 549755813887) ?_) (by omega)
    have e : -iv gb xsb * (dv1 dsa : Int) = iv (!gb) xsb * (dv1 dsa : Int) := by rw [iv_not]
    rw [e]
    exact sum_len (mul_den_len ha.2.2.2.1 ha.1 hna ldb) (mul_den_len hb.2.2.2.1 hb.1 hnb lda)
  have SG := hid (fun (W : World) A n c D m d (r : Rd W A n c (dg (lz (iv ga xsa * (dv1 dsb : Int) + -iv gb xsb * (dv1 dsa : Int)) (dv1 dsa * dv1 dsb)).natAbs)) => qrsign_any (sg (lz (iv ga xsa * (dv1 dsb : Int) + -iv gb xsb * (dv1 dsa : Int)) (dv1 dsa * dv1 dsb))) A n c _ D m d W r (by have := r.1; omega))
  simp only [iv_sg, sgnZ_low (Nat.mul_pos (dv1_pos dsa) (dv1_pos dsb))] at SG
  rw [show iv ga xsa * (dv1 dsb : Int) - iv gb xsb * (dv1 dsa : Int) = iv ga xsa * (dv1 dsb : Int) + -iv gb xsb * (dv1 dsa : Int) from by rw [Int.neg_mul]; omega]
  have X := hid bx
  obtain ⟨s, hs⟩ : ∃ s, s = sgnZ (iv ga xsa * (dv1 dsb : Int) + -iv gb xsb * (dv1 dsa : Int)) := ⟨_, rfl⟩
  rw [← hs] at SG ⊢
  obtain ⟨z, hz⟩ : ∃ z, z = lz (iv ga xsa * (dv1 dsb : Int) + -iv gb xsb * (dv1 dsa : Int)) (dv1 dsa * dv1 dsb) := ⟨_, rfl⟩
  rw [← hz] at S1 SG
  clear bx ha ka hb kb lda ldb lz1 hs hz
  go_enter Tryz.func40, Tryz.ntmps40
  go_wp2_with fail
  refine (S1.out).mono ?_
  rintro e w1 ⟨A1, n1, c1, D1, m1, d1, rfl, r1, q1, b⟩
  have S2 := hid (SG.out w1 A1 n1 c1 D1 m1 d1 r1)
  have X1 := hid (bx_call X.out b)
  clear r1 q1 b X S1 SG
  go_wp2_with fail
  refine (S2.out).mono ?_
  rintro e w2 ⟨rfl, b⟩
  have X2 := hid (bx_call X1.out b)
  clear b X1 S2
  go_wp2_with fail
  go_ret
  exact ⟨rfl, X2.out⟩
end Go.Proofs.YtdbccidlnhjfhaaGreatDoor
