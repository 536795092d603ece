/- IntA: Int1, Int2, Int3, Int4, Int5, Int6, Int7, Int8 in one text. -/
import Derived.Test.YtdbccidlnhjfhaaGreatDoorRefT
import Derived.Deep.RegionHeld3
import Derived.Test.YtdbccidlnhjfhaaGreatDoorRefA
import Derived.RegionTactic
import Derived.ChangeAlike
import Derived.Test.YtdbccidlnhjfhaaGreatDoorTxt
namespace Go.Proofs.YtdbccidlnhjfhaaGreatDoor
open Go.RowKit
def iv (g : Bool) (xs : List Nat) : Int := if g then -(val xs : Int) else (val xs : Int)
def sg (z : Int) : Bool := decide (z < 0)
def RetInt (w : World) (z : Int) (e : Ending) (w' : World) : Prop := ∃ A n c, e = .returned (.agg #[.bool (sg z), .slice A n c]) ∧ Rd w' A n c (dg z.natAbs) ∧ Below w.heap.size w w'
set_option maxHeartbeats 400000 in
theorem signed_any (b : Bool) (A : Option Addr) (n c : Nat) (w : World) (hn : n ≤ 9223372036854775807) :
    Calls Tryz.prog 145 #[.bool b, .slice A n c] w fun e w' => e = .returned (.agg #[.bool (b && decide (0 < n)), .slice A n c]) ∧ Below w.heap.size w w' := by
  obtain ⟨B, hB⟩ : ∃ B, B = (b && decide (0 < n)) := ⟨_, rfl⟩
  rw [← hB]
  have HB := hid hB
  clear hB
  rcases Nat.eq_zero_or_pos n with rfl | hp
  all_goals
    rcases b with _ | _
    all_goals
      go_enter Tryz.func145, Tryz.ntmps145
      go_wp2_with fail
      have hb := HB.out
      first | (have hb2 : B = true := by (rw [hb]; simp; done)) | (have hb2 : B = true := by (rw [hb]; simp; omega)) | (have hb2 : B = false := by (rw [hb]; simp; done)) | (have hb2 : B = false := by (rw [hb]; simp; omega))
      rw [hb2]
      refine bodyPost_ret (v := .agg #[.bool _, .slice A _ c]) (by simp [results, Tryz.results145, go_sem]) rfl ⟨rfl, (Below.refl _ _).alloc (Nat.le_refl _) _⟩
def sgnZ (z : Int) : Int := if z < 0 then -1 else if 0 < z then 1 else 0
theorem iv_neg {g : Bool} {xs : List Nat} (h : val xs = 0) : iv g xs = 0 := by unfold iv; cases g <;> simp [h]
set_option maxHeartbeats 400000 in
theorem isign_any (g : Bool) (A : Option Addr) (n c : Nat) (xs : List Nat) (w : World) (h : Rd w A n c xs) :
    Calls Tryz.prog 115 #[.agg #[.bool g, .slice A n c]] w fun e w' => e = .returned (.int .i64 (sgnZ (iv g xs))) ∧ Below w.heap.size w w' := by
  have hb : Below w.heap.size w (w.alloc (.cells #[.bool g, .slice A n c] 39)) := (Below.refl _ _).alloc (Nat.le_refl _) _
  have cc := cmp_any A none n c 0 0 xs [] _ (h.keep hb) (Rd.nil _ none)
  rcases Nat.eq_zero_or_pos (val xs) with h0 | hp
  · have e1 : sgnZ (iv g xs) = 0 := by rw [iv_neg h0]; rfl
    rw [e1]
    rw [h0, show cmpN 0 (val []) = 0 from rfl] at cc
    have CC := hid cc
    have B := hid hb
    clear cc hb h h0 e1
    go_enter Tryz.func115, Tryz.ntmps115
    go_wp2_with fail
    refine (CC.out).mono ?_
    rintro e w' ⟨rfl, rfl⟩
    go_wp2_with fail
    go_ret
    exact ⟨rfl, B.out⟩
  · rw [show cmpN (val xs) (val []) = 1 from by show cmpN (val xs) 0 = 1; unfold cmpN; rw [if_neg (by omega), if_pos hp]] at cc
    have CC := hid cc
    have B := hid hb
    rcases g with _ | _
    · have e1 : sgnZ (iv false xs) = 1 := by unfold sgnZ iv; simp; omega
      rw [e1]
      clear cc hb h hp e1
      go_enter Tryz.func115, Tryz.ntmps115
      go_wp2_with fail
      refine (CC.out).mono ?_
      rintro e w' ⟨rfl, rfl⟩
      go_wp2_with fail
      go_ret
      exact ⟨rfl, B.out⟩
    · have e1 : sgnZ (iv true xs) = -1 := by unfold sgnZ iv; simp; omega
      rw [e1]
      clear cc hb h hp e1
      go_enter Tryz.func115, Tryz.ntmps115
      go_wp2_with fail
      refine (CC.out).mono ?_
      rintro e w' ⟨rfl, rfl⟩
      go_wp2_with fail
      go_ret
      exact ⟨rfl, B.out⟩
theorem sg_mag {b : Bool} {m n : Nat} (hn : (dg m).length = n) : (b && decide (0 < n)) = sg (if b then -(m : Int) else m) ∧ dg m = dg (Int.natAbs (if b then -(m : Int) else m)) := by
  have h : (0 < n) ↔ 0 < m := by
    rw [← hn]
    exact ⟨fun h => Nat.pos_of_ne_zero fun e => by rw [e, dg_zero] at h; simp at h, dg_len_pos⟩
  unfold sg
  cases b
  · constructor
    · simp
    · simp
  · constructor
    · simp only [Bool.true_and, if_true]
      exact decide_eq_decide.2 (h.trans (by omega))
    · simp
theorem signed_nat (b : Bool) (A : Option Addr) (n c m : Nat) (w : World) (h : Rd w A n c (dg m)) :
    Calls Tryz.prog 145 #[.bool b, .slice A n c] w (RetInt w (if b then -(m : Int) else m)) := by
  have hs := sg_mag (b := b) h.1
  refine (signed_any b A n c w (by have := h.2.1; have := h.2.2.1; omega)).mono ?_
  rintro e w' ⟨rfl, hb⟩
  rw [hs.1]
  exact ⟨A, n, c, rfl, by rw [← hs.2]; exact h.keep hb, hb⟩
theorem rd_cell_far {w : World} {A A0 : Option Addr} {n c n0 c0 g : Nat} {b0 : Bool} {xs : List Nat} (h : Rd w A n c xs) (K : Blk w g [.bool b0, .slice A0 n0 c0] 39) (u v : Value) : Rd ((w.setCell ⟨g, 0, none⟩ u).setCell ⟨g, 1, none⟩ v) A n c xs := by
  obtain ⟨h1, h2, h3, h4, h5⟩ := h
  refine ⟨h1, h2, h3, h4, fun hn => ?_⟩
  obtain ⟨b, o, hA, hlt, hc⟩ := h5 hn
  have hne : b ≠ g := by
    rintro rfl
    have h6 := hc 0 hn
    rw [Blk.cell K (o + 0)] at h6
    match o with
    | 0 => simp at h6
    | 1 => simp at h6
    | o + 2 => simp at h6
  refine ⟨b, o, hA, by rw [World.size_setCell, World.size_setCell]; exact hlt, fun j hj => ?_⟩
  rw [← hc j hj]
  exact (World.cell?_of_block (Below.heap_setCell _ ⟨g, 1, none⟩ v b hne)).trans (World.cell?_of_block (Below.heap_setCell w ⟨g, 0, none⟩ u b hne))
theorem ret_int_end {w w2 : World} {z : Int} {A A0 : Option Addr} {n c n0 c0 g : Nat} {b0 : Bool} (h : Rd w2 A n c (dg z.natAbs)) (K : Blk w2 g [.bool b0, .slice A0 n0 c0] 39) (hb : Below w.heap.size w w2) (hg : w.heap.size ≤ g) :
    RetInt w z (.returned (.agg #[.bool (sg z), .slice A n c])) ((w2.setCell ⟨g, 0, none⟩ (.bool (sg z))).setCell ⟨g, 1, none⟩ (.slice A n c)) :=
  ⟨A, n, c, rfl, rd_cell_far h K _ _, (hb.setCell (by exact hg) _).setCell (by exact hg) _⟩
set_option maxHeartbeats 1000000 in
theorem ifrom_any (z : Int) (w : World) (h1 : -9223372036854775808 ≤ z) (h2 : z ≤ 9223372036854775807) :
    Calls Tryz.prog 116 #[.int .i64 z] w (RetInt w z) := by
  have hz : z.natAbs < 18446744073709551616 := by omega
  have fr := hid (fun (W : World) => from_any z.natAbs W hz)
  rcases Int.lt_or_le z 0 with hn | hp
  · obtain ⟨m, hm⟩ : ∃ m : Nat, m = z.natAbs := ⟨_, rfl⟩
    rw [← hm] at fr
    have em : ((m : Nat) : Int) = -z := by omega
    have sn := hid (fun (W : World) A n c (h : Rd W A n c (dg m)) => signed_nat true A n c m W h)
    simp only [if_true, em, Int.neg_neg] at sn
    have HM := hid em
    have hw : IntKind.u64.wrap (wrap64 (-z)) = (m : Int) := by
      rw [em]
      simp only [wrap64, IntKind.wrap, IntKind.bits, IntKind.signed]
      simp
      omega
    clear hz em hm
    go_enter Tryz.func116, Tryz.ntmps116
    go_wp2_with fail
    refine (fr.out _).mono ?_
    rintro e w1 ⟨v, rfl, ⟨A, n, c, rfl, r1⟩, b1⟩
    have k1 := Blk.below (Blk.new w [.bool false, .slice none 0 0] 39) b1 (by simp)
    have K1 := hid k1
    have B1 := hid (((Below.refl w.heap.size w).alloc (Nat.le_refl _) (.cells #[.bool false, .slice none 0 0] 39)).trans (b1.mono (by simp)))
    have SN := hid (sn.out w1 A n c r1)
    clear r1 b1 k1 sn fr
    go_wp2_with fail
    refine (SN.out).mono ?_
    rintro e w2 ⟨A2, n2, c2, rfl, r2, b2⟩
    have K2 := Blk.below K1.out b2 (Blk.lt K1.out)
    have h0 : w2.cell? ⟨w.heap.size, 0, none⟩ = some (.bool false) := Blk.cell K2 0
    have h1c : w2.cell? ⟨w.heap.size, 1, none⟩ = some (.slice none 0 0) := Blk.cell K2 1
    have f0 := Blk.free K2 0
    have f1 := Blk.free K2 1
    have E := hid (ret_int_end r2 K2 (B1.out.trans (b2.mono B1.out.size)) (Nat.le_refl _))
    clear K2 r2 b2 SN
    go_wp2_with fail
    exact bodyPost_ret (v := .agg #[.bool (sg z), .slice A2 n2 c2]) (by simp [results, Tryz.results116, go_sem, h0, h1c]) rfl E.out
  · obtain ⟨m, hm⟩ : ∃ m : Nat, m = z.natAbs := ⟨_, rfl⟩
    rw [← hm] at fr
    have em : ((m : Nat) : Int) = z := by omega
    have sn := hid (fun (W : World) A n c (h : Rd W A n c (dg m)) => signed_nat false A n c m W h)
    simp only [Bool.false_eq_true, if_false, em] at sn
    have hw : IntKind.u64.wrap z = (m : Int) := by
      rw [← em]
      simp only [IntKind.wrap, IntKind.bits, IntKind.signed]
      simp
      omega
    have hw2 : z % 18446744073709551616 = (m : Int) := by omega
    have HM := hid em
    clear hz em hm
    go_enter Tryz.func116, Tryz.ntmps116
    go_wp2_with fail
    refine (fr.out _).mono ?_
    rintro e w1 ⟨v, rfl, ⟨A, n, c, rfl, r1⟩, b1⟩
    have k1 := Blk.below (Blk.new w [.bool false, .slice none 0 0] 39) b1 (by simp)
    have K1 := hid k1
    have B1 := hid (((Below.refl w.heap.size w).alloc (Nat.le_refl _) (.cells #[.bool false, .slice none 0 0] 39)).trans (b1.mono (by simp)))
    have SN := hid (sn.out w1 A n c r1)
    clear r1 b1 k1 sn fr
    go_wp2_with fail
    refine (SN.out).mono ?_
    rintro e w2 ⟨A2, n2, c2, rfl, r2, b2⟩
    have K2 := Blk.below K1.out b2 (Blk.lt K1.out)
    have h0 : w2.cell? ⟨w.heap.size, 0, none⟩ = some (.bool false) := Blk.cell K2 0
    have h1c : w2.cell? ⟨w.heap.size, 1, none⟩ = some (.slice none 0 0) := Blk.cell K2 1
    have f0 := Blk.free K2 0
    have f1 := Blk.free K2 1
    have E := hid (ret_int_end r2 K2 (B1.out.trans (b2.mono B1.out.size)) (Nat.le_refl _))
    clear K2 r2 b2 SN
    go_wp2_with fail
    exact bodyPost_ret (v := .agg #[.bool (sg z), .slice A2 n2 c2]) (by simp [results, Tryz.results116, go_sem, h0, h1c]) rfl E.out
structure Pre1 (w : World) (g : Bool) (s : Value) (W : World) : Prop where
  arg : Blk W w.heap.size [.bool g, s] 39
  res : Blk W (w.heap.size + 1) [.bool false, .slice none 0 0] 39
  bel : Below w.heap.size w W
theorem Pre1.start (w : World) (g : Bool) (s : Value) : Pre1 w g s ((w.alloc (.cells #[.bool g, s] 39)).alloc (.cells #[.bool false, .slice none 0 0] 39)) :=
  ⟨(Blk.new w [.bool g, s] _).alloc _, by have h := Blk.new (w.alloc (.cells #[.bool g, s] 39)) [.bool false, .slice none 0 0] 39; simpa using h, ((Below.refl _ _).alloc (Nat.le_refl _) _).alloc (by simp) _⟩
theorem Pre1.keep {w W W' : World} {g : Bool} {s : Value} (h : Pre1 w g s W) (k : Below W.heap.size W W') : Pre1 w g s W' :=
  ⟨h.arg.below k h.arg.lt, h.res.below k h.res.lt, h.bel.trans (k.mono h.bel.size)⟩
theorem Pre1.drew {w W : World} {g : Bool} {s : Value} (h : Pre1 w g s W) : Pre1 w g s W.drew := ⟨h.arg, h.res, ⟨h.bel.os, h.bel.tape, h.bel.output, h.bel.size, h.bel.block⟩⟩
theorem Pre1.cells {w W : World} {g : Bool} {s : Value} (h : Pre1 w g s W) : W.cell? ⟨w.heap.size, 0, none⟩ = some (.bool g) ∧ W.cell? ⟨w.heap.size, 1, none⟩ = some s := ⟨Blk.cell h.arg 0, Blk.cell h.arg 1⟩
theorem Pre1.rcells {w W : World} {g : Bool} {s : Value} (h : Pre1 w g s W) : W.cell? ⟨w.heap.size + 1, 0, none⟩ = some (.bool false) ∧ W.cell? ⟨w.heap.size + 1, 1, none⟩ = some (.slice none 0 0) ∧ W.frozen? ⟨w.heap.size + 1, 0, none⟩ = false ∧ W.frozen? ⟨w.heap.size + 1, 1, none⟩ = false :=
  ⟨Blk.cell h.res 0, Blk.cell h.res 1, Blk.free h.res 0, Blk.free h.res 1⟩
theorem Pre1.end_ {w W : World} {g : Bool} {s : Value} {z : Int} {A : Option Addr} {n c : Nat} (h : Pre1 w g s W) (r : Rd W A n c (dg z.natAbs)) :
    RetInt w z (.returned (.agg #[.bool (sg z), .slice A n c])) ((W.setCell ⟨w.heap.size + 1, 0, none⟩ (.bool (sg z))).setCell ⟨w.heap.size + 1, 1, none⟩ (.slice A n c)) :=
  ret_int_end r h.res h.bel (Nat.le_succ _)
set_option maxHeartbeats 1000000 in
theorem ineg_any (g : Bool) (A : Option Addr) (n c : Nat) (xs : List Nat) (w : World) (h : Rd w A n c xs) (hn : n ≤ 1099511627776) :
    Calls Tryz.prog 119 #[.agg #[.bool g, .slice A n c]] w (RetInt w (- iv g xs)) := by
  have P0 := hid (Pre1.start w g (.slice A n c))
  have AD := hid (fun (W : World) (p : Pre1 w g (.slice A n c) W) => add_any A none n c 0 0 xs [] W (h.keep p.bel) (Rd.nil _ none) hn (Nat.zero_le _))
  have SN := hid (fun (W : World) A1 n1 c1 (r : Rd W A1 n1 c1 (dg (val xs + val []))) => signed_nat (!g) A1 n1 c1 (val xs + val []) W r)
  have ez : (if (!g) then -((val xs + val [] : Nat) : Int) else ((val xs + val [] : Nat) : Int)) = - iv g xs := by
    cases g <;> simp [iv, val]
  obtain ⟨z, hz⟩ : ∃ z, z = - iv g xs := ⟨_, rfl⟩
  rw [ez, ← hz] at SN
  rw [← hz]
  obtain ⟨s1, s2⟩ := P0.out.cells
  clear h hz ez
  go_enter Tryz.func119, Tryz.ntmps119
  go_wp2_with fail
  go_region_held3 (fun W => W.cell? ⟨w.heap.size, 0, none⟩ = some (.bool g) ∧ W.cell? ⟨w.heap.size, 1, none⟩ = some (.slice A n c)) (first | exact ⟨by assumption, by assumption⟩ | go_keep)
    (first
      | (go_at_call 150; refine (AD.out _ P0.out.drew).mono ?_; rintro e w1 ⟨v, rfl, ⟨A1, n1, c1, rfl, r1⟩, b1⟩; have P1 := hid (P0.out.drew.keep b1); have R1 := hid r1; clear r1 b1; obtain ⟨t1, t2⟩ := P1.out.cells)
      | (go_at_call 145; refine (SN.out w1 A1 n1 c1 R1.out).mono ?_; rintro e w2 ⟨A2, n2, c2, rfl, r2, b2⟩; have P2 := hid (P1.out.keep b2); have R2 := hid r2; clear r2 b2; obtain ⟨u1, u2⟩ := P2.out.cells; obtain ⟨u3, u4, u5, u6⟩ := P2.out.rcells))
  go_wp2_with fail
  exact bodyPost_ret (v := .agg #[.bool (sg z), .slice A2 n2 c2]) (by simp [results, Tryz.results119, go_sem, u3, u4]) rfl (P2.out.end_ R2.out)
structure Pre2 (w : World) (g1 : Bool) (s1 : Value) (g2 : Bool) (s2 : Value) (W : World) : Prop where
  arg1 : Blk W w.heap.size [.bool g1, s1] 39
  arg2 : Blk W (w.heap.size + 1) [.bool g2, s2] 39
  res : Blk W (w.heap.size + 1 + 1) [.bool false, .slice none 0 0] 39
  bel : Below w.heap.size w W
section
variable {w W W' : World} {g1 g2 : Bool} {s1 s2 : Value}
theorem Pre2.start (w : World) (g1 : Bool) (s1 : Value) (g2 : Bool) (s2 : Value) : Pre2 w g1 s1 g2 s2 (((w.alloc (.cells #[.bool g1, s1] 39)).alloc (.cells #[.bool g2, s2] 39)).alloc (.cells #[.bool false, .slice none 0 0] 39)) :=
  ⟨((Blk.new w [.bool g1, s1] _).alloc _).alloc _,
   by have h := Blk.new (w.alloc (.cells #[.bool g1, s1] 39)) [.bool g2, s2] 39; simp only [World.size_alloc] at h; exact h.alloc _,
   by have h := Blk.new ((w.alloc (.cells #[.bool g1, s1] 39)).alloc (.cells #[.bool g2, s2] 39)) [.bool false, .slice none 0 0] 39; simp only [World.size_alloc] at h; exact h,
   (((Below.refl _ _).alloc (Nat.le_refl _) _).alloc (by simp) _).alloc (by simp only [World.size_alloc]; omega) _⟩
theorem Pre2.keep (h : Pre2 w g1 s1 g2 s2 W) (k : Below W.heap.size W W') : Pre2 w g1 s1 g2 s2 W' :=
  ⟨h.arg1.below k h.arg1.lt, h.arg2.below k h.arg2.lt, h.res.below k h.res.lt, h.bel.trans (k.mono h.bel.size)⟩
theorem Pre2.drew (h : Pre2 w g1 s1 g2 s2 W) : Pre2 w g1 s1 g2 s2 W.drew := ⟨h.arg1, h.arg2, h.res, ⟨h.bel.os, h.bel.tape, h.bel.output, h.bel.size, h.bel.block⟩⟩
theorem Pre2.cells (h : Pre2 w g1 s1 g2 s2 W) : W.cell? ⟨w.heap.size, 0, none⟩ = some (.bool g1) ∧ W.cell? ⟨w.heap.size, 1, none⟩ = some s1 ∧ W.cell? ⟨w.heap.size + 1, 0, none⟩ = some (.bool g2) ∧ W.cell? ⟨w.heap.size + 1, 1, none⟩ = some s2 :=
  ⟨Blk.cell h.arg1 0, Blk.cell h.arg1 1, Blk.cell h.arg2 0, Blk.cell h.arg2 1⟩
theorem Pre2.rcells (h : Pre2 w g1 s1 g2 s2 W) : W.cell? ⟨w.heap.size + 1 + 1, 0, none⟩ = some (.bool false) ∧ W.cell? ⟨w.heap.size + 1 + 1, 1, none⟩ = some (.slice none 0 0) ∧ W.frozen? ⟨w.heap.size + 1 + 1, 0, none⟩ = false ∧ W.frozen? ⟨w.heap.size + 1 + 1, 1, none⟩ = false :=
  ⟨Blk.cell h.res 0, Blk.cell h.res 1, Blk.free h.res 0, Blk.free h.res 1⟩
theorem Pre2.cells_set (h : Pre2 w g1 s1 g2 s2 W) (u v : Value) : ((W.setCell ⟨w.heap.size + 1 + 1, 0, none⟩ u).setCell ⟨w.heap.size + 1 + 1, 1, none⟩ v).cell? ⟨w.heap.size, 0, none⟩ = some (.bool g1) ∧ ((W.setCell ⟨w.heap.size + 1 + 1, 0, none⟩ u).setCell ⟨w.heap.size + 1 + 1, 1, none⟩ v).cell? ⟨w.heap.size, 1, none⟩ = some s1 ∧ ((W.setCell ⟨w.heap.size + 1 + 1, 0, none⟩ u).setCell ⟨w.heap.size + 1 + 1, 1, none⟩ v).cell? ⟨w.heap.size + 1, 0, none⟩ = some (.bool g2) ∧ ((W.setCell ⟨w.heap.size + 1 + 1, 0, none⟩ u).setCell ⟨w.heap.size + 1 + 1, 1, none⟩ v).cell? ⟨w.heap.size + 1, 1, none⟩ = some s2 :=
  have h1 := (h.arg1.far (g := w.heap.size + 1 + 1) (i := 0) (by omega) u).far (g := w.heap.size + 1 + 1) (i := 1) (by omega) v
  have h2 := (h.arg2.far (g := w.heap.size + 1 + 1) (i := 0) (by omega) u).far (g := w.heap.size + 1 + 1) (i := 1) (by omega) v
  ⟨Blk.cell h1 0, Blk.cell h1 1, Blk.cell h2 0, Blk.cell h2 1⟩
theorem Pre2.end_ {z : Int} {A : Option Addr} {n c : Nat} (h : Pre2 w g1 s1 g2 s2 W) (r : Rd W A n c (dg z.natAbs)) :
    RetInt w z (.returned (.agg #[.bool (sg z), .slice A n c])) ((W.setCell ⟨w.heap.size + 1 + 1, 0, none⟩ (.bool (sg z))).setCell ⟨w.heap.size + 1 + 1, 1, none⟩ (.slice A n c)) :=
  ret_int_end r h.res h.bel (by omega)
end
set_option maxHeartbeats 1000000 in
theorem imul_any (g1 : Bool) (A : Option Addr) (n c : Nat) (xs : List Nat) (g2 : Bool) (B : Option Addr) (m d : Nat) (ys : List Nat) (w : World) (h : Rd w A n c xs) (hn : n ≤ 1099511627776) (k : Rd w B m d ys) (hm : m ≤ 1099511627776) :
    Calls Tryz.prog 144 #[.agg #[.bool g1, .slice A n c], .agg #[.bool g2, .slice B m d]] w (RetInt w (iv g1 xs * iv g2 ys)) := by
  have P0 := hid (Pre2.start w g1 (.slice A n c) g2 (.slice B m d))
  have AD := hid (fun (W : World) (p : Pre2 w g1 (.slice A n c) g2 (.slice B m d) W) => mul_any A B n c m d xs ys W (h.keep p.bel) (k.keep p.bel) hn hm)
  have SN := hid (fun (W : World) A1 n1 c1 (r : Rd W A1 n1 c1 (dg (val xs * val ys))) => signed_nat (g1 != g2) A1 n1 c1 (val xs * val ys) W r)
  have ez : (if (g1 != g2) then -((val xs * val ys : Nat) : Int) else ((val xs * val ys : Nat) : Int)) = iv g1 xs * iv g2 ys := by
    cases g1 <;> cases g2 <;> simp [iv, Int.neg_mul, Int.mul_neg]
  obtain ⟨z, hz⟩ : ∃ z, z = iv g1 xs * iv g2 ys := ⟨_, rfl⟩
  rw [ez, ← hz] at SN
  rw [← hz]
  obtain ⟨s1, s2, s3, s4⟩ := P0.out.cells
  clear h k hz ez
  go_enter Tryz.func144, Tryz.ntmps144
  go_wp2_with fail
  go_region_held3 (fun W => W.cell? ⟨w.heap.size, 0, none⟩ = some (.bool g1) ∧ W.cell? ⟨w.heap.size, 1, none⟩ = some (.slice A n c) ∧ W.cell? ⟨w.heap.size + 1, 0, none⟩ = some (.bool g2) ∧ W.cell? ⟨w.heap.size + 1, 1, none⟩ = some (.slice B m d)) (first | exact ⟨by assumption, by assumption, by assumption, by assumption⟩ | exact P2.out.cells_set _ _)
    (first
      | (go_at_call 162; refine (AD.out _ P0.out.drew).mono ?_; rintro e w1 ⟨v, rfl, ⟨A1, n1, c1, rfl, r1⟩, b1⟩; have P1 := hid (P0.out.drew.keep b1); have R1 := hid r1; clear r1 b1; obtain ⟨t1, t2, t3, t4⟩ := P1.out.cells)
      | (go_at_call 145; refine (SN.out w1 A1 n1 c1 R1.out).mono ?_; rintro e w2 ⟨A2, n2, c2, rfl, r2, b2⟩; have P2 := hid (P1.out.keep b2); have R2 := hid r2; clear r2 b2; obtain ⟨u1, u2, u7, u8⟩ := P2.out.cells; obtain ⟨u3, u4, u5, u6⟩ := P2.out.rcells))
  go_wp2_with fail
  exact bodyPost_ret (v := .agg #[.bool (sg z), .slice A2 n2 c2]) (by simp [results, Tryz.results144, go_sem, u3, u4]) rfl (P2.out.end_ R2.out)
set_option maxHeartbeats 1000000 in
theorem iadd_same (g : Bool) (A : Option Addr) (n c : Nat) (xs : List Nat) (B : Option Addr) (m d : Nat) (ys : List Nat) (w : World) (h : Rd w A n c xs) (hn : n ≤ 1099511627776) (k : Rd w B m d ys) (hm : m ≤ 1099511627776) :
    Calls Tryz.prog 143 #[.agg #[.bool g, .slice A n c], .agg #[.bool g, .slice B m d]] w (RetInt w (iv g xs + iv g ys)) := by
  have P0 := hid (Pre2.start w g (.slice A n c) g (.slice B m d))
  have AD := hid (fun (W : World) (p : Pre2 w g (.slice A n c) g (.slice B m d) W) => add_any A B n c m d xs ys W (h.keep p.bel) (k.keep p.bel) hn hm)
  have SN := hid (fun (W : World) A1 n1 c1 (r : Rd W A1 n1 c1 (dg (val xs + val ys))) => signed_nat g A1 n1 c1 (val xs + val ys) W r)
  have ez : (if g then -((val xs + val ys : Nat) : Int) else ((val xs + val ys : Nat) : Int)) = iv g xs + iv g ys := by
    cases g <;> simp [iv]; omega
  obtain ⟨z, hz⟩ : ∃ z, z = iv g xs + iv g ys := ⟨_, rfl⟩
  rw [ez, ← hz] at SN
  rw [← hz]
  obtain ⟨s1, s2, s3, s4⟩ := P0.out.cells
  have hgg : (g == g) = true := beq_self_eq_true g
  clear h k hz ez
  go_enter Tryz.func143, Tryz.ntmps143
  go_wp2_with fail
  go_region_held3 (fun W => W.cell? ⟨w.heap.size, 0, none⟩ = some (.bool g) ∧ W.cell? ⟨w.heap.size, 1, none⟩ = some (.slice A n c) ∧ W.cell? ⟨w.heap.size + 1, 0, none⟩ = some (.bool g) ∧ W.cell? ⟨w.heap.size + 1, 1, none⟩ = some (.slice B m d)) (first | exact ⟨by assumption, by assumption, by assumption, by assumption⟩ | exact P2.out.cells_set _ _)
    (first
      | (go_at_call 150; refine (AD.out _ P0.out.drew).mono ?_; rintro e w1 ⟨v, rfl, ⟨A1, n1, c1, rfl, r1⟩, b1⟩; have P1 := hid (P0.out.drew.keep b1); have R1 := hid r1; clear r1 b1; obtain ⟨t1, t2, t3, t4⟩ := P1.out.cells)
      | (go_at_call 145; refine (SN.out w1 A1 n1 c1 R1.out).mono ?_; rintro e w2 ⟨A2, n2, c2, rfl, r2, b2⟩; have P2 := hid (P1.out.keep b2); have R2 := hid r2; clear r2 b2; obtain ⟨u1, u2, u7, u8⟩ := P2.out.cells; obtain ⟨u3, u4, u5, u6⟩ := P2.out.rcells))
  go_wp2_with fail
  exact bodyPost_ret (v := .agg #[.bool (sg z), .slice A2 n2 c2]) (by simp [results, Tryz.results143, go_sem, u3, u4]) rfl (P2.out.end_ R2.out)
set_option maxHeartbeats 1000000 in
theorem iadd_diff (g : Bool) (A : Option Addr) (n c : Nat) (xs : List Nat) (B : Option Addr) (m d : Nat) (ys : List Nat) (w : World) (h : Rd w A n c xs) (hn : n ≤ 1099511627776) (k : Rd w B m d ys) (hm : m ≤ 1099511627776) :
    Calls Tryz.prog 143 #[.agg #[.bool g, .slice A n c], .agg #[.bool (!g), .slice B m d]] w (RetInt w (iv g xs + iv (!g) ys)) := by
  have P0 := hid (Pre2.start w g (.slice A n c) (!g) (.slice B m d))
  have CM := hid (fun (W : World) (p : Pre2 w g (.slice A n c) (!g) (.slice B m d) W) => cmp_any A B n c m d xs ys W (h.keep p.bel) (k.keep p.bel))
  obtain ⟨z, hz⟩ : ∃ z, z = iv g xs + iv (!g) ys := ⟨_, rfl⟩
  rw [← hz]
  obtain ⟨s1, s2, s3, s4⟩ := P0.out.cells
  have hgg : (g == !g) = false := by cases g <;> rfl
  have hgg2 : (g = !g) = False := by cases g <;> simp
  rcases Nat.lt_or_ge (val xs) (val ys) with hlt | hge
  · have ec : cmpN (val xs) (val ys) = -1 := by unfold cmpN; rw [if_pos hlt]
    rw [ec] at CM
    have e1 : subD (val ys) (val xs) = dg (val ys - val xs) := by unfold subD; rw [if_neg (by omega)]
    have e2 : subE (val ys) (val xs) = 0 := by unfold subE; rw [if_neg (by omega)]
    have SB := hid (fun (W : World) (p : Pre2 w (!g) (.slice B m d) g (.slice A n c) W) => sub_any B A m d n c ys xs W (k.keep p.bel) (h.keep p.bel) hm hn)
    rw [e1, e2] at SB
    have SN := hid (fun (W : World) A1 n1 c1 (r : Rd W A1 n1 c1 (dg (val ys - val xs))) => signed_nat (!g) A1 n1 c1 (val ys - val xs) W r)
    have ez : (if (!g) then -(((val ys - val xs) : Nat) : Int) else (((val ys - val xs) : Nat) : Int)) = iv g xs + iv (!g) ys := by
      cases g <;> simp [iv] <;> omega
    rw [ez, ← hz] at SN
    have P3 := hid (Pre2.start w (!g) (.slice B m d) g (.slice A n c))
    clear ez e1 e2 ec h k hz hlt
    go_enter Tryz.func143, Tryz.ntmps143
    go_wp2_with fail
    refine (CM.out _ P0.out).mono ?_
    rintro e w1 ⟨rfl, rfl⟩
    go_wp2_with fail
    refine (SB.out _ P3.out).mono ?_
    rintro e w1 ⟨v, rfl, ⟨A1, n1, c1, rfl, r1⟩, b1⟩
    have P1 := hid (P3.out.keep b1)
    have R1 := hid r1
    clear r1 b1
    obtain ⟨t1, t2, t3, t4⟩ := P1.out.cells
    go_wp2_with fail
    refine (SN.out w1 A1 n1 c1 R1.out).mono ?_
    rintro e w2 ⟨A2, n2, c2, rfl, r2, b2⟩
    have P2 := hid (P1.out.keep b2)
    have R2 := hid r2
    clear r2 b2
    obtain ⟨u3, u4, u5, u6⟩ := P2.out.rcells
    go_wp2_with fail
    exact bodyPost_ret (v := .agg #[.bool (sg z), .slice A2 n2 c2]) (by simp [results, Tryz.results143, go_sem, u3, u4]) rfl (P2.out.end_ R2.out)
  · obtain ⟨q, hq⟩ : ∃ q, q = cmpN (val xs) (val ys) := ⟨_, rfl⟩
    have hq0 : 0 ≤ q := by rw [hq]; unfold cmpN; rw [if_neg (by omega)]; split <;> omega
    have hq1 : decide (q < 0) = false := decide_eq_false (by omega)
    have ec : cmpN (val xs) (val ys) = q := by rw [hq]
    rw [ec] at CM
    have e1 : subD (val xs) (val ys) = dg (val xs - val ys) := by unfold subD; rw [if_neg (by omega)]
    have e2 : subE (val xs) (val ys) = 0 := by unfold subE; rw [if_neg (by omega)]
    have SB := hid (fun (W : World) (p : Pre2 w g (.slice A n c) (!g) (.slice B m d) W) => sub_any A B n c m d xs ys W (h.keep p.bel) (k.keep p.bel) hn hm)
    rw [e1, e2] at SB
    have SN := hid (fun (W : World) A1 n1 c1 (r : Rd W A1 n1 c1 (dg (val xs - val ys))) => signed_nat g A1 n1 c1 (val xs - val ys) W r)
    have ez : (if g then -(((val xs - val ys) : Nat) : Int) else (((val xs - val ys) : Nat) : Int)) = iv g xs + iv (!g) ys := by
      cases g <;> simp [iv] <;> omega
    rw [ez, ← hz] at SN
    have P3 := hid (Pre2.start w g (.slice A n c) (!g) (.slice B m d))
    clear ez e1 e2 ec h k hz hge hq
    go_enter Tryz.func143, Tryz.ntmps143
    go_wp2_with fail
    refine (CM.out _ P0.out).mono ?_
    rintro e w1 ⟨rfl, rfl⟩
    go_wp2_with fail
    refine (SB.out _ P3.out).mono ?_
    rintro e w1 ⟨v, rfl, ⟨A1, n1, c1, rfl, r1⟩, b1⟩
    have P1 := hid (P3.out.keep b1)
    have R1 := hid r1
    clear r1 b1
    obtain ⟨t1, t2, t3, t4⟩ := P1.out.cells
    go_wp2_with fail
    refine (SN.out w1 A1 n1 c1 R1.out).mono ?_
    rintro e w2 ⟨A2, n2, c2, rfl, r2, b2⟩
    have P2 := hid (P1.out.keep b2)
    have R2 := hid r2
    clear r2 b2
    obtain ⟨u3, u4, u5, u6⟩ := P2.out.rcells
    go_wp2_with fail
    exact bodyPost_ret (v := .agg #[.bool (sg z), .slice A2 n2 c2]) (by simp [results, Tryz.results143, go_sem, u3, u4]) rfl (P2.out.end_ R2.out)
theorem iadd_any (g1 : Bool) (A : Option Addr) (n c : Nat) (xs : List Nat) (g2 : Bool) (B : Option Addr) (m d : Nat) (ys : List Nat) (w : World) (h : Rd w A n c xs) (hn : n ≤ 1099511627776) (k : Rd w B m d ys) (hm : m ≤ 1099511627776) :
    Calls Tryz.prog 143 #[.agg #[.bool g1, .slice A n c], .agg #[.bool g2, .slice B m d]] w (RetInt w (iv g1 xs + iv g2 ys)) := by
  by_cases e : g2 = g1
  · subst e; exact iadd_same g2 A n c xs B m d ys w h hn k hm
  · obtain rfl : g2 = !g1 := by cases g1 <;> cases g2 <;> simp_all
    exact iadd_diff g1 A n c xs B m d ys w h hn k hm
structure PreC (w : World) (g1 : Bool) (s1 : Value) (g2 : Bool) (s2 : Value) (W : World) : Prop where
  arg1 : Blk W w.heap.size [.bool g1, s1] 39
  arg2 : Blk W (w.heap.size + 1) [.bool g2, s2] 39
  bel : Below w.heap.size w W
section
variable {w W W' : World} {g1 g2 : Bool} {s1 s2 : Value}
theorem PreC.start (w : World) (g1 : Bool) (s1 : Value) (g2 : Bool) (s2 : Value) : PreC w g1 s1 g2 s2 ((w.alloc (.cells #[.bool g1, s1] 39)).alloc (.cells #[.bool g2, s2] 39)) :=
  ⟨(Blk.new w [.bool g1, s1] _).alloc _,
   by have h := Blk.new (w.alloc (.cells #[.bool g1, s1] 39)) [.bool g2, s2] 39; simp only [World.size_alloc] at h; exact h,
   ((Below.refl _ _).alloc (Nat.le_refl _) _).alloc (by simp) _⟩
theorem PreC.keep (h : PreC w g1 s1 g2 s2 W) (k : Below W.heap.size W W') : PreC w g1 s1 g2 s2 W' :=
  ⟨h.arg1.below k h.arg1.lt, h.arg2.below k h.arg2.lt, h.bel.trans (k.mono h.bel.size)⟩
theorem PreC.drew (h : PreC w g1 s1 g2 s2 W) : PreC w g1 s1 g2 s2 W.drew := ⟨h.arg1, h.arg2, ⟨h.bel.os, h.bel.tape, h.bel.output, h.bel.size, h.bel.block⟩⟩
theorem PreC.cells (h : PreC w g1 s1 g2 s2 W) : W.cell? ⟨w.heap.size, 0, none⟩ = some (.bool g1) ∧ W.cell? ⟨w.heap.size, 1, none⟩ = some s1 ∧ W.cell? ⟨w.heap.size + 1, 0, none⟩ = some (.bool g2) ∧ W.cell? ⟨w.heap.size + 1, 1, none⟩ = some s2 :=
  ⟨Blk.cell h.arg1 0, Blk.cell h.arg1 1, Blk.cell h.arg2 0, Blk.cell h.arg2 1⟩
end
theorem sgn_lt {x y : Int} (h : sgnZ x < sgnZ y) : sgnZ (x - y) = -1 := by
  unfold sgnZ at *
  repeat' split at h
  all_goals first | (rw [if_pos (by omega)]) | omega
theorem sgn_gt {x y : Int} (h : sgnZ y < sgnZ x) : sgnZ (x - y) = 1 := by
  unfold sgnZ at *
  repeat' split at h
  all_goals first | (rw [if_neg (by omega), if_pos (by omega)]) | omega
theorem cmp_sgn {m n : Nat} : cmpN m n = sgnZ ((m : Int) - n) := by
  unfold cmpN sgnZ
  repeat' split
  all_goals first | rfl | omega
theorem sgn_iv_neg {g : Bool} {xs : List Nat} (h : sgnZ (iv g xs) < 0) : iv g xs = -(val xs : Int) := by
  cases g
  · exfalso
    unfold sgnZ iv at h
    simp only [Bool.false_eq_true, if_false] at h
    rw [if_neg (by omega)] at h
    split at h <;> omega
  · rfl
theorem sgn_iv_pos {g : Bool} {xs : List Nat} (h : 0 ≤ sgnZ (iv g xs)) : iv g xs = (val xs : Int) := by
  cases g
  · rfl
  · unfold sgnZ iv at h
    simp only [if_true] at h
    have h0 : val xs = 0 := by
      rcases Nat.eq_zero_or_pos (val xs) with h1 | h1
      · exact h1
      · rw [if_pos (by omega)] at h; omega
    simp [iv, h0]
set_option maxHeartbeats 1000000 in
theorem icmp_any (g1 : Bool) (A : Option Addr) (n c : Nat) (xs : List Nat) (g2 : Bool) (B : Option Addr) (m d : Nat) (ys : List Nat) (w : World) (h : Rd w A n c xs) (k : Rd w B m d ys) :
    Calls Tryz.prog 75 #[.agg #[.bool g1, .slice A n c], .agg #[.bool g2, .slice B m d]] w (RetI w (sgnZ (iv g1 xs - iv g2 ys))) := by
  have P0 := hid (PreC.start w g1 (.slice A n c) g2 (.slice B m d))
  have SA := hid (fun (W : World) (p : PreC w g1 (.slice A n c) g2 (.slice B m d) W) => isign_any g1 A n c xs W (h.keep p.bel))
  have SB := hid (fun (W : World) (p : PreC w g1 (.slice A n c) g2 (.slice B m d) W) => isign_any g2 B m d ys W (k.keep p.bel))
  have CB := hid (fun (W : World) (p : PreC w g1 (.slice A n c) g2 (.slice B m d) W) => cmp_any B A m d n c ys xs W (k.keep p.bel) (h.keep p.bel))
  have CA := hid (fun (W : World) (p : PreC w g1 (.slice A n c) g2 (.slice B m d) W) => cmp_any A B n c m d xs ys W (h.keep p.bel) (k.keep p.bel))
  have key : (sgnZ (iv g1 xs) < sgnZ (iv g2 ys) ∧ sgnZ (iv g1 xs - iv g2 ys) = -1) ∨ (sgnZ (iv g2 ys) < sgnZ (iv g1 xs) ∧ sgnZ (iv g1 xs - iv g2 ys) = 1) ∨ (sgnZ (iv g1 xs) = sgnZ (iv g2 ys) ∧ sgnZ (iv g1 xs) < 0 ∧ sgnZ (iv g1 xs - iv g2 ys) = cmpN (val ys) (val xs)) ∨ (sgnZ (iv g1 xs) = sgnZ (iv g2 ys) ∧ ¬ sgnZ (iv g1 xs) < 0 ∧ sgnZ (iv g1 xs - iv g2 ys) = cmpN (val xs) (val ys)) := by
    rcases Int.lt_trichotomy (sgnZ (iv g1 xs)) (sgnZ (iv g2 ys)) with h1 | h1 | h1
    · exact .inl ⟨h1, sgn_lt h1⟩
    · by_cases h2 : sgnZ (iv g1 xs) < 0
      · refine .inr (.inr (.inl ⟨h1, h2, ?_⟩))
        rw [sgn_iv_neg h2, sgn_iv_neg (h1 ▸ h2), cmp_sgn]
        congr 1; omega
      · refine .inr (.inr (.inr ⟨h1, h2, ?_⟩))
        rw [sgn_iv_pos (by omega), sgn_iv_pos (g := g2) (by omega), cmp_sgn]
    · exact .inr (.inl ⟨h1, sgn_gt h1⟩)
  obtain ⟨s, hs⟩ : ∃ s, s = sgnZ (iv g1 xs) := ⟨_, rfl⟩
  obtain ⟨t, ht⟩ : ∃ t, t = sgnZ (iv g2 ys) := ⟨_, rfl⟩
  obtain ⟨z, hz⟩ : ∃ z, z = sgnZ (iv g1 xs - iv g2 ys) := ⟨_, rfl⟩
  rw [← hs] at SA
  rw [← ht] at SB
  rw [← hs, ← ht, ← hz] at key
  rw [← hz]
  obtain ⟨s1, s2, s3, s4⟩ := P0.out.cells
  clear h k hz hs ht
  rcases key with ⟨h1, rfl⟩ | ⟨h1, rfl⟩ | ⟨rfl, h2, rfl⟩ | ⟨rfl, h2, rfl⟩
  all_goals
    go_enter Tryz.func75, Tryz.ntmps75
    go_wp2_with fail
    go_region_held3 (fun W => W.cell? ⟨w.heap.size, 0, none⟩ = some (.bool g1) ∧ W.cell? ⟨w.heap.size, 1, none⟩ = some (.slice A n c) ∧ W.cell? ⟨w.heap.size + 1, 0, none⟩ = some (.bool g2) ∧ W.cell? ⟨w.heap.size + 1, 1, none⟩ = some (.slice B m d)) (exact ⟨by assumption, by assumption, by assumption, by assumption⟩)
      (first
        | (go_at_call 115; with_reducible refine (SA.out _ P0.out.drew).mono ?_; rintro e w1 ⟨rfl, b1⟩; have P1 := hid (P0.out.drew.keep b1); clear b1; obtain ⟨t1, t2, t3, t4⟩ := P1.out.cells)
        | (go_at_call 115; with_reducible refine (SB.out _ P1.out).mono ?_; rintro e w2 ⟨rfl, b2⟩; have P2 := hid (P1.out.keep b2); clear b2; obtain ⟨u1, u2, u3, u4⟩ := P2.out.cells))
    go_wp2_with fail
    first
      | (go_ret; exact ⟨rfl, P2.out.bel⟩)
      | (with_reducible refine (CB.out _ P2.out).mono ?_
         rintro e w3 ⟨rfl, rfl⟩
         go_wp2_with fail
         go_ret
         exact ⟨rfl, P2.out.bel⟩)
      | (with_reducible refine (CA.out _ P2.out).mono ?_
         rintro e w3 ⟨rfl, rfl⟩
         go_wp2_with fail
         go_ret
         exact ⟨rfl, P2.out.bel⟩)
structure PreP (w W : World) : Prop where
  res : Blk W w.heap.size [.bool false, .slice none 0 0] 39
  bel : Below w.heap.size w W
theorem PreP.start (w : World) : PreP w (w.alloc (.cells #[.bool false, .slice none 0 0] 39)) := ⟨Blk.new w [.bool false, .slice none 0 0] _, (Below.refl _ _).alloc (Nat.le_refl _) _⟩
theorem PreP.keep {w W W' : World} (h : PreP w W) (k : Below W.heap.size W W') : PreP w W' := ⟨h.res.below k h.res.lt, h.bel.trans (k.mono h.bel.size)⟩
theorem PreP.rcells {w W : World} (h : PreP w W) : W.cell? ⟨w.heap.size, 0, none⟩ = some (.bool false) ∧ W.cell? ⟨w.heap.size, 1, none⟩ = some (.slice none 0 0) ∧ W.frozen? ⟨w.heap.size, 0, none⟩ = false ∧ W.frozen? ⟨w.heap.size, 1, none⟩ = false :=
  ⟨Blk.cell h.res 0, Blk.cell h.res 1, Blk.free h.res 0, Blk.free h.res 1⟩
end Go.Proofs.YtdbccidlnhjfhaaGreatDoor
