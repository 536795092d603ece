/- RinA: Rin1, Rin2, Rin3, Rin4, Rin5, Rin6, Rin7, Rin8, Rin9 in one text. -/
import Derived.Test.YtdbccidlnhjfhaaGreatDoorIntA
import Derived.Test.YtdbccidlnhjfhaaGreatDoorRefT
import Derived.Test.YtdbccidlnhjfhaaGreatDoorAid
namespace Go.Proofs.YtdbccidlnhjfhaaGreatDoor
open Go.RowKit
theorem PreP.end_ {w W : World} {z : Int} {A : Option Addr} {n c : Nat} (h : PreP w W) (r : Rd W A n c (dg z.natAbs)) :
    RetInt w z (.returned (.agg #[.bool (sg z), .slice A n c])) ((W.setCell ⟨w.heap.size, 0, none⟩ (.bool (sg z))).setCell ⟨w.heap.size, 1, none⟩ (.slice A n c)) :=
  ret_int_end r h.res h.bel (Nat.le_refl _)
theorem iv_natAbs (g : Bool) (xs : List Nat) : (iv g xs).natAbs = val xs := by cases g <;> simp [iv]
theorem sg_iv (g : Bool) (xs : List Nat) (n : Nat) (h : (dg (val xs)).length = n) : (g && decide (0 < n)) = sg (iv g xs) := (sg_mag (b := g) h).1
set_option maxHeartbeats 1000000 in
theorem rbuild_any (g : Bool) (A : Option Addr) (n c : Nat) (xs : List Nat) (w : World) (h : Rd w A n c xs) (hn : n ≤ 2199023255552) :
    Calls Tryz.prog 122 #[.bool g, .slice A n c] w (RetInt w (iv g xs)) := by
  have P0 := hid (PreP.start w)
  have TR := hid (fun (W : World) (p : PreP w W) => rtrim_any A n c xs W (h.keep p.bel) (by omega))
  have SG := hid (fun (k : Nat) (e : (dg (val xs)).length = k) => sg_iv g xs k e)
  have NA := iv_natAbs g xs
  obtain ⟨z, hz⟩ : ∃ z, z = iv g xs := ⟨_, rfl⟩
  rw [← hz] at SG NA ⊢
  have NB := hid NA
  clear h hz NA
  rcases g with _ | _
  all_goals
    go_enter Tryz.func122, Tryz.ntmps122
    go_wp2_with fail
    refine (TR.out _ P0.out).mono ?_
    rintro e w1 ⟨v, rfl, ⟨A1, n1, c1, rfl, r1⟩, b1⟩
    have P1 := hid (P0.out.keep b1)
    have G1 := SG.out n1 r1.1
    have R1 := hid (show Rd w1 A1 n1 c1 (dg z.natAbs) from by rw [NB.out]; exact r1)
    clear r1 b1
    obtain ⟨u3, u4, u5, u6⟩ := P1.out.rcells
    rcases Nat.eq_zero_or_pos n1 with rfl | hp
    all_goals
      have G2 : sg z = _ := G1.symm
      first | (simp only [Bool.false_and] at G2) | (simp only [Bool.true_and, decide_eq_true hp] at G2) | (simp only [Bool.true_and, Nat.lt_irrefl, decide_false] at G2)
      have E1 := hid (P1.out.end_ R1.out)
      rw [G2] at E1
      clear G1 G2
      go_wp2_with fail
      exact bodyPost_ret (v := .agg #[.bool _, .slice A1 _ c1]) (by simp [results, Tryz.results122, go_sem, u3, u4]) rfl E1.out
set_option maxHeartbeats 1000000 in
theorem rfix_any (g : Bool) (A : Option Addr) (n c : Nat) (xs : List Nat) (w : World) (h : Rd w A n c xs) (hn : n ≤ 1099511627776) :
    Calls Tryz.prog 121 #[.agg #[.bool g, .slice A n c]] w (RetInt w (iv g xs)) := by
  have P0 := hid (Pre1.start w g (.slice A n c))
  have BD := hid (fun (W : World) (p : Pre1 w g (.slice A n c) W) => rbuild_any g A n c xs W (h.keep p.bel) (by omega))
  obtain ⟨z, hz⟩ : ∃ z, z = iv g xs := ⟨_, rfl⟩
  rw [← hz] at BD
  rw [← hz]
  clear h hz
  go_enter Tryz.func121, Tryz.ntmps121
  go_wp2_with fail
  refine (BD.out _ P0.out).mono ?_
  rintro e w2 ⟨A2, n2, c2, rfl, r2, b2⟩
  have P2 := hid (P0.out.keep b2)
  have R2 := hid r2
  clear r2 b2
  obtain ⟨u3, u4, u5, u6⟩ := P2.out.rcells
  go_wp2_with fail
  exact bodyPost_ret (v := .agg #[.bool (sg z), .slice A2 n2 c2]) (by simp [results, Tryz.results121, go_sem, u3, u4]) rfl (P2.out.end_ R2.out)
set_option maxHeartbeats 1000000 in
theorem rineg_any (g : Bool) (A : Option Addr) (n c : Nat) (xs : List Nat) (w : World) (h : Rd w A n c xs) (hn : n ≤ 1099511627776) :
    Calls Tryz.prog 132 #[.agg #[.bool g, .slice A n c]] w (RetInt w (- iv g xs)) := by
  have P0 := hid (Pre1.start w g (.slice A n c))
  have BD := hid (fun (W : World) (p : Pre1 w g (.slice A n c) W) => rbuild_any (!g) A n c xs W (h.keep p.bel) (by omega))
  obtain ⟨z, hz⟩ : ∃ z, z = - iv g xs := ⟨_, rfl⟩
  rw [iv_not, ← hz] at BD
  rw [← hz]
  clear h hz
  go_enter Tryz.func132, Tryz.ntmps132
  go_wp2_with fail
  refine (BD.out _ P0.out).mono ?_
  rintro e w2 ⟨A2, n2, c2, rfl, r2, b2⟩
  have P2 := hid (P0.out.keep b2)
  have R2 := hid r2
  clear r2 b2
  obtain ⟨u3, u4, u5, u6⟩ := P2.out.rcells
  go_wp2_with fail
  exact bodyPost_ret (v := .agg #[.bool (sg z), .slice A2 n2 c2]) (by simp [results, Tryz.results132, go_sem, u3, u4]) rfl (P2.out.end_ R2.out)
set_option maxHeartbeats 400000 in
theorem risame_any (g1 : Bool) (A : Option Addr) (n c : Nat) (xs : List Nat) (g2 : Bool) (B : Option Addr) (m d : Nat) (ys : List Nat) (w : World) (h : Rd w A n c xs) (k : Rd w B m d ys) :
    Calls Tryz.prog 64 #[.agg #[.bool g1, .slice A n c], .agg #[.bool g2, .slice B m d]] w (RetB w (decide (g1 = g2) && decide (xs = ys))) := by
  have P0 := hid (PreC.start w g1 (.slice A n c) g2 (.slice B m d))
  have SM := hid (fun (W : World) (p : PreC w g1 (.slice A n c) g2 (.slice B m d) W) => rsame_any A B n c m d xs ys W (h.keep p.bel) (k.keep p.bel))
  obtain ⟨F, hF⟩ : ∃ F, F = decide (xs = ys) := ⟨_, rfl⟩
  rw [← hF] at SM ⊢
  clear h k hF
  by_cases e : g1 = g2
  · subst e
    rw [show (decide (g1 = g1) && F) = F from by simp]
    have hgg : (g1 == g1) = true := beq_self_eq_true g1
    go_enter Tryz.func64, Tryz.ntmps64
    go_wp2_with fail
    refine (SM.out _ P0.out).mono ?_
    rintro e w1 ⟨rfl, b1⟩
    have P1 := hid (P0.out.keep b1)
    clear b1
    go_wp2_with fail
    go_ret
    exact ⟨rfl, P1.out.bel⟩
  · rw [show (decide (g1 = g2) && F) = false from by rw [decide_eq_false e]; rfl]
    have hgg : (g1 == g2) = false := by cases g1 <;> cases g2 <;> simp_all
    go_enter Tryz.func64, Tryz.ntmps64
    go_wp2_with fail
    go_ret
    exact ⟨rfl, P0.out.bel⟩
theorem Blk.reset {w : World} {b t : Nat} {u v x y : Value} (h : Blk w b [u, v] t) : Blk ((w.setCell ⟨b, 0, none⟩ x).setCell ⟨b, 1, none⟩ y) b [x, y] t := by
  have h1 := (h.set_ 0 x).set_ 1 y
  simpa using h1
set_option maxHeartbeats 1000000 in
theorem risign_any (g : Bool) (A : Option Addr) (n c : Nat) (xs : List Nat) (w : World) (h : Rd w A n c xs) (hn : n ≤ 1099511627776) :
    Calls Tryz.prog 89 #[.agg #[.bool g, .slice A n c]] w (RetI w (sgnZ (iv g xs))) := by
  have k0 := Blk.new w [.bool g, .slice A n c] 39
  have hb : Below w.heap.size w (w.alloc (.cells #[.bool g, .slice A n c] 39)) := (Below.refl _ _).alloc (Nat.le_refl _) _
  have FX := hid (rfix_any g A n c xs _ (h.keep hb) hn)
  have K := hid k0
  have B := hid hb
  obtain ⟨z, hz⟩ : ∃ z, z = iv g xs := ⟨_, rfl⟩
  rw [← hz] at FX ⊢
  clear h hz k0 hb
  rcases Int.lt_trichotomy z 0 with hs | rfl | hs
  · have e1 : sgnZ z = -1 := by unfold sgnZ; rw [if_pos hs]
    have e2 : sg z = true := decide_eq_true hs
    have e3 : 0 < z.natAbs := by omega
    rw [e1]
    go_enter Tryz.func89, Tryz.ntmps89
    go_wp2_with fail
    refine (FX.out).mono ?_
    rintro e w2 ⟨A2, n2, c2, he, r2, b2⟩
    rw [e2] at he
    subst he
    have K2 := hid (K.out.below b2 K.out.lt)
    have B2 := hid (B.out.trans (b2.mono B.out.size))
    have hn2 : 0 < n2 := r2.1 ▸ dg_len_pos e3
    have hn3 : (((n2 : Nat) : Int) == 0) = false := by simp; omega
    clear r2 b2
    have u3 : w2.cell? ⟨w.heap.size, 0, none⟩ = some (.bool g) := Blk.cell K2.out 0
    have u4 : w2.cell? ⟨w.heap.size, 1, none⟩ = some (.slice A n c) := Blk.cell K2.out 1
    have u5 := Blk.free K2.out 0
    have u6 := Blk.free K2.out 1
    have E2 := hid ((B2.out.setCell (p := ⟨w.heap.size, 0, none⟩) (by exact Nat.le_refl _) (.bool true)).setCell (p := ⟨w.heap.size, 1, none⟩) (by exact Nat.le_refl _) (.slice A2 n2 c2))
    go_wp2_with fail
    go_ret
    exact ⟨rfl, E2.out⟩
  · have e1 : sgnZ 0 = 0 := rfl
    have e2 : sg 0 = false := rfl
    rw [e1]
    go_enter Tryz.func89, Tryz.ntmps89
    go_wp2_with fail
    refine (FX.out).mono ?_
    rintro e w2 ⟨A2, n2, c2, he, r2, b2⟩
    rw [e2] at he
    subst he
    have K2 := hid (K.out.below b2 K.out.lt)
    have B2 := hid (B.out.trans (b2.mono B.out.size))
    obtain rfl : n2 = 0 := r2.1.symm
    clear r2 b2
    have u3 : w2.cell? ⟨w.heap.size, 0, none⟩ = some (.bool g) := Blk.cell K2.out 0
    have u4 : w2.cell? ⟨w.heap.size, 1, none⟩ = some (.slice A n c) := Blk.cell K2.out 1
    have u5 := Blk.free K2.out 0
    have u6 := Blk.free K2.out 1
    have E2 := hid ((B2.out.setCell (p := ⟨w.heap.size, 0, none⟩) (by exact Nat.le_refl _) (.bool false)).setCell (p := ⟨w.heap.size, 1, none⟩) (by exact Nat.le_refl _) (.slice A2 0 c2))
    go_wp2_with fail
    go_ret
    exact ⟨rfl, E2.out⟩
  · have e1 : sgnZ z = 1 := by unfold sgnZ; rw [if_neg (by omega), if_pos hs]
    have e2 : sg z = false := decide_eq_false (by omega)
    have e3 : 0 < z.natAbs := by omega
    rw [e1]
    go_enter Tryz.func89, Tryz.ntmps89
    go_wp2_with fail
    refine (FX.out).mono ?_
    rintro e w2 ⟨A2, n2, c2, he, r2, b2⟩
    rw [e2] at he
    subst he
    have K2 := hid (K.out.below b2 K.out.lt)
    have B2 := hid (B.out.trans (b2.mono B.out.size))
    have hn2 : 0 < n2 := r2.1 ▸ dg_len_pos e3
    have hn3 : (((n2 : Nat) : Int) == 0) = false := by simp; omega
    clear r2 b2
    have u3 : w2.cell? ⟨w.heap.size, 0, none⟩ = some (.bool g) := Blk.cell K2.out 0
    have u4 : w2.cell? ⟨w.heap.size, 1, none⟩ = some (.slice A n c) := Blk.cell K2.out 1
    have u5 := Blk.free K2.out 0
    have u6 := Blk.free K2.out 1
    have E2 := hid ((B2.out.setCell (p := ⟨w.heap.size, 0, none⟩) (by exact Nat.le_refl _) (.bool false)).setCell (p := ⟨w.heap.size, 1, none⟩) (by exact Nat.le_refl _) (.slice A2 n2 c2))
    go_wp2_with fail
    go_ret
    exact ⟨rfl, E2.out⟩
theorem Pre2.reset {w W : World} {g1 g2 h1 h2 : Bool} {A0 B0 A B : Option Addr} {n0 c0 m0 d0 n c m d : Nat} {xs ys : List Nat} (h : Pre2 w g1 (.slice A0 n0 c0) g2 (.slice B0 m0 d0) W) (r : Rd W A n c xs) (q : Rd W B m d ys) :
    ∃ W3, W3 = ((((W.setCell ⟨w.heap.size, 0, none⟩ (.bool h1)).setCell ⟨w.heap.size, 1, none⟩ (.slice A n c)).setCell ⟨w.heap.size + 1, 0, none⟩ (.bool h2)).setCell ⟨w.heap.size + 1, 1, none⟩ (.slice B m d)) ∧ Pre2 w h1 (.slice A n c) h2 (.slice B m d) W3 ∧ Rd W3 A n c xs ∧ Rd W3 B m d ys := by
  refine ⟨_, rfl, ⟨?_, ?_, ?_, ?_⟩, ?_, ?_⟩
  · exact ((h.arg1.reset (x := .bool h1) (y := .slice A n c)).far (by omega) _).far (by omega) _
  · exact ((h.arg2.far (g := w.heap.size) (i := 0) (by omega) (.bool h1)).far (g := w.heap.size) (i := 1) (by omega) (.slice A n c)).reset
  · exact (((h.res.far (by omega) _).far (by omega) _).far (by omega) _).far (by omega) _
  · exact (((h.bel.setCell (by show w.heap.size ≤ w.heap.size; omega) _).setCell (by show w.heap.size ≤ w.heap.size; omega) _).setCell (by show w.heap.size ≤ w.heap.size + 1; omega) _).setCell (by show w.heap.size ≤ w.heap.size + 1; omega) _
  · exact rd_cell_far (rd_cell_far r h.arg1 _ _) ((h.arg2.far (g := w.heap.size) (i := 0) (by omega) (.bool h1)).far (g := w.heap.size) (i := 1) (by omega) (.slice A n c)) _ _
  · exact rd_cell_far (rd_cell_far q h.arg1 _ _) ((h.arg2.far (g := w.heap.size) (i := 0) (by omega) (.bool h1)).far (g := w.heap.size) (i := 1) (by omega) (.slice A n c)) _ _
theorem sg_abs {x : Int} : (if sg x then -(x.natAbs : Int) else x.natAbs) = x := by
  unfold sg
  by_cases h : x < 0
  · rw [decide_eq_true h, if_pos rfl]; omega
  · rw [decide_eq_false h, if_neg (by simp)]; omega
theorem sum_same {x y : Int} (h : sg x = sg y) : iv (sg x) (dg (x.natAbs + y.natAbs)) = x + y := by
  have h1 := sg_abs (x := x)
  have h2 := sg_abs (x := y)
  rw [← h] at h2
  unfold iv
  rw [val_dg]
  cases hs : sg x <;> rw [hs] at h1 h2 <;> simp at h1 h2 ⊢ <;> omega
theorem dg_abs_len {g : Bool} {xs : List Nat} {n : Nat} (h : Digs xs) (hn : xs.length = n) : (dg (iv g xs).natAbs).length ≤ n := by
  rw [iv_natAbs, ← hn]
  exact dg_len_le (val_lt h)
theorem dg_add_len {a b k : Nat} (ha : (dg a).length ≤ k) (hb : (dg b).length ≤ k) : (dg (a + b)).length ≤ k + 1 := by
  refine dg_len_le ?_
  have h1 := dg_len_lt a
  have h2 := dg_len_lt b
  have h3 := Nat.pow_le_pow_right (n := 4294967296) (by decide) ha
  have h4 := Nat.pow_le_pow_right (n := 4294967296) (by decide) hb
  rw [Nat.pow_succ]
  omega
set_option maxHeartbeats 2000000 in
theorem riadd_same (g1 : Bool) (A : Option Addr) (n c : Nat) (xs : List Nat) (g2 : Bool) (B : Option Addr) (m d : Nat) (ys : List Nat) (w : World) (h : Rd w A n c xs) (hn : n ≤ 1099511627775) (k : Rd w B m d ys) (hm : m ≤ 1099511627775) (hsg : sg (iv g1 xs) = sg (iv g2 ys)) :
    Calls Tryz.prog 87 #[.agg #[.bool g1, .slice A n c], .agg #[.bool g2, .slice B m d]] w (RetInt w (iv g1 xs + iv g2 ys)) := by
  have P0 := hid (Pre2.start w g1 (.slice A n c) g2 (.slice B m d))
  have FA := hid (fun (W : World) (p : Pre2 w g1 (.slice A n c) g2 (.slice B m d) W) => rfix_any g1 A n c xs W (h.keep p.bel) (by omega))
  have FB := hid (fun (W : World) (p : Pre2 w g1 (.slice A n c) g2 (.slice B m d) W) => rfix_any g2 B m d ys W (k.keep p.bel) (by omega))
  have l1 := dg_abs_len (g := g1) h.2.2.2.1 h.1
  have l2 := dg_abs_len (g := g2) k.2.2.2.1 k.1
  have es := sum_same hsg
  obtain ⟨x, hx⟩ : ∃ x, x = iv g1 xs := ⟨_, rfl⟩
  obtain ⟨y, hy⟩ : ∃ y, y = iv g2 ys := ⟨_, rfl⟩
  rw [← hx] at FA l1
  rw [← hy] at FB l2
  rw [← hx, ← hy] at hsg es ⊢
  have AD := hid (fun (W : World) A1 A2 (n1 c1 n2 c2 : Nat) (_ : Pre2 w (sg x) (.slice A1 n1 c1) (sg y) (.slice A2 n2 c2) W) (r : Rd W A1 n1 c1 (dg x.natAbs)) (q : Rd W A2 n2 c2 (dg y.natAbs)) => radd_any A1 A2 n1 c1 n2 c2 _ _ W r q (by have := r.1; omega) (by have := q.1; omega))
  rw [val_dg, val_dg] at AD
  have l3 : (dg (x.natAbs + y.natAbs)).length ≤ 2199023255552 := by
    have := dg_add_len (k := 1099511627775) (a := x.natAbs) (b := y.natAbs) (by omega) (by omega)
    omega
  have SN := hid (fun (W : World) A1 n1 c1 (r : Rd W A1 n1 c1 (dg (x.natAbs + y.natAbs))) => rbuild_any (sg x) A1 n1 c1 _ W r (by have := r.1; omega))
  rw [es] at SN
  obtain ⟨z, hz⟩ : ∃ z, z = x + y := ⟨_, rfl⟩
  rw [← hz] at SN ⊢
  obtain ⟨s1, s2, s3, s4⟩ := P0.out.cells
  have hgg : (sg x == sg y) = true := by rw [hsg]; exact beq_self_eq_true _
  clear h k l1 l2 l3 es hx hy hz hsg
  go_enter Tryz.func87, Tryz.ntmps87
  go_wp2_with fail
  go_region_with (first
    | (go_at_call 121; refine (FB.out _ P1.out).mono ?_; rintro e w2 ⟨A2, n2, c2, rfl, r2, b2⟩; have P2 := hid (P1.out.keep b2); have R2 := hid r2; have S1 := hid (R1.out.keep b2); clear r2 b2; obtain ⟨u1, u2, u3, u4⟩ := P2.out.cells; obtain ⟨f1, f2, f3, f4⟩ := P2.out.free)
    | (go_at_call 121; refine (FA.out _ P0.out.drew).mono ?_; rintro e w1 ⟨A1, n1, c1, rfl, r1, b1⟩; have P1 := hid (P0.out.drew.keep b1); have R1 := hid r1; clear r1 b1; obtain ⟨t1, t2, t3, t4⟩ := P1.out.cells))
  all_goals
    obtain ⟨W3, hW3, p3, q1, q2⟩ := P2.out.reset (h1 := sg x) (h2 := sg y) S1.out R2.out
    rw [← hW3]
    have P3 := hid p3
    have Q1 := hid q1
    have Q2 := hid q2
    clear p3 q1 q2 hW3 u1 u2 u3 u4 f1 f2 f3 f4 t1 t2 t3 t4 s1 s2 s3 s4
    obtain ⟨s1, s2, s3, s4⟩ := P3.out.cells
    go_wp2_with fail
    go_region_held3 (fun W => W.cell? ⟨w.heap.size, 0, none⟩ = some (.bool (sg x)) ∧ W.cell? ⟨w.heap.size, 1, none⟩ = some (.slice A1 n1 c1) ∧ W.cell? ⟨w.heap.size + 1, 0, none⟩ = some (.bool (sg y)) ∧ W.cell? ⟨w.heap.size + 1, 1, none⟩ = some (.slice A2 n2 c2)) (first | exact ⟨by assumption, by assumption, by assumption, by assumption⟩ | exact P5.out.cells_set _ _)
      (first
        | (go_at_call 126; refine (AD.out _ A1 A2 n1 c1 n2 c2 P3.out.drew Q1.out Q2.out).mono ?_; rintro e w4 ⟨v, rfl, ⟨A3, n3, c3, rfl, r3⟩, b3⟩; have P4 := hid (P3.out.drew.keep b3); have R3 := hid r3; clear r3 b3; obtain ⟨x1, x2, x3, x4⟩ := P4.out.cells)
        | (go_at_call 122; refine (SN.out w4 A3 n3 c3 R3.out).mono ?_; rintro e w5 ⟨A4, n4, c4, rfl, r4, b4⟩; have P5 := hid (P4.out.keep b4); have R4 := hid r4; clear r4 b4; obtain ⟨y1, y2, y7, y8⟩ := P5.out.cells; obtain ⟨y3, y4, y5, y6⟩ := P5.out.rcells))
    go_wp2_with fail
    exact bodyPost_ret (v := .agg #[.bool (sg z), .slice A4 n4 c4]) (by simp [results, Tryz.results87, go_sem, y3, y4]) rfl (P5.out.end_ R4.out)
theorem diff_lt {x y : Int} (h : sg x = !sg y) (hl : x.natAbs < y.natAbs) : iv (sg y) (dg (y.natAbs - x.natAbs)) = x + y := by
  have h1 := sg_abs (x := x)
  have h2 := sg_abs (x := y)
  rw [h] at h1
  unfold iv
  rw [val_dg]
  cases hs : sg y <;> rw [hs] at h1 h2 <;> simp at h1 h2 ⊢ <;> omega
theorem diff_ge {x y : Int} (h : sg x = !sg y) (hl : y.natAbs ≤ x.natAbs) : iv (sg x) (dg (x.natAbs - y.natAbs)) = x + y := by
  have h1 := sg_abs (x := x)
  have h2 := sg_abs (x := y)
  rw [h] at h1 ⊢
  unfold iv
  rw [val_dg]
  cases hs : sg y <;> rw [hs] at h1 h2 <;> simp at h1 h2 ⊢ <;> omega
set_option maxHeartbeats 2000000 in
theorem riadd_lt (g1 : Bool) (A : Option Addr) (n c : Nat) (xs : List Nat) (g2 : Bool) (B : Option Addr) (m d : Nat) (ys : List Nat) (w : World) (h : Rd w A n c xs) (hn : n ≤ 1099511627775) (k : Rd w B m d ys) (hm : m ≤ 1099511627775) (hsg : sg (iv g1 xs) = !sg (iv g2 ys)) (hlt : (iv g1 xs).natAbs < (iv g2 ys).natAbs) :
    Calls Tryz.prog 87 #[.agg #[.bool g1, .slice A n c], .agg #[.bool g2, .slice B m d]] w (RetInt w (iv g1 xs + iv g2 ys)) := by
  have P0 := hid (Pre2.start w g1 (.slice A n c) g2 (.slice B m d))
  have FA := hid (fun (W : World) (p : Pre2 w g1 (.slice A n c) g2 (.slice B m d) W) => rfix_any g1 A n c xs W (h.keep p.bel) (by omega))
  have FB := hid (fun (W : World) (p : Pre2 w g1 (.slice A n c) g2 (.slice B m d) W) => rfix_any g2 B m d ys W (k.keep p.bel) (by omega))
  have l1 := dg_abs_len (g := g1) h.2.2.2.1 h.1
  have l2 := dg_abs_len (g := g2) k.2.2.2.1 k.1
  obtain ⟨x, hx⟩ : ∃ x, x = iv g1 xs := ⟨_, rfl⟩
  obtain ⟨y, hy⟩ : ∃ y, y = iv g2 ys := ⟨_, rfl⟩
  rw [← hx] at FA l1
  rw [← hy] at FB l2
  rw [← hx, ← hy] at hsg hlt
  rw [← hx, ← hy]
  have es := diff_lt hsg hlt
  have CM := hid (fun (W : World) A1 A2 (n1 c1 n2 c2 : Nat) (r : Rd W A1 n1 c1 (dg x.natAbs)) (q : Rd W A2 n2 c2 (dg y.natAbs)) => rcmp_any A1 A2 n1 c1 n2 c2 _ _ W r q (by have := r.1; omega) (by have := q.1; omega))
  rw [val_dg, val_dg, show cmpN x.natAbs y.natAbs = -1 from by unfold cmpN; rw [if_pos hlt]] at CM
  have SB := hid (fun (W : World) A1 A2 (n1 c1 n2 c2 : Nat) (r : Rd W A1 n1 c1 (dg x.natAbs)) (q : Rd W A2 n2 c2 (dg y.natAbs)) => rsub_any A2 A1 n2 c2 n1 c1 _ _ W q r (by have := q.1; omega) (by have := r.1; omega))
  rw [val_dg, val_dg, show subD y.natAbs x.natAbs = dg (y.natAbs - x.natAbs) from by unfold subD; rw [if_neg (by omega)], show subE y.natAbs x.natAbs = 0 from by unfold subE; rw [if_neg (by omega)]] at SB
  have l3 : (dg (y.natAbs - x.natAbs)).length ≤ 2199023255552 := by
    have h1 := dg_len_mono (show (y.natAbs - x.natAbs) ≤ y.natAbs from Nat.sub_le _ _)
    omega
  have SN := hid (fun (W : World) A1 n1 c1 (r : Rd W A1 n1 c1 (dg (y.natAbs - x.natAbs))) => rbuild_any (sg y) A1 n1 c1 _ W r (by have := r.1; omega))
  rw [es] at SN
  obtain ⟨z, hz⟩ : ∃ z, z = x + y := ⟨_, rfl⟩
  rw [← hz] at SN ⊢
  obtain ⟨s1, s2, s3, s4⟩ := P0.out.cells
  have hgg : (sg x == sg y) = false := by rw [hsg]; cases sg y <;> rfl
  have hgg2 : (sg x = sg y) = False := by rw [hsg]; cases sg y <;> simp
  clear h k l1 l2 l3 es hx hy hz hsg hlt
  go_enter Tryz.func87, Tryz.ntmps87
  go_wp2_with fail
  go_region_with (first
    | (go_at_call 121; refine (FB.out _ P1.out).mono ?_; rintro e w2 ⟨A2, n2, c2, rfl, r2, b2⟩; have P2 := hid (P1.out.keep b2); have R2 := hid r2; have S1 := hid (R1.out.keep b2); clear r2 b2; obtain ⟨u1, u2, u3, u4⟩ := P2.out.cells; obtain ⟨f1, f2, f3, f4⟩ := P2.out.free)
    | (go_at_call 121; refine (FA.out _ P0.out.drew).mono ?_; rintro e w1 ⟨A1, n1, c1, rfl, r1, b1⟩; have P1 := hid (P0.out.drew.keep b1); have R1 := hid r1; clear r1 b1; obtain ⟨t1, t2, t3, t4⟩ := P1.out.cells))
  all_goals
    obtain ⟨W3, hW3, p3, q1, q2⟩ := P2.out.reset (h1 := sg x) (h2 := sg y) S1.out R2.out
    rw [← hW3]
    have P3 := hid p3
    have Q1 := hid q1
    have Q2 := hid q2
    clear p3 q1 q2 hW3 u1 u2 u3 u4 f1 f2 f3 f4 t1 t2 t3 t4 s1 s2 s3 s4
    obtain ⟨s1, s2, s3, s4⟩ := P3.out.cells
    go_wp2_with fail
    refine (CM.out W3 A1 A2 n1 c1 n2 c2 Q1.out Q2.out).mono ?_
    rintro e w4 ⟨rfl, b4⟩
    have P4 := hid (P3.out.keep b4)
    have T1 := hid (Q1.out.keep b4)
    have T2 := hid (Q2.out.keep b4)
    clear b4
    obtain ⟨x1, x2, x3, x4⟩ := P4.out.cells
    obtain ⟨f1, f2, f3, f4⟩ := P4.out.free
    go_wp2_with fail
    obtain ⟨W5, hW5, p5, q3, q4⟩ := P4.out.reset (h1 := sg y) (h2 := sg x) T2.out T1.out
    rw [← hW5]
    have P5 := hid p5
    have Q3 := hid q3
    have Q4 := hid q4
    clear p5 q3 q4 hW5 x1 x2 x3 x4 f1 f2 f3 f4
    obtain ⟨x1, x2, x3, x4⟩ := P5.out.cells
    refine (SB.out W5 A1 A2 n1 c1 n2 c2 Q4.out Q3.out).mono ?_
    rintro e w6 ⟨v, rfl, ⟨A5, n5, c5, rfl, r5⟩, b5⟩
    have P6 := hid (P5.out.keep b5)
    have R5 := hid r5
    clear r5 b5
    obtain ⟨y1, y2, y3, y4⟩ := P6.out.cells
    go_wp2_with fail
    refine (SN.out w6 A5 n5 c5 R5.out).mono ?_
    rintro e w7 ⟨A7, n7, c7, rfl, r7, b7⟩
    have P7 := hid (P6.out.keep b7)
    have R7 := hid r7
    clear r7 b7
    obtain ⟨z3, z4, z5, z6⟩ := P7.out.rcells
    go_wp2_with fail
    exact bodyPost_ret (v := .agg #[.bool (sg z), .slice A7 n7 c7]) (by simp [results, Tryz.results87, go_sem, z3, z4]) rfl (P7.out.end_ R7.out)
set_option maxHeartbeats 2000000 in
theorem riadd_ge (g1 : Bool) (A : Option Addr) (n c : Nat) (xs : List Nat) (g2 : Bool) (B : Option Addr) (m d : Nat) (ys : List Nat) (w : World) (h : Rd w A n c xs) (hn : n ≤ 1099511627775) (k : Rd w B m d ys) (hm : m ≤ 1099511627775) (hsg : sg (iv g1 xs) = !sg (iv g2 ys)) (hlt : (iv g2 ys).natAbs ≤ (iv g1 xs).natAbs) :
    Calls Tryz.prog 87 #[.agg #[.bool g1, .slice A n c], .agg #[.bool g2, .slice B m d]] w (RetInt w (iv g1 xs + iv g2 ys)) := by
  have P0 := hid (Pre2.start w g1 (.slice A n c) g2 (.slice B m d))
  have FA := hid (fun (W : World) (p : Pre2 w g1 (.slice A n c) g2 (.slice B m d) W) => rfix_any g1 A n c xs W (h.keep p.bel) (by omega))
  have FB := hid (fun (W : World) (p : Pre2 w g1 (.slice A n c) g2 (.slice B m d) W) => rfix_any g2 B m d ys W (k.keep p.bel) (by omega))
  have l1 := dg_abs_len (g := g1) h.2.2.2.1 h.1
  have l2 := dg_abs_len (g := g2) k.2.2.2.1 k.1
  obtain ⟨x, hx⟩ : ∃ x, x = iv g1 xs := ⟨_, rfl⟩
  obtain ⟨y, hy⟩ : ∃ y, y = iv g2 ys := ⟨_, rfl⟩
  rw [← hx] at FA l1
  rw [← hy] at FB l2
  rw [← hx, ← hy] at hsg hlt
  rw [← hx, ← hy]
  have es := diff_ge hsg hlt
  have CM := hid (fun (W : World) A1 A2 (n1 c1 n2 c2 : Nat) (r : Rd W A1 n1 c1 (dg x.natAbs)) (q : Rd W A2 n2 c2 (dg y.natAbs)) => rcmp_any A1 A2 n1 c1 n2 c2 _ _ W r q (by have := r.1; omega) (by have := q.1; omega))
  obtain ⟨q, hq⟩ : ∃ q, q = cmpN x.natAbs y.natAbs := ⟨_, rfl⟩
  have hq0 : 0 ≤ q := by rw [hq]; unfold cmpN; rw [if_neg (by omega)]; split <;> omega
  have hq1 : decide (q < 0) = false := decide_eq_false (by omega)
  rw [val_dg, val_dg, ← hq] at CM
  have SB := hid (fun (W : World) A1 A2 (n1 c1 n2 c2 : Nat) (r : Rd W A1 n1 c1 (dg x.natAbs)) (q : Rd W A2 n2 c2 (dg y.natAbs)) => rsub_any A1 A2 n1 c1 n2 c2 _ _ W r q (by have := r.1; omega) (by have := q.1; omega))
  rw [val_dg, val_dg, show subD x.natAbs y.natAbs = dg (x.natAbs - y.natAbs) from by unfold subD; rw [if_neg (by omega)], show subE x.natAbs y.natAbs = 0 from by unfold subE; rw [if_neg (by omega)]] at SB
  have l3 : (dg (x.natAbs - y.natAbs)).length ≤ 2199023255552 := by
    have h1 := dg_len_mono (show (x.natAbs - y.natAbs) ≤ x.natAbs from Nat.sub_le _ _)
    omega
  have SN := hid (fun (W : World) A1 n1 c1 (r : Rd W A1 n1 c1 (dg (x.natAbs - y.natAbs))) => rbuild_any (sg x) A1 n1 c1 _ W r (by have := r.1; omega))
  rw [es] at SN
  obtain ⟨z, hz⟩ : ∃ z, z = x + y := ⟨_, rfl⟩
  rw [← hz] at SN ⊢
  obtain ⟨s1, s2, s3, s4⟩ := P0.out.cells
  have hgg : (sg x == sg y) = false := by rw [hsg]; cases sg y <;> rfl
  have hgg2 : (sg x = sg y) = False := by rw [hsg]; cases sg y <;> simp
  clear h k l1 l2 l3 es hx hy hz hsg hlt hq
  go_enter Tryz.func87, Tryz.ntmps87
  go_wp2_with fail
  go_region_with (first
    | (go_at_call 121; refine (FB.out _ P1.out).mono ?_; rintro e w2 ⟨A2, n2, c2, rfl, r2, b2⟩; have P2 := hid (P1.out.keep b2); have R2 := hid r2; have S1 := hid (R1.out.keep b2); clear r2 b2; obtain ⟨u1, u2, u3, u4⟩ := P2.out.cells; obtain ⟨f1, f2, f3, f4⟩ := P2.out.free)
    | (go_at_call 121; refine (FA.out _ P0.out.drew).mono ?_; rintro e w1 ⟨A1, n1, c1, rfl, r1, b1⟩; have P1 := hid (P0.out.drew.keep b1); have R1 := hid r1; clear r1 b1; obtain ⟨t1, t2, t3, t4⟩ := P1.out.cells))
  all_goals
    obtain ⟨W3, hW3, p3, q1, q2⟩ := P2.out.reset (h1 := sg x) (h2 := sg y) S1.out R2.out
    rw [← hW3]
    have P3 := hid p3
    have Q1 := hid q1
    have Q2 := hid q2
    clear p3 q1 q2 hW3 u1 u2 u3 u4 f1 f2 f3 f4 t1 t2 t3 t4 s1 s2 s3 s4
    obtain ⟨s1, s2, s3, s4⟩ := P3.out.cells
    go_wp2_with fail
    refine (CM.out W3 A1 A2 n1 c1 n2 c2 Q1.out Q2.out).mono ?_
    rintro e w4 ⟨rfl, b4⟩
    have P4 := hid (P3.out.keep b4)
    have T1 := hid (Q1.out.keep b4)
    have T2 := hid (Q2.out.keep b4)
    clear b4
    obtain ⟨x1, x2, x3, x4⟩ := P4.out.cells
    obtain ⟨f1, f2, f3, f4⟩ := P4.out.free
    go_wp2_with fail
    refine (SB.out w4 A1 A2 n1 c1 n2 c2 T1.out T2.out).mono ?_
    rintro e w6 ⟨v, rfl, ⟨A5, n5, c5, rfl, r5⟩, b5⟩
    have P6 := hid (P4.out.keep b5)
    have R5 := hid r5
    clear r5 b5
    obtain ⟨y1, y2, y3, y4⟩ := P6.out.cells
    go_wp2_with fail
    refine (SN.out w6 A5 n5 c5 R5.out).mono ?_
    rintro e w7 ⟨A7, n7, c7, rfl, r7, b7⟩
    have P7 := hid (P6.out.keep b7)
    have R7 := hid r7
    clear r7 b7
    obtain ⟨z3, z4, z5, z6⟩ := P7.out.rcells
    go_wp2_with fail
    exact bodyPost_ret (v := .agg #[.bool (sg z), .slice A7 n7 c7]) (by simp [results, Tryz.results87, go_sem, z3, z4]) rfl (P7.out.end_ R7.out)
theorem riadd_any (g1 : Bool) (A : Option Addr) (n c : Nat) (xs : List Nat) (g2 : Bool) (B : Option Addr) (m d : Nat) (ys : List Nat) (w : World) (h : Rd w A n c xs) (hn : n ≤ 1099511627775) (k : Rd w B m d ys) (hm : m ≤ 1099511627775) :
    Calls Tryz.prog 87 #[.agg #[.bool g1, .slice A n c], .agg #[.bool g2, .slice B m d]] w (RetInt w (iv g1 xs + iv g2 ys)) := by
  by_cases e : sg (iv g1 xs) = sg (iv g2 ys)
  · exact riadd_same g1 A n c xs g2 B m d ys w h hn k hm e
  · have e2 : sg (iv g1 xs) = !sg (iv g2 ys) := by cases h1 : sg (iv g1 xs) <;> cases h2 : sg (iv g2 ys) <;> simp_all
    rcases Nat.lt_or_ge (iv g1 xs).natAbs (iv g2 ys).natAbs with hl | hl
    · exact riadd_lt g1 A n c xs g2 B m d ys w h hn k hm e2 hl
    · exact riadd_ge g1 A n c xs g2 B m d ys w h hn k hm e2 hl
theorem prod_sign {x y : Int} : iv (sg x != sg y) (dg (x.natAbs * y.natAbs)) = x * y := by
  have h1 := sg_abs (x := x)
  have h2 := sg_abs (x := y)
  unfold iv
  rw [val_dg]
  cases hs : sg x <;> cases ht : sg y <;> rw [hs] at h1 <;> rw [ht] at h2 <;> simp only [Bool.false_eq_true, if_false, if_true] at h1 h2 <;> rw [← h1, ← h2] <;> simp [Int.neg_mul, Int.mul_neg]
theorem dg_mul_len {a b k : Nat} (ha : (dg a).length ≤ k) (hb : (dg b).length ≤ k) : (dg (a * b)).length ≤ k + k := by
  refine dg_len_le ?_
  have h1 := dg_len_lt a
  have h2 := dg_len_lt b
  have h3 := Nat.pow_le_pow_right (n := 4294967296) (by decide) ha
  have h4 := Nat.pow_le_pow_right (n := 4294967296) (by decide) hb
  rw [Nat.pow_add]
  exact Nat.mul_lt_mul'' (by omega) (by omega)
set_option maxHeartbeats 2000000 in
theorem rimul_any (g1 : Bool) (A : Option Addr) (n c : Nat) (xs : List Nat) (g2 : Bool) (B : Option Addr) (m d : Nat) (ys : List Nat) (w : World) (h : Rd w A n c xs) (hn : n ≤ 1099511627775) (k : Rd w B m d ys) (hm : m ≤ 1099511627775) :
    Calls Tryz.prog 84 #[.agg #[.bool g1, .slice A n c], .agg #[.bool g2, .slice B m d]] w (RetInt w (iv g1 xs * iv g2 ys)) := by
  have P0 := hid (Pre2.start w g1 (.slice A n c) g2 (.slice B m d))
  have FA := hid (fun (W : World) (p : Pre2 w g1 (.slice A n c) g2 (.slice B m d) W) => rfix_any g1 A n c xs W (h.keep p.bel) (by omega))
  have FB := hid (fun (W : World) (p : Pre2 w g1 (.slice A n c) g2 (.slice B m d) W) => rfix_any g2 B m d ys W (k.keep p.bel) (by omega))
  have l1 := dg_abs_len (g := g1) h.2.2.2.1 h.1
  have l2 := dg_abs_len (g := g2) k.2.2.2.1 k.1
  obtain ⟨x, hx⟩ : ∃ x, x = iv g1 xs := ⟨_, rfl⟩
  obtain ⟨y, hy⟩ : ∃ y, y = iv g2 ys := ⟨_, rfl⟩
  rw [← hx] at FA l1
  rw [← hy] at FB l2
  rw [← hx, ← hy]
  have es := prod_sign (x := x) (y := y)
  have AD := hid (fun (W : World) A1 A2 (n1 c1 n2 c2 : Nat) (_ : Pre2 w (sg x) (.slice A1 n1 c1) (sg y) (.slice A2 n2 c2) W) (r : Rd W A1 n1 c1 (dg x.natAbs)) (q : Rd W A2 n2 c2 (dg y.natAbs)) => rmul_any A1 A2 n1 c1 n2 c2 _ _ W r q (by have := r.1; omega) (by have := q.1; omega))
  rw [val_dg, val_dg] at AD
  have l3 : (dg (x.natAbs * y.natAbs)).length ≤ 2199023255552 := by
    have := dg_mul_len (k := 1099511627775) (a := x.natAbs) (b := y.natAbs) (by omega) (by omega)
    omega
  have SN := hid (fun (W : World) A1 n1 c1 (r : Rd W A1 n1 c1 (dg (x.natAbs * y.natAbs))) => rbuild_any (sg x != sg y) A1 n1 c1 _ W r (by have := r.1; omega))
  rw [es] at SN
  obtain ⟨z, hz⟩ : ∃ z, z = x * y := ⟨_, rfl⟩
  rw [← hz] at SN ⊢
  obtain ⟨s1, s2, s3, s4⟩ := P0.out.cells
  clear h k l1 l2 l3 es hx hy hz
  go_enter Tryz.func84, Tryz.ntmps84
  go_wp2_with fail
  go_region_with (first
    | (go_at_call 121; refine (FB.out _ P1.out).mono ?_; rintro e w2 ⟨A2, n2, c2, rfl, r2, b2⟩; have P2 := hid (P1.out.keep b2); have R2 := hid r2; have S1 := hid (R1.out.keep b2); clear r2 b2; obtain ⟨u1, u2, u3, u4⟩ := P2.out.cells; obtain ⟨f1, f2, f3, f4⟩ := P2.out.free)
    | (go_at_call 121; refine (FA.out _ P0.out.drew).mono ?_; rintro e w1 ⟨A1, n1, c1, rfl, r1, b1⟩; have P1 := hid (P0.out.drew.keep b1); have R1 := hid r1; clear r1 b1; obtain ⟨t1, t2, t3, t4⟩ := P1.out.cells))
  all_goals
    obtain ⟨W3, hW3, p3, q1, q2⟩ := P2.out.reset (h1 := sg x) (h2 := sg y) S1.out R2.out
    rw [← hW3]
    have P3 := hid p3
    have Q1 := hid q1
    have Q2 := hid q2
    clear p3 q1 q2 hW3 u1 u2 u3 u4 f1 f2 f3 f4 t1 t2 t3 t4 s1 s2 s3 s4
    obtain ⟨s1, s2, s3, s4⟩ := P3.out.cells
    go_wp2_with fail
    go_region_held3 (fun W => W.cell? ⟨w.heap.size, 0, none⟩ = some (.bool (sg x)) ∧ W.cell? ⟨w.heap.size, 1, none⟩ = some (.slice A1 n1 c1) ∧ W.cell? ⟨w.heap.size + 1, 0, none⟩ = some (.bool (sg y)) ∧ W.cell? ⟨w.heap.size + 1, 1, none⟩ = some (.slice A2 n2 c2)) (first | exact ⟨by assumption, by assumption, by assumption, by assumption⟩ | exact P5.out.cells_set _ _)
      (first
        | (go_at_call 88; refine (AD.out _ A1 A2 n1 c1 n2 c2 P3.out.drew Q1.out Q2.out).mono ?_; rintro e w4 ⟨v, rfl, ⟨A3, n3, c3, rfl, r3⟩, b3⟩; have P4 := hid (P3.out.drew.keep b3); have R3 := hid r3; clear r3 b3; obtain ⟨x1, x2, x3, x4⟩ := P4.out.cells)
        | (go_at_call 122; refine (SN.out w4 A3 n3 c3 R3.out).mono ?_; rintro e w5 ⟨A4, n4, c4, rfl, r4, b4⟩; have P5 := hid (P4.out.keep b4); have R4 := hid r4; clear r4 b4; obtain ⟨y1, y2, y7, y8⟩ := P5.out.cells; obtain ⟨y3, y4, y5, y6⟩ := P5.out.rcells))
    go_wp2_with fail
    exact bodyPost_ret (v := .agg #[.bool (sg z), .slice A4 n4 c4]) (by simp [results, Tryz.results84, go_sem, y3, y4]) rfl (P5.out.end_ R4.out)
set_option maxHeartbeats 1000000 in
theorem rifrom_neg (z : Int) (w : World) (h1 : -9223372036854775808 ≤ z) (h2 : z < 0) :
    Calls Tryz.prog 90 #[.int .i64 z] w (RetInt w z) := by
  obtain ⟨m, hm⟩ : ∃ m : Nat, (m : Int) = -(z + 1) := ⟨(-(z + 1)).toNat, by omega⟩
  have FR := hid (fun (W : World) => rfrom_any m W (by omega))
  rw [hm] at FR
  have P0 := hid (PreP.start w)
  have l1 : (dg m).length ≤ 2 := dg_len_le (by show m < 18446744073709551616; omega)
  have l2 : (dg (m + 1)).length ≤ 2 := dg_len_le (by show m + 1 < 18446744073709551616; omega)
  have AD := hid (fun (W : World) A1 (n1 c1 : Nat) (r : Rd W A1 n1 c1 (dg m)) => radd_any A1 (some ⟨W.heap.size, 0, none⟩) n1 c1 1 1 _ [1] (W.alloc (.cells #[.int .u32 1] 127)) (r.keep ((Below.refl _ _).alloc (Nat.le_refl _) _)) (one_rd W 1 (by decide) 1 rfl) (by have := r.1; omega) (by decide))
  rw [val_dg, show val [1] = 1 from rfl] at AD
  have SN := hid (fun (W : World) A1 n1 c1 (r : Rd W A1 n1 c1 (dg (m + 1))) => rbuild_any true A1 n1 c1 _ W r (by have := r.1; omega))
  rw [show iv true (dg (m + 1)) = z from by unfold iv; rw [val_dg, if_pos rfl]; omega] at SN
  clear l1 l2 hm
  go_enter Tryz.func90, Tryz.ntmps90
  go_wp2_with fail
  refine (FR.out _).mono ?_
  rintro e w1 ⟨v, rfl, ⟨A1, n1, c1, rfl, r1⟩, b1⟩
  have P1 := hid (P0.out.keep b1)
  have AE := hid (AD.out w1 A1 n1 c1 r1)
  clear r1 b1
  go_wp2_with fail
  refine (AE.out).mono ?_
  rintro e w2 ⟨v, rfl, ⟨A2, n2, c2, rfl, r2⟩, b2⟩
  have P2 := hid (P1.out.keep ((((Below.refl w1.heap.size w1).alloc (Nat.le_refl _) (.cells #[.int .u32 1] 127))).trans (b2.mono (by simp))))
  have R2 := hid r2
  clear r2 b2
  go_wp2_with fail
  refine (SN.out w2 A2 n2 c2 R2.out).mono ?_
  rintro e w3 ⟨A3, n3, c3, rfl, r3, b3⟩
  have P3 := hid (P2.out.keep b3)
  have R3 := hid r3
  clear r3 b3
  obtain ⟨u3, u4, u5, u6⟩ := P3.out.rcells
  go_wp2_with fail
  exact bodyPost_ret (v := .agg #[.bool (sg z), .slice A3 n3 c3]) (by simp [results, Tryz.results90, go_sem, u3, u4]) rfl (P3.out.end_ R3.out)
set_option maxHeartbeats 1000000 in
theorem rifrom_pos (z : Int) (w : World) (h1 : 0 ≤ z) (h2 : z ≤ 9223372036854775807) :
    Calls Tryz.prog 90 #[.int .i64 z] w (RetInt w z) := by
  obtain ⟨m, rfl⟩ : ∃ m : Nat, z = (m : Int) := ⟨z.toNat, by omega⟩
  have FR := hid (fun (W : World) => rfrom_any m W (by omega))
  have P0 := hid (PreP.start w)
  have l1 : (dg m).length ≤ 2 := dg_len_le (by show m < 18446744073709551616; omega)
  have SN := hid (fun (W : World) A1 n1 c1 (r : Rd W A1 n1 c1 (dg m)) => rbuild_any false A1 n1 c1 _ W r (by have := r.1; omega))
  rw [show iv false (dg m) = (m : Int) from by unfold iv; rw [val_dg]; rfl] at SN
  have hw : IntKind.u64.wrap (m : Int) = (m : Int) := by
    simp only [IntKind.wrap, IntKind.bits, IntKind.signed]
    simp
    omega
  have hw2 : (m : Int) % 18446744073709551616 = (m : Int) := by omega
  obtain ⟨z, hz⟩ : ∃ z : Int, z = m := ⟨_, rfl⟩
  rw [← hz] at SN
  have hz2 := hid hz
  rw [show RetInt w (m : Int) = RetInt w z from by rw [hz]]
  clear l1 hz
  go_enter Tryz.func90, Tryz.ntmps90
  go_wp2_with fail
  refine (FR.out _).mono ?_
  rintro e w1 ⟨v, rfl, ⟨A1, n1, c1, rfl, r1⟩, b1⟩
  have P1 := hid (P0.out.keep b1)
  have R1 := hid r1
  clear r1 b1
  go_wp2_with fail
  refine (SN.out w1 A1 n1 c1 R1.out).mono ?_
  rintro e w2 ⟨A2, n2, c2, rfl, r2, b2⟩
  have P2 := hid (P1.out.keep b2)
  have R2 := hid r2
  clear r2 b2
  obtain ⟨u3, u4, u5, u6⟩ := P2.out.rcells
  go_wp2_with fail
  exact bodyPost_ret (v := .agg #[.bool (sg z), .slice A2 n2 c2]) (by simp [results, Tryz.results90, go_sem, u3, u4]) rfl (P2.out.end_ R2.out)
end Go.Proofs.YtdbccidlnhjfhaaGreatDoor
