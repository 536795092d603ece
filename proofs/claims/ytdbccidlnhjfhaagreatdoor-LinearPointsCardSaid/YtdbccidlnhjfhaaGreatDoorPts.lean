/- The law LinearPoints. -/
import Derived.Test.YtdbccidlnhjfhaaGreatDoorInRx
import Derived.Test.YtdbccidlnhjfhaaGreatDoorLinLx
import Derived.Test.YtdbccidlnhjfhaaGreatDoorImp
import Derived.Test.YtdbccidlnhjfhaaGreatDoorItg
import Derived.Test.YtdbccidlnhjfhaaGreatDoorSam
import Derived.Deep.DeepCutAuto
import Derived.BigQuiet
namespace Go.Proofs.YtdbccidlnhjfhaaGreatDoor
open Go.RowKit
set_option maxRecDepth 100000
theorem same_pp {w : World} {g : Bool} {A : Option Addr} {n c : Nat} {D : Option Addr} {m d k : Nat} {p : Rat} {g2 : Bool} {B : Option Addr} {n2 c2 : Nat} {E : Option Addr} {m2 d2 k2 : Nat} (h : FrW w g A n c D m d k p) (h2 : FrW w g2 B n2 c2 E m2 d2 k2 p) :
    Calls Tryz.prog 18 #[.agg #[.bool g, .slice A n c, .slice D m d], .agg #[.bool g2, .slice B n2 c2, .slice E m2 d2]] w (RetB w true) := by
  have t := same_w h h2
  rw [decide_eq_true rfl] at t
  exact t
theorem ints_self {w : World} {A : Option Addr} {n c : Nat} {B : Option Addr} {d : Nat} {a : Nat → Int} (h : Il w A n c a) (h2 : Il w B n d a) : Calls Tryz.prog 23 #[.slice A n c, .slice B n d] w (RetB w true) := by
  have t := l_ints A n c a B n d a w h h2
  rw [show intsB n n a a = true from decide_eq_true ⟨rfl, fun _ _ => rfl⟩] at t
  exact t
def RetLi (w : World) (n : Nat) (f : Nat → Int) (e : Ending) (w' : World) : Prop := ∃ A c, e = .returned (.slice A n c) ∧ Il w' A n c f ∧ Below w.heap.size w w'
theorem Il.keep9 {w w' : World} {A : Option Addr} {n c : Nat} {f : Nat → Int} (h : Il w A n c f) (b : Below w.heap.size w w') : Il w' A n c f := by
  refine ⟨h.1, h.2.1, fun hn => ?_⟩
  obtain ⟨bb, o, hA, hlt, hc⟩ := h.2.2 hn
  exact ⟨bb, o, hA, Nat.lt_of_lt_of_le hlt b.size, fun j hj => cell_bx (hc j hj) b⟩
set_option maxHeartbeats 8000000 in
theorem linearPoints_any (p : PD) (X : LD) (TA : Option Addr) (tn tc : Nat) (v cf : Nat → Int) (w : World) (h : Pw w p) (hx : X.ok w) (hT : Ts w TA tn tc v cf) (ht : Tab w) :
    Calls Tryz.prog 4 #[.agg #[.slice p.V0 p.vn p.vc, .slice p.R0 p.rn p.rc], .slice X.A X.n X.c, .slice TA tn tc] w (RetB w true) := by
  have TB := hid ht
  have CF := hid (fun (W : World) (B : Below w.heap.size w W) => (show Calls Tryz.prog 11 #[.agg #[.slice p.V0 p.vn p.vc, .slice p.R0 p.rn p.rc], .int .i64 6, .int .i64 6] W (RetB W (fewP p.vn p.rn p.nm p.tn 6 6)) from rfewp p.V0 p.vn p.vc p.R0 p.rn p.rc p.nm p.gr p.ki p.bo p.TA p.tn p.tc p.v p.cf 6 6 W (Nat.le_trans h.vs.1 h.vs.2.1) (h.rs.keep B) h.nms (by omega) (by omega)))
  have CX := hid (fun (W : World) (B : Below w.heap.size w W) => (show Calls Tryz.prog 17 #[.slice X.A X.n X.c, .int .i64 8] W (RetB W (shortB 8 X.n X.N X.M)) from rshort X.A X.n X.c 8 X.N X.M X.qs W (hx.keep B) (by omega)))
  have tl : tn ≤ 9223372036854775807 := Nat.le_trans hT.1 hT.2.1
  have C1 := hid (fun (e2 : shortB 8 X.n X.N X.M = true) (h8 : tn ≤ 8) (W : World) (B : Below w.heap.size w W) => vdotL TA tn tc v cf X.A X.n X.c 4 X.qs W (hT.keep B) (Qw.qs (hx.keep B) (short_few e2).1) (by have := Nat.mul_le_mul_right 7 h8; omega))
  have C2 := hid (fun (e2 : shortB 8 X.n X.N X.M = true) (h8 : tn ≤ 8) (W : World) (B : Below w.heap.size w W) => rdotL TA tn tc v cf X.A X.n X.c 4 X.qs W (hT.keep B) (Qw.qs (hx.keep B) (short_few e2).1) (by have := Nat.mul_le_mul_right 7 h8; omega))
  have C3 := hid (fun (e1 : fewP p.vn p.rn p.nm p.tn 6 6 = true) (e2 : shortB 8 X.n X.N X.M = true) (W : World) (B : Below w.heap.size w W) => vcostL p.V0 p.vn p.vc p.R0 p.rn p.rc p.lo p.up p.op p.it p.co X.A X.n X.c 4 X.qs W (h.vs.keep B) (Qw.qs (hx.keep B) (short_few e2).1) (by have := (few68 e1).2; omega) (by have := Nat.mul_le_mul_right 7 (few68 e1).2; omega))
  have C4 := hid (fun (e1 : fewP p.vn p.rn p.nm p.tn 6 6 = true) (e2 : shortB 8 X.n X.N X.M = true) (W : World) (B : Below w.heap.size w W) => rcostL p.V0 p.vn p.vc p.R0 p.rn p.rc p.lo p.up p.op p.it p.co X.A X.n X.c 4 X.qs W (h.vs.keep B) (Qw.qs (hx.keep B) (short_few e2).1) (by have := Nat.mul_le_mul_right 7 (few68 e1).2; omega))
  have C5 := hid (fun (e1 : fewP p.vn p.rn p.nm p.tn 6 6 = true) (e2 : shortB 8 X.n X.N X.M = true) (W : World) (B : Below w.heap.size w W) => (show Calls Tryz.prog 24 #[.agg #[.slice p.V0 p.vn p.vc, .slice p.R0 p.rn p.rc], .slice X.A X.n X.c] W (RetLi W (vio (p.rowB (pt X.n X.qs)) p.rn).length (fun j => (((vio (p.rowB (pt X.n X.qs)) p.rn).getD j 0 : Nat) : Int))) from d_violated (h := (h.keep B).pg (few68 e1).1) (hQ := Qw.qs (hx.keep B) (short_few e2).1) (hk := by omega)))
  have C6 := hid (fun (e1 : fewP p.vn p.rn p.nm p.tn 6 6 = true) (e2 : shortB 8 X.n X.N X.M = true) (W : World) (B : Below w.heap.size w W) => (show Calls Tryz.prog 25 #[.agg #[.slice p.V0 p.vn p.vc, .slice p.R0 p.rn p.rc], .slice X.A X.n X.c] W (RetLi W (vio (p.rowB (pt X.n X.qs)) p.rn).length (fun j => (((vio (p.rowB (pt X.n X.qs)) p.rn).getD j 0 : Nat) : Int))) from r_violated (h := (h.keep B).pg (few68 e1).1) (hQ := Qw.qs (hx.keep B) (short_few e2).1) (hk := by omega)))
  have C7 := hid (fun (e1 : fewP p.vn p.rn p.nm p.tn 6 6 = true) (e2 : shortB 8 X.n X.N X.M = true) (W : World) (B : Below w.heap.size w W) => d_inside (h := (h.keep B).pg (few68 e1).1) (hQ := Qw.qs (hx.keep B) (short_few e2).1) (hk := by omega))
  have C8 := hid (fun (e1 : fewP p.vn p.rn p.nm p.tn 6 6 = true) (e2 : shortB 8 X.n X.N X.M = true) (W : World) (B : Below w.heap.size w W) => r_inside (h := (h.keep B).pg (few68 e1).1) (hQ := Qw.qs (hx.keep B) (short_few e2).1) (hk := by omega))
  have C9 := hid (fun (e2 : shortB 8 X.n X.N X.M = true) (W : World) (B : Below w.heap.size w W) => (show Calls Tryz.prog 28 #[.agg #[.slice p.V0 p.vn p.vc, .slice p.R0 p.rn p.rc], .slice X.A X.n X.c] W (RetB W (itgB p.vn p.it (fun j : Nat => atQ X.n X.qs (j : Int)))) from by
    have t := vintegral p.V0 p.vn p.vc p.R0 p.rn p.rc p.lo p.up p.op p.it p.co X.A X.n X.c 4 X.qs W (h.vs.keep B) (Qw.qs (hx.keep B) (short_few e2).1) (by omega)
    rw [itgB_congr (q := fun j : Nat => atQ X.n X.qs (j : Int)) (fun j hj => atQ_min p.vn X.n X.qs hj)] at t
    exact t))
  have C10 := hid (fun (e2 : shortB 8 X.n X.N X.M = true) (W : World) (B : Below w.heap.size w W) => rintegral p.V0 p.vn p.vc p.R0 p.rn p.rc p.lo p.up p.op p.it p.co X.A X.n X.c 4 X.qs W (h.vs.keep B) (Qw.qs (hx.keep B) (short_few e2).1) (by omega))
  obtain ⟨s1, hs1⟩ : ∃ s, s = fewP p.vn p.rn p.nm p.tn 6 6 := ⟨_, rfl⟩
  rw [← hs1] at CF C3 C4 C5 C6 C7 C8
  obtain ⟨s2, hs2⟩ : ∃ s, s = shortB 8 X.n X.N X.M := ⟨_, rfl⟩
  rw [← hs2] at CX C1 C2 C3 C4 C5 C6 C7 C8 C9 C10
  obtain ⟨qd, hqd⟩ : ∃ s, s = sumN (fun j => (cf j : Rat) * atQ X.n X.qs (v j)) tn := ⟨_, rfl⟩
  rw [← hqd] at C1 C2
  obtain ⟨qc, hqc⟩ : ∃ s, s = sumN (fun j => (p.co j : Rat) * atQ X.n X.qs (j : Int)) p.vn := ⟨_, rfl⟩
  rw [← hqc] at C3 C4
  obtain ⟨ln, hln⟩ : ∃ s, s = (vio (p.rowB (pt X.n X.qs)) p.rn).length := ⟨_, rfl⟩
  rw [← hln] at C5 C6
  obtain ⟨lf, hlf⟩ : ∃ f : Nat → Int, f = (fun j => (((vio (p.rowB (pt X.n X.qs)) p.rn).getD j 0 : Nat) : Int)) := ⟨_, rfl⟩
  rw [← hlf] at C5 C6
  obtain ⟨bi, hbi⟩ : ∃ s, s = p.inB (pt X.n X.qs) := ⟨_, rfl⟩
  rw [← hbi] at C7 C8
  obtain ⟨bg, hbg⟩ : ∃ s, s = itgB p.vn p.it (fun j : Nat => atQ X.n X.qs (j : Int)) := ⟨_, rfl⟩
  rw [← hbg] at C9 C10
  clear hx hs1 hs2 hqd hqc hln hlf hbi hbg h ht hT
  obtain ⟨V0, vn, vc, lo, up, op, it, co, R0, rn, rc, nm, gr, ki, bo, PTA, ptn, ptc, pv, pcf⟩ := p
  obtain ⟨XA, Xn, Xc, XN, XM, xs⟩ := X
  dsimp only at CF CX C1 C2 C3 C4 C5 C6 C7 C8 C9 C10 ⊢
  obtain ⟨W0, hW⟩ : ∃ W, W = w.alloc (.cells #[.slice V0 vn vc, .slice R0 rn rc] 25) := ⟨_, rfl⟩
  have B0 := bx_alloc (bx_refl w) (.cells #[.slice V0 vn vc, .slice R0 rn rc] 25)
  have K0 := Blk.new w [.slice V0 vn vc, .slice R0 rn rc] 25
  change Blk (w.alloc (.cells #[.slice V0 vn vc, .slice R0 rn rc] 25)) _ _ _ at K0
  rw [← hW] at B0 K0
  have P0 := hid (show Kp w V0 vn vc R0 rn rc W0 from ⟨B0, K0⟩)
  clear B0 K0
  go_enter Tryz.func4, Tryz.ntmps4
  go_upto_region 1 with fail
  rw [← hW]
  clear hW
  go_wp2_with fail
  refine (awk4 W0 (TB.out.keep P0.out.bel)).mono ?_
  rintro e W1 ⟨rfl, b⟩
  have P1 := hid (P0.out.keep b)
  clear P0 b
  obtain ⟨z0, z1⟩ := blk_two P1.out.box
  go_wp2_with fail
  refine (CF.out _ P1.out.bel).mono ?_
  rintro e W2 ⟨rfl, b⟩
  have P2 := hid (P1.out.keep b)
  clear P1 b z0 z1 CF
  cases s1
  · clear CX C1 C2 C3 C4 C5 C6 C7 C8 C9 C10
    go_wp2_with fail
    refine (awk4 W2 (TB.out.keep P2.out.bel)).mono ?_
    rintro e W3 ⟨rfl, b⟩
    have P4 := hid (P2.out.keep b)
    clear P2 b
    go_wp2_with fail
    go_ret
    exact vld_yes rfl P4.out.bel
  go_wp2_with fail
  refine (CX.out _ P2.out.bel).mono ?_
  rintro e W3 ⟨rfl, b⟩
  have P3 := hid (P2.out.keep b)
  clear P2 b CX
  cases s2
  · clear C1 C2 C3 C4 C5 C6 C7 C8 C9 C10
    go_wp2_with fail
    refine (awk4 W3 (TB.out.keep P3.out.bel)).mono ?_
    rintro e W4 ⟨rfl, b⟩
    have P4 := hid (P3.out.keep b)
    clear P3 b
    go_wp2_with fail
    go_ret
    exact vld_yes rfl P4.out.bel
  by_cases h8 : 8 < tn
  · have t1 : decide ((8 : Int) < (tn : Int)) = true := decide_eq_true (by omega)
    have t2 : decide (8 < tn) = true := decide_eq_true h8
    clear C1 C2 C3 C4 C5 C6 C7 C8 C9 C10
    go_wp2_with fail
    refine (awk4 W3 (TB.out.keep P3.out.bel)).mono ?_
    rintro e W4 ⟨rfl, b⟩
    have P4 := hid (P3.out.keep b)
    clear P3 b
    go_wp2_with fail
    go_ret
    exact vld_yes rfl P4.out.bel
  have t1 : decide ((8 : Int) < (tn : Int)) = false := decide_eq_false (by omega)
  have t2 : decide (8 < tn) = false := decide_eq_false h8
  have h9 : tn ≤ 8 := by omega
  replace C1 := hid (C1.out (by simp) h9)
  replace C2 := hid (C2.out (by simp) h9)
  replace C3 := hid (C3.out (by simp) (by simp))
  replace C4 := hid (C4.out (by simp) (by simp))
  replace C5 := hid (C5.out (by simp) (by simp))
  replace C6 := hid (C6.out (by simp) (by simp))
  replace C7 := hid (C7.out (by simp) (by simp))
  replace C8 := hid (C8.out (by simp) (by simp))
  replace C9 := hid (C9.out (by simp))
  replace C10 := hid (C10.out (by simp))
  have M := hid P3.out
  clear TB P3
  go_upto_region 3 with fail
  clear t1 t2 h8 h9
  (try simp only [List.append_eq, List.cons_append, List.nil_append])
  refine wp_region_noPanic ?_
  refine wp_region_held_drew (S := (fun W => W.cell? ⟨w.heap.size, 0, none⟩ = some (.slice V0 vn vc) ∧ W.cell? ⟨w.heap.size, 1, none⟩ = some (.slice R0 rn rc))) (by kernel_rfl) ?_ (fun hH => ?_)
  exact blk_two (M.out.keep (bx_drew (bx_refl W3))).box
  have bd := bx_drew (bx_refl W3)
  obtain ⟨E0, hW0⟩ : ∃ W, W = W3.drew := ⟨_, rfl⟩
  rw [← hW0] at bd hH ⊢
  clear hW0
  replace M := hid (M.out.keep bd)
  clear bd
  refine tk 0 hH ?_
  (try simp only [Act.put, gy0, gy1, gy2])
  refine tk 1 hH ?_
  (try simp only [Act.put, gy0, gy1, gy2])
  refine tk 3 hH ?_
  (try simp only [Act.put, gy0, gy1, gy2])
  refine tk 4 hH ?_
  (try simp only [Act.put, gy0, gy1, gy2])
  refine wpAnyH_ready (rs := [2]) (by kernel_rfl) (by simp) ?_
  refine rdy (fun K hK => ?_) AllReadyH.nil
  go_simp
  refine (C1.out _ M.out.bel).mono ?_
  rintro e wc ⟨g1, A1, n1, c1, D1, m1, d1, rfl, r, b⟩
  replace M := hid (M.out.keep b)
  have R1 := hid r
  clear r b hH
  (try go_wp2_with fail)
  refine hK.out _ _ ?_ (fun hH => ?_)
  exact blk_two M.out.box
  clear hK K
  (try simp only [Act.put, gy0, gy1, gy2])
  refine wpAnyH_ready (rs := [5]) (by kernel_rfl) (by simp) ?_
  refine rdy (fun K hK => ?_) AllReadyH.nil
  go_simp
  refine (C2.out _ M.out.bel).mono ?_
  rintro e wc ⟨g2, A2, n2, c2, D2, m2, d2, rfl, r, b⟩
  replace M := hid (M.out.keep b)
  replace R1 := hid (R1.out.keep b)
  have R2 := hid r
  clear r b hH
  (try go_wp2_with fail)
  refine hK.out _ _ ?_ (fun hH => ?_)
  exact blk_two M.out.box
  clear hK K
  (try simp only [Act.put, gy0, gy1, gy2])
  refine wpAnyH_ready (rs := [6]) (by kernel_rfl) (by simp) ?_
  refine rdy (fun K hK => ?_) AllReadyH.nil
  go_simp
  refine (same_pp R1.out R2.out).mono ?_
  rintro e wc ⟨rfl, b⟩
  replace M := hid (M.out.keep b)
  clear b hH R1 R2
  (try go_wp2_with fail)
  refine hK.out _ _ ?_ (fun hH => ?_)
  exact blk_two M.out.box
  clear hK K
  (try simp only [Act.put, gy0, gy1, gy2])
  refine tk 7 hH ?_
  (try simp only [Act.put, gy0, gy1, gy2])
  refine tk 8 hH ?_
  (try simp only [Act.put, gy0, gy1, gy2])
  refine tk 9 hH ?_
  (try simp only [Act.put, gy0, gy1, gy2])
  refine tk 11 hH ?_
  (try simp only [Act.put, gy0, gy1, gy2])
  refine tk 12 hH ?_
  (try simp only [Act.put, gy0, gy1, gy2])
  refine wpAnyH_ready (rs := [10]) (by kernel_rfl) (by simp) ?_
  refine rdy (fun K hK => ?_) AllReadyH.nil
  go_simp
  refine (C3.out _ M.out.bel).mono ?_
  rintro e wc ⟨g1, A1, n1, c1, D1, m1, d1, rfl, r, b⟩
  replace M := hid (M.out.keep b)
  have R1 := hid r
  clear r b hH
  (try go_wp2_with fail)
  refine hK.out _ _ ?_ (fun hH => ?_)
  exact blk_two M.out.box
  clear hK K
  (try simp only [Act.put, gy0, gy1, gy2])
  refine wpAnyH_ready (rs := [13]) (by kernel_rfl) (by simp) ?_
  refine rdy (fun K hK => ?_) AllReadyH.nil
  go_simp
  refine (C4.out _ M.out.bel).mono ?_
  rintro e wc ⟨g2, A2, n2, c2, D2, m2, d2, rfl, r, b⟩
  replace M := hid (M.out.keep b)
  replace R1 := hid (R1.out.keep b)
  have R2 := hid r
  clear r b hH
  (try go_wp2_with fail)
  refine hK.out _ _ ?_ (fun hH => ?_)
  exact blk_two M.out.box
  clear hK K
  (try simp only [Act.put, gy0, gy1, gy2])
  refine wpAnyH_ready (rs := [14]) (by kernel_rfl) (by simp) ?_
  refine rdy (fun K hK => ?_) AllReadyH.nil
  go_simp
  refine (same_pp R1.out R2.out).mono ?_
  rintro e wc ⟨rfl, b⟩
  replace M := hid (M.out.keep b)
  clear b hH R1 R2
  (try go_wp2_with fail)
  refine hK.out _ _ ?_ (fun hH => ?_)
  exact blk_two M.out.box
  clear hK K
  (try simp only [Act.put, gy0, gy1, gy2])
  refine tk 15 hH ?_
  (try simp only [Act.put, gy0, gy1, gy2])
  refine tk 16 hH ?_
  (try simp only [Act.put, gy0, gy1, gy2])
  refine tk 17 hH ?_
  (try simp only [Act.put, gy0, gy1, gy2])
  refine tk 18 hH ?_
  (try simp only [Act.put, gy0, gy1, gy2])
  refine tk 20 hH ?_
  (try simp only [Act.put, gy0, gy1, gy2])
  refine tk 21 hH ?_
  (try simp only [Act.put, gy0, gy1, gy2])
  refine wpAnyH_ready (rs := [19]) (by kernel_rfl) (by simp) ?_
  refine rdy (fun K hK => ?_) AllReadyH.nil
  go_simp
  refine (C5.out _ M.out.bel).mono ?_
  rintro e wc ⟨LA, Lc, rfl, il, b⟩
  replace M := hid (M.out.keep b)
  have I1 := hid il
  clear il b hH
  (try go_wp2_with fail)
  refine hK.out _ _ ?_ (fun hH => ?_)
  exact blk_two M.out.box
  clear hK K
  (try simp only [Act.put, gy0, gy1, gy2])
  refine wpAnyH_ready (rs := [22]) (by kernel_rfl) (by simp) ?_
  refine rdy (fun K hK => ?_) AllReadyH.nil
  go_simp
  refine (C6.out _ M.out.bel).mono ?_
  rintro e wc ⟨LB, Ld, rfl, il, b⟩
  replace M := hid (M.out.keep b)
  replace I1 := hid (Il.keep9 I1.out b)
  have I2 := hid il
  clear il b hH
  (try go_wp2_with fail)
  refine hK.out _ _ ?_ (fun hH => ?_)
  exact blk_two M.out.box
  clear hK K
  (try simp only [Act.put, gy0, gy1, gy2])
  refine wpAnyH_ready (rs := [23]) (by kernel_rfl) (by simp) ?_
  refine rdy (fun K hK => ?_) AllReadyH.nil
  go_simp
  refine (ints_self I1.out I2.out).mono ?_
  rintro e wc ⟨rfl, b⟩
  replace M := hid (M.out.keep b)
  clear b hH I1 I2
  (try go_wp2_with fail)
  refine hK.out _ _ ?_ (fun hH => ?_)
  exact blk_two M.out.box
  clear hK K
  (try simp only [Act.put, gy0, gy1, gy2])
  refine tk 24 hH ?_
  (try simp only [Act.put, gy0, gy1, gy2])
  refine tk 25 hH ?_
  (try simp only [Act.put, gy0, gy1, gy2])
  refine tk 26 hH ?_
  (try simp only [Act.put, gy0, gy1, gy2])
  refine tk 27 hH ?_
  (try simp only [Act.put, gy0, gy1, gy2])
  refine tk 29 hH ?_
  (try simp only [Act.put, gy0, gy1, gy2])
  refine tk 30 hH ?_
  (try simp only [Act.put, gy0, gy1, gy2])
  refine wpAnyH_ready (rs := [28]) (by kernel_rfl) (by simp) ?_
  refine rdy (fun K hK => ?_) AllReadyH.nil
  go_simp
  refine (C7.out _ M.out.bel).mono ?_
  rintro e wc ⟨rfl, b⟩
  replace M := hid (M.out.keep b)
  clear b hH
  (try go_wp2_with fail)
  refine hK.out _ _ ?_ (fun hH => ?_)
  exact blk_two M.out.box
  clear hK K
  (try simp only [Act.put, gy0, gy1, gy2])
  refine wpAnyH_ready (rs := [31]) (by kernel_rfl) (by simp) ?_
  refine rdy (fun K hK => ?_) AllReadyH.nil
  go_simp
  refine (C8.out _ M.out.bel).mono ?_
  rintro e wc ⟨rfl, b⟩
  replace M := hid (M.out.keep b)
  have tbi : (bi == bi) = true := by simp
  clear b hH
  (try go_wp2_with fail)
  refine hK.out _ _ ?_ (fun hH => ?_)
  exact blk_two M.out.box
  clear hK K
  (try simp only [Act.put, gy0, gy1, gy2])
  refine tk 32 hH ?_
  (try simp only [Act.put, gy0, gy1, gy2])
  refine tk 33 hH ?_
  (try simp only [Act.put, gy0, gy1, gy2])
  refine tk 34 hH ?_
  (try simp only [Act.put, gy0, gy1, gy2])
  refine tk 35 hH ?_
  (try simp only [Act.put, gy0, gy1, gy2])
  refine tk 36 hH ?_
  (try simp only [Act.put, gy0, gy1, gy2])
  refine tk 38 hH ?_
  (try simp only [Act.put, gy0, gy1, gy2])
  refine tk 39 hH ?_
  (try simp only [Act.put, gy0, gy1, gy2])
  refine wpAnyH_ready (rs := [37]) (by kernel_rfl) (by simp) ?_
  refine rdy (fun K hK => ?_) AllReadyH.nil
  go_simp
  refine (C9.out _ M.out.bel).mono ?_
  rintro e wc ⟨rfl, b⟩
  replace M := hid (M.out.keep b)
  clear b hH
  (try go_wp2_with fail)
  refine hK.out _ _ ?_ (fun hH => ?_)
  exact blk_two M.out.box
  clear hK K
  (try simp only [Act.put, gy0, gy1, gy2])
  refine wpAnyH_ready (rs := [40]) (by kernel_rfl) (by simp) ?_
  refine rdy (fun K hK => ?_) AllReadyH.nil
  go_simp
  refine (C10.out _ M.out.bel).mono ?_
  rintro e wc ⟨rfl, b⟩
  replace M := hid (M.out.keep b)
  have tbg : (bg == bg) = true := by simp
  clear b hH
  (try go_wp2_with fail)
  refine hK.out _ _ ?_ (fun hH => ?_)
  exact blk_two M.out.box
  clear hK K
  (try simp only [Act.put, gy0, gy1, gy2])
  refine tk 41 hH ?_
  (try simp only [Act.put, gy0, gy1, gy2])
  refine tk 42 hH ?_
  (try simp only [Act.put, gy0, gy1, gy2])
  refine tk 43 hH ?_
  (try simp only [Act.put, gy0, gy1, gy2])
  refine wpAnyH_done (by kernel_rfl) ?_ _
  refine NoPanic.normal ?_
  clear hH
  have BF := hid M.out.bel
  clear M C1 C2 C3 C4 C5 C6 C7 C8 C9 C10
  go_wp2_with fail
  go_ret
  exact vld_yes (by simp) BF.out
end Go.Proofs.YtdbccidlnhjfhaaGreatDoor
