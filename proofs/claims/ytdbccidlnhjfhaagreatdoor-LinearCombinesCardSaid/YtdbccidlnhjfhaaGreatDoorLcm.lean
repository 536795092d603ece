/- The law LinearCombines. -/
import Derived.Test.YtdbccidlnhjfhaaGreatDoorLinMx
import Derived.Test.YtdbccidlnhjfhaaGreatDoorImp
import Derived.Test.YtdbccidlnhjfhaaGreatDoorLinM
import Derived.Test.YtdbccidlnhjfhaaGreatDoorSam
import Derived.Deep.DeepCutAuto
import Derived.BigQuiet
namespace Go.Proofs.YtdbccidlnhjfhaaGreatDoor
open Go.RowKit
set_option maxRecDepth 100000
theorem d_combineL {p : PD} {A : Option Addr} {n c k : Nat} {qs : Nat → Rat} {w : World} (h : Pg w p) (hQ : Qs w A n c k qs) (hk : k ≤ 100) : Calls Tryz.prog 30 #[.agg #[.slice p.V0 p.vn p.vc, .slice p.R0 p.rn p.rc], .slice A n c] w (RetCw w p.vn 1100003 (cmbA p.rn p.tn p.v p.cf (pt n qs)) (cmbB p.rn p.bo (pt n qs))) := by
  have h1 := h.vl
  have h2 := h.rl
  have h3 : (p.rn * 100 + p.rn) * (k + 3) ≤ (100 * 100 + 100) * 103 := mul_le (by omega) (by omega)
  exact (vcombineL p.V0 p.vn p.vc p.R0 p.rn p.rc p.nm p.gr p.ki p.bo p.TA p.tn p.tc p.v p.cf A n c k qs w (by omega) h.rs 100 h.tl (by omega) (by omega) hQ 1100003 (by omega) (by omega))
theorem r_combineL {p : PD} {A : Option Addr} {n c k : Nat} {qs : Nat → Rat} {w : World} (h : Pg w p) (hQ : Qs w A n c k qs) (hk : k ≤ 100) : Calls Tryz.prog 31 #[.agg #[.slice p.V0 p.vn p.vc, .slice p.R0 p.rn p.rc], .slice A n c] w (RetCw w p.vn 1100003 (cmbA p.rn p.tn p.v p.cf (pt n qs)) (cmbB p.rn p.bo (pt n qs))) :=
  rcombineL p.V0 p.vn p.vc p.R0 p.rn p.rc p.nm p.gr p.ki p.bo p.TA p.tn p.tc p.v p.cf A n c k qs w (by have := h.vl; omega) h.rl h.rs h.tl hQ hk
theorem d_leastL {p : PD} {A : Option Addr} {n c k : Nat} {qs : Nat → Rat} {w : World} (h : Pg w p) (hQ : Qs w A n c k qs) (hk : k ≤ 100) : Calls Tryz.prog 32 #[.agg #[.slice p.V0 p.vn p.vc, .slice p.R0 p.rn p.rc], .slice A n c] w (RetWB w (lstV p.vn p.lo p.up p.op (pt n qs)) (p.vn * (k + 3) + 1) (lstB p.vn p.lo p.up p.op (pt n qs))) := by
  have h1 := h.vl
  have h3 : p.vn * (k + 3) ≤ 100 * 103 := mul_le (by omega) (by omega)
  have := vleastL p.V0 p.vn p.vc p.R0 p.rn p.rc p.lo p.up p.op p.it p.co A n c k qs w h.vs hQ (by omega) (by omega)
  rw [lstV_congr (q := pt n qs) (fun j hj => atQ_min p.vn n qs hj), lstB_congr (q := pt n qs) (fun j hj => atQ_min p.vn n qs hj)] at this
  exact this
theorem r_leastL {p : PD} {A : Option Addr} {n c k : Nat} {qs : Nat → Rat} {w : World} (h : Pg w p) (hQ : Qs w A n c k qs) (hk : k ≤ 100) : Calls Tryz.prog 33 #[.agg #[.slice p.V0 p.vn p.vc, .slice p.R0 p.rn p.rc], .slice A n c] w (RetWB w (lstV p.vn p.lo p.up p.op (pt n qs)) (p.vn * (k + 3) + 1) (lstB p.vn p.lo p.up p.op (pt n qs))) := by
  have h1 := h.vl
  have h3 : p.vn * (k + 3) ≤ 100 * 103 := mul_le (by omega) (by omega)
  exact rleastL p.V0 p.vn p.vc p.R0 p.rn p.rc p.lo p.up p.op p.it p.co A n c k qs w h.vs hQ (by omega)
theorem r_signedL {p : PD} {A : Option Addr} {n c k : Nat} {qs : Nat → Rat} {w : World} (h : Pg w p) (hQ : Qs w A n c k qs) (hk : k ≤ 100) : Calls Tryz.prog 35 #[.agg #[.slice p.V0 p.vn p.vc, .slice p.R0 p.rn p.rc], .slice A n c] w (RetB w (sgdB p.rn p.ki (pt n qs))) :=
  rsigned p.V0 p.vn p.vc p.R0 p.rn p.rc p.nm p.gr p.ki p.bo p.TA p.tn p.tc p.v p.cf A n c k qs w h.rs hQ (by omega)
theorem rats_self (n : Nat) (a : Nat → Rat) : ratsB n n a a = true := decide_eq_true ⟨rfl, fun _ _ => rfl⟩
theorem same_ww {w : World} {g : Bool} {A : Option Addr} {n c : Nat} {D : Option Addr} {m d k : Nat} {p : Rat} {g2 : Bool} {B : Option Addr} {n2 c2 : Nat} {E : Option Addr} {m2 d2 k2 : Nat} (h : FrW w g A n c D m d k p) (h2 : FrW w g2 B n2 c2 E m2 d2 k2 p) :
    Calls Tryz.prog 18 #[.agg #[.bool g, .slice A n c, .slice D m d], .agg #[.bool g2, .slice B n2 c2, .slice E m2 d2]] w (RetB w true) := by
  have t := same_w h h2
  rw [decide_eq_true rfl] at t
  exact t
theorem rats_ww {w : World} {Ca n k Cc : Nat} {a : Nat → Rat} (h : QW w Ca n k a) (h2 : QW w Cc n k a) (hn : n ≤ 1000000) : Calls Tryz.prog 36 #[.slice (some ⟨Ca, 0, none⟩) n n, .slice (some ⟨Cc, 0, none⟩) n n] w (RetB w true) := by
  have t := l_rats Ca n a Cc n a k w h h2 hn hn
  rw [rats_self] at t
  exact t
set_option maxHeartbeats 8000000 in
theorem linearCombines_any (p : PD) (X Y : LD) (w : World) (h : Pw w p) (hx : X.ok w) (hy : Y.ok w) (ht : Tab w) :
    Calls Tryz.prog 5 #[.agg #[.slice p.V0 p.vn p.vc, .slice p.R0 p.rn p.rc], .slice X.A X.n X.c, .slice Y.A Y.n Y.c] w (RetB w true) := by
  have TB := hid ht
  have CF := hid (fun (W : World) (B : Below w.heap.size w W) => (show Calls Tryz.prog 11 #[.agg #[.slice p.V0 p.vn p.vc, .slice p.R0 p.rn p.rc], .int .i64 6, .int .i64 6] W (RetB W (fewP p.vn p.rn p.nm p.tn 6 6)) from rfewp p.V0 p.vn p.vc p.R0 p.rn p.rc p.nm p.gr p.ki p.bo p.TA p.tn p.tc p.v p.cf 6 6 W (Nat.le_trans h.vs.1 h.vs.2.1) (h.rs.keep B) h.nms (by omega) (by omega)))
  have CX := hid (fun (W : World) (B : Below w.heap.size w W) => (show Calls Tryz.prog 17 #[.slice X.A X.n X.c, .int .i64 8] W (RetB W (shortB 8 X.n X.N X.M)) from rshort X.A X.n X.c 8 X.N X.M X.qs W (hx.keep B) (by omega)))
  have CY := hid (fun (W : World) (B : Below w.heap.size w W) => (show Calls Tryz.prog 17 #[.slice Y.A Y.n Y.c, .int .i64 8] W (RetB W (shortB 8 Y.n Y.N Y.M)) from rshort Y.A Y.n Y.c 8 Y.N Y.M Y.qs W (hy.keep B) (by omega)))
  have C1 := hid (fun (e1 : fewP p.vn p.rn p.nm p.tn 6 6 = true) (e2 : shortB 8 X.n X.N X.M = true) (W : World) (B : Below w.heap.size w W) => d_combineL (h := ((h.keep B).pg (few68 e1).1)) (hQ := Qw.qs (hx.keep B) (short_few e2).1) (hk := by omega))
  have C2 := hid (fun (e1 : fewP p.vn p.rn p.nm p.tn 6 6 = true) (e2 : shortB 8 X.n X.N X.M = true) (W : World) (B : Below w.heap.size w W) => r_combineL (h := ((h.keep B).pg (few68 e1).1)) (hQ := Qw.qs (hx.keep B) (short_few e2).1) (hk := by omega))
  have C3 := hid (fun (e1 : fewP p.vn p.rn p.nm p.tn 6 6 = true) (e3 : shortB 8 Y.n Y.N Y.M = true) (W : World) (B : Below w.heap.size w W) => d_leastL (h := ((h.keep B).pg (few68 e1).1)) (hQ := Qw.qs (hy.keep B) (short_few e3).1) (hk := by omega))
  have C4 := hid (fun (e1 : fewP p.vn p.rn p.nm p.tn 6 6 = true) (e3 : shortB 8 Y.n Y.N Y.M = true) (W : World) (B : Below w.heap.size w W) => r_leastL (h := ((h.keep B).pg (few68 e1).1)) (hQ := Qw.qs (hy.keep B) (short_few e3).1) (hk := by omega))
  have C5 := hid (fun (e1 : fewP p.vn p.rn p.nm p.tn 6 6 = true) (e2 : shortB 8 X.n X.N X.M = true) (W : World) (B : Below w.heap.size w W) => d_signed (h := ((h.keep B).pg (few68 e1).1)) (hQ := Qw.qs (hx.keep B) (short_few e2).1) (hk := by omega))
  have C6 := hid (fun (e1 : fewP p.vn p.rn p.nm p.tn 6 6 = true) (e2 : shortB 8 X.n X.N X.M = true) (W : World) (B : Below w.heap.size w W) => r_signedL (h := ((h.keep B).pg (few68 e1).1)) (hQ := Qw.qs (hx.keep B) (short_few e2).1) (hk := by omega))
  have VN := fun (e1 : fewP p.vn p.rn p.nm p.tn 6 6 = true) => (few68 e1).2
  obtain ⟨s1, hs1⟩ : ∃ s, s = fewP p.vn p.rn p.nm p.tn 6 6 := ⟨_, rfl⟩
  rw [← hs1] at CF C1 C2 C3 C4 C5 C6 VN
  obtain ⟨s2, hs2⟩ : ∃ s, s = shortB 8 X.n X.N X.M := ⟨_, rfl⟩
  rw [← hs2] at CX C1 C2 C5 C6
  obtain ⟨s3, hs3⟩ : ∃ s, s = shortB 8 Y.n Y.N Y.M := ⟨_, rfl⟩
  rw [← hs3] at CY C3 C4
  obtain ⟨sd, hsd⟩ : ∃ s, s = sgdB p.rn p.ki (pt X.n X.qs) := ⟨_, rfl⟩
  rw [← hsd] at C5 C6
  obtain ⟨cm, hcm⟩ : ∃ s, s = cmbA p.rn p.tn p.v p.cf (pt X.n X.qs) := ⟨_, rfl⟩
  rw [← hcm] at C1 C2
  obtain ⟨qb, hqb⟩ : ∃ s, s = cmbB p.rn p.bo (pt X.n X.qs) := ⟨_, rfl⟩
  rw [← hqb] at C1 C2
  obtain ⟨lv, hlv⟩ : ∃ s, s = lstV p.vn p.lo p.up p.op (pt Y.n Y.qs) := ⟨_, rfl⟩
  rw [← hlv] at C3 C4
  obtain ⟨lb, hlb⟩ : ∃ s, s = lstB p.vn p.lo p.up p.op (pt Y.n Y.qs) := ⟨_, rfl⟩
  rw [← hlb] at C3 C4
  have HN := hid VN
  clear hx hy hs1 hs2 hs3 hsd hcm hqb hlv hlb VN h ht
  obtain ⟨V0, vn, vc, lo, up, op, it, co, R0, rn, rc, nm, gr, ki, bo, TA, tn, tc, v, cf⟩ := p
  obtain ⟨XA, Xn, Xc, XN, XM, xs⟩ := X
  obtain ⟨YA, Yn, Yc, YN, YM, ys⟩ := Y
  dsimp only at CF CX CY C1 C2 C3 C4 C5 C6 HN ⊢
  obtain ⟨W0, hW⟩ : ∃ W, W = w.alloc (.cells #[.slice V0 vn vc, .slice R0 rn rc] 25) := ⟨_, rfl⟩
  have B0 := bx_alloc (bx_refl w) (.cells #[.slice V0 vn vc, .slice R0 rn rc] 25)
  have K0 := Blk.new w [.slice V0 vn vc, .slice R0 rn rc] 25
  change Blk (w.alloc (.cells #[.slice V0 vn vc, .slice R0 rn rc] 25)) _ _ _ at K0
  rw [← hW] at B0 K0
  have P0 := hid (show Kp w V0 vn vc R0 rn rc W0 from ⟨B0, K0⟩)
  clear B0 K0
  go_enter Tryz.func5, Tryz.ntmps5
  go_upto_region 1 with fail
  rw [← hW]
  clear hW
  go_wp2_with fail
  refine (awk4 W0 (TB.out.keep P0.out.bel)).mono ?_
  rintro e W1 ⟨rfl, b⟩
  have P1 := hid (P0.out.keep b)
  clear P0 b
  obtain ⟨z0, z1⟩ := blk_two P1.out.box
  go_wp2_with fail
  refine (CF.out _ P1.out.bel).mono ?_
  rintro e W2 ⟨rfl, b⟩
  have P2 := hid (P1.out.keep b)
  clear P1 b z0 z1 CF
  cases s1
  · clear CX CY C1 C2 C3 C4 C5 C6 HN
    go_wp2_with fail
    refine (awk4 W2 (TB.out.keep P2.out.bel)).mono ?_
    rintro e W3 ⟨rfl, b⟩
    have P4 := hid (P2.out.keep b)
    clear P2 b
    go_wp2_with fail
    go_ret
    exact vld_yes rfl P4.out.bel
  replace C1 := hid (C1.out rfl)
  replace C2 := hid (C2.out rfl)
  replace C3 := hid (C3.out rfl)
  replace C4 := hid (C4.out rfl)
  replace C5 := hid (C5.out rfl)
  replace C6 := hid (C6.out rfl)
  replace HN := hid (HN.out rfl)
  go_wp2_with fail
  refine (CX.out _ P2.out.bel).mono ?_
  rintro e W3 ⟨rfl, b⟩
  have P3 := hid (P2.out.keep b)
  clear P2 b CX
  cases s2
  · clear CY C1 C2 C3 C4 C5 C6 HN
    go_wp2_with fail
    refine (awk4 W3 (TB.out.keep P3.out.bel)).mono ?_
    rintro e W4 ⟨rfl, b⟩
    have P4 := hid (P3.out.keep b)
    clear P3 b
    go_wp2_with fail
    go_ret
    exact vld_yes rfl P4.out.bel
  replace C1 := hid (C1.out rfl)
  replace C2 := hid (C2.out rfl)
  replace C5 := hid (C5.out rfl)
  replace C6 := hid (C6.out rfl)
  go_wp2_with fail
  refine (CY.out _ P3.out.bel).mono ?_
  rintro e W4 ⟨rfl, b⟩
  have P4 := hid (P3.out.keep b)
  clear P3 b CY
  cases s3
  · clear C1 C2 C3 C4 C5 C6 HN
    go_wp2_with fail
    refine (awk4 W4 (TB.out.keep P4.out.bel)).mono ?_
    rintro e W5 ⟨rfl, b⟩
    have P5 := hid (P4.out.keep b)
    clear P4 b
    go_wp2_with fail
    go_ret
    exact vld_yes rfl P5.out.bel
  replace C3 := hid (C3.out rfl)
  replace C4 := hid (C4.out rfl)
  clear TB
  obtain ⟨z0, z1⟩ := blk_two P4.out.box
  go_wp2_with fail
  refine (C1.out _ P4.out.bel).mono ?_
  rintro e U0 ⟨L0, g0, A0, n0, c0, D0, m0, d0, rfl, ql, ff, _, b⟩
  have P_1 := hid (P4.out.keep b)
  clear P4
  have QA := hid ql
  clear ql
  have FA := hid ff
  clear C1 ff b z0 z1
  go_upto_region 4 with fail
  obtain ⟨M0, ba, hW, hp, b, kk⟩ := mk_cells U0 [.bool g0, .slice A0 n0 c0, .slice D0 m0 d0] 41
  simp only [List.toArray] at hW
  rw [← hW, ← hp]
  have P_2 := hid (P_1.out.keep b)
  clear P_1
  have QA_2 := hid (QA.out.keep b)
  clear QA
  have FA_2 := hid (FA.out.keep b)
  clear FA
  have Kba := hid kk
  clear hW hp b kk
  obtain ⟨z0, z1⟩ := blk_two P_2.out.box
  go_wp2_with fail
  refine (C2.out _ P_2.out.bel).mono ?_
  rintro e U1 ⟨L1, g1, A1, n1, c1, D1, m1, d1, rfl, ql, ff, _, b⟩
  have P_3 := hid (P_2.out.keep b)
  clear P_2
  have QA_3 := hid (QA_2.out.keep b)
  clear QA_2
  have FA_3 := hid (FA_2.out.keep b)
  clear FA_2
  have Kba_3 := hid (Kba.out.keep b)
  clear Kba
  have QC := hid ql
  clear ql
  have FC := hid ff
  clear C2 ff b z0 z1
  go_upto_region 5 with fail
  obtain ⟨M1, bc, hW, hp, b, kk⟩ := mk_cells U1 [.bool g1, .slice A1 n1 c1, .slice D1 m1 d1] 41
  simp only [List.toArray] at hW
  rw [← hW, ← hp]
  have P_4 := hid (P_3.out.keep b)
  clear P_3
  have QA_4 := hid (QA_3.out.keep b)
  clear QA_3
  have FA_4 := hid (FA_3.out.keep b)
  clear FA_3
  have Kba_4 := hid (Kba_3.out.keep b)
  clear Kba_3
  have QC_4 := hid (QC.out.keep b)
  clear QC
  have FC_4 := hid (FC.out.keep b)
  clear FC
  have Kbc := hid kk
  clear hW hp b kk
  obtain ⟨z0, z1⟩ := blk_two P_4.out.box
  go_wp2_with fail
  refine (C3.out _ P_4.out.bel).mono ?_
  rintro e U2 ⟨g2, A2, n2, c2, D2, m2, d2, rfl, ff, b⟩
  have P_5 := hid (P_4.out.keep b)
  clear P_4
  have QA_5 := hid (QA_4.out.keep b)
  clear QA_4
  have FA_5 := hid (FA_4.out.keep b)
  clear FA_4
  have Kba_5 := hid (Kba_4.out.keep b)
  clear Kba_4
  have QC_5 := hid (QC_4.out.keep b)
  clear QC_4
  have FC_5 := hid (FC_4.out.keep b)
  clear FC_4
  have Kbc_5 := hid (Kbc.out.keep b)
  clear Kbc
  have FV := hid ff
  clear C3 ff b z0 z1
  go_upto_region 6 with fail
  obtain ⟨M2, bv, hW, hp, b, kk⟩ := mk_cells U2 [.bool g2, .slice A2 n2 c2, .slice D2 m2 d2] 41
  simp only [List.toArray] at hW
  rw [← hW, ← hp]
  have P_6 := hid (P_5.out.keep b)
  clear P_5
  have QA_6 := hid (QA_5.out.keep b)
  clear QA_5
  have FA_6 := hid (FA_5.out.keep b)
  clear FA_5
  have Kba_6 := hid (Kba_5.out.keep b)
  clear Kba_5
  have QC_6 := hid (QC_5.out.keep b)
  clear QC_5
  have FC_6 := hid (FC_5.out.keep b)
  clear FC_5
  have Kbc_6 := hid (Kbc_5.out.keep b)
  clear Kbc_5
  have FV_6 := hid (FV.out.keep b)
  clear FV
  have Kbv := hid kk
  clear hW hp b kk
  obtain ⟨z0, z1⟩ := blk_two P_6.out.box
  go_wp2_with fail
  refine (C4.out _ P_6.out.bel).mono ?_
  rintro e U3 ⟨g3, A3, n3, c3, D3, m3, d3, rfl, ff, b⟩
  have P_7 := hid (P_6.out.keep b)
  clear P_6
  have QA_7 := hid (QA_6.out.keep b)
  clear QA_6
  have FA_7 := hid (FA_6.out.keep b)
  clear FA_6
  have Kba_7 := hid (Kba_6.out.keep b)
  clear Kba_6
  have QC_7 := hid (QC_6.out.keep b)
  clear QC_6
  have FC_7 := hid (FC_6.out.keep b)
  clear FC_6
  have Kbc_7 := hid (Kbc_6.out.keep b)
  clear Kbc_6
  have FV_7 := hid (FV_6.out.keep b)
  clear FV_6
  have Kbv_7 := hid (Kbv.out.keep b)
  clear Kbv
  have FW := hid ff
  clear C4 ff b z0 z1
  go_upto_region 7 with fail
  obtain ⟨M3, bw, hW, hp, b, kk⟩ := mk_cells U3 [.bool g3, .slice A3 n3 c3, .slice D3 m3 d3] 41
  simp only [List.toArray] at hW
  rw [← hW, ← hp]
  have P_8 := hid (P_7.out.keep b)
  clear P_7
  have QA_8 := hid (QA_7.out.keep b)
  clear QA_7
  have FA_8 := hid (FA_7.out.keep b)
  clear FA_7
  have Kba_8 := hid (Kba_7.out.keep b)
  clear Kba_7
  have QC_8 := hid (QC_7.out.keep b)
  clear QC_7
  have FC_8 := hid (FC_7.out.keep b)
  clear FC_7
  have Kbc_8 := hid (Kbc_7.out.keep b)
  clear Kbc_7
  have FV_8 := hid (FV_7.out.keep b)
  clear FV_7
  have Kbv_8 := hid (Kbv_7.out.keep b)
  clear Kbv_7
  have FW_8 := hid (FW.out.keep b)
  clear FW
  have Kbw := hid kk
  clear hW hp b kk
  obtain ⟨z0, z1⟩ := blk_two P_8.out.box
  clear z0 z1
  (try simp only [List.append_eq, List.cons_append, List.nil_append])
  refine wp_region_noPanic ?_
  refine wp_region_held_drew (S := (fun W => (W.cell? ⟨w.heap.size, 0, none⟩ = some (.slice V0 vn vc) ∧ W.cell? ⟨w.heap.size, 1, none⟩ = some (.slice R0 rn rc)) ∧ (W.cell? ⟨ba, 0, none⟩ = some (.bool g0) ∧ W.cell? ⟨ba, 1, none⟩ = some (.slice A0 n0 c0) ∧ W.cell? ⟨ba, 2, none⟩ = some (.slice D0 m0 d0)) ∧ (W.cell? ⟨bc, 0, none⟩ = some (.bool g1) ∧ W.cell? ⟨bc, 1, none⟩ = some (.slice A1 n1 c1) ∧ W.cell? ⟨bc, 2, none⟩ = some (.slice D1 m1 d1)) ∧ (W.cell? ⟨bv, 0, none⟩ = some (.bool g2) ∧ W.cell? ⟨bv, 1, none⟩ = some (.slice A2 n2 c2) ∧ W.cell? ⟨bv, 2, none⟩ = some (.slice D2 m2 d2)) ∧ (W.cell? ⟨bw, 0, none⟩ = some (.bool g3) ∧ W.cell? ⟨bw, 1, none⟩ = some (.slice A3 n3 c3) ∧ W.cell? ⟨bw, 2, none⟩ = some (.slice D3 m3 d3)))) (by kernel_rfl) ?_ (fun hH => ?_)
  exact ⟨blk_two (P_8.out.keep (bx_drew (bx_refl M3))).box, blk_three (Kba_8.out.keep (bx_drew (bx_refl M3))), blk_three (Kbc_8.out.keep (bx_drew (bx_refl M3))), blk_three (Kbv_8.out.keep (bx_drew (bx_refl M3))), blk_three (Kbw.out.keep (bx_drew (bx_refl M3)))⟩
  have bd := bx_drew (bx_refl M3)
  obtain ⟨E0, hW0⟩ : ∃ W, W = M3.drew := ⟨_, rfl⟩
  rw [← hW0] at bd hH ⊢
  clear hW0
  have P_9 := hid (P_8.out.keep bd)
  clear P_8
  have QA_9 := hid (QA_8.out.keep bd)
  clear QA_8
  have FA_9 := hid (FA_8.out.keep bd)
  clear FA_8
  have Kba_9 := hid (Kba_8.out.keep bd)
  clear Kba_8
  have QC_9 := hid (QC_8.out.keep bd)
  clear QC_8
  have FC_9 := hid (FC_8.out.keep bd)
  clear FC_8
  have Kbc_9 := hid (Kbc_8.out.keep bd)
  clear Kbc_8
  have FV_9 := hid (FV_8.out.keep bd)
  clear FV_8
  have Kbv_9 := hid (Kbv_8.out.keep bd)
  clear Kbv_8
  have FW_9 := hid (FW_8.out.keep bd)
  clear FW_8
  have Kbw_9 := hid (Kbw.out.keep bd)
  clear Kbw
  clear bd
  refine tk 0 hH ?_
  (try simp only [Act.put, gy0, gy1, gy2])
  refine tk 1 hH ?_
  (try simp only [Act.put, gy0, gy1, gy2])
  refine tk 3 hH ?_
  (try simp only [Act.put, gy0, gy1, gy2])
  refine tk 4 hH ?_
  (try simp only [Act.put, gy0, gy1, gy2])
  refine wpAnyH_ready (rs := [2]) (by kernel_rfl) (by simp) ?_
  refine rdy (fun K hK => ?_) AllReadyH.nil
  go_simp
  refine (C5.out _ P_9.out.bel).mono ?_
  rintro e v2 ⟨rfl, b9⟩
  have P_10 := hid (P_9.out.keep b9)
  clear P_9
  have QA_10 := hid (QA_9.out.keep b9)
  clear QA_9
  have FA_10 := hid (FA_9.out.keep b9)
  clear FA_9
  have Kba_10 := hid (Kba_9.out.keep b9)
  clear Kba_9
  have QC_10 := hid (QC_9.out.keep b9)
  clear QC_9
  have FC_10 := hid (FC_9.out.keep b9)
  clear FC_9
  have Kbc_10 := hid (Kbc_9.out.keep b9)
  clear Kbc_9
  have FV_10 := hid (FV_9.out.keep b9)
  clear FV_9
  have Kbv_10 := hid (Kbv_9.out.keep b9)
  clear Kbv_9
  have FW_10 := hid (FW_9.out.keep b9)
  clear FW_9
  have Kbw_10 := hid (Kbw_9.out.keep b9)
  clear Kbw_9
  clear b9 hH
  (try go_wp2_with fail)
  refine hK.out _ _ ?_ (fun hH => ?_)
  exact ⟨blk_two P_10.out.box, blk_three Kba_10.out, blk_three Kbc_10.out, blk_three Kbv_10.out, blk_three Kbw_10.out⟩
  clear hK K
  (try simp only [Act.put, gy0, gy1, gy2])
  refine wpAnyH_ready (rs := [5]) (by kernel_rfl) (by simp) ?_
  refine rdy (fun K hK => ?_) AllReadyH.nil
  go_simp
  refine (C6.out _ P_10.out.bel).mono ?_
  rintro e v5 ⟨rfl, b9⟩
  have P_11 := hid (P_10.out.keep b9)
  clear P_10
  have QA_11 := hid (QA_10.out.keep b9)
  clear QA_10
  have FA_11 := hid (FA_10.out.keep b9)
  clear FA_10
  have Kba_11 := hid (Kba_10.out.keep b9)
  clear Kba_10
  have QC_11 := hid (QC_10.out.keep b9)
  clear QC_10
  have FC_11 := hid (FC_10.out.keep b9)
  clear FC_10
  have Kbc_11 := hid (Kbc_10.out.keep b9)
  clear Kbc_10
  have FV_11 := hid (FV_10.out.keep b9)
  clear FV_10
  have Kbv_11 := hid (Kbv_10.out.keep b9)
  clear Kbv_10
  have FW_11 := hid (FW_10.out.keep b9)
  clear FW_10
  have Kbw_11 := hid (Kbw_10.out.keep b9)
  clear Kbw_10
  clear b9 hH
  have tsd : (sd == sd) = true := by simp
  (try go_wp2_with fail)
  refine hK.out _ _ ?_ (fun hH => ?_)
  exact ⟨blk_two P_11.out.box, blk_three Kba_11.out, blk_three Kbc_11.out, blk_three Kbv_11.out, blk_three Kbw_11.out⟩
  clear hK K
  (try simp only [Act.put, gy0, gy1, gy2])
  refine tk 6 hH ?_
  (try simp only [Act.put, gy0, gy1, gy2])
  refine tk 7 hH ?_
  (try simp only [Act.put, gy0, gy1, gy2])
  refine tk 8 hH ?_
  (try simp only [Act.put, gy0, gy1, gy2])
  refine tk 9 hH ?_
  (try simp only [Act.put, gy0, gy1, gy2])
  refine wpAnyH_ready (rs := [10]) (by kernel_rfl) (by simp) ?_
  refine rdy (fun K hK => ?_) AllReadyH.nil
  go_simp
  refine (rats_ww QA_11.out QC_11.out (by have := HN.out; omega)).mono ?_
  rintro e v10 ⟨rfl, b9⟩
  have P_12 := hid (P_11.out.keep b9)
  clear P_11
  have QA_12 := hid (QA_11.out.keep b9)
  clear QA_11
  have FA_12 := hid (FA_11.out.keep b9)
  clear FA_11
  have Kba_12 := hid (Kba_11.out.keep b9)
  clear Kba_11
  have QC_12 := hid (QC_11.out.keep b9)
  clear QC_11
  have FC_12 := hid (FC_11.out.keep b9)
  clear FC_11
  have Kbc_12 := hid (Kbc_11.out.keep b9)
  clear Kbc_11
  have FV_12 := hid (FV_11.out.keep b9)
  clear FV_11
  have Kbv_12 := hid (Kbv_11.out.keep b9)
  clear Kbv_11
  have FW_12 := hid (FW_11.out.keep b9)
  clear FW_11
  have Kbw_12 := hid (Kbw_11.out.keep b9)
  clear Kbw_11
  clear b9 hH
  (try go_wp2_with fail)
  refine hK.out _ _ ?_ (fun hH => ?_)
  exact ⟨blk_two P_12.out.box, blk_three Kba_12.out, blk_three Kbc_12.out, blk_three Kbv_12.out, blk_three Kbw_12.out⟩
  clear hK K
  (try simp only [Act.put, gy0, gy1, gy2])
  refine tk 11 hH ?_
  (try simp only [Act.put, gy0, gy1, gy2])
  refine tk 12 hH ?_
  (try simp only [Act.put, gy0, gy1, gy2])
  refine tk 13 hH ?_
  (try simp only [Act.put, gy0, gy1, gy2])
  refine tk 14 hH ?_
  (try simp only [Act.put, gy0, gy1, gy2])
  refine wpAnyH_ready (rs := [15]) (by kernel_rfl) (by simp) ?_
  refine rdy (fun K hK => ?_) AllReadyH.nil
  go_simp
  refine (same_ww FA_12.out FC_12.out).mono ?_
  rintro e v15 ⟨rfl, b9⟩
  have P_13 := hid (P_12.out.keep b9)
  clear P_12
  have QA_13 := hid (QA_12.out.keep b9)
  clear QA_12
  have FA_13 := hid (FA_12.out.keep b9)
  clear FA_12
  have Kba_13 := hid (Kba_12.out.keep b9)
  clear Kba_12
  have QC_13 := hid (QC_12.out.keep b9)
  clear QC_12
  have FC_13 := hid (FC_12.out.keep b9)
  clear FC_12
  have Kbc_13 := hid (Kbc_12.out.keep b9)
  clear Kbc_12
  have FV_13 := hid (FV_12.out.keep b9)
  clear FV_12
  have Kbv_13 := hid (Kbv_12.out.keep b9)
  clear Kbv_12
  have FW_13 := hid (FW_12.out.keep b9)
  clear FW_12
  have Kbw_13 := hid (Kbw_12.out.keep b9)
  clear Kbw_12
  clear b9 hH
  (try go_wp2_with fail)
  refine hK.out _ _ ?_ (fun hH => ?_)
  exact ⟨blk_two P_13.out.box, blk_three Kba_13.out, blk_three Kbc_13.out, blk_three Kbv_13.out, blk_three Kbw_13.out⟩
  clear hK K
  (try simp only [Act.put, gy0, gy1, gy2])
  refine tk 16 hH ?_
  (try simp only [Act.put, gy0, gy1, gy2])
  refine tk 17 hH ?_
  (try simp only [Act.put, gy0, gy1, gy2])
  refine tk 18 hH ?_
  (try simp only [Act.put, gy0, gy1, gy2])
  refine tk 19 hH ?_
  (try simp only [Act.put, gy0, gy1, gy2])
  refine wpAnyH_ready (rs := [20]) (by kernel_rfl) (by simp) ?_
  refine rdy (fun K hK => ?_) AllReadyH.nil
  go_simp
  refine (same_ww FV_13.out FW_13.out).mono ?_
  rintro e v20 ⟨rfl, b9⟩
  have P_14 := hid (P_13.out.keep b9)
  clear P_13
  have QA_14 := hid (QA_13.out.keep b9)
  clear QA_13
  have FA_14 := hid (FA_13.out.keep b9)
  clear FA_13
  have Kba_14 := hid (Kba_13.out.keep b9)
  clear Kba_13
  have QC_14 := hid (QC_13.out.keep b9)
  clear QC_13
  have FC_14 := hid (FC_13.out.keep b9)
  clear FC_13
  have Kbc_14 := hid (Kbc_13.out.keep b9)
  clear Kbc_13
  have FV_14 := hid (FV_13.out.keep b9)
  clear FV_13
  have Kbv_14 := hid (Kbv_13.out.keep b9)
  clear Kbv_13
  have FW_14 := hid (FW_13.out.keep b9)
  clear FW_13
  have Kbw_14 := hid (Kbw_13.out.keep b9)
  clear Kbw_13
  clear b9 hH
  have tlb : (lb == lb) = true := by simp
  (try go_wp2_with fail)
  refine hK.out _ _ ?_ (fun hH => ?_)
  exact ⟨blk_two P_14.out.box, blk_three Kba_14.out, blk_three Kbc_14.out, blk_three Kbv_14.out, blk_three Kbw_14.out⟩
  clear hK K
  (try simp only [Act.put, gy0, gy1, gy2])
  refine tk 21 hH ?_
  (try simp only [Act.put, gy0, gy1, gy2])
  refine tk 22 hH ?_
  (try simp only [Act.put, gy0, gy1, gy2])
  refine tk 23 hH ?_
  (try simp only [Act.put, gy0, gy1, gy2])
  refine tk 24 hH ?_
  (try simp only [Act.put, gy0, gy1, gy2])
  refine tk 25 hH ?_
  (try simp only [Act.put, gy0, gy1, gy2])
  refine tk 26 hH ?_
  (try simp only [Act.put, gy0, gy1, gy2])
  refine tk 27 hH ?_
  (try simp only [Act.put, gy0, gy1, gy2])
  refine wpAnyH_done (by kernel_rfl) ?_ _
  refine NoPanic.normal ?_
  clear hH
  have BF := hid P_14.out.bel
  clear P_14 QA_14 FA_14 Kba_14 QC_14 FC_14 Kbc_14 FV_14 Kbv_14 FW_14 Kbw_14
  go_wp2_with fail
  go_ret
  exact vld_yes (by simp) BF.out
end Go.Proofs.YtdbccidlnhjfhaaGreatDoor
