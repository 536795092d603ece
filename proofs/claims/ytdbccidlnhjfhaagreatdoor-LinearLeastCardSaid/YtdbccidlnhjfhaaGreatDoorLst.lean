/- The law LinearLeast. -/
import Derived.Test.YtdbccidlnhjfhaaGreatDoorImp
import Derived.Test.YtdbccidlnhjfhaaGreatDoorVal
import Derived.Test.YtdbccidlnhjfhaaGreatDoorLinM
import Derived.Test.YtdbccidlnhjfhaaGreatDoorSam
import Derived.Deep.DeepCutAuto
import Derived.BigQuiet
namespace Go.Proofs.YtdbccidlnhjfhaaGreatDoor
open Go.RowKit
set_option maxRecDepth 100000
structure Kl (w : World) (V0 : Option Addr) (vn vc : Nat) (R0 : Option Addr) (rn rc : Nat) (CA : Option Addr) (Cn Cc : Nat) (W : World) : Prop where
  bel : Below w.heap.size w W
  box : Blk W w.heap.size [.slice V0 vn vc, .slice R0 rn rc] 25
  bc : Blk W (w.heap.size + 1) [.slice CA Cn Cc] 32
theorem Kl.keep {w : World} {V0 : Option Addr} {vn vc : Nat} {R0 : Option Addr} {rn rc : Nat} {CA : Option Addr} {Cn Cc : Nat} {W W' : World} (h : Kl w V0 vn vc R0 rn rc CA Cn Cc W) (b : Below W.heap.size W W') : Kl w V0 vn vc R0 rn rc CA Cn Cc W' := ⟨bx_call h.bel b, h.box.keep b, h.bc.keep b⟩
structure Lb (w : World) (V0 : Option Addr) (vn vc : Nat) (R0 : Option Addr) (rn rc : Nat) (CA : Option Addr) (Cn Cc : Nat) (lb : Nat) (gl : Bool) (Al : Option Addr) (nl cl : Nat) (Dl : Option Addr) (ml dl : Nat) (ql : Rat) (W : World) : Prop where
  k : Kl w V0 vn vc R0 rn rc CA Cn Cc W
  kl : Blk W lb [.bool gl, .slice Al nl cl, .slice Dl ml dl] 41
  fl : FrW W gl Al nl cl Dl ml dl 1000 ql
theorem Lb.keep {w : World} {V0 : Option Addr} {vn vc : Nat} {R0 : Option Addr} {rn rc : Nat} {CA : Option Addr} {Cn Cc : Nat} {lb : Nat} {gl : Bool} {Al : Option Addr} {nl cl : Nat} {Dl : Option Addr} {ml dl : Nat} {ql : Rat} {W W' : World} (h : Lb w V0 vn vc R0 rn rc CA Cn Cc lb gl Al nl cl Dl ml dl ql W) (b : Below W.heap.size W W') : Lb w V0 vn vc R0 rn rc CA Cn Cc lb gl Al nl cl Dl ml dl ql W' := ⟨h.k.keep b, h.kl.keep b, h.fl.keep b⟩
theorem FrW.up9 {w : World} {g : Bool} {A : Option Addr} {n c : Nat} {D : Option Addr} {m d j k : Nat} {q : Rat} (h : FrW w g A n c D m d j q) (hk : j ≤ k) : FrW w g A n c D m d k q := ⟨h.e, h.l.1, Nat.le_trans h.l.2.1 hk, h.l.2.2.1, Nat.le_trans h.l.2.2.2.1 hk, Nat.le_trans h.l.2.2.2.2 hk⟩
theorem least_math {p : PD} {c f : Nat → Rat} (hf : f = fun j => ((endZ (c j) (p.lo j) (p.up j) : Int) : Rat)) (ok : lstB p.vn p.lo p.up p.op c = true) : p.inB (pt p.vn f) = true ∧ sgnQ (sumN (fun j => c j * atQ p.vn f (j : Int)) p.vn - lstV p.vn p.lo p.up p.op c) = 0 ∧ ∀ x, p.inB x = true → ¬sgnQ (sumN (fun j => c j * x j) p.vn - lstV p.vn p.lo p.up p.op c) < 0 := by
  have ok2 := ok
  unfold lstB at ok2
  rw [Bool.and_eq_true] at ok2
  have hs : shut p.vn p.op c := of_decide_eq_true ok2.2
  have hr : ∀ j, j < p.vn → room (p.op j) (p.lo j) (p.up j) := by
    have h1 := ok2.1
    unfold empB at h1
    rw [Bool.not_not] at h1
    exact of_decide_eq_true h1
  refine ⟨?_, ?_, ?_⟩
  · unfold PD.inB insB
    refine decide_eq_true fun j hj => ?_
    have e : pt p.vn f j = ((endZ (c j) (p.lo j) (p.up j) : Int) : Rat) := by unfold pt; rw [atQ_in hj, hf]
    rw [e]
    have h1 := hs j hj
    have h2 := hr j hj
    unfold room at h2
    unfold within endZ
    by_cases s : sgnQ (c j) < 0
    · rw [if_pos s]
      have ho : p.op j = false := by cases h : p.op j; rfl; exact absurd ⟨s, h⟩ h1
      have hle : p.lo j ≤ p.up j := by rcases h2 with h | h; rw [ho] at h; cases h; exact h
      have hle2 : ((p.lo j : Int) : Rat) ≤ ((p.up j : Int) : Rat) := Rat.intCast_le_intCast.2 hle
      rw [sgnQ_neg', sgnQ_pos']
      exact ⟨by grind, fun h => by have := h.2; grind⟩
    · rw [if_neg s]
      rw [sgnQ_neg', sgnQ_pos']
      refine ⟨by grind, fun h => ?_⟩
      have hle : p.lo j ≤ p.up j := by rcases h2 with g | g; rw [h.1] at g; cases g; exact g
      have hle2 : ((p.lo j : Int) : Rat) ≤ ((p.up j : Int) : Rat) := Rat.intCast_le_intCast.2 hle
      have := h.2
      grind
  · have e : sumN (fun j => c j * atQ p.vn f (j : Int)) p.vn = lstV p.vn p.lo p.up p.op c := by
      unfold lstV
      rw [if_pos ok]
      refine sumN_congr fun j hj => ?_
      rw [atQ_in hj, hf]
      exact Rat.mul_comm _ _
    rw [e]
    exact sgnQ_zero.2 (by grind)
  · intro x hx
    have h := lst_le ok (x := x) (by unfold PD.inB insB at hx; exact of_decide_eq_true hx)
    rw [sgnQ_neg']
    grind
theorem least_none {vn : Nat} {lo up : Nat → Int} {op : Nat → Bool} {c : Nat → Rat} (h : lstB vn lo up op c = false) : lstV vn lo up op c = 0 := by unfold lstV; rw [h]; rfl
set_option maxHeartbeats 8000000 in
theorem linearLeast_any (p : PD) (C X : LD) (w : World) (h : Pw w p) (hc : C.ok w) (hx : X.ok w) (ht : Tab w) :
    Calls Tryz.prog 7 #[.agg #[.slice p.V0 p.vn p.vc, .slice p.R0 p.rn p.rc], .slice C.A C.n C.c, .slice X.A X.n X.c] w (RetB w true) := by
  have TB := hid ht
  have CF := hid (fun (W : World) (B : Below w.heap.size w W) => (show Calls Tryz.prog 11 #[.agg #[.slice p.V0 p.vn p.vc, .slice p.R0 p.rn p.rc], .int .i64 6, .int .i64 6] W (RetB W (fewP p.vn p.rn p.nm p.tn 6 6)) from rfewp p.V0 p.vn p.vc p.R0 p.rn p.rc p.nm p.gr p.ki p.bo p.TA p.tn p.tc p.v p.cf 6 6 W (Nat.le_trans h.vs.1 h.vs.2.1) (h.rs.keep B) h.nms (by omega) (by omega)))
  have CX := hid (fun (W : World) (B : Below w.heap.size w W) => (show Calls Tryz.prog 17 #[.slice X.A X.n X.c, .int .i64 8] W (RetB W (shortB 8 X.n X.N X.M)) from rshort X.A X.n X.c 8 X.N X.M X.qs W (hx.keep B) (by omega)))
  have CC := hid (fun (W : World) (B : Below w.heap.size w W) => (show Calls Tryz.prog 17 #[.slice C.A C.n C.c, .int .i64 8] W (RetB W (shortB 8 C.n C.N C.M)) from rshort C.A C.n C.c 8 C.N C.M C.qs W (hc.keep B) (by omega)))
  obtain ⟨fz, hfz⟩ : ∃ f : Nat → Rat, f = fun j => ((endZ (pt C.n C.qs j) (p.lo j) (p.up j) : Int) : Rat) := ⟨_, rfl⟩
  have FF := fun (ok : lstB p.vn p.lo p.up p.op (pt C.n C.qs) = true) => least_math (p := p) hfz ok
  have F0 := fun (ok : lstB p.vn p.lo p.up p.op (pt C.n C.qs) = false) => least_none ok
  have HF := hid (fun j : Nat => (show fz j = ((endZ (atQ C.n C.qs (j : Int)) (p.lo j) (p.up j) : Int) : Rat) by rw [hfz]; rfl))
  have up3 : ∀ {W : World} {q : Rat} {a b : Nat} {e : Ending} {W' : World}, RetV W q a e W' → a ≤ b → RetV W q b e W' := fun ⟨g, A, n, c, D, m, d, e, f, b⟩ hab => ⟨g, A, n, c, D, m, d, e, f.up hab, b⟩
  have C1 := hid (fun (e1 : fewP p.vn p.rn p.nm p.tn 6 6 = true) (e2 : shortB 8 C.n C.N C.M = true) (W : World) (B : Below w.heap.size w W) => (show Calls Tryz.prog 32 #[.agg #[.slice p.V0 p.vn p.vc, .slice p.R0 p.rn p.rc], .slice C.A C.n C.c] W (RetWB W (lstV p.vn p.lo p.up p.op (pt C.n C.qs)) 1000 (lstB p.vn p.lo p.up p.op (pt C.n C.qs))) from by
    have hv := (few68 e1).2
    have hq := Qw.qs (hc.keep B) (short_few e2).1
    have t := vleastL p.V0 p.vn p.vc p.R0 p.rn p.rc p.lo p.up p.op p.it p.co C.A C.n C.c 4 C.qs W (h.vs.keep B) hq (by omega) (by have := Nat.mul_le_mul_right 7 hv; omega)
    rw [lstV_congr (q := pt C.n C.qs) (fun j hj => atQ_min p.vn C.n C.qs hj), lstB_congr (q := pt C.n C.qs) (fun j hj => atQ_min p.vn C.n C.qs hj)] at t
    exact t.mono fun _ _ ⟨g, A, n, c, D, m, d, e, f, b⟩ => ⟨g, A, n, c, D, m, d, e, f.up9 (by have := Nat.mul_le_mul_right 7 hv; omega), b⟩))
  have C2 := hid (fun (e1 : fewP p.vn p.rn p.nm p.tn 6 6 = true) (e3 : shortB 8 X.n X.N X.M = true) (W : World) (B : Below w.heap.size w W) => d_inside (h := (h.keep B).pg (few68 e1).1) (hQ := Qw.qs (hx.keep B) (short_few e3).1) (hk := by omega))
  have C3 := hid (fun (e1 : fewP p.vn p.rn p.nm p.tn 6 6 = true) (e2 : shortB 8 C.n C.N C.M = true) (e3 : shortB 8 X.n X.N X.M = true) (W : World) (B : Below w.heap.size w W) (KP : Blk W w.heap.size [.slice p.V0 p.vn p.vc, .slice p.R0 p.rn p.rc] 25) (KC : Blk W (w.heap.size + 1) [.slice C.A C.n C.c] 32) => (v_value w.heap.size (w.heap.size + 1) p.V0 p.vn p.vc p.R0 p.rn p.rc C.A C.n C.c C.qs _ X.A X.n X.c 4 X.qs W (by have := (few68 e1).2; omega) KP KC (Qw.qs (hc.keep B) (short_few e2).1) (Qw.qs (hx.keep B) (short_few e3).1) (by omega)).mono fun _ _ r => up3 r (b := 1000) (by have := Nat.mul_le_mul_right 9 (few68 e1).2; omega))
  have C4 := hid (fun (e1 : fewP p.vn p.rn p.nm p.tn 6 6 = true) (W : World) (B : Below w.heap.size w W) (A : Option Addr) (c : Nat) (q : Qs W A p.vn c 2 fz) => d_inside (h := (h.keep B).pg (few68 e1).1) (hQ := q) (hk := by omega))
  have C5 := hid (fun (e1 : fewP p.vn p.rn p.nm p.tn 6 6 = true) (e2 : shortB 8 C.n C.N C.M = true) (W : World) (B : Below w.heap.size w W) (KP : Blk W w.heap.size [.slice p.V0 p.vn p.vc, .slice p.R0 p.rn p.rc] 25) (KC : Blk W (w.heap.size + 1) [.slice C.A C.n C.c] 32) (A : Option Addr) (c : Nat) (q : Qs W A p.vn c 2 fz) => (v_value w.heap.size (w.heap.size + 1) p.V0 p.vn p.vc p.R0 p.rn p.rc C.A C.n C.c C.qs _ A p.vn c 2 fz W (by have := (few68 e1).2; omega) KP KC (Qw.qs (hc.keep B) (short_few e2).1) q (by omega)).mono fun _ _ r => up3 r (b := 1000) (by have := Nat.mul_le_mul_right 7 (few68 e1).2; omega))
  have QC := hid (fun (e2 : shortB 8 C.n C.N C.M = true) (W : World) (B : Below w.heap.size w W) => Qw.qs (hc.keep B) (short_few e2).1)
  have VN := fun (e1 : fewP p.vn p.rn p.nm p.tn 6 6 = true) => (few68 e1).2
  have HT := hid h.vs
  obtain ⟨s1, hs1⟩ : ∃ s, s = fewP p.vn p.rn p.nm p.tn 6 6 := ⟨_, rfl⟩
  rw [← hs1] at CF C1 C2 C3 C4 C5 VN
  obtain ⟨s2, hs2⟩ : ∃ s, s = shortB 8 C.n C.N C.M := ⟨_, rfl⟩
  rw [← hs2] at CC C1 C3 C5 QC
  obtain ⟨s3, hs3⟩ : ∃ s, s = shortB 8 X.n X.N X.M := ⟨_, rfl⟩
  rw [← hs3] at CX C2 C3
  obtain ⟨lk, hlk⟩ : ∃ s, s = lstB p.vn p.lo p.up p.op (pt C.n C.qs) := ⟨_, rfl⟩
  rw [← hlk] at C1 FF F0
  obtain ⟨ql, hql⟩ : ∃ s, s = lstV p.vn p.lo p.up p.op (pt C.n C.qs) := ⟨_, rfl⟩
  rw [← hql] at C1 FF F0
  obtain ⟨b1, hb1⟩ : ∃ s, s = p.inB (pt X.n X.qs) := ⟨_, rfl⟩
  obtain ⟨b2, hb2⟩ : ∃ s, s = p.inB (pt p.vn fz) := ⟨_, rfl⟩
  rw [← hb2] at C4 FF
  obtain ⟨qx, hqx⟩ : ∃ s, s = sumN (fun j : Nat => atQ C.n C.qs (j : Int) * atQ X.n X.qs (j : Int)) p.vn := ⟨_, rfl⟩
  rw [← hqx] at C3
  obtain ⟨qa, hqa⟩ : ∃ s, s = sumN (fun j : Nat => atQ C.n C.qs (j : Int) * atQ p.vn fz (j : Int)) p.vn := ⟨_, rfl⟩
  rw [← hqa] at C5
  have GF := hid (fun (ok : lk = true) => (show b2 = true ∧ sgnQ (qa - ql) = 0 ∧ (b1 = true → ¬sgnQ (qx - ql) < 0) by
    obtain ⟨g1, g2, g3⟩ := FF ok
    exact ⟨g1, by rw [hqa]; exact g2, fun hb => by rw [hqx]; exact g3 (pt X.n X.qs) (by rw [← hb1]; exact hb)⟩))
  rw [← hb1] at C2
  have GZ := hid F0
  have CM := hid (fun (q : Rat) (z : Int) (hz : z = sgnQ (q - ql)) (W : World) (g1 : Bool) (A1 : Option Addr) (n1 c1 : Nat) (D1 : Option Addr) (m1 d1 : Nat) (L : FrV W g1 A1 n1 c1 D1 m1 d1 1000 q) (g2 : Bool) (A2 : Option Addr) (n2 c2 : Nat) (D2 : Option Addr) (m2 d2 : Nat) (M : FrW W g2 A2 n2 c2 D2 m2 d2 1000 ql) => (show Calls Tryz.prog 40 #[.agg #[.bool g1, .slice A1 n1 c1, .slice D1 m1 d1], .agg #[.bool g2, .slice A2 n2 c2, .slice D2 m2 d2]] W (RetI W z) by rw [hz]; exact vrcmp g1 A1 n1 c1 D1 m1 d1 g2 A2 n2 c2 D2 m2 d2 1000 q ql W L M.v (by omega)))
  have HN := hid VN
  have hvl := h.vs.1
  have hvl2 := h.vs.2.1
  clear hc hx hs1 hs2 hs3 hlk hql hb1 hb2 hqx hqa FF F0 VN h ht hfz up3
  obtain ⟨V0, vn, vc, lo, up, op, it, co, R0, rn, rc, nm, gr, ki, bo, TA, tn, tc, v, cf⟩ := p
  obtain ⟨CA, Cn, Cc, CN, CM9, cs⟩ := C
  obtain ⟨XA, Xn, Xc, XN, XM, xs⟩ := X
  dsimp only at CF CX CC C1 C2 C3 C4 C5 QC HF HN HT hvl hvl2 ⊢
  obtain ⟨W0, hW⟩ : ∃ W, W = (w.alloc (.cells #[.slice V0 vn vc, .slice R0 rn rc] 25)).alloc (.cells #[.slice CA Cn Cc] 32) := ⟨_, rfl⟩
  have B0 := bx_alloc (bx_alloc (bx_refl w) (.cells #[.slice V0 vn vc, .slice R0 rn rc] 25)) (.cells #[.slice CA Cn Cc] 32)
  have K0 := (Blk.new w [.slice V0 vn vc, .slice R0 rn rc] 25).alloc (.cells #[.slice CA Cn Cc] 32)
  have K1 := blk_new1 w (.cells #[.slice V0 vn vc, .slice R0 rn rc] 25) [.slice CA Cn Cc] 32
  change Blk ((w.alloc (.cells #[.slice V0 vn vc, .slice R0 rn rc] 25)).alloc (.cells #[.slice CA Cn Cc] 32)) _ _ _ at K0 K1
  rw [← hW] at B0 K0 K1
  have P0 := hid (show Kl w V0 vn vc R0 rn rc CA Cn Cc W0 from ⟨B0, K0, K1⟩)
  clear B0 K0 K1
  go_enter Tryz.func7, Tryz.ntmps7
  go_upto_region 1 with fail
  rw [← hW]
  clear hW
  go_wp2_with fail
  refine (awk4 W0 (TB.out.keep P0.out.bel)).mono ?_
  rintro e W1 ⟨rfl, b⟩
  have P1 := hid (P0.out.keep b)
  clear P0 b
  obtain ⟨z0, z1⟩ := blk_two P1.out.box
  go_wp2_with fail
  refine (CF.out _ P1.out.bel).mono ?_
  rintro e W2 ⟨rfl, b⟩
  have P2 := hid (P1.out.keep b)
  clear P1 b z0 z1 CF
  cases s1
  · clear CX CC C1 C2 C3 C4 C5 QC GF GZ HF HN HT CM
    go_wp2_with fail
    refine (awk4 W2 (TB.out.keep P2.out.bel)).mono ?_
    rintro e W3 ⟨rfl, b⟩
    have P4 := hid (P2.out.keep b)
    clear P2 b
    go_wp2_with fail
    go_ret
    exact vld_yes rfl P4.out.bel
  replace C1 := hid (C1.out rfl)
  replace C2 := hid (C2.out rfl)
  replace C3 := hid (C3.out rfl)
  replace C4 := hid (C4.out rfl)
  replace C5 := hid (C5.out rfl)
  replace HN := hid (HN.out rfl)
  go_wp2_with fail
  refine (CX.out _ P2.out.bel).mono ?_
  rintro e W3 ⟨rfl, b⟩
  have P3 := hid (P2.out.keep b)
  clear P2 b CX
  cases s3
  · clear CC C1 C2 C3 C4 C5 QC GF GZ HF HN HT CM
    go_wp2_with fail
    refine (awk4 W3 (TB.out.keep P3.out.bel)).mono ?_
    rintro e W4 ⟨rfl, b⟩
    have P4 := hid (P3.out.keep b)
    clear P3 b
    go_wp2_with fail
    go_ret
    exact vld_yes rfl P4.out.bel
  replace C2 := hid (C2.out (by simp))
  have z2 := Blk.cell P3.out.bc 0
  go_wp2_with fail
  refine (CC.out _ P3.out.bel).mono ?_
  rintro e W4 ⟨rfl, b⟩
  have P4 := hid (P3.out.keep b)
  clear P3 b CC z2
  cases s2
  · clear C1 C2 C3 C4 C5 QC GF GZ HF HN HT CM
    go_wp2_with fail
    refine (awk4 W4 (TB.out.keep P4.out.bel)).mono ?_
    rintro e W5 ⟨rfl, b⟩
    have P5 := hid (P4.out.keep b)
    clear P4 b
    go_wp2_with fail
    go_ret
    exact vld_yes rfl P5.out.bel
  replace C1 := hid (C1.out (by simp))
  replace C3 := hid (C3.out (by simp) (by simp))
  replace C5 := hid (C5.out (by simp))
  replace QC := hid (QC.out (by simp))
  clear TB
  obtain ⟨z0, z1⟩ := blk_two P4.out.box
  have z2 := Blk.cell P4.out.bc 0
  go_wp2_with fail
  refine (C1.out _ P4.out.bel).mono ?_
  rintro e W5 ⟨gl, Al, nl, cl, Dl, ml, dl, rfl, fl, b⟩
  have P5 := hid (P4.out.keep b)
  clear P4 C1 z0 z1 z2 b
  go_upto_region 5 with fail
  obtain ⟨W9, lb, hW, hp, b, kk⟩ := mk_cells W5 [.bool gl, .slice Al nl cl, .slice Dl ml dl] 41
  simp only [List.toArray] at hW
  rw [← hW, ← hp]
  have M := hid (show Lb w V0 vn vc R0 rn rc CA Cn Cc lb gl Al nl cl Dl ml dl ql W9 from ⟨P5.out.keep b, kk, fl.keep b⟩)
  clear hW hp b kk fl P5
  obtain ⟨l0, l1, l2⟩ := blk_three M.out.kl
  cases lk
  · have e0 := GZ.out rfl
    have CS := hid (show Calls Tryz.prog 18 #[.agg #[.bool gl, .slice Al nl cl, .slice Dl ml dl], .agg #[.bool false, .slice none 0 0, .slice none 0 0]] W9 (RetB W9 true) by
      have t := same_w M.out.fl (FrW.zero W9 (k := 1) (by omega))
      rw [decide_eq_true e0] at t
      exact t)
    clear CM GF GZ C2 C3 C4 C5 QC HF HN HT e0
    go_wp2_with fail
    refine (CS.out).mono ?_
    rintro e W6 ⟨rfl, b⟩
    have BF := hid (bx_call M.out.k.bel b)
    clear M CS b l0 l1 l2
    go_wp2_with fail
    go_ret
    exact vld_yes rfl BF.out
  obtain ⟨f1, f2, f3⟩ := GF.out rfl
  subst f1
  obtain ⟨zx, hzx⟩ : ∃ z, z = sgnQ (qx - ql) := ⟨_, rfl⟩
  rw [← hzx] at f3
  have CMX := hid (CM.out qx zx hzx)
  have CMA := hid (CM.out qa 0 f2.symm)
  have Z3 := hid f3
  clear CM GF GZ f2 f3 hzx l0 l1 l2
  go_upto_region 7 with fail
  obtain ⟨wc, hwc⟩ : ∃ W, W = W9 := ⟨_, rfl⟩
  rw [← hwc] at M ⊢
  clear hwc
  cases b1
  case' false =>
    (try simp only [List.append_eq, List.cons_append, List.nil_append])
    refine wp_region_noPanic ?_
    refine wp_region_held_drew (S := (fun W => (W.cell? ⟨w.heap.size, 0, none⟩ = some (.slice V0 vn vc) ∧ W.cell? ⟨w.heap.size, 1, none⟩ = some (.slice R0 rn rc)) ∧ (W.cell? ⟨lb, 0, none⟩ = some (.bool gl) ∧ W.cell? ⟨lb, 1, none⟩ = some (.slice Al nl cl) ∧ W.cell? ⟨lb, 2, none⟩ = some (.slice Dl ml dl)))) (by kernel_rfl) ?_ (fun hH => ?_)
    exact ⟨blk_two (M.out.keep (bx_drew (bx_refl wc))).k.box, blk_three (M.out.keep (bx_drew (bx_refl wc))).kl⟩
    have bd := bx_drew (bx_refl wc)
    obtain ⟨E0, hW0⟩ : ∃ W, W = wc.drew := ⟨_, rfl⟩
    rw [← hW0] at bd hH ⊢
    clear hW0
    replace M := hid (M.out.keep bd)
    clear bd
    obtain ⟨wc, hwc⟩ : ∃ W, W = E0 := ⟨_, rfl⟩
    rw [← hwc] at M hH ⊢
    clear hwc
    refine tk 0 hH ?_
    (try simp only [Act.put, gy0, gy1, gy2])
    refine tk 1 hH ?_
    (try simp only [Act.put, gy0, gy1, gy2])
    refine wpAnyH_ready (rs := [2]) (by kernel_rfl) (by simp) ?_
    refine rdy (fun K hK => ?_) AllReadyH.nil
    go_simp
    refine (C2.out _ M.out.k.bel).mono ?_
    rintro e wc ⟨rfl, b⟩
    replace M := hid (M.out.keep b)
    clear b hH
    (try go_wp2_with fail)
    refine hK.out _ _ ?_ (fun hH => ?_)
    exact ⟨blk_two M.out.k.box, blk_three M.out.kl⟩
    clear hK K
    (try simp only [Act.put, gy0, gy1, gy2])
    refine tk 3 hH ?_
    (try simp only [Act.put, gy0, gy1, gy2])
    refine tkn 4 hH ?_
    (try simp only [Act.put, gy0, gy1, gy2])
    refine tkn 5 hH ?_
    (try simp only [Act.put, gy0, gy1, gy2])
    refine tkn 6 hH ?_
    (try simp only [Act.put, gy0, gy1, gy2])
    refine tkn 7 hH ?_
    (try simp only [Act.put, gy0, gy1, gy2])
    refine tkn 8 hH ?_
    (try simp only [Act.put, gy0, gy1, gy2])
    refine tkn 9 hH ?_
    (try simp only [Act.put, gy0, gy1, gy2])
    refine tk 10 hH ?_
    (try simp only [Act.put, gy0, gy1, gy2])
    refine wpAnyH_done (by kernel_rfl) ?_ _
    refine NoPanic.normal ?_
    clear hH
    clear Z3 CMX C3
  case' true =>
    have Z9 := hid (show 0 ≤ zx by have := Z3.out rfl; omega)
    clear Z3
    (try simp only [List.append_eq, List.cons_append, List.nil_append])
    refine wp_region_noPanic ?_
    refine wp_region_held_drew (S := (fun W => (W.cell? ⟨w.heap.size, 0, none⟩ = some (.slice V0 vn vc) ∧ W.cell? ⟨w.heap.size, 1, none⟩ = some (.slice R0 rn rc)) ∧ (W.cell? ⟨lb, 0, none⟩ = some (.bool gl) ∧ W.cell? ⟨lb, 1, none⟩ = some (.slice Al nl cl) ∧ W.cell? ⟨lb, 2, none⟩ = some (.slice Dl ml dl)))) (by kernel_rfl) ?_ (fun hH => ?_)
    exact ⟨blk_two (M.out.keep (bx_drew (bx_refl wc))).k.box, blk_three (M.out.keep (bx_drew (bx_refl wc))).kl⟩
    have bd := bx_drew (bx_refl wc)
    obtain ⟨E0, hW0⟩ : ∃ W, W = wc.drew := ⟨_, rfl⟩
    rw [← hW0] at bd hH ⊢
    clear hW0
    replace M := hid (M.out.keep bd)
    clear bd
    obtain ⟨wc, hwc⟩ : ∃ W, W = E0 := ⟨_, rfl⟩
    rw [← hwc] at M hH ⊢
    clear hwc
    refine tk 0 hH ?_
    (try simp only [Act.put, gy0, gy1, gy2])
    refine tk 1 hH ?_
    (try simp only [Act.put, gy0, gy1, gy2])
    refine wpAnyH_ready (rs := [2]) (by kernel_rfl) (by simp) ?_
    refine rdy (fun K hK => ?_) AllReadyH.nil
    go_simp
    refine (C2.out _ M.out.k.bel).mono ?_
    rintro e wc ⟨rfl, b⟩
    replace M := hid (M.out.keep b)
    clear b hH
    (try go_wp2_with fail)
    refine hK.out _ _ ?_ (fun hH => ?_)
    exact ⟨blk_two M.out.k.box, blk_three M.out.kl⟩
    clear hK K
    (try simp only [Act.put, gy0, gy1, gy2])
    refine tk 3 hH ?_
    (try simp only [Act.put, gy0, gy1, gy2])
    refine tk 4 hH ?_
    (try simp only [Act.put, gy0, gy1, gy2])
    refine tk 5 hH ?_
    (try simp only [Act.put, gy0, gy1, gy2])
    refine tk 7 hH ?_
    (try simp only [Act.put, gy0, gy1, gy2])
    refine wpAnyH_ready (rs := [6]) (by kernel_rfl) (by simp) ?_
    refine rdy (fun K hK => ?_) AllReadyH.nil
    go_simp
    refine (C3.out _ M.out.k.bel M.out.k.box M.out.k.bc).mono ?_
    rintro e wc ⟨g5, A5, n5, c5, D5, m5, d5, rfl, r, b⟩
    replace M := hid (M.out.keep b)
    have R5 := hid r
    clear r b hH
    (try go_wp2_with fail)
    refine hK.out _ _ ?_ (fun hH => ?_)
    exact ⟨blk_two M.out.k.box, blk_three M.out.kl⟩
    clear hK K
    (try simp only [Act.put, gy0, gy1, gy2])
    refine wpAnyH_ready (rs := [8]) (by kernel_rfl) (by simp) ?_
    refine rdy (fun K hK => ?_) AllReadyH.nil
    go_simp
    refine (CMX.out _ g5 A5 n5 c5 D5 m5 d5 R5.out gl Al nl cl Dl ml dl M.out.fl).mono ?_
    rintro e wc ⟨rfl, b⟩
    replace M := hid (M.out.keep b)
    clear b hH R5
    (try go_wp2_with fail)
    refine hK.out _ _ ?_ (fun hH => ?_)
    exact ⟨blk_two M.out.k.box, blk_three M.out.kl⟩
    clear hK K
    (try simp only [Act.put, gy0, gy1, gy2])
    refine tk 9 hH ?_
    (try simp only [Act.put, gy0, gy1, gy2])
    refine tk 10 hH ?_
    (try simp only [Act.put, gy0, gy1, gy2])
    refine wpAnyH_done (by kernel_rfl) ?_ _
    refine NoPanic.normal ?_
    clear hH
    have t8 : ¬zx < 0 := by have := Z9.out; omega
    have t9 : decide (zx < 0) = false := decide_eq_false t8
    clear Z9
  all_goals
    obtain ⟨W9, hW9⟩ : ∃ W, W = wc := ⟨_, rfl⟩
    rw [← hW9] at M ⊢
    clear hW9
    obtain ⟨z0, z1⟩ := blk_two M.out.k.box
    have AT0 := hid (fun (W : World) (B : Below W9.heap.size W9 W) (j : Nat) => qat CA Cn Cc 4 cs (j : Int) W (QC.out W (bx_call M.out.k.bel B)))
    have ST := hid (show PIn W9 (.slice none 0 0) 0 2 fz W9 from ⟨bx_refl W9, .inl ⟨rfl, rfl⟩⟩)
    have HT9 := hid (HT.out.keep M.out.k.bel)
    clear HT
    go_wp2_with fail
    clear z0 z1
    (try clear t9)
    (try clear t8)
    go_loopw [10, 58] (fun u i wr => ∃ j : Nat, j ≤ vn ∧ i = .int .i64 j ∧ (∃ A0 c0, u = .slice A0 j c0) ∧ Hid (PIn W9 u j 2 fz wr)) (fun _ i _ => vn - (intOf i).toNat)
    case atStart => exact ⟨0, Nat.zero_le _, rfl, ⟨_, _, rfl⟩, ST⟩
    case round =>
      clear ST
      obtain ⟨j, hj, rfl, ⟨A0, c0, rfl⟩, hz⟩ := hrel
      rcases Nat.lt_or_ge j vn with hlt | hge
      · obtain ⟨⟨l1, l2⟩, ⟨u1, u2⟩, _⟩ := HT9.out.2.2.1 j hlt
        obtain ⟨b, o, rfl, hb, hcell⟩ := HT9.out.2.2.2 (by omega)
        have x0 := cell_bx (hcell j hlt).1 hz.out.bel
        have x1 := cell_bx (hcell j hlt).2.1 hz.out.bel
        have x2 := cell_bx (hcell j hlt).2.2.1 hz.out.bel
        have x3 := cell_bx (hcell j hlt).2.2.2.1 hz.out.bel
        have x4 := cell_bx (hcell j hlt).2.2.2.2 hz.out.bel
        have NX := hid (fun (w' : World) (g1 cap : Nat) (W : World) (B : Below wr.heap.size wr W) (qv : Rat) (hqv : qv = fz j) (x : QO w' W9.heap.size (.slice (some ⟨g1, 0, none⟩) (j + 1) cap) (j + 1) 2 (fun i => if i = j then qv else fz i)) (hg : W.grownBy w' (Value.slice A0 j c0).ownBlock) => (show PIn W9 (.slice (some ⟨g1, 0, none⟩) (j + 1) cap) (j + 1) 2 fz w' from (hz.out.keep B).grow (x.congr fun i hi => by
          show (if i = j then qv else fz i) = fz i
          by_cases e : i = j
          · rw [if_pos e, hqv, e]
          · rw [if_neg e]) hg))
        have OW := hid (fun (W : World) (B : Below wr.heap.size wr W) => (hz.out.keep B).own)
        have LE := hid hz.out.bel.size
        have BZ := hid hz.out.bel
        have HJ := hid (HF.out j)
        have hn9 : j ≤ 1000000 := by have := HN.out; omega
        clear hz hcell HT9 C4 C5 CMA QC HF HN
        go_upto_region 13 with fail
        obtain ⟨wa, vb, hW, hp, b9, kk⟩ := mk_cells wr [.int .i64 (lo j), .int .i64 (up j), .bool (op j), .bool (it j), .int .i64 (co j)] 60
        simp only [List.toArray] at hW
        rw [← hW, ← hp]
        obtain ⟨v0, v1, v2, v3, v4⟩ := blk_five kk
        have y0 := Blk.cell (M.out.k.bc.keep (bx_call BZ.out b9)) 0
        have CA9 := hid (AT0.out wa (bx_call BZ.out b9) j)
        have KT := hid kk
        have BN1 := hid b9
        clear hW hp b9 kk x0 x1 x2 x3 x4 AT0 BZ
        go_wp2_with fail
        refine (CA9.out).mono ?_
        rintro e w2 ⟨ga, A1, n1, c1, D1, m1, d1, rfl, r, b1⟩
        have SG := hid (vrsign ga A1 n1 c1 D1 m1 d1 4 _ w2 r (by omega))
        have BN2 := hid (bx_call BN1.out b1)
        have KT2 := hid (KT.out.keep b1)
        clear r b1 CA9 KT BN1 v0 v1 v2 v3 v4 y0
        obtain ⟨cj, hcj⟩ : ∃ z, z = atQ Cn cs (j : Int) := ⟨_, rfl⟩
        rw [← hcj] at SG HJ
        clear hcj
        go_wp2_with fail
        refine (SG.out).mono ?_
        rintro e w3 ⟨rfl, b2⟩
        have BN3 := hid (bx_call BN2.out b2)
        obtain ⟨_, v1, _, _, _⟩ := blk_five (KT2.out.keep b2)
        clear SG b2 BN2 KT2
        by_cases s : sgnQ cj < 0
        · have t1 : decide (sgnQ cj < 0) = true := decide_eq_true s
          have FRM := hid (fun (W : World) => (show Calls Tryz.prog 43 #[.int .i64 (up j)] W (RetQ W (fz j) 2) by rw [HJ.out, show endZ cj (lo j) (up j) = up j from if_pos s]; exact vrfrom (up j) W (by omega) (by omega)))
          obtain ⟨zj, hzj⟩ : ∃ z, z = fz j := ⟨_, rfl⟩
          rw [← hzj] at FRM
          have HZ := hid hzj
          clear HJ hzj s
          go_wp2_with fail
          refine (FRM.out _).mono ?_
          rintro e w4 ⟨A4, n4, c4, D4, m4, d4, rfl, r, b3⟩
          have B3 := hid (bx_call BN3.out b3)
          have KN := hid (Blk.new w4 [.bool (sg zj.num), .slice A4 n4 c4, .slice D4 m4 d4] 41)
          have BN := hid (bx_alloc B3.out (.cells #[.bool (sg zj.num), .slice A4 n4 c4, .slice D4 m4 d4] 41))
          have FV := hid (r.v.keep (bx_alloc (bx_refl w4) (.cells #[.bool (sg zj.num), .slice A4 n4 c4, .slice D4 m4 d4] 41)))
          have OV := hid (OW.out _ BN.out)
          have LV := hid (Nat.le_trans LE.out BN.out.size)
          have NV := hid (fun (w' : World) (g1 cap : Nat) q hg => NX.out w' g1 cap _ BN.out zj HZ.out q hg)
          clear r b3 B3 FRM OW LE NX BN BN3 v1 M HZ
          go_wp2_with (at_builtin; refine wpList_append_rat rfl (.tmp 72) (.tmp 75) rfl W9.heap.size (.slice A0 j c0) j 2 _ rfl OV.out w4.heap.size rfl KN.out FV.out hn9 LV.out ?_; intro w5 g9 cap q hg; have ZZ := hid (NV.out w5 g9 cap q hg); clear q hg)
          clear KN FV OV LV NV
          go_roundw
          case rel => exact ⟨j + 1, by omega, by go_num, ⟨_, _, rfl⟩, ZZ⟩
          case measure => simp [intOf]; omega
        · have t1 : decide (sgnQ cj < 0) = false := decide_eq_false s
          have FRM := hid (fun (W : World) => (show Calls Tryz.prog 43 #[.int .i64 (lo j)] W (RetQ W (fz j) 2) by rw [HJ.out, show endZ cj (lo j) (up j) = lo j from if_neg s]; exact vrfrom (lo j) W (by omega) (by omega)))
          obtain ⟨zj, hzj⟩ : ∃ z, z = fz j := ⟨_, rfl⟩
          rw [← hzj] at FRM
          have HZ := hid hzj
          clear HJ hzj s
          go_wp2_with fail
          refine (FRM.out _).mono ?_
          rintro e w4 ⟨A4, n4, c4, D4, m4, d4, rfl, r, b3⟩
          have B3 := hid (bx_call BN3.out b3)
          have KN := hid (Blk.new w4 [.bool (sg zj.num), .slice A4 n4 c4, .slice D4 m4 d4] 41)
          have BN := hid (bx_alloc B3.out (.cells #[.bool (sg zj.num), .slice A4 n4 c4, .slice D4 m4 d4] 41))
          have FV := hid (r.v.keep (bx_alloc (bx_refl w4) (.cells #[.bool (sg zj.num), .slice A4 n4 c4, .slice D4 m4 d4] 41)))
          have OV := hid (OW.out _ BN.out)
          have LV := hid (Nat.le_trans LE.out BN.out.size)
          have NV := hid (fun (w' : World) (g1 cap : Nat) q hg => NX.out w' g1 cap _ BN.out zj HZ.out q hg)
          clear r b3 B3 FRM OW LE NX BN BN3 v1 M HZ
          go_wp2_with (at_builtin; refine wpList_append_rat rfl (.tmp 72) (.tmp 75) rfl W9.heap.size (.slice A0 j c0) j 2 _ rfl OV.out w4.heap.size rfl KN.out FV.out hn9 LV.out ?_; intro w5 g9 cap q hg; have ZZ := hid (NV.out w5 g9 cap q hg); clear q hg)
          clear KN FV OV LV NV
          go_roundw
          case rel => exact ⟨j + 1, by omega, by go_num, ⟨_, _, rfl⟩, ZZ⟩
          case measure => simp [intOf]; omega
      · obtain rfl : j = vn := by omega
        obtain ⟨AZ, cZ, e2, q2⟩ := hz.out.own.qs (by omega)
        rw [e2]
        have QZ := hid q2
        replace M := hid (M.out.keep hz.out.bel)
        clear hz q2 e2 AT0 QC HF HN HT9
        go_upto_region 18 with fail
        (try simp only [List.append_eq, List.cons_append, List.nil_append])
        refine wp_region_noPanic ?_
        refine wp_region_held_drew (S := (fun W => (W.cell? ⟨w.heap.size, 0, none⟩ = some (.slice V0 j vc) ∧ W.cell? ⟨w.heap.size, 1, none⟩ = some (.slice R0 rn rc)) ∧ (W.cell? ⟨lb, 0, none⟩ = some (.bool gl) ∧ W.cell? ⟨lb, 1, none⟩ = some (.slice Al nl cl) ∧ W.cell? ⟨lb, 2, none⟩ = some (.slice Dl ml dl)))) (by kernel_rfl) ?_ (fun hH => ?_)
        exact ⟨blk_two (M.out.keep (bx_drew (bx_refl wr))).k.box, blk_three (M.out.keep (bx_drew (bx_refl wr))).kl⟩
        have bd := bx_drew (bx_refl wr)
        obtain ⟨E0, hW0⟩ : ∃ W, W = wr.drew := ⟨_, rfl⟩
        rw [← hW0] at bd hH ⊢
        clear hW0
        replace M := hid (M.out.keep bd)
        replace QZ := hid (QZ.out.keep bd)
        clear bd
        refine tk 0 hH ?_
        (try simp only [Act.put, gy0, gy1, gy2])
        refine tk 1 hH ?_
        (try simp only [Act.put, gy0, gy1, gy2])
        refine wpAnyH_ready (rs := [2]) (by kernel_rfl) (by simp) ?_
        refine rdy (fun K hK => ?_) AllReadyH.nil
        go_simp
        refine (C4.out _ M.out.k.bel AZ cZ QZ.out).mono ?_
        rintro e wc ⟨rfl, b⟩
        replace M := hid (M.out.keep b)
        replace QZ := hid (QZ.out.keep b)
        clear b hH
        (try go_wp2_with fail)
        refine hK.out _ _ ?_ (fun hH => ?_)
        exact ⟨blk_two M.out.k.box, blk_three M.out.kl⟩
        clear hK K
        (try simp only [Act.put, gy0, gy1, gy2])
        refine tk 3 hH ?_
        (try simp only [Act.put, gy0, gy1, gy2])
        refine tk 4 hH ?_
        (try simp only [Act.put, gy0, gy1, gy2])
        refine tk 5 hH ?_
        (try simp only [Act.put, gy0, gy1, gy2])
        refine tk 7 hH ?_
        (try simp only [Act.put, gy0, gy1, gy2])
        refine wpAnyH_ready (rs := [6]) (by kernel_rfl) (by simp) ?_
        refine rdy (fun K hK => ?_) AllReadyH.nil
        go_simp
        refine (C5.out _ M.out.k.bel M.out.k.box M.out.k.bc AZ cZ QZ.out).mono ?_
        rintro e wc ⟨g5, A5, n5, c5, D5, m5, d5, rfl, r, b⟩
        replace M := hid (M.out.keep b)
        have R5 := hid r
        clear r b hH QZ
        (try go_wp2_with fail)
        refine hK.out _ _ ?_ (fun hH => ?_)
        exact ⟨blk_two M.out.k.box, blk_three M.out.kl⟩
        clear hK K
        (try simp only [Act.put, gy0, gy1, gy2])
        refine wpAnyH_ready (rs := [8]) (by kernel_rfl) (by simp) ?_
        refine rdy (fun K hK => ?_) AllReadyH.nil
        go_simp
        refine (CMA.out _ g5 A5 n5 c5 D5 m5 d5 R5.out gl Al nl cl Dl ml dl M.out.fl).mono ?_
        rintro e wc ⟨rfl, b⟩
        replace M := hid (M.out.keep b)
        clear b hH R5
        (try go_wp2_with fail)
        refine hK.out _ _ ?_ (fun hH => ?_)
        exact ⟨blk_two M.out.k.box, blk_three M.out.kl⟩
        clear hK K
        (try simp only [Act.put, gy0, gy1, gy2])
        refine tk 9 hH ?_
        (try simp only [Act.put, gy0, gy1, gy2])
        refine tk 10 hH ?_
        (try simp only [Act.put, gy0, gy1, gy2])
        refine tk 11 hH ?_
        (try simp only [Act.put, gy0, gy1, gy2])
        refine wpAnyH_done (by kernel_rfl) ?_ _
        refine NoPanic.normal ?_
        clear hH
        have BF := hid M.out.k.bel
        clear M C4 C5 CMA
        go_wp2_with fail
        go_ret
        exact vld_yes (by simp) BF.out
end Go.Proofs.YtdbccidlnhjfhaaGreatDoor
