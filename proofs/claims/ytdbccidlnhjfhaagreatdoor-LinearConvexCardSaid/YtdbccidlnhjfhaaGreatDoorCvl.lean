/- The law LinearConvex. -/
import Derived.Test.YtdbccidlnhjfhaaGreatDoorImp
import Derived.Test.YtdbccidlnhjfhaaGreatDoorMix
import Derived.Test.YtdbccidlnhjfhaaGreatDoorCvx
import Derived.Deep.DeepCutAuto
import Derived.BigQuiet
namespace Go.Proofs.YtdbccidlnhjfhaaGreatDoor
open Go.RowKit
set_option maxRecDepth 100000
structure Mb (w : World) (V0 : Option Addr) (vn vc : Nat) (R0 : Option Addr) (rn rc : Nat) (ab : Nat) (ga : Bool) (Aa : Option Addr) (na ca : Nat) (Da : Option Addr) (ma da : Nat) (a : Rat) (bb : Nat) (gb : Bool) (Ab : Option Addr) (nb cb : Nat) (Db : Option Addr) (mb db : Nat) (b : Rat) (W : World) : Prop where
  bel : Below w.heap.size w W
  box : Blk W w.heap.size [.slice V0 vn vc, .slice R0 rn rc] 25
  ka : Blk W ab [.bool ga, .slice Aa na ca, .slice Da ma da] 41
  kb : Blk W bb [.bool gb, .slice Ab nb cb, .slice Db mb db] 41
  fa : FrV W ga Aa na ca Da ma da 2 a
  fb : FrV W gb Ab nb cb Db mb db 5 b
section
variable {w W W' : World} {V0 : Option Addr} {vn vc : Nat} {R0 : Option Addr} {rn rc : Nat} {ab : Nat} {ga : Bool} {Aa : Option Addr} {na ca : Nat} {Da : Option Addr} {ma da : Nat} {a : Rat} {bb : Nat} {gb : Bool} {Ab : Option Addr} {nb cb : Nat} {Db : Option Addr} {mb db : Nat} {b : Rat}
theorem Mb.keep (h : Mb w V0 vn vc R0 rn rc ab ga Aa na ca Da ma da a bb gb Ab nb cb Db mb db b W) (e : Below W.heap.size W W') : Mb w V0 vn vc R0 rn rc ab ga Aa na ca Da ma da a bb gb Ab nb cb Db mb db b W' := ⟨bx_call h.bel e, h.box.keep e, h.ka.keep e, h.kb.keep e, h.fa.keep e, h.fb.keep e⟩
theorem Mb.next {b0 : Bool} {A0 D0 : Option Addr} {n0 c0 m0 d0 : Nat} (P : Kp w V0 vn vc R0 rn rc W) (KA : Blk W ab [.bool ga, .slice Aa na ca, .slice Da ma da] 41) (FA : FrV W ga Aa na ca Da ma da 2 a) (KB : Blk W bb [.bool b0, .slice A0 n0 c0, .slice D0 m0 d0] 41) (FB : FrV W gb Ab nb cb Db mb db 5 b) (h1 : w.heap.size < bb) (h2 : ab ≠ bb) :
    Mb w V0 vn vc R0 rn rc ab ga Aa na ca Da ma da a bb gb Ab nb cb Db mb db b (((W.setCell ⟨bb, 0, none⟩ (.bool gb)).setCell ⟨bb, 1, none⟩ (.slice Ab nb cb)).setCell ⟨bb, 2, none⟩ (.slice Db mb db)) :=
  ⟨bx_set (bx_set (bx_set P.bel (by omega)) (by omega)) (by omega), ((P.box.far (by omega) _).far (by omega) _).far (by omega) _, ((KA.far h2 _).far h2 _).far h2 _, ((KB.set_ 0 _).set_ 1 _).set_ 2 _, frv_far3 FA KB _ _ _, frv_far3 FB KB _ _ _⟩
end
theorem PD.mix_pt {p : PD} {x y f : Nat → Rat} {a b : Rat} (hb : b = 1 - a) (hf : f = fun j => a * x j + b * y j) : ∀ j, j < p.vn → pt p.vn f j = mixQ a x y j := fun j hj => by
  unfold pt mixQ
  rw [atQ_in hj, hf, hb]
theorem rowV_mx {vn tn : Nat} {v cf : Nat → Int} {x y : Nat → Rat} (h : ∀ j, j < vn → x j = y j) : rowV vn tn v cf x = rowV vn tn v cf y := by
  unfold rowV
  refine sumN_congr fun t _ => ?_
  have : atQ vn x (v t) = atQ vn y (v t) := by
    unfold atQ
    split
    · rename_i g
      exact h _ (by omega)
    · rfl
  rw [this]
theorem mix_all {p : PD} {x y f : Nat → Rat} {a b : Rat} (h0 : 0 ≤ a) (h9 : a ≤ 1) (hb : b = 1 - a) (hf : f = fun j => a * x j + b * y j) (hx : p.inB x = true) (hy : p.inB y = true) (vx : vio (p.rowB x) p.rn = []) (vy : vio (p.rowB y) p.rn = []) :
    p.inB (pt p.vn f) = true ∧ vio (p.rowB (pt p.vn f)) p.rn = [] ∧ sgnQ (p.costV (pt p.vn f) - (a * p.costV x + b * p.costV y)) = 0 := by
  have e := PD.mix_pt (p := p) hb hf
  refine ⟨?_, ?_, ?_⟩
  · unfold PD.inB
    rw [insB_congr e]
    exact PD.mix_in h0 h9 hx hy
  · have e2 : ∀ i, p.rowB (pt p.vn f) i = p.rowB (mixQ a x y) i := fun i => by unfold PD.rowB; rw [rowV_mx e]
    have h1 := vio_nil.1 (PD.mix_vio h0 h9 vx vy)
    exact vio_nil.2 fun i hi => (e2 i).trans (h1 i hi)
  · have e3 : p.costV (pt p.vn f) = p.costV (mixQ a x y) := by
      unfold PD.costV
      exact sumN_congr fun j hj => by show (p.co j : Rat) * _ = (p.co j : Rat) * _; rw [e j hj]
    rw [e3, PD.mix_cost, hb]
    exact sgnQ_zero.2 (by grind)
theorem weight {k : Nat} (h : k ≤ 255) : 0 ≤ pv (k : Int) 255 ∧ pv (k : Int) 255 ≤ 1 := by
  unfold pv
  have h1 : ((0 : Int) : Rat) ≤ ((k : Int) : Rat) := Rat.intCast_le_intCast.2 (by omega)
  have h2 : ((k : Int) : Rat) ≤ ((255 : Int) : Rat) := Rat.intCast_le_intCast.2 (by omega)
  have e0 : ((0 : Int) : Rat) = 0 := rfl
  have e : (((255 : Int)) : Rat) = 255 := rfl
  rw [e0] at h1
  rw [e] at h2 ⊢
  obtain ⟨x, hx⟩ : ∃ x, x = ((k : Int) : Rat) := ⟨_, rfl⟩
  rw [← hx] at h1 h2 ⊢
  grind
set_option maxHeartbeats 8000000 in
theorem linearConvex_any (p : PD) (X Y : LD) (k : Nat) (w : World) (hk : k ≤ 255) (h : Pw w p) (hx : X.ok w) (hy : Y.ok w) (ht : Tab w) :
    Calls Tryz.prog 9 #[.agg #[.slice p.V0 p.vn p.vc, .slice p.R0 p.rn p.rc], .slice X.A X.n X.c, .slice Y.A Y.n Y.c, .int .u8 (k : Int)] w (RetB w true) := by
  have TB := hid ht
  have CF := hid (fun (W : World) (B : Below w.heap.size w W) => (show Calls Tryz.prog 11 #[.agg #[.slice p.V0 p.vn p.vc, .slice p.R0 p.rn p.rc], .int .i64 6, .int .i64 6] W (RetB W (fewP p.vn p.rn p.nm p.tn 6 6)) from rfewp p.V0 p.vn p.vc p.R0 p.rn p.rc p.nm p.gr p.ki p.bo p.TA p.tn p.tc p.v p.cf 6 6 W (Nat.le_trans h.vs.1 h.vs.2.1) (h.rs.keep B) h.nms (by omega) (by omega)))
  have CX := hid (fun (W : World) (B : Below w.heap.size w W) => (show Calls Tryz.prog 17 #[.slice X.A X.n X.c, .int .i64 6] W (RetB W (shortB 6 X.n X.N X.M)) from rshort X.A X.n X.c 6 X.N X.M X.qs W (hx.keep B) (by omega)))
  have CY := hid (fun (W : World) (B : Below w.heap.size w W) => (show Calls Tryz.prog 17 #[.slice Y.A Y.n Y.c, .int .i64 6] W (RetB W (shortB 6 Y.n Y.N Y.M)) from rshort Y.A Y.n Y.c 6 Y.N Y.M Y.qs W (hy.keep B) (by omega)))
  obtain ⟨a, ha⟩ : ∃ a, a = pv (k : Int) 255 := ⟨_, rfl⟩
  obtain ⟨b, hb⟩ : ∃ b, b = 1 - a := ⟨_, rfl⟩
  obtain ⟨fz, hfz⟩ : ∃ f : Nat → Rat, f = fun j => a * pt X.n X.qs j + b * pt Y.n Y.qs j := ⟨_, rfl⟩
  have FF := fun (g1 : p.inB (pt X.n X.qs) = true) (g2 : p.inB (pt Y.n Y.qs) = true) (g3 : vio (p.rowB (pt X.n X.qs)) p.rn = []) (g4 : vio (p.rowB (pt Y.n Y.qs)) p.rn = []) => mix_all (p := p) (by rw [ha]; exact (weight hk).1) (by rw [ha]; exact (weight hk).2) hb hfz g1 g2 g3 g4
  have HF := hid (fun j : Nat => (show fz j = a * atQ X.n X.qs (j : Int) + b * atQ Y.n Y.qs (j : Int) by rw [hfz]; rfl))
  have CA := hid (fun (W : World) => (show Calls Tryz.prog 50 #[.int .i64 (k : Int), .int .i64 255] W (RetQ2 W a 2 0) by rw [ha]; exact vrfrac (k : Int) 255 W (by omega) (by omega) (by omega) (by omega)))
  have CO := hid (fun (W : World) => (show Calls Tryz.prog 43 #[.int .i64 1] W (RetQ W (1 : Rat) 2) from vrfrom 1 W (by omega) (by omega)))
  have CS := hid (fun (W : World) (A1 : Option Addr) (n1 c1 : Nat) (D1 : Option Addr) (m1 d1 : Nat) (L : FrL W A1 n1 c1 D1 m1 d1 2 1) (ga : Bool) (Aa : Option Addr) (na ca : Nat) (Da : Option Addr) (ma da : Nat) (M : FrV W ga Aa na ca Da ma da 2 a) => (show Calls Tryz.prog 51 #[.agg #[.bool (sg (1 : Rat).num), .slice A1 n1 c1, .slice D1 m1 d1], .agg #[.bool ga, .slice Aa na ca, .slice Da ma da]] W (RetQ W b 5) by rw [hb]; exact vrsub (sg (1 : Rat).num) A1 n1 c1 D1 m1 d1 ga Aa na ca Da ma da 2 1 a W L.v M (by omega)))
  have C1 := hid (fun (e1 : fewP p.vn p.rn p.nm p.tn 6 6 = true) (e2 : shortB 6 X.n X.N X.M = true) (W : World) (B : Below w.heap.size w W) => d_inside (h := ((h.keep B).pg (few68 e1).1)) (hQ := Qw.qs (hx.keep B) (short_few e2).1) (hk := by omega))
  have C2 := hid (fun (e1 : fewP p.vn p.rn p.nm p.tn 6 6 = true) (e3 : shortB 6 Y.n Y.N Y.M = true) (W : World) (B : Below w.heap.size w W) => d_inside (h := ((h.keep B).pg (few68 e1).1)) (hQ := Qw.qs (hy.keep B) (short_few e3).1) (hk := by omega))
  have C3 := hid (fun (e1 : fewP p.vn p.rn p.nm p.tn 6 6 = true) (e2 : shortB 6 X.n X.N X.M = true) (W : World) (B : Below w.heap.size w W) => d_violated (h := ((h.keep B).pg (few68 e1).1)) (hQ := Qw.qs (hx.keep B) (short_few e2).1) (hk := by omega))
  have C4 := hid (fun (e1 : fewP p.vn p.rn p.nm p.tn 6 6 = true) (e3 : shortB 6 Y.n Y.N Y.M = true) (W : World) (B : Below w.heap.size w W) => d_violated (h := ((h.keep B).pg (few68 e1).1)) (hQ := Qw.qs (hy.keep B) (short_few e3).1) (hk := by omega))
  have C8 := hid (fun (e1 : fewP p.vn p.rn p.nm p.tn 6 6 = true) (e2 : shortB 6 X.n X.N X.M = true) (W : World) (B : Below w.heap.size w W) => d_cost (h := ((h.keep B).pg (few68 e1).1)) (hQ := Qw.qs (hx.keep B) (short_few e2).1) (hk := by omega))
  have C9 := hid (fun (e1 : fewP p.vn p.rn p.nm p.tn 6 6 = true) (e3 : shortB 6 Y.n Y.N Y.M = true) (W : World) (B : Below w.heap.size w W) => d_cost (h := ((h.keep B).pg (few68 e1).1)) (hQ := Qw.qs (hy.keep B) (short_few e3).1) (hk := by omega))
  have C5 := hid (fun (e1 : fewP p.vn p.rn p.nm p.tn 6 6 = true) (W : World) (B : Below w.heap.size w W) (A : Option Addr) (c : Nat) (q : Qs W A p.vn c 21 fz) => d_inside (h := ((h.keep B).pg (few68 e1).1)) (hQ := q) (hk := by omega))
  have C6 := hid (fun (e1 : fewP p.vn p.rn p.nm p.tn 6 6 = true) (hv : vio (p.rowB (pt p.vn fz)) p.rn = []) (W : World) (B : Below w.heap.size w W) (A : Option Addr) (c : Nat) (q : Qs W A p.vn c 21 fz) => (show Calls Tryz.prog 24 #[.agg #[.slice p.V0 p.vn p.vc, .slice p.R0 p.rn p.rc], .slice A p.vn c] W (fun e w' => ∃ A c, e = .returned (.slice A 0 c) ∧ Below W.heap.size W w') from by
    have t := d_violated (h := ((h.keep B).pg (few68 e1).1)) (hQ := q) (hk := by omega)
    rw [hv] at t
    exact t.mono fun e w' ⟨A, c, h1, _, h3⟩ => ⟨A, c, h1, h3⟩))
  have C7 := hid (fun (e1 : fewP p.vn p.rn p.nm p.tn 6 6 = true) (W : World) (B : Below w.heap.size w W) (A : Option Addr) (c : Nat) (q : Qs W A p.vn c 21 fz) => d_cost (h := ((h.keep B).pg (few68 e1).1)) (hQ := q) (hk := by omega))
  have QX := hid (fun (e2 : shortB 6 X.n X.N X.M = true) (W : World) (B : Below w.heap.size w W) => Qw.qs (hx.keep B) (short_few e2).1)
  have QY := hid (fun (e3 : shortB 6 Y.n Y.N Y.M = true) (W : World) (B : Below w.heap.size w W) => Qw.qs (hy.keep B) (short_few e3).1)
  have VN := fun (e1 : fewP p.vn p.rn p.nm p.tn 6 6 = true) => (few68 e1).2
  obtain ⟨s1, hs1⟩ : ∃ s, s = fewP p.vn p.rn p.nm p.tn 6 6 := ⟨_, rfl⟩
  rw [← hs1] at CF C1 C2 C3 C4 C5 C6 C7 C8 C9 VN
  obtain ⟨s2, hs2⟩ : ∃ s, s = shortB 6 X.n X.N X.M := ⟨_, rfl⟩
  rw [← hs2] at CX C1 C3 C8 QX
  obtain ⟨s3, hs3⟩ : ∃ s, s = shortB 6 Y.n Y.N Y.M := ⟨_, rfl⟩
  rw [← hs3] at CY C2 C4 C9 QY
  obtain ⟨b1, hb1⟩ : ∃ s, s = p.inB (pt X.n X.qs) := ⟨_, rfl⟩
  rw [← hb1] at C1 FF
  obtain ⟨b2, hb2⟩ : ∃ s, s = p.inB (pt Y.n Y.qs) := ⟨_, rfl⟩
  rw [← hb2] at C2 FF
  obtain ⟨l1, hl1⟩ : ∃ s, s = vio (p.rowB (pt X.n X.qs)) p.rn := ⟨_, rfl⟩
  rw [← hl1] at C3 FF
  obtain ⟨l2, hl2⟩ : ∃ s, s = vio (p.rowB (pt Y.n Y.qs)) p.rn := ⟨_, rfl⟩
  rw [← hl2] at C4 FF
  obtain ⟨b3, hb3⟩ : ∃ s, s = p.inB (pt p.vn fz) := ⟨_, rfl⟩
  rw [← hb3] at C5 FF
  obtain ⟨l3, hl3⟩ : ∃ s, s = vio (p.rowB (pt p.vn fz)) p.rn := ⟨_, rfl⟩
  rw [← hl3] at C6 FF
  obtain ⟨qz, hqz⟩ : ∃ s, s = p.costV (pt p.vn fz) := ⟨_, rfl⟩
  rw [← hqz] at C7 FF
  obtain ⟨qx, hqx⟩ : ∃ s, s = p.costV (pt X.n X.qs) := ⟨_, rfl⟩
  rw [← hqx] at C8 FF
  obtain ⟨qy, hqy⟩ : ∃ s, s = p.costV (pt Y.n Y.qs) := ⟨_, rfl⟩
  rw [← hqy] at C9 FF
  have CM := hid (fun (z : Rat) (hz : sgnQ (qz - z) = 0) (W : World) (g1 : Bool) (A1 : Option Addr) (n1 c1 : Nat) (D1 : Option Addr) (m1 d1 : Nat) (L : FrV W g1 A1 n1 c1 D1 m1 d1 10301 qz) (g2 : Bool) (A2 : Option Addr) (n2 c2 : Nat) (D2 : Option Addr) (m2 d2 : Nat) (M : FrV W g2 A2 n2 c2 D2 m2 d2 41205 z) => (show Calls Tryz.prog 40 #[.agg #[.bool g1, .slice A1 n1 c1, .slice D1 m1 d1], .agg #[.bool g2, .slice A2 n2 c2, .slice D2 m2 d2]] W (RetI W 0) by rw [← hz]; exact vrcmp g1 A1 n1 c1 D1 m1 d1 g2 A2 n2 c2 D2 m2 d2 41205 qz z W (L.up (by omega)) M (by omega)))
  have GF := hid FF
  have HN := hid VN
  have hvl := h.vs.1
  have hvl2 := h.vs.2.1
  have hk9 := hk
  clear hx hy hs1 hs2 hs3 hb1 hb2 hl1 hl2 hb3 hl3 hqz hqx hqy FF VN h ht hk ha hb hfz
  obtain ⟨V0, vn, vc, lo, up, op, it, co, R0, rn, rc, nm, gr, ki, bo, TA, tn, tc, v, cf⟩ := p
  obtain ⟨XA, Xn, Xc, XN, XM, xs⟩ := X
  obtain ⟨YA, Yn, Yc, YN, YM, ys⟩ := Y
  dsimp only at CF CX CY C1 C2 C3 C4 C5 C6 C7 C8 C9 QX QY GF HF HN hvl hvl2 ⊢
  obtain ⟨W0, hW⟩ : ∃ W, W = w.alloc (.cells #[.slice V0 vn vc, .slice R0 rn rc] 25) := ⟨_, rfl⟩
  have B0 := bx_alloc (bx_refl w) (.cells #[.slice V0 vn vc, .slice R0 rn rc] 25)
  have K0 := Blk.new w [.slice V0 vn vc, .slice R0 rn rc] 25
  change Blk (w.alloc (.cells #[.slice V0 vn vc, .slice R0 rn rc] 25)) _ _ _ at K0
  rw [← hW] at B0 K0
  have P0 := hid (show Kp w V0 vn vc R0 rn rc W0 from ⟨B0, K0⟩)
  clear B0 K0
  go_enter Tryz.func9, Tryz.ntmps9
  go_upto_region 1 with fail
  rw [← hW]
  clear hW
  go_wp2_with fail
  refine (awk4 W0 (TB.out.keep P0.out.bel)).mono ?_
  rintro e W1 ⟨rfl, b⟩
  have P1 := hid (P0.out.keep b)
  clear P0 b
  obtain ⟨z0, z1⟩ := blk_two P1.out.box
  go_wp2_with fail
  refine (CF.out _ P1.out.bel).mono ?_
  rintro e W2 ⟨rfl, b⟩
  have P2 := hid (P1.out.keep b)
  clear P1 b z0 z1 CF
  cases s1
  · clear CX CY C1 C2 C3 C4 C5 C6 C7 C8 C9 QX QY GF HF HN CA CO CS CM
    go_wp2_with fail
    refine (awk4 W2 (TB.out.keep P2.out.bel)).mono ?_
    rintro e W3 ⟨rfl, b⟩
    have P4 := hid (P2.out.keep b)
    clear P2 b
    go_wp2_with fail
    go_ret
    exact vld_yes rfl P4.out.bel
  replace C1 := hid (C1.out rfl)
  replace C2 := hid (C2.out rfl)
  replace C3 := hid (C3.out rfl)
  replace C4 := hid (C4.out rfl)
  replace C5 := hid (C5.out rfl)
  replace C6 := hid (C6.out rfl)
  replace C7 := hid (C7.out rfl)
  replace C8 := hid (C8.out rfl)
  replace C9 := hid (C9.out rfl)
  replace HN := hid (HN.out rfl)
  go_wp2_with fail
  refine (CX.out _ P2.out.bel).mono ?_
  rintro e W3 ⟨rfl, b⟩
  have P3 := hid (P2.out.keep b)
  clear P2 b CX
  cases s2
  · clear CY C1 C2 C3 C4 C5 C6 C7 C8 C9 QX QY GF HF HN CA CO CS CM
    go_wp2_with fail
    refine (awk4 W3 (TB.out.keep P3.out.bel)).mono ?_
    rintro e W4 ⟨rfl, b⟩
    have P4 := hid (P3.out.keep b)
    clear P3 b
    go_wp2_with fail
    go_ret
    exact vld_yes rfl P4.out.bel
  replace C1 := hid (C1.out rfl)
  replace C3 := hid (C3.out rfl)
  replace C8 := hid (C8.out rfl)
  replace QX := hid (QX.out rfl)
  go_wp2_with fail
  refine (CY.out _ P3.out.bel).mono ?_
  rintro e W4 ⟨rfl, b⟩
  have P4 := hid (P3.out.keep b)
  clear P3 b CY
  cases s3
  · clear C1 C2 C3 C4 C5 C6 C7 C8 C9 QX QY GF HF HN CA CO CS CM
    go_wp2_with fail
    refine (awk4 W4 (TB.out.keep P4.out.bel)).mono ?_
    rintro e W5 ⟨rfl, b⟩
    have P5 := hid (P4.out.keep b)
    clear P4 b
    go_wp2_with fail
    go_ret
    exact vld_yes rfl P5.out.bel
  replace C2 := hid (C2.out rfl)
  replace C4 := hid (C4.out rfl)
  replace C9 := hid (C9.out rfl)
  replace QY := hid (QY.out rfl)
  clear TB
  obtain ⟨z0, z1⟩ := blk_two P4.out.box
  go_wp2_with fail
  refine (C1.out _ P4.out.bel).mono ?_
  rintro e W5 ⟨rfl, b⟩
  have P5 := hid (P4.out.keep b)
  clear P4 b z0 z1 C1
  obtain ⟨z0, z1⟩ := blk_two P5.out.box
  cases b1
  · have HP := hid (vld_yes rfl P5.out.bel : RetB w true (.returned (.bool true)) W5)
    clear C2 C3 C4 C5 C6 C7 C8 C9 QX QY GF HF HN CA CO CS CM P5
    go_wp2_with fail
    go_ret
    exact HP.out
  go_wp2_with fail
  refine (C2.out _ P5.out.bel).mono ?_
  rintro e W6 ⟨rfl, b⟩
  have P6 := hid (P5.out.keep b)
  clear P5 b z0 z1 C2
  obtain ⟨z0, z1⟩ := blk_two P6.out.box
  cases b2
  · have HP := hid (vld_yes rfl P6.out.bel : RetB w true (.returned (.bool true)) W6)
    clear C3 C4 C5 C6 C7 C8 C9 QX QY GF HF HN CA CO CS CM P6
    go_wp2_with fail
    go_ret
    exact HP.out
  go_wp2_with fail
  refine (C3.out _ P6.out.bel).mono ?_
  rintro e W7 ⟨LA, Lc, rfl, _, b⟩
  have P7 := hid (P6.out.keep b)
  clear P6 b z0 z1 C3
  obtain ⟨z0, z1⟩ := blk_two P7.out.box
  cases l1 with
  | cons l0 l =>
    have HP := hid (vld_yes rfl P7.out.bel : RetB w true (.returned (.bool true)) W7)
    have hlen : (l0 :: l).length = l.length + 1 := rfl
    rw [hlen]
    obtain ⟨L, hL⟩ : ∃ L, L = l.length := ⟨_, rfl⟩
    rw [← hL]
    have t1 : decide ((0 : Int) < ((L + 1 : Nat) : Int)) = true := decide_eq_true (by omega)
    have t2 : decide (0 < L + 1) = true := decide_eq_true (by omega)
    have t3 : decide ((0 : Int) < (L : Int) + 1) = true := decide_eq_true (by omega)
    clear C4 C5 C6 C7 C8 C9 QX QY GF HF HN CA CO CS CM P7 hlen hL
    go_wp2_with fail
    go_ret
    exact HP.out
  | nil =>
  have hlen : ([] : List Nat).length = 0 := rfl
  rw [hlen]
  clear hlen
  go_wp2_with fail
  refine (C4.out _ P7.out.bel).mono ?_
  rintro e W8 ⟨LA, Lc, rfl, _, b⟩
  have P8 := hid (P7.out.keep b)
  clear P7 b z0 z1 C4
  obtain ⟨z0, z1⟩ := blk_two P8.out.box
  cases l2 with
  | cons l0 l =>
    have HP := hid (vld_yes rfl P8.out.bel : RetB w true (.returned (.bool true)) W8)
    have hlen : (l0 :: l).length = l.length + 1 := rfl
    rw [hlen]
    obtain ⟨L, hL⟩ : ∃ L, L = l.length := ⟨_, rfl⟩
    rw [← hL]
    have t1 : decide ((0 : Int) < ((L + 1 : Nat) : Int)) = true := decide_eq_true (by omega)
    have t2 : decide (0 < L + 1) = true := decide_eq_true (by omega)
    have t3 : decide ((0 : Int) < (L : Int) + 1) = true := decide_eq_true (by omega)
    clear C5 C6 C7 C8 C9 QX QY GF HF HN CA CO CS CM P8 hlen hL
    go_wp2_with fail
    go_ret
    exact HP.out
  | nil =>
  have hlen : ([] : List Nat).length = 0 := rfl
  rw [hlen]
  clear hlen
  go_wp2_with fail
  obtain ⟨f1, f2, f3⟩ := GF.out (by simp) (by simp) (by simp) (by simp)
  replace C6 := hid (C6.out f2)
  replace CM := hid (CM.out _ f3)
  clear GF f2 f3
  subst f1
  refine (CA.out _).mono ?_
  rintro e W9 ⟨Aa, na, ca, Da, ma, da, rfl, fa, b⟩
  have P9 := hid (P8.out.keep b)
  clear P8 b z0 z1 CA
  obtain ⟨ga, hga⟩ : ∃ g, g = sg a.num := ⟨_, rfl⟩
  have FA0 := fa.v
  rw [← hga] at FA0 ⊢
  clear hga fa
  go_upto_region 6 with fail
  obtain ⟨wc, ab, hW, hp, b, kk⟩ := mk_cells W9 [.bool ga, .slice Aa na ca, .slice Da ma da] 41
  simp only [List.toArray] at hW
  rw [← hW, ← hp]
  have P := hid (P9.out.keep b)
  have KA := hid kk
  have FA := hid (FA0.keep b)
  clear hW hp b kk P9 FA0
  (try clear z0 z1)
  (try simp only [List.append_eq, List.cons_append, List.nil_append])
  refine wp_region_noPanic ?_
  refine wp_region_held_drew (S := (fun W => W.cell? ⟨ab, 0, none⟩ = some (.bool ga) ∧ W.cell? ⟨ab, 1, none⟩ = some (.slice Aa na ca) ∧ W.cell? ⟨ab, 2, none⟩ = some (.slice Da ma da))) (by kernel_rfl) ?_ (fun hH => ?_)
  · exact blk_three (KA.out.keep (bx_drew (bx_refl _)))
  have bd := bx_drew (bx_refl wc)
  obtain ⟨wc, hW0⟩ : ∃ W, W = wc.drew := ⟨_, rfl⟩
  rw [← hW0] at bd hH ⊢
  clear hW0
  replace P := hid (P.out.keep bd)
  replace KA := hid (KA.out.keep bd)
  replace FA := hid (FA.out.keep bd)
  clear bd
  refine tk 1 hH ?_
  (try simp only [Act.put, gy0, gy1, gy2])
  refine wpAnyH_ready (rs := [0, 3]) (by kernel_rfl) (by simp) ?_
  refine rdy (fun K hK => ?_) ?_
  go_simp
  refine (CO.out _).mono ?_
  rintro e wc ⟨A1, n1, c1, D1, m1, d1, rfl, r, b⟩
  replace P := hid (P.out.keep b)
  replace KA := hid (KA.out.keep b)
  replace FA := hid (FA.out.keep b)
  try (replace KB := hid (KB.out.keep b))
  try (replace R1 := hid (R1.out.keep b))
  try (replace R2 := hid (R2.out.keep b))
  have R1 := hid r
  clear r b hH
  (try go_wp2_with fail)
  refine hK.out _ _ ?_ (fun hH => ?_)
  · exact blk_three KA.out
  clear hK K
  (try simp only [Act.put, gy0, gy1, gy2])
  refine wpAnyH_ready (rs := [2, 3]) (by kernel_rfl) (by simp) ?_
  refine rdy (fun K hK => ?_) ?_
  go_simp
  refine (CS.out _ A1 n1 c1 D1 m1 d1 R1.out ga Aa na ca Da ma da FA.out).mono ?_
  rintro e wc ⟨A2, n2, c2, D2, m2, d2, rfl, r, b⟩
  clear R1
  replace P := hid (P.out.keep b)
  replace KA := hid (KA.out.keep b)
  replace FA := hid (FA.out.keep b)
  try (replace KB := hid (KB.out.keep b))
  have R2 := hid r
  clear r b hH
  (try go_wp2_with fail)
  refine hK.out _ _ ?_ (fun hH => ?_)
  · exact blk_three KA.out
  clear hK K
  (try simp only [Act.put, gy0, gy1, gy2])
  refine wpAnyH_ready (rs := [3]) (by kernel_rfl) (by simp) ?_
  refine rdy (fun K hK => ?_) ?_
  go_simp
  obtain ⟨wc, nb, hW, hp, b, kk⟩ := mk_cells wc [.bool false, .slice none 0 0, .slice none 0 0] 41
  simp only [List.toArray] at hW
  rw [← hW, ← hp]
  have hab : ab ≠ nb := by have := KA.out.lt; omega
  have hb0 : w.heap.size < nb := by have := P.out.box.lt; omega
  clear hW hp hH
  replace P := hid (P.out.keep b)
  replace KA := hid (KA.out.keep b)
  replace FA := hid (FA.out.keep b)
  try (replace R1 := hid (R1.out.keep b))
  try (replace R2 := hid (R2.out.keep b))
  have KB := hid kk
  clear kk b
  refine hK.out _ _ ?_ (fun hH => ?_)
  · exact blk_three KA.out
  clear hK K
  (try simp only [Act.put, gy0, gy1, gy2])
  refine wpAnyH_ready (rs := [4]) (by kernel_rfl) (by simp) ?_
  refine rdy (fun K hK => ?_) ?_
  have f0 := Blk.free KB.out 0
  have f1 := Blk.free KB.out 1
  have f2 := Blk.free KB.out 2
  obtain ⟨x0, x1, x2⟩ := blk_three KB.out
  have NN := hid (Mb.next P.out KA.out FA.out KB.out R2.out.v hb0 hab)
  go_simp
  clear hH
  refine hK.out _ _ ?_ (fun hH => ?_)
  · exact three_far KA.out hab _ _ _
  clear hK K
  (try simp only [Act.put, gy0, gy1, gy2])
  refine wpAnyH_done (by kernel_rfl) ?_ _
  refine NoPanic.normal ?_
  clear hH
  clear KA FA P KB CO CS f0 f1 f2 x0 x1 x2
  obtain ⟨W9, hW9⟩ : ∃ W, W = ((wc.setCell ⟨nb, 0, none⟩ (.bool (sg b.num))).setCell ⟨nb, 1, none⟩ (.slice A2 n2 c2)).setCell ⟨nb, 2, none⟩ (.slice D2 m2 d2) := ⟨_, rfl⟩
  rw [← hW9] at NN ⊢
  clear hW9 R2
  obtain ⟨gb, hgb⟩ : ∃ g, g = sg b.num := ⟨_, rfl⟩
  rw [← hgb] at NN
  clear hgb hab hb0
  obtain ⟨z0, z1⟩ := blk_two NN.out.box
  rotate_left
  exact AllReadyH.nil
  exact AllReadyH.nil
  refine rdy (fun K hK => ?_) ?_
  go_simp
  obtain ⟨wc, nb, hW, hp, b, kk⟩ := mk_cells wc [.bool false, .slice none 0 0, .slice none 0 0] 41
  simp only [List.toArray] at hW
  rw [← hW, ← hp]
  have hab : ab ≠ nb := by have := KA.out.lt; omega
  have hb0 : w.heap.size < nb := by have := P.out.box.lt; omega
  clear hW hp hH
  replace P := hid (P.out.keep b)
  replace KA := hid (KA.out.keep b)
  replace FA := hid (FA.out.keep b)
  try (replace R1 := hid (R1.out.keep b))
  try (replace R2 := hid (R2.out.keep b))
  have KB := hid kk
  clear kk b
  refine hK.out _ _ ?_ (fun hH => ?_)
  · exact blk_three KA.out
  clear hK K
  (try simp only [Act.put, gy0, gy1, gy2])
  refine wpAnyH_ready (rs := [2]) (by kernel_rfl) (by simp) ?_
  refine rdy (fun K hK => ?_) ?_
  go_simp
  refine (CS.out _ A1 n1 c1 D1 m1 d1 R1.out ga Aa na ca Da ma da FA.out).mono ?_
  rintro e wc ⟨A2, n2, c2, D2, m2, d2, rfl, r, b⟩
  clear R1
  replace P := hid (P.out.keep b)
  replace KA := hid (KA.out.keep b)
  replace FA := hid (FA.out.keep b)
  try (replace KB := hid (KB.out.keep b))
  have R2 := hid r
  clear r b hH
  (try go_wp2_with fail)
  refine hK.out _ _ ?_ (fun hH => ?_)
  · exact blk_three KA.out
  clear hK K
  (try simp only [Act.put, gy0, gy1, gy2])
  refine wpAnyH_ready (rs := [4]) (by kernel_rfl) (by simp) ?_
  refine rdy (fun K hK => ?_) ?_
  have f0 := Blk.free KB.out 0
  have f1 := Blk.free KB.out 1
  have f2 := Blk.free KB.out 2
  obtain ⟨x0, x1, x2⟩ := blk_three KB.out
  have NN := hid (Mb.next P.out KA.out FA.out KB.out R2.out.v hb0 hab)
  go_simp
  clear hH
  refine hK.out _ _ ?_ (fun hH => ?_)
  · exact three_far KA.out hab _ _ _
  clear hK K
  (try simp only [Act.put, gy0, gy1, gy2])
  refine wpAnyH_done (by kernel_rfl) ?_ _
  refine NoPanic.normal ?_
  clear hH
  clear KA FA P KB CO CS f0 f1 f2 x0 x1 x2
  obtain ⟨W9, hW9⟩ : ∃ W, W = ((wc.setCell ⟨nb, 0, none⟩ (.bool (sg b.num))).setCell ⟨nb, 1, none⟩ (.slice A2 n2 c2)).setCell ⟨nb, 2, none⟩ (.slice D2 m2 d2) := ⟨_, rfl⟩
  rw [← hW9] at NN ⊢
  clear hW9 R2
  obtain ⟨gb, hgb⟩ : ∃ g, g = sg b.num := ⟨_, rfl⟩
  rw [← hgb] at NN
  clear hgb hab hb0
  obtain ⟨z0, z1⟩ := blk_two NN.out.box
  rotate_left
  exact AllReadyH.nil
  exact AllReadyH.nil
  exact AllReadyH.nil
  refine rdy (fun K hK => ?_) ?_
  go_simp
  obtain ⟨wc, nb, hW, hp, b, kk⟩ := mk_cells wc [.bool false, .slice none 0 0, .slice none 0 0] 41
  simp only [List.toArray] at hW
  rw [← hW, ← hp]
  have hab : ab ≠ nb := by have := KA.out.lt; omega
  have hb0 : w.heap.size < nb := by have := P.out.box.lt; omega
  clear hW hp hH
  replace P := hid (P.out.keep b)
  replace KA := hid (KA.out.keep b)
  replace FA := hid (FA.out.keep b)
  try (replace R1 := hid (R1.out.keep b))
  try (replace R2 := hid (R2.out.keep b))
  have KB := hid kk
  clear kk b
  refine hK.out _ _ ?_ (fun hH => ?_)
  · exact blk_three KA.out
  clear hK K
  (try simp only [Act.put, gy0, gy1, gy2])
  refine wpAnyH_ready (rs := [0]) (by kernel_rfl) (by simp) ?_
  refine rdy (fun K hK => ?_) ?_
  go_simp
  refine (CO.out _).mono ?_
  rintro e wc ⟨A1, n1, c1, D1, m1, d1, rfl, r, b⟩
  replace P := hid (P.out.keep b)
  replace KA := hid (KA.out.keep b)
  replace FA := hid (FA.out.keep b)
  try (replace KB := hid (KB.out.keep b))
  try (replace R1 := hid (R1.out.keep b))
  try (replace R2 := hid (R2.out.keep b))
  have R1 := hid r
  clear r b hH
  (try go_wp2_with fail)
  refine hK.out _ _ ?_ (fun hH => ?_)
  · exact blk_three KA.out
  clear hK K
  (try simp only [Act.put, gy0, gy1, gy2])
  refine wpAnyH_ready (rs := [2]) (by kernel_rfl) (by simp) ?_
  refine rdy (fun K hK => ?_) ?_
  go_simp
  refine (CS.out _ A1 n1 c1 D1 m1 d1 R1.out ga Aa na ca Da ma da FA.out).mono ?_
  rintro e wc ⟨A2, n2, c2, D2, m2, d2, rfl, r, b⟩
  clear R1
  replace P := hid (P.out.keep b)
  replace KA := hid (KA.out.keep b)
  replace FA := hid (FA.out.keep b)
  try (replace KB := hid (KB.out.keep b))
  have R2 := hid r
  clear r b hH
  (try go_wp2_with fail)
  refine hK.out _ _ ?_ (fun hH => ?_)
  · exact blk_three KA.out
  clear hK K
  (try simp only [Act.put, gy0, gy1, gy2])
  refine wpAnyH_ready (rs := [4]) (by kernel_rfl) (by simp) ?_
  refine rdy (fun K hK => ?_) ?_
  have f0 := Blk.free KB.out 0
  have f1 := Blk.free KB.out 1
  have f2 := Blk.free KB.out 2
  obtain ⟨x0, x1, x2⟩ := blk_three KB.out
  have NN := hid (Mb.next P.out KA.out FA.out KB.out R2.out.v hb0 hab)
  go_simp
  clear hH
  refine hK.out _ _ ?_ (fun hH => ?_)
  · exact three_far KA.out hab _ _ _
  clear hK K
  (try simp only [Act.put, gy0, gy1, gy2])
  refine wpAnyH_done (by kernel_rfl) ?_ _
  refine NoPanic.normal ?_
  clear hH
  clear KA FA P KB CO CS f0 f1 f2 x0 x1 x2
  obtain ⟨W9, hW9⟩ : ∃ W, W = ((wc.setCell ⟨nb, 0, none⟩ (.bool (sg b.num))).setCell ⟨nb, 1, none⟩ (.slice A2 n2 c2)).setCell ⟨nb, 2, none⟩ (.slice D2 m2 d2) := ⟨_, rfl⟩
  rw [← hW9] at NN ⊢
  clear hW9 R2
  obtain ⟨gb, hgb⟩ : ∃ g, g = sg b.num := ⟨_, rfl⟩
  rw [← hgb] at NN
  clear hgb hab hb0
  obtain ⟨z0, z1⟩ := blk_two NN.out.box
  rotate_left
  exact AllReadyH.nil
  exact AllReadyH.nil
  exact AllReadyH.nil
  exact AllReadyH.nil
  all_goals
    have AT0 := hid (fun (W : World) (B : Below W9.heap.size W9 W) (j : Nat) => qat XA Xn Xc 4 xs (j : Int) W (QX.out W (bx_call NN.out.bel B)))
    have AR0 := hid (fun (W : World) (B : Below W9.heap.size W9 W) (j : Nat) => qat YA Yn Yc 4 ys (j : Int) W (QY.out W (bx_call NN.out.bel B)))
    have MX := hid (fun (W : World) (B : Below W9.heap.size W9 W) (k : Nat) (hk : 5 ≤ k) (hk9 : k ≤ 1000000) (s t : Rat) (gs : Bool) (As : Option Addr) (ns cs : Nat) (Ds : Option Addr) (ms ds : Nat) (gt : Bool) (At : Option Addr) (nt ct : Nat) (Dt : Option Addr) (mt dt : Nat) (fs : FrV W gs As ns cs Ds ms ds k s) (ft : FrV W gt At nt ct Dt mt dt k t) => v_mix ab ga Aa na ca Da ma da nb gb A2 n2 c2 D2 m2 d2 gs As ns cs Ds ms ds gt At nt ct Dt mt dt k a b s t W (NN.out.ka.keep B) (NN.out.kb.keep B) ((NN.out.fa.keep B).up (by omega)) ((NN.out.fb.keep B).up (by omega)) fs ft hk9)
    have ST := hid (show PIn W9 (.slice none 0 0) 0 21 fz W9 from ⟨bx_refl W9, .inl ⟨rfl, rfl⟩⟩)
    (try go_wp2_with fail)
    clear z0 z1
    go_loopw [13, 70] (fun u i wr => ∃ j : Nat, j ≤ vn ∧ i = .int .i64 j ∧ (∃ A0 c0, u = .slice A0 j c0) ∧ Hid (PIn W9 u j 21 fz wr)) (fun _ i _ => vn - (intOf i).toNat)
    case atStart => exact ⟨0, Nat.zero_le _, rfl, ⟨_, _, rfl⟩, ST⟩
    case round =>
      clear ST
      obtain ⟨j, hj, rfl, ⟨A0, c0, rfl⟩, hz⟩ := hrel
      rcases Nat.lt_or_ge j vn with hlt | hge
      · have AT := hid (AT0.out wr hz.out.bel j)
        have AR := hid (fun W B => AR0.out W (bx_call hz.out.bel B) j)
        have NX := hid (fun (w' : World) (g1 cap : Nat) (W : World) (B : Below wr.heap.size wr W) (qv : Rat) (hqv : qv = fz j) (x : QO w' W9.heap.size (.slice (some ⟨g1, 0, none⟩) (j + 1) cap) (j + 1) 21 (fun i => if i = j then qv else fz i)) (hg : W.grownBy w' (Value.slice A0 j c0).ownBlock) => (show PIn W9 (.slice (some ⟨g1, 0, none⟩) (j + 1) cap) (j + 1) 21 fz w' from (hz.out.keep B).grow (x.congr fun i hi => by
          show (if i = j then qv else fz i) = fz i
          by_cases e : i = j
          · rw [if_pos e, hqv, e]
          · rw [if_neg e]) hg))
        have OW := hid (fun (W : World) (B : Below wr.heap.size wr W) => (hz.out.keep B).own)
        have LE := hid hz.out.bel.size
        have MXj := hid (fun W B => MX.out W (bx_call hz.out.bel B) 5 (by omega) (by omega))
        have HJ := hid (HF.out j)
        have h6 : j ≤ 1000000 := by have := HN.out; omega
        obtain ⟨xj, hxj⟩ : ∃ z, z = atQ Xn xs (j : Int) := ⟨_, rfl⟩
        obtain ⟨yj, hyj⟩ : ∃ z, z = atQ Yn ys (j : Int) := ⟨_, rfl⟩
        rw [← hxj] at AT HJ
        rw [← hyj] at AR HJ
        clear hz hxj hyj AT0 AR0 MX C5 C6 C7 C8 C9 CM QX QY HF NN HN
        go_wp2_with fail
        refine (AT.out).mono ?_
        rintro e w1 ⟨g1, A1, n1, c1, D1, m1, d1, rfl, rx, b1⟩
        have RX := hid rx
        have B1 := hid b1
        clear rx b1 AT
        go_wp2_with fail
        refine (AR.out _ B1.out).mono ?_
        rintro e w2 ⟨g3, A3, n3, c3, D3, m3, d3, rfl, ry, b2⟩
        have RX2 := hid (RX.out.keep b2)
        have RY2 := hid ry
        have B2 := hid (bx_call B1.out b2)
        clear ry b2 AR RX B1
        go_wp2_with fail
        refine (MXj.out _ B2.out xj yj g1 A1 n1 c1 D1 m1 d1 g3 A3 n3 c3 D3 m3 d3 (RX2.out.up (by omega)) (RY2.out.up (by omega))).mono ?_
        rintro e w3 ⟨g4, A4, n4, c4, D4, m4, d4, rfl, rm, b3⟩
        have B3 := hid (bx_call B2.out b3)
        have KN := hid (Blk.new w3 [.bool g4, .slice A4 n4 c4, .slice D4 m4 d4] 41)
        have BN := hid (bx_alloc B3.out (.cells #[.bool g4, .slice A4 n4 c4, .slice D4 m4 d4] 41))
        have FV := hid (rm.keep (bx_alloc (bx_refl w3) (.cells #[.bool g4, .slice A4 n4 c4, .slice D4 m4 d4] 41)))
        have OV := hid (OW.out _ BN.out)
        have LV := hid (Nat.le_trans LE.out BN.out.size)
        have NV := hid (fun (w' : World) (g1 cap : Nat) q hg => NX.out w' g1 cap _ BN.out _ HJ.out.symm q hg)
        have hn9 : j ≤ 1000000 := h6
        clear rm b3 B2 B3 RX2 RY2 OW LE NX BN MXj HJ
        go_wp2_with (at_builtin; refine wpList_append_rat rfl (.tmp 73) (.tmp 82) rfl W9.heap.size (.slice A0 j c0) j 21 _ rfl OV.out w3.heap.size rfl KN.out FV.out hn9 LV.out ?_; intro w4 g9 cap q hg; have ZZ := hid (NV.out w4 g9 cap q hg); clear q hg)
        clear KN FV OV LV NV
        go_roundw
        case rel => exact ⟨j + 1, by omega, by go_num, ⟨_, _, rfl⟩, ZZ⟩
        case measure => simp [intOf]; omega
      · obtain rfl : j = vn := by omega
        obtain ⟨AZ, cZ, e2, q2⟩ := hz.out.own.qs (by omega)
        rw [e2]
        have M := hid (NN.out.keep hz.out.bel)
        have QZ := hid q2
        have BM := hid hz.out.bel
        clear hz AT0 AR0 q2 e2 QX QY HF HN
        go_upto_region 14 with fail
        (try simp only [List.append_eq, List.cons_append, List.nil_append])
        refine wp_region_noPanic ?_
        refine wp_region_held_drew (S := (fun W => (W.cell? ⟨w.heap.size, 0, none⟩ = some (.slice V0 j vc) ∧ W.cell? ⟨w.heap.size, 1, none⟩ = some (.slice R0 rn rc)))) (by kernel_rfl) ?_ (fun hH => ?_)
        exact blk_two (M.out.keep (bx_drew (bx_refl wr))).box
        have bd := bx_drew (bx_refl wr)
        obtain ⟨E0, hW0⟩ : ∃ W, W = wr.drew := ⟨_, rfl⟩
        rw [← hW0] at bd hH ⊢
        clear hW0
        replace M := hid (M.out.keep bd)
        replace BM := hid (bx_call BM.out bd)
        replace QZ := hid (QZ.out.keep bd)
        clear bd
        refine tk 0 hH ?_
        (try simp only [Act.put, gy0, gy1, gy2])
        refine tk 1 hH ?_
        (try simp only [Act.put, gy0, gy1, gy2])
        refine wpAnyH_ready (rs := [2]) (by kernel_rfl) (by simp) ?_
        refine rdy (fun K hK => ?_) AllReadyH.nil
        go_simp
        refine (C5.out _ M.out.bel AZ cZ (QZ.out)).mono ?_
        rintro e wc ⟨rfl, b⟩
        replace M := hid (M.out.keep b)
        replace BM := hid (bx_call BM.out b)
        replace QZ := hid (QZ.out.keep b)
        clear b hH
        (try go_wp2_with fail)
        refine hK.out _ _ ?_ (fun hH => ?_)
        exact blk_two M.out.box
        clear hK K
        (try simp only [Act.put, gy0, gy1, gy2])
        refine tk 3 hH ?_
        (try simp only [Act.put, gy0, gy1, gy2])
        refine tk 4 hH ?_
        (try simp only [Act.put, gy0, gy1, gy2])
        refine tk 5 hH ?_
        (try simp only [Act.put, gy0, gy1, gy2])
        refine wpAnyH_ready (rs := [6]) (by kernel_rfl) (by simp) ?_
        refine rdy (fun K hK => ?_) AllReadyH.nil
        go_simp
        refine (C6.out _ M.out.bel AZ cZ (QZ.out)).mono ?_
        rintro e wc ⟨LA, Lc, rfl, b⟩
        replace M := hid (M.out.keep b)
        replace BM := hid (bx_call BM.out b)
        replace QZ := hid (QZ.out.keep b)
        clear b hH
        (try go_wp2_with fail)
        refine hK.out _ _ ?_ (fun hH => ?_)
        exact blk_two M.out.box
        clear hK K
        (try simp only [Act.put, gy0, gy1, gy2])
        refine tk 7 hH ?_
        (try simp only [Act.put, gy0, gy1, gy2])
        refine tk 8 hH ?_
        (try simp only [Act.put, gy0, gy1, gy2])
        refine tk 9 hH ?_
        (try simp only [Act.put, gy0, gy1, gy2])
        refine tk 10 hH ?_
        (try simp only [Act.put, gy0, gy1, gy2])
        refine tk 11 hH ?_
        (try simp only [Act.put, gy0, gy1, gy2])
        refine tk 12 hH ?_
        (try simp only [Act.put, gy0, gy1, gy2])
        refine tk 14 hH ?_
        (try simp only [Act.put, gy0, gy1, gy2])
        refine tk 15 hH ?_
        (try simp only [Act.put, gy0, gy1, gy2])
        refine tk 16 hH ?_
        (try simp only [Act.put, gy0, gy1, gy2])
        refine tk 18 hH ?_
        (try simp only [Act.put, gy0, gy1, gy2])
        refine tk 19 hH ?_
        (try simp only [Act.put, gy0, gy1, gy2])
        refine wpAnyH_ready (rs := [13]) (by kernel_rfl) (by simp) ?_
        refine rdy (fun K hK => ?_) AllReadyH.nil
        go_simp
        refine (C7.out _ M.out.bel AZ cZ (QZ.out)).mono ?_
        rintro e wc ⟨g4, A4, n4, c4, D4, m4, d4, rfl, r, b⟩
        replace M := hid (M.out.keep b)
        replace BM := hid (bx_call BM.out b)
        clear QZ
        have R4 := hid r
        clear r b hH
        (try go_wp2_with fail)
        refine hK.out _ _ ?_ (fun hH => ?_)
        exact blk_two M.out.box
        clear hK K
        (try simp only [Act.put, gy0, gy1, gy2])
        refine wpAnyH_ready (rs := [17]) (by kernel_rfl) (by simp) ?_
        refine rdy (fun K hK => ?_) AllReadyH.nil
        go_simp
        refine (C8.out _ M.out.bel).mono ?_
        rintro e wc ⟨g5, A5, n5, c5, D5, m5, d5, rfl, r, b⟩
        replace M := hid (M.out.keep b)
        replace BM := hid (bx_call BM.out b)
        replace R4 := hid (R4.out.keep b)
        have R5 := hid r
        clear r b hH
        (try go_wp2_with fail)
        refine hK.out _ _ ?_ (fun hH => ?_)
        exact blk_two M.out.box
        clear hK K
        (try simp only [Act.put, gy0, gy1, gy2])
        refine wpAnyH_ready (rs := [20]) (by kernel_rfl) (by simp) ?_
        refine rdy (fun K hK => ?_) AllReadyH.nil
        go_simp
        refine (C9.out _ M.out.bel).mono ?_
        rintro e wc ⟨g6, A6, n6, c6, D6, m6, d6, rfl, r, b⟩
        replace M := hid (M.out.keep b)
        replace BM := hid (bx_call BM.out b)
        replace R4 := hid (R4.out.keep b)
        replace R5 := hid (R5.out.keep b)
        have R6 := hid r
        clear r b hH
        (try go_wp2_with fail)
        refine hK.out _ _ ?_ (fun hH => ?_)
        exact blk_two M.out.box
        clear hK K
        (try simp only [Act.put, gy0, gy1, gy2])
        refine wpAnyH_ready (rs := [21]) (by kernel_rfl) (by simp) ?_
        refine rdy (fun K hK => ?_) AllReadyH.nil
        go_simp
        refine (MX.out _ BM.out 10301 (by omega) (by omega) _ _ g5 A5 n5 c5 D5 m5 d5 g6 A6 n6 c6 D6 m6 d6 R5.out R6.out).mono ?_
        rintro e wc ⟨g7, A7, n7, c7, D7, m7, d7, rfl, r, b⟩
        replace M := hid (M.out.keep b)
        replace BM := hid (bx_call BM.out b)
        replace R4 := hid (R4.out.keep b)
        have R7 := hid r
        clear r b hH R5 R6
        (try go_wp2_with fail)
        refine hK.out _ _ ?_ (fun hH => ?_)
        exact blk_two M.out.box
        clear hK K
        (try simp only [Act.put, gy0, gy1, gy2])
        refine wpAnyH_ready (rs := [22]) (by kernel_rfl) (by simp) ?_
        refine rdy (fun K hK => ?_) AllReadyH.nil
        go_simp
        refine (CM.out _ g4 A4 n4 c4 D4 m4 d4 R4.out g7 A7 n7 c7 D7 m7 d7 R7.out).mono ?_
        rintro e wc ⟨rfl, b⟩
        replace M := hid (M.out.keep b)
        replace BM := hid (bx_call BM.out b)
        clear b hH R4 R7
        (try go_wp2_with fail)
        refine hK.out _ _ ?_ (fun hH => ?_)
        exact blk_two M.out.box
        clear hK K
        (try simp only [Act.put, gy0, gy1, gy2])
        refine tk 23 hH ?_
        (try simp only [Act.put, gy0, gy1, gy2])
        refine tk 24 hH ?_
        (try simp only [Act.put, gy0, gy1, gy2])
        refine tk 25 hH ?_
        (try simp only [Act.put, gy0, gy1, gy2])
        refine wpAnyH_done (by kernel_rfl) ?_ _
        refine NoPanic.normal ?_
        clear hH
        have BF := hid M.out.bel
        clear M BM C5 C6 C7 C8 C9 CM MX NN
        go_wp2_with fail
        go_ret
        exact vld_yes (by simp) BF.out
end Go.Proofs.YtdbccidlnhjfhaaGreatDoor
