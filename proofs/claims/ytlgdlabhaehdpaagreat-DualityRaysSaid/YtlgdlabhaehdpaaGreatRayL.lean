/- The law DualityRays. -/
import Derived.Test.YtlgdlabhaehdpaaGreatRay
import Derived.Deep.DeepCutAuto
import Derived.BigQuiet
namespace Go.Proofs.YtlgdlabhaehdpaaGreat
open Go.RowKit

/-- The three boxes. -/
structure Kr (w : World) (V0 : Option Addr) (vn vc : Nat) (R0 : Option Addr) (rn rc : Nat) (XA : Option Addr) (Xn Xc : Nat) (RA : Option Addr) (Rn Rc : Nat) (W : World) : Prop where
  bel : Below w.heap.size w W
  box : Blk W w.heap.size [.slice V0 vn vc, .slice R0 rn rc] 25
  bx : Blk W (w.heap.size + 1) [.slice XA Xn Xc] 26
  br : Blk W (w.heap.size + 1 + 1) [.slice RA Rn Rc] 26
theorem Kr.keep {w : World} {V0 : Option Addr} {vn vc : Nat} {R0 : Option Addr} {rn rc : Nat} {XA : Option Addr} {Xn Xc : Nat} {RA : Option Addr} {Rn Rc : Nat} {W W' : World} (h : Kr w V0 vn vc R0 rn rc XA Xn Xc RA Rn Rc W) (b : Below W.heap.size W W') : Kr w V0 vn vc R0 rn rc XA Xn Xc RA Rn Rc W' := ⟨bx_call h.bel b, h.box.keep b, h.bx.keep b, h.br.keep b⟩
theorem r_viol_nil (p : PD) (A : Option Addr) (n c k : Nat) (qs : Nat → Rat) (w : World) (h : Pg w p) (hQ : Qs w A n c k qs) (hk : k ≤ 100) (e : vio (p.rowB (pt n qs)) p.rn = []) : Calls Tryz.prog 23 #[.agg #[.slice p.V0 p.vn p.vc, .slice p.R0 p.rn p.rc], .slice A n c] w (fun e w' => ∃ A c, e = .returned (.slice A 0 c) ∧ Below w.heap.size w w') := by
  have t := r_violated p A n c k qs w h hQ hk
  rw [e] at t
  exact t.mono fun e w' ⟨A, c, h1, _, h3⟩ => ⟨A, c, h1, h3⟩

set_option maxRecDepth 100000 in
set_option maxHeartbeats 8000000 in
theorem dualityRays_any (p : PD) (X R Y : LD) (k : Nat) (w : World) (hk : k ≤ 65535) (h : Pw w p) (hx : X.ok w) (hr : R.ok w) (hy : Y.ok w) :
    Calls Tryz.prog 6 #[.agg #[.slice p.V0 p.vn p.vc, .slice p.R0 p.rn p.rc], .slice X.A X.n X.c, .slice R.A R.n R.c, .slice Y.A Y.n Y.c, .int .u16 (k : Int)] w (RetB w true) := by
  have SM := hid (fun (W : World) (b : Nat) (B : Below w.heap.size w W) (K : Blk W b ([X, R, Y].map LD.v) 26) => l_smL p b [X, R, Y] 26 W (h.keep B) K (by show (3 : Nat) ≤ _; omega) (fun l hl => by
    simp only [List.mem_cons, List.not_mem_nil, or_false] at hl
    rcases hl with rfl | rfl | rfl
    · exact hx.keep B
    · exact hr.keep B
    · exact hy.keep B))
  have ss : smL p [X, R, Y] = true → fewP p.vn p.rn p.nm p.tn 6 8 = true ∧ X.sm = true ∧ R.sm = true ∧ Y.sm = true := fun e => by
    unfold smL at e
    rw [Bool.and_eq_true] at e
    have e1 := of_decide_eq_true e.1
    exact ⟨e.2, e1 _ (by simp), e1 _ (by simp), e1 _ (by simp)⟩
  obtain ⟨fa, hfa⟩ : ∃ f : Nat → Rat, f = fun j => pt X.n X.qs j + (((k : Int)) : Rat) * pt R.n R.qs j := ⟨_, rfl⟩
  obtain ⟨fb, hfb⟩ : ∃ f : Nat → Rat, f = fun j => pt X.n X.qs j + (((k : Int) + 1 : Int) : Rat) * pt R.n R.qs j := ⟨_, rfl⟩
  have FF : p.unbB (pt X.n X.qs) (pt R.n R.qs) = true → p.inB (pt p.vn fb) = true ∧ vio (p.rowB (pt p.vn fb)) p.rn = [] ∧ sgnQ (p.costV (pt p.vn fb) - p.costV (pt p.vn fa)) < 0 ∧ p.bndB (pt Y.n Y.qs) = false := fun e => by
    obtain ⟨e1, e2, e3⟩ := PD.unb_parts e
    have e4 : p.feaB (pt p.vn fb) = true := by
      rw [PD.fea_vn (pt_all p.vn fb), hfb]
      refine PD.line_fea ?_ e1 e2
      have : (0 : Rat) ≤ (((k : Int) + 1 : Int) : Rat) := by
        rw [show (0 : Rat) = ((0 : Int) : Rat) from rfl]
        exact Rat.intCast_le_intCast.2 (by omega)
      exact this
    refine ⟨?_, ?_, ?_, ?_⟩
    · unfold PD.feaB at e4; rw [Bool.and_eq_true] at e4; exact e4.1
    · unfold PD.feaB at e4; rw [Bool.and_eq_true] at e4; exact vio_nil.2 (of_decide_eq_true e4.2)
    · rw [PD.cost_vn (pt_all p.vn fb), PD.cost_vn (pt_all p.vn fa), hfa, hfb]
      exact PD.line_less (k : Int) e3
    · cases hb : p.bndB (pt Y.n Y.qs)
      · rfl
      · rw [PD.bnd_no hb] at e; cases e
  have vl : smL p [X, R, Y] = true → p.vn ≤ 1000 := fun e => by have := (h.pg (ss e).1).vl; omega
  have C1 := hid (fun (e : smL p [X, R, Y] = true) (W : World) (B : Below w.heap.size w W) => d_unbounded p X.A X.n X.c 4 X.qs R.A R.n R.c 4 R.qs W ((h.keep B).pg (ss e).1) ((hx.keep B).q (ss e).2.1) (by omega) ((hr.keep B).q (ss e).2.2.1) (by omega))
  have C2 := hid (fun (e : smL p [X, R, Y] = true) (W : World) (B : Below w.heap.size w W) (KP : Blk W w.heap.size [.slice p.V0 p.vn p.vc, .slice p.R0 p.rn p.rc] 25) (KX : Blk W (w.heap.size + 1) [.slice X.A X.n X.c] 26) (KY : Blk W (w.heap.size + 1 + 1) [.slice R.A R.n R.c] 26) => (show Calls Tryz.prog 26 #[.int .i64 (k : Int), .pointer (some ⟨w.heap.size, 0, none⟩), .pointer (some ⟨w.heap.size + 1, 0, none⟩), .pointer (some ⟨w.heap.size + 1 + 1, 0, none⟩)] W (RetQs W p.vn 17 fa) by
    rw [hfa]
    exact ray_at (k : Int) (by omega) w.heap.size p.V0 p.vn p.vc p.R0 p.rn p.rc (w.heap.size + 1) X.A X.n X.c X.qs (w.heap.size + 1 + 1) R.A R.n R.c R.qs _ W (vl e) KP KX KY ((hx.keep B).q (ss e).2.1) ((hr.keep B).q (ss e).2.2.1)))
  have C3 := hid (fun (e : smL p [X, R, Y] = true) (W : World) (B : Below w.heap.size w W) (KP : Blk W w.heap.size [.slice p.V0 p.vn p.vc, .slice p.R0 p.rn p.rc] 25) (KX : Blk W (w.heap.size + 1) [.slice X.A X.n X.c] 26) (KY : Blk W (w.heap.size + 1 + 1) [.slice R.A R.n R.c] 26) => (show Calls Tryz.prog 26 #[.int .i64 ((k : Int) + 1), .pointer (some ⟨w.heap.size, 0, none⟩), .pointer (some ⟨w.heap.size + 1, 0, none⟩), .pointer (some ⟨w.heap.size + 1 + 1, 0, none⟩)] W (RetQs W p.vn 17 fb) by
    rw [hfb]
    exact ray_at ((k : Int) + 1) (by omega) w.heap.size p.V0 p.vn p.vc p.R0 p.rn p.rc (w.heap.size + 1) X.A X.n X.c X.qs (w.heap.size + 1 + 1) R.A R.n R.c R.qs _ W (vl e) KP KX KY ((hx.keep B).q (ss e).2.1) ((hr.keep B).q (ss e).2.2.1)))
  have C4 := hid (fun (e : smL p [X, R, Y] = true) (W : World) (B : Below w.heap.size w W) => d_bound p Y.A Y.n Y.c 4 Y.qs W ((h.keep B).pg (ss e).1) ((hy.keep B).q (ss e).2.2.2) (by omega))
  have C5 := hid (fun (e : smL p [X, R, Y] = true) (W : World) (B : Below w.heap.size w W) (A : Option Addr) (c : Nat) (q : Qs W A p.vn c 17 fb) => r_inside p A p.vn c 17 fb W ((h.keep B).pg (ss e).1) q (by omega))
  have C6 := hid (fun (e : smL p [X, R, Y] = true) (hv : vio (p.rowB (pt p.vn fb)) p.rn = []) (W : World) (B : Below w.heap.size w W) (A : Option Addr) (c : Nat) (q : Qs W A p.vn c 17 fb) => r_viol_nil p A p.vn c 17 fb W ((h.keep B).pg (ss e).1) q (by omega) hv)
  have C7 := hid (fun (e : smL p [X, R, Y] = true) (f : Nat → Rat) (W : World) (B : Below w.heap.size w W) (A : Option Addr) (c : Nat) (q : Qs W A p.vn c 17 f) => r_cost p A p.vn c 17 f W ((h.keep B).pg (ss e).1) q (by omega))
  obtain ⟨qa, hqa⟩ : ∃ s, s = p.costV (pt p.vn fa) := ⟨_, rfl⟩
  obtain ⟨qb, hqb⟩ : ∃ s, s = p.costV (pt p.vn fb) := ⟨_, rfl⟩
  have C8 := hid (fun (e : smL p [X, R, Y] = true) => C7.out e fa)
  have C9 := hid (fun (e : smL p [X, R, Y] = true) => C7.out e fb)
  rw [← hqa] at C8 FF
  rw [← hqb] at C9 FF
  obtain ⟨s, hs⟩ : ∃ s, s = smL p [X, R, Y] := ⟨_, rfl⟩
  rw [← hs] at SM C1 C2 C3 C4 C5 C6 C8 C9
  obtain ⟨b1, hb1⟩ : ∃ s, s = p.unbB (pt X.n X.qs) (pt R.n R.qs) := ⟨_, rfl⟩
  rw [← hb1] at C1 FF
  obtain ⟨b2, hb2⟩ : ∃ s, s = p.inB (pt p.vn fb) := ⟨_, rfl⟩
  rw [← hb2] at C5 FF
  obtain ⟨l, hl⟩ : ∃ s, s = vio (p.rowB (pt p.vn fb)) p.rn := ⟨_, rfl⟩
  rw [← hl] at C6 FF
  obtain ⟨b3, hb3⟩ : ∃ s, s = p.bndB (pt Y.n Y.qs) := ⟨_, rfl⟩
  rw [← hb3] at C4 FF
  obtain ⟨qy, hqy⟩ : ∃ s, s = p.bndV (pt Y.n Y.qs) := ⟨_, rfl⟩
  rw [← hqy] at C4
  have CM := hid (fun (W : World) (g1 : Bool) (A1 : Option Addr) (n1 c1 : Nat) (D1 : Option Addr) (m1 d1 : Nat) (L : FrV W g1 A1 n1 c1 D1 m1 d1 10301 qb) (g2 : Bool) (A2 : Option Addr) (n2 c2 : Nat) (D2 : Option Addr) (m2 d2 : Nat) (M : FrV W g2 A2 n2 c2 D2 m2 d2 10301 qa) => vrcmp g1 A1 n1 c1 D1 m1 d1 g2 A2 n2 c2 D2 m2 d2 10301 qb qa W L M (by omega))
  obtain ⟨z, hz⟩ : ∃ z, z = sgnQ (qb - qa) := ⟨_, rfl⟩
  rw [← hz] at CM FF
  have HF := hid FF
  clear hx hy hr hs hb1 hl hb3 hb2 hqa hqb hqy hz FF ss h hfa hfb C7 vl
  obtain ⟨V0, vn, vc, lo, up, op, it, co, R0, rn, rc, nm, gr, ki, bo, TA, tn, tc, v, cf⟩ := p
  obtain ⟨XA, Xn, Xc, XN, XM, xs⟩ := X
  obtain ⟨RA, Rn, Rc, RN, RM, rs⟩ := R
  obtain ⟨YA, Yn, Yc, YN, YM, ys⟩ := Y
  dsimp only [List.map, LD.v, List.length] at SM C1 C2 C3 C4 C5 C6 C8 C9 ⊢
  obtain ⟨W0, hW⟩ : ∃ W, W = ((w.alloc (.cells #[.slice V0 vn vc, .slice R0 rn rc] 25)).alloc (.cells #[.slice XA Xn Xc] 26)).alloc (.cells #[.slice RA Rn Rc] 26) := ⟨_, rfl⟩
  have B0 := bx_alloc (bx_alloc (bx_alloc (bx_refl w) (.cells #[.slice V0 vn vc, .slice R0 rn rc] 25)) (.cells #[.slice XA Xn Xc] 26)) (.cells #[.slice RA Rn Rc] 26)
  have K0 := ((Blk.new w [.slice V0 vn vc, .slice R0 rn rc] 25).alloc (.cells #[.slice XA Xn Xc] 26)).alloc (.cells #[.slice RA Rn Rc] 26)
  have K1 := (blk_new1 w (.cells #[.slice V0 vn vc, .slice R0 rn rc] 25) [.slice XA Xn Xc] 26).alloc (.cells #[.slice RA Rn Rc] 26)
  have K2 := blk_new1 (w.alloc (.cells #[.slice V0 vn vc, .slice R0 rn rc] 25)) (.cells #[.slice XA Xn Xc] 26) [.slice RA Rn Rc] 26
  rw [show (w.alloc (.cells #[.slice V0 vn vc, .slice R0 rn rc] 25)).heap.size = w.heap.size + 1 by simp] at K2
  change Blk (((w.alloc (.cells #[.slice V0 vn vc, .slice R0 rn rc] 25)).alloc (.cells #[.slice XA Xn Xc] 26)).alloc (.cells #[.slice RA Rn Rc] 26)) _ _ _ at K0 K1 K2
  rw [← hW] at B0 K0 K1 K2
  have P0 := hid (show Kr w V0 vn vc R0 rn rc XA Xn Xc RA Rn Rc W0 from ⟨B0, K0, K1, K2⟩)
  clear B0 K0 K1 K2
  go_enter Tryz.func6, Tryz.ntmps6
  go_upto_region 1 with fail
  rw [← hW]
  clear hW
  go_wp2_with fail
  refine (awk6 W0).mono ?_
  rintro e W1 ⟨rfl, b⟩
  have P1 := hid (P0.out.keep b)
  clear P0 b
  obtain ⟨z0, z1⟩ := blk_two P1.out.box
  have z2 := Blk.cell P1.out.bx 0
  have z3 := Blk.cell P1.out.br 0
  have ba := bx_alloc (bx_refl W1) (.cells #[.slice XA Xn Xc, .slice RA Rn Rc, .slice YA Yn Yc] 26)
  have kn := Blk.new W1 [.slice XA Xn Xc, .slice RA Rn Rc, .slice YA Yn Yc] 26
  change Below W1.heap.size W1 (W1.alloc (.cells #[.slice XA Xn Xc, .slice RA Rn Rc, .slice YA Yn Yc] 26)) at ba
  have SM2 := hid (SM.out _ _ (bx_call P1.out.bel ba) kn)
  have P2 := hid (P1.out.keep ba)
  clear kn ba SM P1
  go_wp2_with fail
  refine (SM2.out).mono ?_
  rintro e W2 ⟨rfl, b⟩
  have P3 := hid (P2.out.keep b)
  clear SM2 P2 b z0 z1 z2 z3
  cases s
  · clear C1 C2 C3 C4 C5 C6 C8 C9 CM HF
    go_wp2_with fail
    refine (awk6 W2).mono ?_
    rintro e W3 ⟨rfl, b⟩
    have P4 := hid (P3.out.keep b)
    clear P3 b
    go_wp2_with fail
    go_ret
    exact vld_yes rfl P4.out.bel
  have D1 := hid (C1.out rfl)
  have D2 := hid (C2.out rfl)
  have D3 := hid (C3.out rfl)
  have D4 := hid (C4.out rfl)
  have D5 := hid (C5.out rfl)
  have D6 := hid (C6.out rfl)
  have D8 := hid (C8.out rfl)
  have D9 := hid (C9.out rfl)
  clear C1 C2 C3 C4 C5 C6 C8 C9
  obtain ⟨z0, z1⟩ := blk_two P3.out.box
  have z2 := Blk.cell P3.out.bx 0
  have z3 := Blk.cell P3.out.br 0
  go_wp2_with fail
  refine (D1.out _ P3.out.bel).mono ?_
  rintro e W3 ⟨rfl, b⟩
  have P4 := hid (P3.out.keep b)
  clear P3 b D1 z0 z1 z2 z3
  cases b1
  · have HP := hid (vld_yes rfl P4.out.bel : RetB w true (.returned (.bool true)) W3)
    clear D2 D3 D4 D5 D6 D8 D9 CM HF P4
    go_wp2_with fail
    go_ret
    exact HP.out
  obtain ⟨f1, f2, f3, f4⟩ := HF.out (by simp)
  have D7 := hid (D6.out f2)
  clear HF D6 f2
  subst f1 f4
  have HZ := hid f3
  clear f3
  go_wp2_with fail
  refine (D2.out _ P4.out.bel P4.out.box P4.out.bx P4.out.br).mono ?_
  rintro e W4 ⟨AA, Ac, rfl, qa1, b⟩
  have P5 := hid (P4.out.keep b)
  have QA := hid qa1
  clear P4 b D2 qa1
  go_wp2_with fail
  refine (D3.out _ P5.out.bel P5.out.box P5.out.bx P5.out.br).mono ?_
  rintro e W5 ⟨BA, Bc, rfl, qb1, b⟩
  have P6 := hid (P5.out.keep b)
  have QA2 := hid (QA.out.keep b)
  have QB := hid qb1
  clear P5 b D3 qb1 QA
  obtain ⟨z0, z1⟩ := blk_two P6.out.box
  go_wp2_with fail
  refine (D4.out _ P6.out.bel).mono ?_
  rintro e W6 ⟨gy, Ay, ny, cy, Dy, my, dy, rfl, ry, b⟩
  have P7 := hid (P6.out.keep b)
  have QA3 := hid (QA2.out.keep b)
  have QB3 := hid (QB.out.keep b)
  clear P6 b D4 ry QA2 QB z0 z1
  go_upto_region 8 with fail
  obtain ⟨W7, yb, hW, hp, b, kk⟩ := mk_cells W6 [.bool gy, .slice Ay ny cy, .slice Dy my dy] 34
  simp only [List.toArray] at hW
  rw [← hW, ← hp]
  have P0 := hid (P7.out.keep b)
  have QA_0 := hid (QA3.out.keep b)
  have QB_0 := hid (QB3.out.keep b)
  clear hW hp b kk P7 QA3 QB3
  (try simp only [List.append_eq, List.cons_append, List.nil_append])
  refine wp_region_noPanic ?_
  refine wp_region_held_drew (S := (fun W => W.cell? ⟨w.heap.size, 0, none⟩ = some (.slice V0 vn vc) ∧ W.cell? ⟨w.heap.size, 1, none⟩ = some (.slice R0 rn rc))) (by kernel_rfl) ?_ (fun hH => ?_)
  exact (blk_two P0.out.box)
  have bd := bx_drew (bx_refl W7)
  obtain ⟨E0, hW0⟩ : ∃ W, W = W7.drew := ⟨_, rfl⟩
  rw [← hW0] at bd hH ⊢
  clear hW0
  have P1 := hid (P0.out.keep bd)
  have QA_1 := hid (QA_0.out.keep bd)
  have QB_1 := hid (QB_0.out.keep bd)
  clear bd P0 QA_0 QB_0
  refine wpAnyH_take (i := 0) (v := ?_) (by simp only [gx0, gx2]; rfl) (by kernel_rfl) (by kernel_rfl) (by kernel_rfl) (fun _ _ _ h => h) (.inl ⟨by rfl, ?_⟩) hH ?_
  rotate_left
  · intro w hSw; (try dsimp only at hSw); first | (go_simp; done) | (go_simp; with_reducible rfl) | (go_simp; decide)
  (try simp only [Act.put, gy0, gy1, gy2])
  refine wpAnyH_take (i := 1) (v := ?_) (by simp only [gx0, gx1, gx2]; rfl) (by kernel_rfl) (by kernel_rfl) (by kernel_rfl) (fun _ _ _ h => h) (.inl ⟨by rfl, ?_⟩) hH ?_
  rotate_left
  · intro w hSw; (try dsimp only at hSw); first | (go_simp; done) | (go_simp; with_reducible rfl) | (go_simp; decide)
  (try simp only [Act.put, gy0, gy1, gy2])
  refine wpAnyH_take (i := 2) (v := ?_) (by simp only [gx0, gx1, gx2]; rfl) (by kernel_rfl) (by kernel_rfl) (by kernel_rfl) (fun _ _ _ h => h) (.inl ⟨by rfl, ?_⟩) hH ?_
  rotate_left
  · intro w hSw; (try dsimp only at hSw); first | (go_simp; done) | (go_simp; with_reducible rfl) | (go_simp; decide)
  (try simp only [Act.put, gy0, gy1, gy2])
  refine wpAnyH_take (i := 3) (v := ?_) (by simp only [gx0, gx1, gx2]; rfl) (by kernel_rfl) (by kernel_rfl) (by kernel_rfl) (fun _ _ _ h => h) (.inl ⟨by rfl, ?_⟩) hH ?_
  rotate_left
  · intro w hSw; (try dsimp only at hSw); first | (go_simp; done) | (go_simp; with_reducible rfl) | (go_simp; decide)
  (try simp only [Act.put, gy0, gy1, gy2])
  refine wpAnyH_take (i := 4) (v := ?_) (by simp only [gx0, gx1, gx2]; rfl) (by kernel_rfl) (by kernel_rfl) (by kernel_rfl) (fun _ _ _ h => h) (.inl ⟨by rfl, ?_⟩) hH ?_
  rotate_left
  · intro w hSw; (try dsimp only at hSw); first | (go_simp; done) | (go_simp; with_reducible rfl) | (go_simp; decide)
  (try simp only [Act.put, gy0, gy1, gy2])
  refine wpAnyH_ready (rs := [5]) (by kernel_rfl) (by simp) ?_
  refine AllReadyH.cons (by simp only [gx0, gx1, gx2]; rfl) (fun K hK => ?_) AllReadyH.nil
  go_simp
  refine (D5.out _ P1.out.bel BA Bc QB_1.out).mono ?_
  rintro e v2 ⟨rfl, b⟩
  have P2 := hid (P1.out.keep b)
  have QA_2 := hid (QA_1.out.keep b)
  have QB_2 := hid (QB_1.out.keep b)
  clear b hH P1 QA_1 QB_1
  (try go_wp2_with fail)
  refine hK.out _ _ ?_ (fun hH => ?_)
  exact (blk_two P2.out.box)
  clear hK K
  (try simp only [Act.put, gy0, gy1, gy2])
  refine wpAnyH_take (i := 6) (v := ?_) (by simp only [gx0, gx1, gx2]; rfl) (by kernel_rfl) (by kernel_rfl) (by kernel_rfl) (fun _ _ _ h => h) (.inl ⟨by rfl, ?_⟩) hH ?_
  rotate_left
  · intro w hSw; (try dsimp only at hSw); first | (go_simp; done) | (go_simp; with_reducible rfl) | (go_simp; decide)
  (try simp only [Act.put, gy0, gy1, gy2])
  refine wpAnyH_take (i := 7) (v := ?_) (by simp only [gx0, gx1, gx2]; rfl) (by kernel_rfl) (by kernel_rfl) (by kernel_rfl) (fun _ _ _ h => h) (.inl ⟨by rfl, ?_⟩) hH ?_
  rotate_left
  · intro w hSw; (try dsimp only at hSw); first | (go_simp; done) | (go_simp; with_reducible rfl) | (go_simp; decide)
  (try simp only [Act.put, gy0, gy1, gy2])
  refine wpAnyH_take (i := 8) (v := ?_) (by simp only [gx0, gx1, gx2]; rfl) (by kernel_rfl) (by kernel_rfl) (by kernel_rfl) (fun _ _ _ h => h) (.inl ⟨by rfl, ?_⟩) hH ?_
  rotate_left
  · intro w hSw; (try dsimp only at hSw); first | (go_simp; done) | (go_simp; with_reducible rfl) | (go_simp; decide)
  (try simp only [Act.put, gy0, gy1, gy2])
  refine wpAnyH_take (i := 9) (v := ?_) (by simp only [gx0, gx1, gx2]; rfl) (by kernel_rfl) (by kernel_rfl) (by kernel_rfl) (fun _ _ _ h => h) (.inl ⟨by rfl, ?_⟩) hH ?_
  rotate_left
  · intro w hSw; (try dsimp only at hSw); first | (go_simp; done) | (go_simp; with_reducible rfl) | (go_simp; decide)
  (try simp only [Act.put, gy0, gy1, gy2])
  refine wpAnyH_ready (rs := [10]) (by kernel_rfl) (by simp) ?_
  refine AllReadyH.cons (by simp only [gx0, gx1, gx2]; rfl) (fun K hK => ?_) AllReadyH.nil
  go_simp
  refine (D7.out _ P2.out.bel BA Bc QB_2.out).mono ?_
  rintro e v3 ⟨LA, Lc, rfl, b⟩
  have P3 := hid (P2.out.keep b)
  have QA_3 := hid (QA_2.out.keep b)
  have QB_3 := hid (QB_2.out.keep b)
  clear b hH P2 QA_2 QB_2
  (try go_wp2_with fail)
  refine hK.out _ _ ?_ (fun hH => ?_)
  exact (blk_two P3.out.box)
  clear hK K
  (try simp only [Act.put, gy0, gy1, gy2])
  refine wpAnyH_take (i := 11) (v := ?_) (by simp only [gx0, gx1, gx2]; rfl) (by kernel_rfl) (by kernel_rfl) (by kernel_rfl) (fun _ _ _ h => h) (.inl ⟨by rfl, ?_⟩) hH ?_
  rotate_left
  · intro w hSw; (try dsimp only at hSw); first | (go_simp; done) | (go_simp; with_reducible rfl) | (go_simp; decide)
  (try simp only [Act.put, gy0, gy1, gy2])
  refine wpAnyH_take (i := 12) (v := ?_) (by simp only [gx0, gx1, gx2]; rfl) (by kernel_rfl) (by kernel_rfl) (by kernel_rfl) (fun _ _ _ h => h) (.inl ⟨by rfl, ?_⟩) hH ?_
  rotate_left
  · intro w hSw; (try dsimp only at hSw); first | (go_simp; done) | (go_simp; with_reducible rfl) | (go_simp; decide)
  (try simp only [Act.put, gy0, gy1, gy2])
  refine wpAnyH_take (i := 13) (v := ?_) (by simp only [gx0, gx1, gx2]; rfl) (by kernel_rfl) (by kernel_rfl) (by kernel_rfl) (fun _ _ _ h => h) (.inl ⟨by rfl, ?_⟩) hH ?_
  rotate_left
  · intro w hSw; (try dsimp only at hSw); first | (go_simp; done) | (go_simp; with_reducible rfl) | (go_simp; decide)
  (try simp only [Act.put, gy0, gy1, gy2])
  refine wpAnyH_take (i := 14) (v := ?_) (by simp only [gx0, gx1, gx2]; rfl) (by kernel_rfl) (by kernel_rfl) (by kernel_rfl) (fun _ _ _ h => h) (.inl ⟨by rfl, ?_⟩) hH ?_
  rotate_left
  · intro w hSw; (try dsimp only at hSw); first | (go_simp; done) | (go_simp; with_reducible rfl) | (go_simp; decide)
  (try simp only [Act.put, gy0, gy1, gy2])
  refine wpAnyH_take (i := 15) (v := ?_) (by simp only [gx0, gx1, gx2]; rfl) (by kernel_rfl) (by kernel_rfl) (by kernel_rfl) (fun _ _ _ h => h) (.inl ⟨by rfl, ?_⟩) hH ?_
  rotate_left
  · intro w hSw; (try dsimp only at hSw); first | (go_simp; done) | (go_simp; with_reducible rfl) | (go_simp; decide)
  (try simp only [Act.put, gy0, gy1, gy2])
  refine wpAnyH_take (i := 16) (v := ?_) (by simp only [gx0, gx1, gx2]; rfl) (by kernel_rfl) (by kernel_rfl) (by kernel_rfl) (fun _ _ _ h => h) (.inl ⟨by rfl, ?_⟩) hH ?_
  rotate_left
  · intro w hSw; (try dsimp only at hSw); first | (go_simp; done) | (go_simp; with_reducible rfl) | (go_simp; decide)
  (try simp only [Act.put, gy0, gy1, gy2])
  refine wpAnyH_take (i := 18) (v := ?_) (by simp only [gx0, gx1, gx2]; rfl) (by kernel_rfl) (by kernel_rfl) (by kernel_rfl) (fun _ _ _ h => h) (.inl ⟨by rfl, ?_⟩) hH ?_
  rotate_left
  · intro w hSw; (try dsimp only at hSw); first | (go_simp; done) | (go_simp; with_reducible rfl) | (go_simp; decide)
  (try simp only [Act.put, gy0, gy1, gy2])
  refine wpAnyH_take (i := 19) (v := ?_) (by simp only [gx0, gx1, gx2]; rfl) (by kernel_rfl) (by kernel_rfl) (by kernel_rfl) (fun _ _ _ h => h) (.inl ⟨by rfl, ?_⟩) hH ?_
  rotate_left
  · intro w hSw; (try dsimp only at hSw); first | (go_simp; done) | (go_simp; with_reducible rfl) | (go_simp; decide)
  (try simp only [Act.put, gy0, gy1, gy2])
  refine wpAnyH_ready (rs := [17]) (by kernel_rfl) (by simp) ?_
  refine AllReadyH.cons (by simp only [gx0, gx1, gx2]; rfl) (fun K hK => ?_) AllReadyH.nil
  go_simp
  refine (D9.out _ P3.out.bel BA Bc QB_3.out).mono ?_
  rintro e v4 ⟨g4, A4, n4, c4, F4, m4, d4, rfl, r, b⟩
  have P4 := hid (P3.out.keep b)
  have QA_4 := hid (QA_3.out.keep b)
  clear b hH P3 QA_3
  have RB_4 := hid r
  clear r QB_3
  (try go_wp2_with fail)
  refine hK.out _ _ ?_ (fun hH => ?_)
  exact (blk_two P4.out.box)
  clear hK K
  (try simp only [Act.put, gy0, gy1, gy2])
  refine wpAnyH_ready (rs := [20]) (by kernel_rfl) (by simp) ?_
  refine AllReadyH.cons (by simp only [gx0, gx1, gx2]; rfl) (fun K hK => ?_) AllReadyH.nil
  go_simp
  refine (D8.out _ P4.out.bel AA Ac QA_4.out).mono ?_
  rintro e v5 ⟨g5, A5, n5, c5, F5, m5, d5, rfl, r, b⟩
  have P5 := hid (P4.out.keep b)
  have RB_5 := hid (RB_4.out.keep b)
  clear b hH P4 RB_4
  have RA_5 := hid r
  clear r QA_4
  (try go_wp2_with fail)
  refine hK.out _ _ ?_ (fun hH => ?_)
  exact (blk_two P5.out.box)
  clear hK K
  (try simp only [Act.put, gy0, gy1, gy2])
  refine wpAnyH_ready (rs := [21]) (by kernel_rfl) (by simp) ?_
  refine AllReadyH.cons (by simp only [gx0, gx1, gx2]; rfl) (fun K hK => ?_) AllReadyH.nil
  go_simp
  refine (CM.out _ g4 A4 n4 c4 F4 m4 d4 RB_5.out g5 A5 n5 c5 F5 m5 d5 RA_5.out).mono ?_
  rintro e v6 ⟨rfl, b⟩
  have P6 := hid (P5.out.keep b)
  clear b hH P5 
  clear RA_5 RB_5
  (try go_wp2_with fail)
  refine hK.out _ _ ?_ (fun hH => ?_)
  exact (blk_two P6.out.box)
  clear hK K
  (try simp only [Act.put, gy0, gy1, gy2])
  refine wpAnyH_take (i := 22) (v := ?_) (by simp only [gx0, gx1, gx2]; rfl) (by kernel_rfl) (by kernel_rfl) (by kernel_rfl) (fun _ _ _ h => h) (.inl ⟨by rfl, ?_⟩) hH ?_
  rotate_left
  · intro w hSw; (try dsimp only at hSw); first | (go_simp; done) | (go_simp; with_reducible rfl) | (go_simp; decide)
  (try simp only [Act.put, gy0, gy1, gy2])
  refine wpAnyH_take (i := 23) (v := ?_) (by simp only [gx0, gx1, gx2]; rfl) (by kernel_rfl) (by kernel_rfl) (by kernel_rfl) (fun _ _ _ h => h) (.inl ⟨by rfl, ?_⟩) hH ?_
  rotate_left
  · intro w hSw; (try dsimp only at hSw); first | (go_simp; done) | (go_simp; with_reducible rfl) | (go_simp; decide)
  (try simp only [Act.put, gy0, gy1, gy2])
  refine wpAnyH_take (i := 24) (v := ?_) (by simp only [gx0, gx1, gx2]; rfl) (by kernel_rfl) (by kernel_rfl) (by kernel_rfl) (fun _ _ _ h => h) (.inl ⟨by rfl, ?_⟩) hH ?_
  rotate_left
  · intro w hSw; (try dsimp only at hSw); first | (go_simp; done) | (go_simp; with_reducible rfl) | (go_simp; decide)
  (try simp only [Act.put, gy0, gy1, gy2])
  refine wpAnyH_done (by kernel_rfl) ?_ _
  refine NoPanic.normal ?_
  clear hH
  have HP := hid (show RetB w true (.returned (.bool (decide (z < 0)))) v6 from ⟨by rw [decide_eq_true HZ.out], P6.out.bel⟩)
  clear P6 D5 D7 D8 D9 CM
  go_wp2_with fail
  go_ret
  exact HP.out

end Go.Proofs.YtlgdlabhaehdpaaGreat
