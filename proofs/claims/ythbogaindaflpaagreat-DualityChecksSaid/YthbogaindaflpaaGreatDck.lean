/- The checkers of infeasible and unbounded outcomes. -/
import Derived.Test.YthbogaindaflpaaGreatDuaB
import Derived.Deep.DeepCutAuto
import Derived.MapKept
import Derived.BigQuiet
namespace Go.Proofs.YthbogaindaflpaaGreat
open Go.RowKit
set_option maxRecDepth 100000
def PD.ck2 (p : PD) (o : OD) : Bool := (szB o.pn o.mn o.yn 0 p.rn 0 && decide (sgnQ o.q = 0)) && p.infB (pt o.mn o.ms)
set_option maxHeartbeats 8000000 in
theorem d_ck2 (p : PD) (o : OD) (k : Nat) (w : World) (h : Pg w p) (ho : Og w o k) (hk : k ≤ 100) :
    Calls Tryz.prog 46 #[.agg #[.slice p.V0 p.vn p.vc, .slice p.R0 p.rn p.rc], .agg #[.int .i64 o.kd, .bool o.g, .slice o.A o.n o.c, .slice o.D o.m o.d, .slice o.PA o.pn o.pc, .slice o.MA o.mn o.mc, .slice o.YA o.yn o.yc]] w (RetB w (p.ck2 o)) := by
  obtain ⟨W0, hW⟩ : ∃ W, W = (w.alloc (.cells #[.slice p.V0 p.vn p.vc, .slice p.R0 p.rn p.rc] 25)).alloc (.cells #[.int .i64 o.kd, .bool o.g, .slice o.A o.n o.c, .slice o.D o.m o.d, .slice o.PA o.pn o.pc, .slice o.MA o.mn o.mc, .slice o.YA o.yn o.yc] 34) := ⟨_, rfl⟩
  have B0 := bx_alloc (bx_alloc (bx_refl w) (.cells #[.slice p.V0 p.vn p.vc, .slice p.R0 p.rn p.rc] 25)) (.cells #[.int .i64 o.kd, .bool o.g, .slice o.A o.n o.c, .slice o.D o.m o.d, .slice o.PA o.pn o.pc, .slice o.MA o.mn o.mc, .slice o.YA o.yn o.yc] 34)
  have K0 := (Blk.new w [.slice p.V0 p.vn p.vc, .slice p.R0 p.rn p.rc] 25).alloc (.cells #[.int .i64 o.kd, .bool o.g, .slice o.A o.n o.c, .slice o.D o.m o.d, .slice o.PA o.pn o.pc, .slice o.MA o.mn o.mc, .slice o.YA o.yn o.yc] 34)
  have K1 := blk_new1 w (.cells #[.slice p.V0 p.vn p.vc, .slice p.R0 p.rn p.rc] 25) [.int .i64 o.kd, .bool o.g, .slice o.A o.n o.c, .slice o.D o.m o.d, .slice o.PA o.pn o.pc, .slice o.MA o.mn o.mc, .slice o.YA o.yn o.yc] 34
  change Blk ((w.alloc (.cells #[.slice p.V0 p.vn p.vc, .slice p.R0 p.rn p.rc] 25)).alloc (.cells #[.int .i64 o.kd, .bool o.g, .slice o.A o.n o.c, .slice o.D o.m o.d, .slice o.PA o.pn o.pc, .slice o.MA o.mn o.mc, .slice o.YA o.yn o.yc] 34)) _ _ _ at K0 K1
  rw [← hW] at B0 K0 K1
  have SZ := hid (fun (W : World) => d_sized o.kd o.g o.A o.n o.c o.D o.m o.d o.PA o.pn o.pc o.MA o.mn o.mc o.YA o.yn o.yc 0 p.rn 0 W)
  have SI := hid (fun (W : World) (b : Below w.heap.size w W) => vsign o.g o.A o.n o.c o.D o.m o.d k o.q W (ho.val.keep b))
  have OP := hid (fun (W : World) (b : Below w.heap.size w W) => d_infeasible p o.MA o.mn o.mc k o.ms W (h.keep b) (ho.mu.keep b) hk)
  obtain ⟨r, hr⟩ : ∃ r, r = p.ck2 o := ⟨_, rfl⟩
  rw [← hr]
  obtain ⟨b1, hb1⟩ : ∃ b, b = szB o.pn o.mn o.yn 0 p.rn 0 := ⟨_, rfl⟩
  obtain ⟨b2, hb2⟩ : ∃ b, b = p.infB (pt o.mn o.ms) := ⟨_, rfl⟩
  obtain ⟨s, hs⟩ : ∃ s, s = sgnQ o.q := ⟨_, rfl⟩
  have er := hid (show r = ((b1 && decide (s = 0)) && b2) by rw [hr, hb1, hb2, hs]; rfl)
  rw [← hb1] at SZ
  rw [← hb2] at OP
  rw [← hs] at SI
  obtain ⟨V0, vn, vc, lo, up, op, it, co, R0, rn, rc, nm, gr, ki, bo, TA, tn, tc, v, cf⟩ := p
  obtain ⟨kd, g, A, n, c, D, m, d, q, PA, pn, pc, ps, MA, mn, mc, ms, YA, yn, yc, ys⟩ := o
  dsimp only at SZ OP SI hW K0 K1 B0 er ⊢
  have KP := hid K0
  have KO := hid K1
  have BB := hid B0
  clear h ho B0 K0 K1 hr hb1 hb2 hs
  go_enter Tryz.func46, Tryz.ntmps46
  go_upto_region 1 with fail
  rw [← hW]
  clear hW
  obtain ⟨z0, z1⟩ := blk_two KP.out
  obtain ⟨y0, y1, y2, y3, y4, y5, y6⟩ := blk_seven KO.out
  go_wp2_with fail
  refine (SZ.out _).mono ?_
  rintro e v1 ⟨rfl, b⟩
  have KP1 := hid (KP.out.keep b)
  have KO1 := hid (KO.out.keep b)
  have BB1 := hid (bx_call BB.out b)
  clear SZ KP KO BB b z0 z1 y0 y1 y2 y3 y4 y5 y6
  obtain ⟨z0, z1⟩ := blk_two KP1.out
  obtain ⟨y0, y1, y2, y3, y4, y5, y6⟩ := blk_seven KO1.out
  cases b1
  · have EE := hid (vld_no (by rw [er.out]; rfl : r = false) BB1.out)
    clear SI OP er KP1 KO1 BB1
    go_wp2_with fail
    go_ret
    exact EE.out
  go_wp2_with fail
  refine (SI.out _ BB1.out).mono ?_
  rintro e v2 ⟨rfl, b⟩
  have KP2 := hid (KP1.out.keep b)
  have KO2 := hid (KO1.out.keep b)
  have BB2 := hid (bx_call BB1.out b)
  clear SI KP1 KO1 BB1 b z0 z1 y0 y1 y2 y3 y4 y5 y6
  obtain ⟨z0, z1⟩ := blk_two KP2.out
  obtain ⟨y0, y1, y2, y3, y4, y5, y6⟩ := blk_seven KO2.out
  by_cases s0 : s = 0
  case neg =>
    have t1 : (s == 0) = false := beq_eq_false_iff_ne.2 s0
    have t2 : decide (s = 0) = false := decide_eq_false s0
    have EE := hid (vld_no (by rw [er.out, t2]; rfl : r = false) BB2.out)
    have S0 := hid s0
    clear OP er KP2 KO2 BB2 s0
    go_wp2_with fail
    go_ret
    exact EE.out
  have e2 := hid (show r = b2 by rw [er.out, decide_eq_true s0]; rfl)
  subst s0
  clear er
  go_wp2_with fail
  refine (OP.out _ BB2.out).mono ?_
  rintro e v3 ⟨rfl, b⟩
  have EE := hid (show RetB w r (.returned (.bool b2)) v3 from ⟨by rw [e2.out], bx_call BB2.out b⟩)
  clear OP e2 KP2 KO2 BB2 b
  go_wp2_with fail
  go_ret
  exact EE.out
def PD.ck3 (p : PD) (o : OD) : Bool := (szB o.pn o.mn o.yn p.vn 0 p.vn && decide (sgnQ o.q = 0)) && p.unbB (pt o.pn o.ps) (pt o.yn o.ys)
set_option maxHeartbeats 8000000 in
theorem d_ck3 (p : PD) (o : OD) (k : Nat) (w : World) (h : Pg w p) (ho : Og w o k) (hk : k ≤ 100) :
    Calls Tryz.prog 48 #[.agg #[.slice p.V0 p.vn p.vc, .slice p.R0 p.rn p.rc], .agg #[.int .i64 o.kd, .bool o.g, .slice o.A o.n o.c, .slice o.D o.m o.d, .slice o.PA o.pn o.pc, .slice o.MA o.mn o.mc, .slice o.YA o.yn o.yc]] w (RetB w (p.ck3 o)) := by
  obtain ⟨W0, hW⟩ : ∃ W, W = (w.alloc (.cells #[.slice p.V0 p.vn p.vc, .slice p.R0 p.rn p.rc] 25)).alloc (.cells #[.int .i64 o.kd, .bool o.g, .slice o.A o.n o.c, .slice o.D o.m o.d, .slice o.PA o.pn o.pc, .slice o.MA o.mn o.mc, .slice o.YA o.yn o.yc] 34) := ⟨_, rfl⟩
  have B0 := bx_alloc (bx_alloc (bx_refl w) (.cells #[.slice p.V0 p.vn p.vc, .slice p.R0 p.rn p.rc] 25)) (.cells #[.int .i64 o.kd, .bool o.g, .slice o.A o.n o.c, .slice o.D o.m o.d, .slice o.PA o.pn o.pc, .slice o.MA o.mn o.mc, .slice o.YA o.yn o.yc] 34)
  have K0 := (Blk.new w [.slice p.V0 p.vn p.vc, .slice p.R0 p.rn p.rc] 25).alloc (.cells #[.int .i64 o.kd, .bool o.g, .slice o.A o.n o.c, .slice o.D o.m o.d, .slice o.PA o.pn o.pc, .slice o.MA o.mn o.mc, .slice o.YA o.yn o.yc] 34)
  have K1 := blk_new1 w (.cells #[.slice p.V0 p.vn p.vc, .slice p.R0 p.rn p.rc] 25) [.int .i64 o.kd, .bool o.g, .slice o.A o.n o.c, .slice o.D o.m o.d, .slice o.PA o.pn o.pc, .slice o.MA o.mn o.mc, .slice o.YA o.yn o.yc] 34
  change Blk ((w.alloc (.cells #[.slice p.V0 p.vn p.vc, .slice p.R0 p.rn p.rc] 25)).alloc (.cells #[.int .i64 o.kd, .bool o.g, .slice o.A o.n o.c, .slice o.D o.m o.d, .slice o.PA o.pn o.pc, .slice o.MA o.mn o.mc, .slice o.YA o.yn o.yc] 34)) _ _ _ at K0 K1
  rw [← hW] at B0 K0 K1
  have SZ := hid (fun (W : World) => d_sized o.kd o.g o.A o.n o.c o.D o.m o.d o.PA o.pn o.pc o.MA o.mn o.mc o.YA o.yn o.yc p.vn 0 p.vn W)
  have SI := hid (fun (W : World) (b : Below w.heap.size w W) => vsign o.g o.A o.n o.c o.D o.m o.d k o.q W (ho.val.keep b))
  have OP := hid (fun (W : World) (b : Below w.heap.size w W) => d_unbounded p o.PA o.pn o.pc k o.ps o.YA o.yn o.yc k o.ys W (h.keep b) (ho.pt.keep b) hk (ho.ray.keep b) hk)
  obtain ⟨r, hr⟩ : ∃ r, r = p.ck3 o := ⟨_, rfl⟩
  rw [← hr]
  obtain ⟨b1, hb1⟩ : ∃ b, b = szB o.pn o.mn o.yn p.vn 0 p.vn := ⟨_, rfl⟩
  obtain ⟨b2, hb2⟩ : ∃ b, b = p.unbB (pt o.pn o.ps) (pt o.yn o.ys) := ⟨_, rfl⟩
  obtain ⟨s, hs⟩ : ∃ s, s = sgnQ o.q := ⟨_, rfl⟩
  have er := hid (show r = ((b1 && decide (s = 0)) && b2) by rw [hr, hb1, hb2, hs]; rfl)
  rw [← hb1] at SZ
  rw [← hb2] at OP
  rw [← hs] at SI
  obtain ⟨V0, vn, vc, lo, up, op, it, co, R0, rn, rc, nm, gr, ki, bo, TA, tn, tc, v, cf⟩ := p
  obtain ⟨kd, g, A, n, c, D, m, d, q, PA, pn, pc, ps, MA, mn, mc, ms, YA, yn, yc, ys⟩ := o
  dsimp only at SZ OP SI hW K0 K1 B0 er ⊢
  have KP := hid K0
  have KO := hid K1
  have BB := hid B0
  clear h ho B0 K0 K1 hr hb1 hb2 hs
  go_enter Tryz.func48, Tryz.ntmps48
  go_upto_region 1 with fail
  rw [← hW]
  clear hW
  obtain ⟨z0, z1⟩ := blk_two KP.out
  obtain ⟨y0, y1, y2, y3, y4, y5, y6⟩ := blk_seven KO.out
  go_wp2_with fail
  refine (SZ.out _).mono ?_
  rintro e v1 ⟨rfl, b⟩
  have KP1 := hid (KP.out.keep b)
  have KO1 := hid (KO.out.keep b)
  have BB1 := hid (bx_call BB.out b)
  clear SZ KP KO BB b z0 z1 y0 y1 y2 y3 y4 y5 y6
  obtain ⟨z0, z1⟩ := blk_two KP1.out
  obtain ⟨y0, y1, y2, y3, y4, y5, y6⟩ := blk_seven KO1.out
  cases b1
  · have EE := hid (vld_no (by rw [er.out]; rfl : r = false) BB1.out)
    clear SI OP er KP1 KO1 BB1
    go_wp2_with fail
    go_ret
    exact EE.out
  go_wp2_with fail
  refine (SI.out _ BB1.out).mono ?_
  rintro e v2 ⟨rfl, b⟩
  have KP2 := hid (KP1.out.keep b)
  have KO2 := hid (KO1.out.keep b)
  have BB2 := hid (bx_call BB1.out b)
  clear SI KP1 KO1 BB1 b z0 z1 y0 y1 y2 y3 y4 y5 y6
  obtain ⟨z0, z1⟩ := blk_two KP2.out
  obtain ⟨y0, y1, y2, y3, y4, y5, y6⟩ := blk_seven KO2.out
  by_cases s0 : s = 0
  case neg =>
    have t1 : (s == 0) = false := beq_eq_false_iff_ne.2 s0
    have t2 : decide (s = 0) = false := decide_eq_false s0
    have EE := hid (vld_no (by rw [er.out, t2]; rfl : r = false) BB2.out)
    have S0 := hid s0
    clear OP er KP2 KO2 BB2 s0
    go_wp2_with fail
    go_ret
    exact EE.out
  have e2 := hid (show r = b2 by rw [er.out, decide_eq_true s0]; rfl)
  subst s0
  clear er
  go_wp2_with fail
  refine (OP.out _ BB2.out).mono ?_
  rintro e v3 ⟨rfl, b⟩
  have EE := hid (show RetB w r (.returned (.bool b2)) v3 from ⟨by rw [e2.out], bx_call BB2.out b⟩)
  clear OP e2 KP2 KO2 BB2 b
  go_wp2_with fail
  go_ret
  exact EE.out
def PD.chk2 (p : PD) (o : OD) : Int := if p.okB = true then (if p.ck2 o = true then 0 else 13) else 1
set_option maxHeartbeats 4000000 in
theorem d_check2 (p : PD) (o : OD) (k : Nat) (w : World) (h : Pg w p) (ho : Og w o k) (hk : k ≤ 100) (hkd : o.kd = 1) :
    Calls Tryz.prog 8 #[.agg #[.slice p.V0 p.vn p.vc, .slice p.R0 p.rn p.rc], .agg #[.int .i64 1, .bool o.g, .slice o.A o.n o.c, .slice o.D o.m o.d, .slice o.PA o.pn o.pc, .slice o.MA o.mn o.mc, .slice o.YA o.yn o.yc]] w (RetI w (p.chk2 o)) := by
  obtain ⟨W0, hW⟩ : ∃ W, W = (w.alloc (.cells #[.slice p.V0 p.vn p.vc, .slice p.R0 p.rn p.rc] 25)).alloc (.cells #[.int .i64 1, .bool o.g, .slice o.A o.n o.c, .slice o.D o.m o.d, .slice o.PA o.pn o.pc, .slice o.MA o.mn o.mc, .slice o.YA o.yn o.yc] 34) := ⟨_, rfl⟩
  have B0 := bx_alloc (bx_alloc (bx_refl w) (.cells #[.slice p.V0 p.vn p.vc, .slice p.R0 p.rn p.rc] 25)) (.cells #[.int .i64 1, .bool o.g, .slice o.A o.n o.c, .slice o.D o.m o.d, .slice o.PA o.pn o.pc, .slice o.MA o.mn o.mc, .slice o.YA o.yn o.yc] 34)
  have K0 := (Blk.new w [.slice p.V0 p.vn p.vc, .slice p.R0 p.rn p.rc] 25).alloc (.cells #[.int .i64 1, .bool o.g, .slice o.A o.n o.c, .slice o.D o.m o.d, .slice o.PA o.pn o.pc, .slice o.MA o.mn o.mc, .slice o.YA o.yn o.yc] 34)
  have K1 := blk_new1 w (.cells #[.slice p.V0 p.vn p.vc, .slice p.R0 p.rn p.rc] 25) [.int .i64 1, .bool o.g, .slice o.A o.n o.c, .slice o.D o.m o.d, .slice o.PA o.pn o.pc, .slice o.MA o.mn o.mc, .slice o.YA o.yn o.yc] 34
  change Blk ((w.alloc (.cells #[.slice p.V0 p.vn p.vc, .slice p.R0 p.rn p.rc] 25)).alloc (.cells #[.int .i64 1, .bool o.g, .slice o.A o.n o.c, .slice o.D o.m o.d, .slice o.PA o.pn o.pc, .slice o.MA o.mn o.mc, .slice o.YA o.yn o.yc] 34)) _ _ _ at K0 K1
  rw [← hW] at B0 K0 K1
  have VA := hid (fun (W : World) (b : Below w.heap.size w W) => d_valid p W (h.keep b))
  have CK := hid (fun (W : World) (b : Below w.heap.size w W) => d_ck2 p o k W (h.keep b) (ho.keep b) hk)
  obtain ⟨r, hr⟩ : ∃ r, r = p.chk2 o := ⟨_, rfl⟩
  rw [← hr]
  obtain ⟨b1, hb1⟩ : ∃ b, b = p.okB := ⟨_, rfl⟩
  obtain ⟨b2, hb2⟩ : ∃ b, b = p.ck2 o := ⟨_, rfl⟩
  have er := hid (show r = if b1 = true then (if b2 = true then 0 else 13) else 1 by rw [hr, hb1, hb2]; rfl)
  rw [← hb1] at VA
  rw [← hb2] at CK
  rw [hkd] at CK
  obtain ⟨V0, vn, vc, lo, up, op, it, co, R0, rn, rc, nm, gr, ki, bo, TA, tn, tc, v, cf⟩ := p
  obtain ⟨kd, g, A, n, c, D, m, d, q, PA, pn, pc, ps, MA, mn, mc, ms, YA, yn, yc, ys⟩ := o
  dsimp only at VA CK hW K0 K1 B0 ⊢
  have KP := hid K0
  have KO := hid K1
  have BB := hid B0
  clear h ho B0 K0 K1 hr hb1 hb2 hkd
  go_enter Tryz.func8, Tryz.ntmps8
  go_upto_region 1 with fail
  rw [← hW]
  clear hW
  (try simp only [List.append_eq, List.cons_append, List.nil_append])
  refine wp_region_noPanic ?_
  refine wp_region_held_drew (S := (fun W => W.cell? ⟨w.heap.size + 1, 0, none⟩ = some (.int .i64 1))) (by kernel_rfl) ?_ (fun hH => ?_)
  exact (blk_seven KO.out).1
  have bd := bx_drew (bx_refl W0)
  obtain ⟨D0, hW0⟩ : ∃ W, W = W0.drew := ⟨_, rfl⟩
  rw [← hW0] at bd hH ⊢
  clear hW0
  have KP0 := hid (KP.out.keep bd)
  have KO0 := hid (KO.out.keep bd)
  have BB0 := hid (bx_call BB.out bd)
  clear bd KP KO BB
  refine tk 1 hH ?_
  (try simp only [Act.put, gy0, gy1, gy2])
  refine tk 2 hH ?_
  (try simp only [Act.put, gy0, gy1, gy2])
  refine wpAnyH_ready (rs := [0]) (by kernel_rfl) (by simp) ?_
  refine rdy (fun K hK => ?_) AllReadyH.nil
  go_simp
  refine (d_checkers _).mono ?_
  rintro e v1 ⟨mb, rfl, hm, b⟩
  have lk := look_at hm (k := 1) (v := .func (.func 46) #[] #[]) (i := 1) rfl
  have KP1 := hid (KP0.out.keep b)
  have KO1 := hid (KO0.out.keep b)
  have BB1 := hid (bx_call BB0.out b)
  clear b hH KP0 KO0 BB0 hm
  (try go_wp2_with fail)
  refine hK.out _ _ ?_ (fun hH => ?_)
  exact (blk_seven KO1.out).1
  clear hK K
  (try simp only [Act.put, gy0, gy1, gy2])
  refine wpAnyH_ready (rs := [3]) (by kernel_rfl) (by simp) ?_
  refine rdy (fun K hK => ?_) AllReadyH.nil
  go_simp
  refine hK.out _ _ ?_ (fun hH => ?_)
  exact (blk_seven KO1.out).1
  clear hK K
  (try simp only [Act.put, gy0, gy1, gy2])
  refine tk 4 hH ?_
  (try simp only [Act.put, gy0, gy1, gy2])
  refine tk 5 hH ?_
  (try simp only [Act.put, gy0, gy1, gy2])
  refine tk 6 hH ?_
  (try simp only [Act.put, gy0, gy1, gy2])
  refine tk 7 hH ?_
  (try simp only [Act.put, gy0, gy1, gy2])
  refine tk 8 hH ?_
  (try simp only [Act.put, gy0, gy1, gy2])
  refine wpAnyH_done (by kernel_rfl) ?_ _
  refine NoPanic.normal ?_
  clear hH
  clear lk
  obtain ⟨p0, p1⟩ := blk_two KP1.out
  have V1 := hid (VA.out v1 BB1.out)
  clear VA
  go_wp2_with fail
  refine (V1.out).mono ?_
  rintro e v2 ⟨rfl, b⟩
  have KP2 := hid (KP1.out.keep b)
  have KO2 := hid (KO1.out.keep b)
  have BB2 := hid (bx_call BB1.out b)
  clear p0 p1 V1 b KP1 KO1 BB1
  cases b1
  · have HH := hid (show RetI w r (.returned (.int .i64 1)) v2 from ⟨by rw [er.out]; rfl, BB2.out⟩)
    clear CK er KP2 KO2 BB2
    go_wp2_with fail
    go_ret
    exact HH.out
  have C2 := hid (CK.out v2 BB2.out)
  obtain ⟨p0, p1⟩ := blk_two KP2.out
  obtain ⟨o0, o1, o2, o3, o4, o5, o6⟩ := blk_seven KO2.out
  clear CK KP2 KO2
  go_wp2_with fail
  refine (C2.out).mono ?_
  rintro e v3 ⟨rfl, b⟩
  have BB3 := hid (bx_call BB2.out b)
  clear C2 b BB2 p0 p1 o0 o1 o2 o3 o4 o5 o6
  cases b2
  · have HH := hid (show RetI w r (.returned (.int .i64 13)) v3 from ⟨by rw [er.out]; rfl, BB3.out⟩)
    clear er BB3
    go_wp2_with fail
    go_ret
    exact HH.out
  · have HH := hid (show RetI w r (.returned (.int .i64 0)) v3 from ⟨by rw [er.out]; rfl, BB3.out⟩)
    clear er BB3
    go_wp2_with fail
    go_ret
    exact HH.out
def PD.chk3 (p : PD) (o : OD) : Int := if p.okB = true then (if p.ck3 o = true then 0 else 13) else 1
set_option maxHeartbeats 4000000 in
theorem d_check3 (p : PD) (o : OD) (k : Nat) (w : World) (h : Pg w p) (ho : Og w o k) (hk : k ≤ 100) (hkd : o.kd = 2) :
    Calls Tryz.prog 8 #[.agg #[.slice p.V0 p.vn p.vc, .slice p.R0 p.rn p.rc], .agg #[.int .i64 2, .bool o.g, .slice o.A o.n o.c, .slice o.D o.m o.d, .slice o.PA o.pn o.pc, .slice o.MA o.mn o.mc, .slice o.YA o.yn o.yc]] w (RetI w (p.chk3 o)) := by
  obtain ⟨W0, hW⟩ : ∃ W, W = (w.alloc (.cells #[.slice p.V0 p.vn p.vc, .slice p.R0 p.rn p.rc] 25)).alloc (.cells #[.int .i64 2, .bool o.g, .slice o.A o.n o.c, .slice o.D o.m o.d, .slice o.PA o.pn o.pc, .slice o.MA o.mn o.mc, .slice o.YA o.yn o.yc] 34) := ⟨_, rfl⟩
  have B0 := bx_alloc (bx_alloc (bx_refl w) (.cells #[.slice p.V0 p.vn p.vc, .slice p.R0 p.rn p.rc] 25)) (.cells #[.int .i64 2, .bool o.g, .slice o.A o.n o.c, .slice o.D o.m o.d, .slice o.PA o.pn o.pc, .slice o.MA o.mn o.mc, .slice o.YA o.yn o.yc] 34)
  have K0 := (Blk.new w [.slice p.V0 p.vn p.vc, .slice p.R0 p.rn p.rc] 25).alloc (.cells #[.int .i64 2, .bool o.g, .slice o.A o.n o.c, .slice o.D o.m o.d, .slice o.PA o.pn o.pc, .slice o.MA o.mn o.mc, .slice o.YA o.yn o.yc] 34)
  have K1 := blk_new1 w (.cells #[.slice p.V0 p.vn p.vc, .slice p.R0 p.rn p.rc] 25) [.int .i64 2, .bool o.g, .slice o.A o.n o.c, .slice o.D o.m o.d, .slice o.PA o.pn o.pc, .slice o.MA o.mn o.mc, .slice o.YA o.yn o.yc] 34
  change Blk ((w.alloc (.cells #[.slice p.V0 p.vn p.vc, .slice p.R0 p.rn p.rc] 25)).alloc (.cells #[.int .i64 2, .bool o.g, .slice o.A o.n o.c, .slice o.D o.m o.d, .slice o.PA o.pn o.pc, .slice o.MA o.mn o.mc, .slice o.YA o.yn o.yc] 34)) _ _ _ at K0 K1
  rw [← hW] at B0 K0 K1
  have VA := hid (fun (W : World) (b : Below w.heap.size w W) => d_valid p W (h.keep b))
  have CK := hid (fun (W : World) (b : Below w.heap.size w W) => d_ck3 p o k W (h.keep b) (ho.keep b) hk)
  obtain ⟨r, hr⟩ : ∃ r, r = p.chk3 o := ⟨_, rfl⟩
  rw [← hr]
  obtain ⟨b1, hb1⟩ : ∃ b, b = p.okB := ⟨_, rfl⟩
  obtain ⟨b2, hb2⟩ : ∃ b, b = p.ck3 o := ⟨_, rfl⟩
  have er := hid (show r = if b1 = true then (if b2 = true then 0 else 13) else 1 by rw [hr, hb1, hb2]; rfl)
  rw [← hb1] at VA
  rw [← hb2] at CK
  rw [hkd] at CK
  obtain ⟨V0, vn, vc, lo, up, op, it, co, R0, rn, rc, nm, gr, ki, bo, TA, tn, tc, v, cf⟩ := p
  obtain ⟨kd, g, A, n, c, D, m, d, q, PA, pn, pc, ps, MA, mn, mc, ms, YA, yn, yc, ys⟩ := o
  dsimp only at VA CK hW K0 K1 B0 ⊢
  have KP := hid K0
  have KO := hid K1
  have BB := hid B0
  clear h ho B0 K0 K1 hr hb1 hb2 hkd
  go_enter Tryz.func8, Tryz.ntmps8
  go_upto_region 1 with fail
  rw [← hW]
  clear hW
  (try simp only [List.append_eq, List.cons_append, List.nil_append])
  refine wp_region_noPanic ?_
  refine wp_region_held_drew (S := (fun W => W.cell? ⟨w.heap.size + 1, 0, none⟩ = some (.int .i64 2))) (by kernel_rfl) ?_ (fun hH => ?_)
  exact (blk_seven KO.out).1
  have bd := bx_drew (bx_refl W0)
  obtain ⟨D0, hW0⟩ : ∃ W, W = W0.drew := ⟨_, rfl⟩
  rw [← hW0] at bd hH ⊢
  clear hW0
  have KP0 := hid (KP.out.keep bd)
  have KO0 := hid (KO.out.keep bd)
  have BB0 := hid (bx_call BB.out bd)
  clear bd KP KO BB
  refine tk 1 hH ?_
  (try simp only [Act.put, gy0, gy1, gy2])
  refine tk 2 hH ?_
  (try simp only [Act.put, gy0, gy1, gy2])
  refine wpAnyH_ready (rs := [0]) (by kernel_rfl) (by simp) ?_
  refine rdy (fun K hK => ?_) AllReadyH.nil
  go_simp
  refine (d_checkers _).mono ?_
  rintro e v1 ⟨mb, rfl, hm, b⟩
  have lk := look_at hm (k := 2) (v := .func (.func 48) #[] #[]) (i := 2) rfl
  have KP1 := hid (KP0.out.keep b)
  have KO1 := hid (KO0.out.keep b)
  have BB1 := hid (bx_call BB0.out b)
  clear b hH KP0 KO0 BB0 hm
  (try go_wp2_with fail)
  refine hK.out _ _ ?_ (fun hH => ?_)
  exact (blk_seven KO1.out).1
  clear hK K
  (try simp only [Act.put, gy0, gy1, gy2])
  refine wpAnyH_ready (rs := [3]) (by kernel_rfl) (by simp) ?_
  refine rdy (fun K hK => ?_) AllReadyH.nil
  go_simp
  refine hK.out _ _ ?_ (fun hH => ?_)
  exact (blk_seven KO1.out).1
  clear hK K
  (try simp only [Act.put, gy0, gy1, gy2])
  refine tk 4 hH ?_
  (try simp only [Act.put, gy0, gy1, gy2])
  refine tk 5 hH ?_
  (try simp only [Act.put, gy0, gy1, gy2])
  refine tk 6 hH ?_
  (try simp only [Act.put, gy0, gy1, gy2])
  refine tk 7 hH ?_
  (try simp only [Act.put, gy0, gy1, gy2])
  refine tk 8 hH ?_
  (try simp only [Act.put, gy0, gy1, gy2])
  refine wpAnyH_done (by kernel_rfl) ?_ _
  refine NoPanic.normal ?_
  clear hH
  clear lk
  obtain ⟨p0, p1⟩ := blk_two KP1.out
  have V1 := hid (VA.out v1 BB1.out)
  clear VA
  go_wp2_with fail
  refine (V1.out).mono ?_
  rintro e v2 ⟨rfl, b⟩
  have KP2 := hid (KP1.out.keep b)
  have KO2 := hid (KO1.out.keep b)
  have BB2 := hid (bx_call BB1.out b)
  clear p0 p1 V1 b KP1 KO1 BB1
  cases b1
  · have HH := hid (show RetI w r (.returned (.int .i64 1)) v2 from ⟨by rw [er.out]; rfl, BB2.out⟩)
    clear CK er KP2 KO2 BB2
    go_wp2_with fail
    go_ret
    exact HH.out
  have C2 := hid (CK.out v2 BB2.out)
  obtain ⟨p0, p1⟩ := blk_two KP2.out
  obtain ⟨o0, o1, o2, o3, o4, o5, o6⟩ := blk_seven KO2.out
  clear CK KP2 KO2
  go_wp2_with fail
  refine (C2.out).mono ?_
  rintro e v3 ⟨rfl, b⟩
  have BB3 := hid (bx_call BB2.out b)
  clear C2 b BB2 p0 p1 o0 o1 o2 o3 o4 o5 o6
  cases b2
  · have HH := hid (show RetI w r (.returned (.int .i64 13)) v3 from ⟨by rw [er.out]; rfl, BB3.out⟩)
    clear er BB3
    go_wp2_with fail
    go_ret
    exact HH.out
  · have HH := hid (show RetI w r (.returned (.int .i64 0)) v3 from ⟨by rw [er.out]; rfl, BB3.out⟩)
    clear er BB3
    go_wp2_with fail
    go_ret
    exact HH.out
theorem look_no {W : World} {b : Nat} {es : Array MapEntry} {clock : Nat} (hb : W.heap[b]? = some (.map es clock)) {k : Int} (hn : Instr.findNow (.int .i64) (.int .i64 k) es.toList 0 = some none) :
    ∃ z, (Instr.lookup 65 (.map (some b)) (.int .i64 k) true).run Tryz.prog W = .ok (.tuple #[z, .bool false]) W := by
  have h1 : Tryz.prog.underlying 65 = some (.map 3 63) := by kernel_rfl
  have h2 : Tryz.prog.underlying 3 = some (.int .i64) := by kernel_rfl
  have hk : MapKept.IsKey (.int .i64) (.int .i64 k) := by first | rfl | trivial | simp [MapKept.IsKey]
  simp [Instr.lookup, run_underlying h1, MapKept.run_getObj_map hb, MapKept.run_checkKey h2 hk, MapKept.run_findKey h2 hn, Result.andThen]
theorem find0 {k : Int} (h0 : k ≠ 0) (h1 : k ≠ 1) (h2 : k ≠ 2) : Instr.findNow (.int .i64) (.int .i64 k) chk3.toList 0 = some none := by
  have b0 : (k == 0) = false := beq_eq_false_iff_ne.2 h0
  have b1 : (k == 1) = false := beq_eq_false_iff_ne.2 h1
  have b2 : (k == 2) = false := beq_eq_false_iff_ne.2 h2
  unfold chk3
  simp [Instr.findNow, Instr.sameNow, entry, b0, b1, b2]
set_option maxHeartbeats 4000000 in
theorem d_check0 (p : PD) (o : OD) (w : World) (e0 : o.kd ≠ 0) (e1 : o.kd ≠ 1) (e2 : o.kd ≠ 2) :
    Calls Tryz.prog 8 #[.agg #[.slice p.V0 p.vn p.vc, .slice p.R0 p.rn p.rc], .agg #[.int .i64 o.kd, .bool o.g, .slice o.A o.n o.c, .slice o.D o.m o.d, .slice o.PA o.pn o.pc, .slice o.MA o.mn o.mc, .slice o.YA o.yn o.yc]] w (RetI w 1) := by
  obtain ⟨W0, hW⟩ : ∃ W, W = (w.alloc (.cells #[.slice p.V0 p.vn p.vc, .slice p.R0 p.rn p.rc] 25)).alloc (.cells #[.int .i64 o.kd, .bool o.g, .slice o.A o.n o.c, .slice o.D o.m o.d, .slice o.PA o.pn o.pc, .slice o.MA o.mn o.mc, .slice o.YA o.yn o.yc] 34) := ⟨_, rfl⟩
  have B0 := bx_alloc (bx_alloc (bx_refl w) (.cells #[.slice p.V0 p.vn p.vc, .slice p.R0 p.rn p.rc] 25)) (.cells #[.int .i64 o.kd, .bool o.g, .slice o.A o.n o.c, .slice o.D o.m o.d, .slice o.PA o.pn o.pc, .slice o.MA o.mn o.mc, .slice o.YA o.yn o.yc] 34)
  have K0 := (Blk.new w [.slice p.V0 p.vn p.vc, .slice p.R0 p.rn p.rc] 25).alloc (.cells #[.int .i64 o.kd, .bool o.g, .slice o.A o.n o.c, .slice o.D o.m o.d, .slice o.PA o.pn o.pc, .slice o.MA o.mn o.mc, .slice o.YA o.yn o.yc] 34)
  have K1 := blk_new1 w (.cells #[.slice p.V0 p.vn p.vc, .slice p.R0 p.rn p.rc] 25) [.int .i64 o.kd, .bool o.g, .slice o.A o.n o.c, .slice o.D o.m o.d, .slice o.PA o.pn o.pc, .slice o.MA o.mn o.mc, .slice o.YA o.yn o.yc] 34
  change Blk ((w.alloc (.cells #[.slice p.V0 p.vn p.vc, .slice p.R0 p.rn p.rc] 25)).alloc (.cells #[.int .i64 o.kd, .bool o.g, .slice o.A o.n o.c, .slice o.D o.m o.d, .slice o.PA o.pn o.pc, .slice o.MA o.mn o.mc, .slice o.YA o.yn o.yc] 34)) _ _ _ at K0 K1
  rw [← hW] at B0 K0 K1
  obtain ⟨V0, vn, vc, lo, up, op, it, co, R0, rn, rc, nm, gr, ki, bo, TA, tn, tc, v, cf⟩ := p
  obtain ⟨kd, g, A, n, c, D, m, d, q, PA, pn, pc, ps, MA, mn, mc, ms, YA, yn, yc, ys⟩ := o
  dsimp only at e0 e1 e2 hW K0 K1 B0 ⊢
  have FN := hid (find0 e0 e1 e2)
  have KP := hid K0
  have KO := hid K1
  have BB := hid B0
  clear B0 K0 K1 e0 e1 e2
  go_enter Tryz.func8, Tryz.ntmps8
  go_upto_region 1 with fail
  rw [← hW]
  clear hW
  (try simp only [List.append_eq, List.cons_append, List.nil_append])
  refine wp_region_noPanic ?_
  refine wp_region_held_drew (S := (fun W => W.cell? ⟨w.heap.size + 1, 0, none⟩ = some (.int .i64 kd))) (by kernel_rfl) ?_ (fun hH => ?_)
  exact (blk_seven KO.out).1
  have bd := bx_drew (bx_refl W0)
  obtain ⟨D0, hW0⟩ : ∃ W, W = W0.drew := ⟨_, rfl⟩
  rw [← hW0] at bd hH ⊢
  clear hW0
  have KP0 := hid (KP.out.keep bd)
  have KO0 := hid (KO.out.keep bd)
  have BB0 := hid (bx_call BB.out bd)
  clear bd KP KO BB
  refine tk 1 hH ?_
  (try simp only [Act.put, gy0, gy1, gy2])
  refine tk 2 hH ?_
  (try simp only [Act.put, gy0, gy1, gy2])
  refine wpAnyH_ready (rs := [0]) (by kernel_rfl) (by simp) ?_
  refine rdy (fun K hK => ?_) AllReadyH.nil
  go_simp
  refine (d_checkers _).mono ?_
  rintro e v1 ⟨mb, rfl, hm, b⟩
  obtain ⟨z, lk⟩ := look_no hm FN.out
  have KP1 := hid (KP0.out.keep b)
  have KO1 := hid (KO0.out.keep b)
  have BB1 := hid (bx_call BB0.out b)
  clear b hH KP0 KO0 BB0 hm
  (try go_wp2_with fail)
  refine hK.out _ _ ?_ (fun hH => ?_)
  exact (blk_seven KO1.out).1
  clear hK K
  (try simp only [Act.put, gy0, gy1, gy2])
  refine wpAnyH_ready (rs := [3]) (by kernel_rfl) (by simp) ?_
  refine rdy (fun K hK => ?_) AllReadyH.nil
  go_simp
  refine hK.out _ _ ?_ (fun hH => ?_)
  exact (blk_seven KO1.out).1
  clear hK K
  (try simp only [Act.put, gy0, gy1, gy2])
  refine tk 4 hH ?_
  (try simp only [Act.put, gy0, gy1, gy2])
  refine tk 5 hH ?_
  (try simp only [Act.put, gy0, gy1, gy2])
  refine tk 6 hH ?_
  (try simp only [Act.put, gy0, gy1, gy2])
  refine tk 7 hH ?_
  (try simp only [Act.put, gy0, gy1, gy2])
  refine tk 8 hH ?_
  (try simp only [Act.put, gy0, gy1, gy2])
  refine wpAnyH_done (by kernel_rfl) ?_ _
  refine NoPanic.normal ?_
  clear hH
  clear lk
  have HH := hid (show RetI w 1 (.returned (.int .i64 1)) v1 from ⟨rfl, BB1.out⟩)
  clear KP1 KO1 BB1 FN
  go_wp2_with fail
  go_ret
  exact HH.out
def PD.chk (p : PD) (o : OD) : Int := if o.kd = 0 then p.chk1 o else if o.kd = 1 then p.chk2 o else if o.kd = 2 then p.chk3 o else 1
theorem d_check (p : PD) (o : OD) (k : Nat) (w : World) (h : Pg w p) (ho : Og w o k) (hk : k ≤ 100) :
    Calls Tryz.prog 8 #[.agg #[.slice p.V0 p.vn p.vc, .slice p.R0 p.rn p.rc], .agg #[.int .i64 o.kd, .bool o.g, .slice o.A o.n o.c, .slice o.D o.m o.d, .slice o.PA o.pn o.pc, .slice o.MA o.mn o.mc, .slice o.YA o.yn o.yc]] w (RetI w (p.chk o)) := by
  unfold PD.chk
  by_cases h0 : o.kd = 0
  · rw [if_pos h0]
    have t := d_check1 p o k w h ho hk h0
    rw [← h0] at t
    exact t
  · rw [if_neg h0]
    by_cases h1 : o.kd = 1
    · rw [if_pos h1]
      have t := d_check2 p o k w h ho hk h1
      rw [← h1] at t
      exact t
    · rw [if_neg h1]
      by_cases h2 : o.kd = 2
      · rw [if_pos h2]
        have t := d_check3 p o k w h ho hk h2
        rw [← h2] at t
        exact t
      · rw [if_neg h2]
        exact d_check0 p o w h0 h1 h2
end Go.Proofs.YthbogaindaflpaaGreat
