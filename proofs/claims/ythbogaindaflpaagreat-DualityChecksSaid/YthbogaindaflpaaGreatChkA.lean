/- ChkA: Prv, Rck, Chk in one text. -/
import Derived.Test.YthbogaindaflpaaGreatR5b
import Derived.Test.YthbogaindaflpaaGreatQva
import Derived.Test.YthbogaindaflpaaGreatDck
import Derived.Deep.DeepCutAuto
import Derived.BigQuiet
import Derived.Test.YthbogaindaflpaaGreatAwk6
namespace Go.Proofs.YthbogaindaflpaaGreat
open Go.RowKit
set_option maxRecDepth 100000
structure Ov (w : World) (o : OD) (k : Nat) : Prop where
  val : Fv w o.g o.A o.n o.c o.D o.m o.d k o.q
  pt : Qv w o.PA o.pn o.pc k o.ps
  mu : Qv w o.MA o.mn o.mc k o.ms
  ray : Qv w o.YA o.yn o.yc k o.ys
theorem Qv.keep {w w' : World} {A : Option Addr} {n c k : Nat} {qs : Nat → Rat} (h : Qv w A n c k qs) (b : Below w.heap.size w w') : Qv w' A n c k qs := by
  refine ⟨h.1, h.2.1, h.2.2.1, fun hn => ?_⟩
  obtain ⟨b0, o, h1, h2, h3⟩ := h.2.2.2 hn
  refine ⟨b0, o, h1, Nat.lt_of_lt_of_le h2 b.size, fun j hj => ?_⟩
  obtain ⟨g, A', n', c', D', m', d', e0, e1, e2, e3⟩ := h3 j hj
  exact ⟨g, A', n', c', D', m', d', cell_bx e0 b, cell_bx e1 b, cell_bx e2 b, e3.keep b⟩
structure Kq (w : World) (V0 : Option Addr) (vn vc : Nat) (R0 : Option Addr) (rn rc : Nat) (cs : List Value) (W : World) : Prop where
  bel : Below w.heap.size w W
  box : Blk W w.heap.size [.slice V0 vn vc, .slice R0 rn rc] 25
  out : Blk W (w.heap.size + 1) cs 34
theorem Kq.keep {w : World} {V0 : Option Addr} {vn vc : Nat} {R0 : Option Addr} {rn rc : Nat} {cs : List Value} {W W' : World} (h : Kq w V0 vn vc R0 rn rc cs W) (b : Below W.heap.size W W') : Kq w V0 vn vc R0 rn rc cs W' := ⟨bx_call h.bel b, h.box.keep b, h.out.keep b⟩
def PD.pv1 (p : PD) (o : OD) : Bool := ((((decide (o.pn = p.vn) && decide (o.mn = p.rn)) && decide (o.yn = 0)) && decide (sgnQ (o.q - p.costV (pt o.pn o.ps)) = 0)) && p.o5B (pt o.pn o.ps) (pt o.mn o.ms))
def PD.pv2 (p : PD) (o : OD) : Bool := ((((decide (o.pn = 0) && decide (o.mn = p.rn)) && decide (o.yn = 0)) && decide (sgnQ o.q = 0)) && p.i5B (pt o.mn o.ms))
def PD.pv3 (p : PD) (o : OD) : Bool := ((((decide (o.pn = p.vn) && decide (o.mn = 0)) && decide (o.yn = p.vn)) && decide (sgnQ o.q = 0)) && p.u5B (pt o.pn o.ps) (pt o.yn o.ys))
set_option maxHeartbeats 16000000 in
theorem rprv1 (p : PD) (o : OD) (k : Nat) (w : World) (h : Pg w p) (ho : Ov w o k) (hk : k ≤ 100) :
    Calls Tryz.prog 27 #[.agg #[.slice p.V0 p.vn p.vc, .slice p.R0 p.rn p.rc], .agg #[.int .i64 0, .bool o.g, .slice o.A o.n o.c, .slice o.D o.m o.d, .slice o.PA o.pn o.pc, .slice o.MA o.mn o.mc, .slice o.YA o.yn o.yc]] w (RetB w (p.pv1 o)) := by
  obtain ⟨W0, hW⟩ : ∃ W, W = (w.alloc (.cells #[.slice p.V0 p.vn p.vc, .slice p.R0 p.rn p.rc] 25)).alloc (.cells #[.int .i64 0, .bool o.g, .slice o.A o.n o.c, .slice o.D o.m o.d, .slice o.PA o.pn o.pc, .slice o.MA o.mn o.mc, .slice o.YA o.yn o.yc] 34) := ⟨_, rfl⟩
  have B0 := bx_alloc (bx_alloc (bx_refl w) (.cells #[.slice p.V0 p.vn p.vc, .slice p.R0 p.rn p.rc] 25)) (.cells #[.int .i64 0, .bool o.g, .slice o.A o.n o.c, .slice o.D o.m o.d, .slice o.PA o.pn o.pc, .slice o.MA o.mn o.mc, .slice o.YA o.yn o.yc] 34)
  have K0 := (Blk.new w [.slice p.V0 p.vn p.vc, .slice p.R0 p.rn p.rc] 25).alloc (.cells #[.int .i64 0, .bool o.g, .slice o.A o.n o.c, .slice o.D o.m o.d, .slice o.PA o.pn o.pc, .slice o.MA o.mn o.mc, .slice o.YA o.yn o.yc] 34)
  have K1 := blk_new1 w (.cells #[.slice p.V0 p.vn p.vc, .slice p.R0 p.rn p.rc] 25) [.int .i64 0, .bool o.g, .slice o.A o.n o.c, .slice o.D o.m o.d, .slice o.PA o.pn o.pc, .slice o.MA o.mn o.mc, .slice o.YA o.yn o.yc] 34
  change Blk ((w.alloc (.cells #[.slice p.V0 p.vn p.vc, .slice p.R0 p.rn p.rc] 25)).alloc (.cells #[.int .i64 0, .bool o.g, .slice o.A o.n o.c, .slice o.D o.m o.d, .slice o.PA o.pn o.pc, .slice o.MA o.mn o.mc, .slice o.YA o.yn o.yc] 34)) _ _ _ at K0 K1
  rw [← hW] at B0 K0 K1
  have P0 := hid (show Kq w p.V0 p.vn p.vc p.R0 p.rn p.rc [.int .i64 0, .bool o.g, .slice o.A o.n o.c, .slice o.D o.m o.d, .slice o.PA o.pn o.pc, .slice o.MA o.mn o.mc, .slice o.YA o.yn o.yc] W0 from ⟨B0, K0, K1⟩)
  have VA := hid (fun (W : World) (b : Below w.heap.size w W) => rvalid_v o.g o.A o.n o.c o.D o.m o.d k o.q W (ho.val.keep b) (by omega))
  have C1 := hid (fun (W : World) (b : Below w.heap.size w W) => rvalid5 o.PA o.pn o.pc k o.ps p.vn W (ho.pt.keep b) (by omega))
  have C2 := hid (fun (W : World) (b : Below w.heap.size w W) => rvalid5 o.MA o.mn o.mc k o.ms p.rn W (ho.mu.keep b) (by omega))
  have C3 := hid (fun (W : World) (b : Below w.heap.size w W) => r_cost p o.PA o.pn o.pc k o.ps W (h.keep b) (ho.pt.keep b).qs hk)
  have C5 := hid (fun (W : World) (b : Below w.heap.size w W) => ropt5 p o.PA o.pn o.pc k o.ps o.MA o.mn o.mc k o.ms W (h.keep b) (ho.pt.keep b).qs hk (ho.mu.keep b).qs hk)
  obtain ⟨qc, hqc⟩ : ∃ b, b = p.costV (pt o.pn o.ps) := ⟨_, rfl⟩
  obtain ⟨s, hs⟩ : ∃ s, s = sgnQ (o.q - qc) := ⟨_, rfl⟩
  have C4 := hid (fun (W : World) (b : Below w.heap.size w W) (g2 : Bool) (A2 : Option Addr) (n2 c2 : Nat) (D2 : Option Addr) (m2 d2 : Nat) (M : FrV W g2 A2 n2 c2 D2 m2 d2 10301 qc) => (show Calls Tryz.prog 56 #[.agg #[.bool o.g, .slice o.A o.n o.c, .slice o.D o.m o.d], .agg #[.bool g2, .slice A2 n2 c2, .slice D2 m2 d2]] W (RetI W s) by
    have L := (ho.val.keep b).2.v.up (k := 10301) (by omega)
    rw [← ho.val.1] at L
    rw [hs]
    exact vrcmp o.g o.A o.n o.c o.D o.m o.d g2 A2 n2 c2 D2 m2 d2 10301 o.q qc W L M (by omega)))
  rw [← hqc] at C3
  obtain ⟨b1, hb1⟩ : ∃ b, b = decide (o.pn = p.vn) := ⟨_, rfl⟩
  rw [← hb1] at C1
  obtain ⟨b2, hb2⟩ : ∃ b, b = decide (o.mn = p.rn) := ⟨_, rfl⟩
  rw [← hb2] at C2
  obtain ⟨b5, hb5⟩ : ∃ b, b = p.o5B (pt o.pn o.ps) (pt o.mn o.ms) := ⟨_, rfl⟩
  rw [← hb5] at C5
  obtain ⟨r, hr⟩ : ∃ r, r = p.pv1 o := ⟨_, rfl⟩
  have er := hid (show r = ((((b1 && b2) && decide (o.yn = 0)) && decide (s = 0)) && b5) by rw [hr, hb1, hb2, hb5, hs, hqc]; rfl)
  rw [← hr]
  obtain ⟨V0, vn, vc, lo, up, op, it, co, R0, rn, rc, nm, gr, ki, bo, TA, tn, tc, v, cf⟩ := p
  obtain ⟨kd, g, A, n, c, D, m, d, q, PA, pn, pc, ps, MA, mn, mc, ms, YA, yn, yc, ys⟩ := o
  dsimp only at VA C1 C2 C3 C4 C5 hW P0 er ⊢
  clear h ho hk B0 K0 K1 hr hs hb1 hb2 hb5 hqc
  go_enter Tryz.func27, Tryz.ntmps27
  go_upto_region 1 with fail
  rw [← hW]
  clear hW
  obtain ⟨y0, y1, y2, y3, y4, y5, y6⟩ := blk_seven P0.out.out
  go_wp2_with fail
  refine (VA.out _ P0.out.bel).mono ?_
  rintro e W1 ⟨rfl, b⟩
  have Q0 := hid (P0.out.keep b)
  clear VA P0 b y0 y1 y2 y3 y4 y5 y6
  go_upto_region 3 with fail
  (try simp only [List.append_eq, List.cons_append, List.nil_append])
  refine wp_region_noPanic ?_
  refine wp_region_held_drew (S := (fun W => (W.cell? ⟨w.heap.size, 0, none⟩ = some (.slice V0 vn vc) ∧ W.cell? ⟨w.heap.size, 1, none⟩ = some (.slice R0 rn rc)) ∧ W.cell? ⟨w.heap.size + 1, 0, none⟩ = some (.int .i64 0) ∧ W.cell? ⟨w.heap.size + 1, 1, none⟩ = some (.bool g) ∧ W.cell? ⟨w.heap.size + 1, 2, none⟩ = some (.slice A n c) ∧ W.cell? ⟨w.heap.size + 1, 3, none⟩ = some (.slice D m d) ∧ W.cell? ⟨w.heap.size + 1, 4, none⟩ = some (.slice PA pn pc) ∧ W.cell? ⟨w.heap.size + 1, 5, none⟩ = some (.slice MA mn mc) ∧ W.cell? ⟨w.heap.size + 1, 6, none⟩ = some (.slice YA yn yc))) (by kernel_rfl) ?_ (fun hH => ?_)
  exact (And.intro (blk_two Q0.out.box) (blk_seven Q0.out.out))
  have bd := bx_drew (bx_refl W1)
  obtain ⟨E1, hW0⟩ : ∃ W, W = W1.drew := ⟨_, rfl⟩
  rw [← hW0] at bd hH ⊢
  clear hW0
  have R0 := hid (Q0.out.keep bd)
  clear bd Q0
  refine tk 0 hH ?_
  (try simp only [Act.put, gy0, gy1, gy2])
  refine tk 1 hH ?_
  (try simp only [Act.put, gy0, gy1, gy2])
  refine tk 2 hH ?_
  (try simp only [Act.put, gy0, gy1, gy2])
  refine tk 3 hH ?_
  (try simp only [Act.put, gy0, gy1, gy2])
  refine tk 4 hH ?_
  (try simp only [Act.put, gy0, gy1, gy2])
  refine tk 5 hH ?_
  (try simp only [Act.put, gy0, gy1, gy2])
  refine tk 6 hH ?_
  (try simp only [Act.put, gy0, gy1, gy2])
  refine tk 7 hH ?_
  (try simp only [Act.put, gy0, gy1, gy2])
  refine wpAnyH_done (by kernel_rfl) ?_ _
  refine NoPanic.normal ?_
  clear hH
  have P0 := R0
  clear R0
  obtain ⟨y0, y1, y2, y3, y4, y5, y6⟩ := blk_seven P0.out.out
  go_upto_region 6 with fail
  clear y0 y1 y2 y3 y4 y5 y6
  cases b1
  case false =>
    (try simp only [List.append_eq, List.cons_append, List.nil_append])
    refine wp_region_noPanic ?_
    refine wp_region_held_drew (S := (fun W => (W.cell? ⟨w.heap.size, 0, none⟩ = some (.slice V0 vn vc) ∧ W.cell? ⟨w.heap.size, 1, none⟩ = some (.slice R0 rn rc)) ∧ W.cell? ⟨w.heap.size + 1, 0, none⟩ = some (.int .i64 0) ∧ W.cell? ⟨w.heap.size + 1, 1, none⟩ = some (.bool g) ∧ W.cell? ⟨w.heap.size + 1, 2, none⟩ = some (.slice A n c) ∧ W.cell? ⟨w.heap.size + 1, 3, none⟩ = some (.slice D m d) ∧ W.cell? ⟨w.heap.size + 1, 4, none⟩ = some (.slice PA pn pc) ∧ W.cell? ⟨w.heap.size + 1, 5, none⟩ = some (.slice MA mn mc) ∧ W.cell? ⟨w.heap.size + 1, 6, none⟩ = some (.slice YA yn yc))) (by kernel_rfl) ?_ (fun hH => ?_)
    exact (And.intro (blk_two P0.out.box) (blk_seven P0.out.out))
    have bd := bx_drew (bx_refl E1)
    obtain ⟨E0, hW0⟩ : ∃ W, W = E1.drew := ⟨_, rfl⟩
    rw [← hW0] at bd hH ⊢
    clear hW0
    have P1 := hid (P0.out.keep bd)
    clear bd P0
    refine tk 0 hH ?_
    (try simp only [Act.put, gy0, gy1, gy2])
    refine tk 1 hH ?_
    (try simp only [Act.put, gy0, gy1, gy2])
    refine tk 2 hH ?_
    (try simp only [Act.put, gy0, gy1, gy2])
    refine wpAnyH_ready (rs := [3]) (by kernel_rfl) (by simp) ?_
    refine rdy (fun K hK => ?_) AllReadyH.nil
    go_simp
    refine (C1.out _ P1.out.bel).mono ?_
    rintro e v2 ⟨rfl, b⟩
    have P2 := hid (P1.out.keep b)
    clear b hH P1
    (try go_wp2_with fail)
    refine hK.out _ _ ?_ (fun hH => ?_)
    exact (And.intro (blk_two P2.out.box) (blk_seven P2.out.out))
    clear hK K
    (try simp only [Act.put, gy0, gy1, gy2])
    refine tk 4 hH ?_
    (try simp only [Act.put, gy0, gy1, gy2])
    refine tkn 5 hH ?_
    (try simp only [Act.put, gy0, gy1, gy2])
    refine tkn 6 hH ?_
    (try simp only [Act.put, gy0, gy1, gy2])
    refine tkn 7 hH ?_
    (try simp only [Act.put, gy0, gy1, gy2])
    refine tkn 8 hH ?_
    (try simp only [Act.put, gy0, gy1, gy2])
    refine tk 9 hH ?_
    (try simp only [Act.put, gy0, gy1, gy2])
    refine tk 10 hH ?_
    (try simp only [Act.put, gy0, gy1, gy2])
    refine tkn 11 hH ?_
    (try simp only [Act.put, gy0, gy1, gy2])
    refine tkn 12 hH ?_
    (try simp only [Act.put, gy0, gy1, gy2])
    refine tkn 13 hH ?_
    (try simp only [Act.put, gy0, gy1, gy2])
    refine tkn 14 hH ?_
    (try simp only [Act.put, gy0, gy1, gy2])
    refine tk 15 hH ?_
    (try simp only [Act.put, gy0, gy1, gy2])
    refine tk 16 hH ?_
    (try simp only [Act.put, gy0, gy1, gy2])
    refine tkn 17 hH ?_
    (try simp only [Act.put, gy0, gy1, gy2])
    refine tkn 18 hH ?_
    (try simp only [Act.put, gy0, gy1, gy2])
    refine tkn 19 hH ?_
    (try simp only [Act.put, gy0, gy1, gy2])
    refine tkn 20 hH ?_
    (try simp only [Act.put, gy0, gy1, gy2])
    refine tkn 21 hH ?_
    (try simp only [Act.put, gy0, gy1, gy2])
    refine tkn 22 hH ?_
    (try simp only [Act.put, gy0, gy1, gy2])
    refine tkn 23 hH ?_
    (try simp only [Act.put, gy0, gy1, gy2])
    refine tkn 24 hH ?_
    (try simp only [Act.put, gy0, gy1, gy2])
    refine tk 25 hH ?_
    (try simp only [Act.put, gy0, gy1, gy2])
    refine tk 26 hH ?_
    (try simp only [Act.put, gy0, gy1, gy2])
    refine tkn 27 hH ?_
    (try simp only [Act.put, gy0, gy1, gy2])
    refine tkn 28 hH ?_
    (try simp only [Act.put, gy0, gy1, gy2])
    refine tkn 29 hH ?_
    (try simp only [Act.put, gy0, gy1, gy2])
    refine tkn 30 hH ?_
    (try simp only [Act.put, gy0, gy1, gy2])
    refine tkn 31 hH ?_
    (try simp only [Act.put, gy0, gy1, gy2])
    refine tkn 32 hH ?_
    (try simp only [Act.put, gy0, gy1, gy2])
    refine tk 33 hH ?_
    (try simp only [Act.put, gy0, gy1, gy2])
    refine tk 34 hH ?_
    (try simp only [Act.put, gy0, gy1, gy2])
    refine wpAnyH_done (by kernel_rfl) ?_ _
    refine NoPanic.normal ?_
    clear hH
    have EE := hid (vld_no (by rw [er.out]; rfl : r = false) P2.out.bel)
    clear P2 er
    go_wp2_with fail
    go_ret
    exact EE.out
  cases b2
  case false =>
    (try simp only [List.append_eq, List.cons_append, List.nil_append])
    refine wp_region_noPanic ?_
    refine wp_region_held_drew (S := (fun W => (W.cell? ⟨w.heap.size, 0, none⟩ = some (.slice V0 vn vc) ∧ W.cell? ⟨w.heap.size, 1, none⟩ = some (.slice R0 rn rc)) ∧ W.cell? ⟨w.heap.size + 1, 0, none⟩ = some (.int .i64 0) ∧ W.cell? ⟨w.heap.size + 1, 1, none⟩ = some (.bool g) ∧ W.cell? ⟨w.heap.size + 1, 2, none⟩ = some (.slice A n c) ∧ W.cell? ⟨w.heap.size + 1, 3, none⟩ = some (.slice D m d) ∧ W.cell? ⟨w.heap.size + 1, 4, none⟩ = some (.slice PA pn pc) ∧ W.cell? ⟨w.heap.size + 1, 5, none⟩ = some (.slice MA mn mc) ∧ W.cell? ⟨w.heap.size + 1, 6, none⟩ = some (.slice YA yn yc))) (by kernel_rfl) ?_ (fun hH => ?_)
    exact (And.intro (blk_two P0.out.box) (blk_seven P0.out.out))
    have bd := bx_drew (bx_refl E1)
    obtain ⟨E0, hW0⟩ : ∃ W, W = E1.drew := ⟨_, rfl⟩
    rw [← hW0] at bd hH ⊢
    clear hW0
    have P1 := hid (P0.out.keep bd)
    clear bd P0
    refine tk 0 hH ?_
    (try simp only [Act.put, gy0, gy1, gy2])
    refine tk 1 hH ?_
    (try simp only [Act.put, gy0, gy1, gy2])
    refine tk 2 hH ?_
    (try simp only [Act.put, gy0, gy1, gy2])
    refine wpAnyH_ready (rs := [3]) (by kernel_rfl) (by simp) ?_
    refine rdy (fun K hK => ?_) AllReadyH.nil
    go_simp
    refine (C1.out _ P1.out.bel).mono ?_
    rintro e v2 ⟨rfl, b⟩
    have P2 := hid (P1.out.keep b)
    clear b hH P1
    (try go_wp2_with fail)
    refine hK.out _ _ ?_ (fun hH => ?_)
    exact (And.intro (blk_two P2.out.box) (blk_seven P2.out.out))
    clear hK K
    (try simp only [Act.put, gy0, gy1, gy2])
    refine tk 4 hH ?_
    (try simp only [Act.put, gy0, gy1, gy2])
    refine tk 5 hH ?_
    (try simp only [Act.put, gy0, gy1, gy2])
    refine tk 6 hH ?_
    (try simp only [Act.put, gy0, gy1, gy2])
    refine tk 7 hH ?_
    (try simp only [Act.put, gy0, gy1, gy2])
    refine wpAnyH_ready (rs := [8]) (by kernel_rfl) (by simp) ?_
    refine rdy (fun K hK => ?_) AllReadyH.nil
    go_simp
    refine (C2.out _ P2.out.bel).mono ?_
    rintro e v3 ⟨rfl, b⟩
    have P3 := hid (P2.out.keep b)
    clear b hH P2
    (try go_wp2_with fail)
    refine hK.out _ _ ?_ (fun hH => ?_)
    exact (And.intro (blk_two P3.out.box) (blk_seven P3.out.out))
    clear hK K
    (try simp only [Act.put, gy0, gy1, gy2])
    refine tk 9 hH ?_
    (try simp only [Act.put, gy0, gy1, gy2])
    refine tk 10 hH ?_
    (try simp only [Act.put, gy0, gy1, gy2])
    refine tkn 11 hH ?_
    (try simp only [Act.put, gy0, gy1, gy2])
    refine tkn 12 hH ?_
    (try simp only [Act.put, gy0, gy1, gy2])
    refine tkn 13 hH ?_
    (try simp only [Act.put, gy0, gy1, gy2])
    refine tkn 14 hH ?_
    (try simp only [Act.put, gy0, gy1, gy2])
    refine tk 15 hH ?_
    (try simp only [Act.put, gy0, gy1, gy2])
    refine tk 16 hH ?_
    (try simp only [Act.put, gy0, gy1, gy2])
    refine tkn 17 hH ?_
    (try simp only [Act.put, gy0, gy1, gy2])
    refine tkn 18 hH ?_
    (try simp only [Act.put, gy0, gy1, gy2])
    refine tkn 19 hH ?_
    (try simp only [Act.put, gy0, gy1, gy2])
    refine tkn 20 hH ?_
    (try simp only [Act.put, gy0, gy1, gy2])
    refine tkn 21 hH ?_
    (try simp only [Act.put, gy0, gy1, gy2])
    refine tkn 22 hH ?_
    (try simp only [Act.put, gy0, gy1, gy2])
    refine tkn 23 hH ?_
    (try simp only [Act.put, gy0, gy1, gy2])
    refine tkn 24 hH ?_
    (try simp only [Act.put, gy0, gy1, gy2])
    refine tk 25 hH ?_
    (try simp only [Act.put, gy0, gy1, gy2])
    refine tk 26 hH ?_
    (try simp only [Act.put, gy0, gy1, gy2])
    refine tkn 27 hH ?_
    (try simp only [Act.put, gy0, gy1, gy2])
    refine tkn 28 hH ?_
    (try simp only [Act.put, gy0, gy1, gy2])
    refine tkn 29 hH ?_
    (try simp only [Act.put, gy0, gy1, gy2])
    refine tkn 30 hH ?_
    (try simp only [Act.put, gy0, gy1, gy2])
    refine tkn 31 hH ?_
    (try simp only [Act.put, gy0, gy1, gy2])
    refine tkn 32 hH ?_
    (try simp only [Act.put, gy0, gy1, gy2])
    refine tk 33 hH ?_
    (try simp only [Act.put, gy0, gy1, gy2])
    refine tk 34 hH ?_
    (try simp only [Act.put, gy0, gy1, gy2])
    refine wpAnyH_done (by kernel_rfl) ?_ _
    refine NoPanic.normal ?_
    clear hH
    have EE := hid (vld_no (by rw [er.out]; rfl : r = false) P3.out.bel)
    clear P3 er
    go_wp2_with fail
    go_ret
    exact EE.out
  by_cases z2 : yn = 0
  case neg =>
    have t1 : ((yn : Int) == 0) = false := beq_eq_false_iff_ne.2 (by omega)
    have t2 : decide ((yn : Int) = 0) = false := decide_eq_false (by omega)
    have t3 : decide (yn = 0) = false := decide_eq_false z2
    (try simp only [List.append_eq, List.cons_append, List.nil_append])
    refine wp_region_noPanic ?_
    refine wp_region_held_drew (S := (fun W => (W.cell? ⟨w.heap.size, 0, none⟩ = some (.slice V0 vn vc) ∧ W.cell? ⟨w.heap.size, 1, none⟩ = some (.slice R0 rn rc)) ∧ W.cell? ⟨w.heap.size + 1, 0, none⟩ = some (.int .i64 0) ∧ W.cell? ⟨w.heap.size + 1, 1, none⟩ = some (.bool g) ∧ W.cell? ⟨w.heap.size + 1, 2, none⟩ = some (.slice A n c) ∧ W.cell? ⟨w.heap.size + 1, 3, none⟩ = some (.slice D m d) ∧ W.cell? ⟨w.heap.size + 1, 4, none⟩ = some (.slice PA pn pc) ∧ W.cell? ⟨w.heap.size + 1, 5, none⟩ = some (.slice MA mn mc) ∧ W.cell? ⟨w.heap.size + 1, 6, none⟩ = some (.slice YA yn yc))) (by kernel_rfl) ?_ (fun hH => ?_)
    exact (And.intro (blk_two P0.out.box) (blk_seven P0.out.out))
    have bd := bx_drew (bx_refl E1)
    obtain ⟨E0, hW0⟩ : ∃ W, W = E1.drew := ⟨_, rfl⟩
    rw [← hW0] at bd hH ⊢
    clear hW0
    have P1 := hid (P0.out.keep bd)
    clear bd P0
    refine tk 0 hH ?_
    (try simp only [Act.put, gy0, gy1, gy2])
    refine tk 1 hH ?_
    (try simp only [Act.put, gy0, gy1, gy2])
    refine tk 2 hH ?_
    (try simp only [Act.put, gy0, gy1, gy2])
    refine wpAnyH_ready (rs := [3]) (by kernel_rfl) (by simp) ?_
    refine rdy (fun K hK => ?_) AllReadyH.nil
    go_simp
    refine (C1.out _ P1.out.bel).mono ?_
    rintro e v2 ⟨rfl, b⟩
    have P2 := hid (P1.out.keep b)
    clear b hH P1
    (try go_wp2_with fail)
    refine hK.out _ _ ?_ (fun hH => ?_)
    exact (And.intro (blk_two P2.out.box) (blk_seven P2.out.out))
    clear hK K
    (try simp only [Act.put, gy0, gy1, gy2])
    refine tk 4 hH ?_
    (try simp only [Act.put, gy0, gy1, gy2])
    refine tk 5 hH ?_
    (try simp only [Act.put, gy0, gy1, gy2])
    refine tk 6 hH ?_
    (try simp only [Act.put, gy0, gy1, gy2])
    refine tk 7 hH ?_
    (try simp only [Act.put, gy0, gy1, gy2])
    refine wpAnyH_ready (rs := [8]) (by kernel_rfl) (by simp) ?_
    refine rdy (fun K hK => ?_) AllReadyH.nil
    go_simp
    refine (C2.out _ P2.out.bel).mono ?_
    rintro e v3 ⟨rfl, b⟩
    have P3 := hid (P2.out.keep b)
    clear b hH P2
    (try go_wp2_with fail)
    refine hK.out _ _ ?_ (fun hH => ?_)
    exact (And.intro (blk_two P3.out.box) (blk_seven P3.out.out))
    clear hK K
    (try simp only [Act.put, gy0, gy1, gy2])
    refine tk 9 hH ?_
    (try simp only [Act.put, gy0, gy1, gy2])
    refine tk 10 hH ?_
    (try simp only [Act.put, gy0, gy1, gy2])
    refine tk 11 hH ?_
    (try simp only [Act.put, gy0, gy1, gy2])
    refine tk 12 hH ?_
    (try simp only [Act.put, gy0, gy1, gy2])
    refine tk 13 hH ?_
    (try simp only [Act.put, gy0, gy1, gy2])
    refine tk 14 hH ?_
    (try simp only [Act.put, gy0, gy1, gy2])
    refine tk 15 hH ?_
    (try simp only [Act.put, gy0, gy1, gy2])
    refine tk 16 hH ?_
    (try simp only [Act.put, gy0, gy1, gy2])
    refine tkn 17 hH ?_
    (try simp only [Act.put, gy0, gy1, gy2])
    refine tkn 18 hH ?_
    (try simp only [Act.put, gy0, gy1, gy2])
    refine tkn 19 hH ?_
    (try simp only [Act.put, gy0, gy1, gy2])
    refine tkn 20 hH ?_
    (try simp only [Act.put, gy0, gy1, gy2])
    refine tkn 21 hH ?_
    (try simp only [Act.put, gy0, gy1, gy2])
    refine tkn 22 hH ?_
    (try simp only [Act.put, gy0, gy1, gy2])
    refine tkn 23 hH ?_
    (try simp only [Act.put, gy0, gy1, gy2])
    refine tkn 24 hH ?_
    (try simp only [Act.put, gy0, gy1, gy2])
    refine tk 25 hH ?_
    (try simp only [Act.put, gy0, gy1, gy2])
    refine tk 26 hH ?_
    (try simp only [Act.put, gy0, gy1, gy2])
    refine tkn 27 hH ?_
    (try simp only [Act.put, gy0, gy1, gy2])
    refine tkn 28 hH ?_
    (try simp only [Act.put, gy0, gy1, gy2])
    refine tkn 29 hH ?_
    (try simp only [Act.put, gy0, gy1, gy2])
    refine tkn 30 hH ?_
    (try simp only [Act.put, gy0, gy1, gy2])
    refine tkn 31 hH ?_
    (try simp only [Act.put, gy0, gy1, gy2])
    refine tkn 32 hH ?_
    (try simp only [Act.put, gy0, gy1, gy2])
    refine tk 33 hH ?_
    (try simp only [Act.put, gy0, gy1, gy2])
    refine tk 34 hH ?_
    (try simp only [Act.put, gy0, gy1, gy2])
    refine wpAnyH_done (by kernel_rfl) ?_ _
    refine NoPanic.normal ?_
    clear hH
    have EE := hid (vld_no (by rw [er.out, t3]; rfl : r = false) P3.out.bel)
    clear P3 er
    go_wp2_with fail
    go_ret
    exact EE.out
  subst z2
  by_cases s0 : s = 0
  case neg =>
    have t1 : (s == 0) = false := beq_eq_false_iff_ne.2 s0
    have t2 : decide (s = 0) = false := decide_eq_false s0
    (try simp only [List.append_eq, List.cons_append, List.nil_append])
    refine wp_region_noPanic ?_
    refine wp_region_held_drew (S := (fun W => (W.cell? ⟨w.heap.size, 0, none⟩ = some (.slice V0 vn vc) ∧ W.cell? ⟨w.heap.size, 1, none⟩ = some (.slice R0 rn rc)) ∧ W.cell? ⟨w.heap.size + 1, 0, none⟩ = some (.int .i64 0) ∧ W.cell? ⟨w.heap.size + 1, 1, none⟩ = some (.bool g) ∧ W.cell? ⟨w.heap.size + 1, 2, none⟩ = some (.slice A n c) ∧ W.cell? ⟨w.heap.size + 1, 3, none⟩ = some (.slice D m d) ∧ W.cell? ⟨w.heap.size + 1, 4, none⟩ = some (.slice PA pn pc) ∧ W.cell? ⟨w.heap.size + 1, 5, none⟩ = some (.slice MA mn mc) ∧ W.cell? ⟨w.heap.size + 1, 6, none⟩ = some (.slice YA 0 yc))) (by kernel_rfl) ?_ (fun hH => ?_)
    exact (And.intro (blk_two P0.out.box) (blk_seven P0.out.out))
    have bd := bx_drew (bx_refl E1)
    obtain ⟨E0, hW0⟩ : ∃ W, W = E1.drew := ⟨_, rfl⟩
    rw [← hW0] at bd hH ⊢
    clear hW0
    have P1 := hid (P0.out.keep bd)
    clear bd P0
    refine tk 0 hH ?_
    (try simp only [Act.put, gy0, gy1, gy2])
    refine tk 1 hH ?_
    (try simp only [Act.put, gy0, gy1, gy2])
    refine tk 2 hH ?_
    (try simp only [Act.put, gy0, gy1, gy2])
    refine wpAnyH_ready (rs := [3]) (by kernel_rfl) (by simp) ?_
    refine rdy (fun K hK => ?_) AllReadyH.nil
    go_simp
    refine (C1.out _ P1.out.bel).mono ?_
    rintro e v2 ⟨rfl, b⟩
    have P2 := hid (P1.out.keep b)
    clear b hH P1
    (try go_wp2_with fail)
    refine hK.out _ _ ?_ (fun hH => ?_)
    exact (And.intro (blk_two P2.out.box) (blk_seven P2.out.out))
    clear hK K
    (try simp only [Act.put, gy0, gy1, gy2])
    refine tk 4 hH ?_
    (try simp only [Act.put, gy0, gy1, gy2])
    refine tk 5 hH ?_
    (try simp only [Act.put, gy0, gy1, gy2])
    refine tk 6 hH ?_
    (try simp only [Act.put, gy0, gy1, gy2])
    refine tk 7 hH ?_
    (try simp only [Act.put, gy0, gy1, gy2])
    refine wpAnyH_ready (rs := [8]) (by kernel_rfl) (by simp) ?_
    refine rdy (fun K hK => ?_) AllReadyH.nil
    go_simp
    refine (C2.out _ P2.out.bel).mono ?_
    rintro e v3 ⟨rfl, b⟩
    have P3 := hid (P2.out.keep b)
    clear b hH P2
    (try go_wp2_with fail)
    refine hK.out _ _ ?_ (fun hH => ?_)
    exact (And.intro (blk_two P3.out.box) (blk_seven P3.out.out))
    clear hK K
    (try simp only [Act.put, gy0, gy1, gy2])
    refine tk 9 hH ?_
    (try simp only [Act.put, gy0, gy1, gy2])
    refine tk 10 hH ?_
    (try simp only [Act.put, gy0, gy1, gy2])
    refine tk 11 hH ?_
    (try simp only [Act.put, gy0, gy1, gy2])
    refine tk 12 hH ?_
    (try simp only [Act.put, gy0, gy1, gy2])
    refine tk 13 hH ?_
    (try simp only [Act.put, gy0, gy1, gy2])
    refine tk 14 hH ?_
    (try simp only [Act.put, gy0, gy1, gy2])
    refine tk 15 hH ?_
    (try simp only [Act.put, gy0, gy1, gy2])
    refine tk 16 hH ?_
    (try simp only [Act.put, gy0, gy1, gy2])
    refine tk 17 hH ?_
    (try simp only [Act.put, gy0, gy1, gy2])
    refine tk 18 hH ?_
    (try simp only [Act.put, gy0, gy1, gy2])
    refine tk 19 hH ?_
    (try simp only [Act.put, gy0, gy1, gy2])
    refine tk 20 hH ?_
    (try simp only [Act.put, gy0, gy1, gy2])
    refine tk 21 hH ?_
    (try simp only [Act.put, gy0, gy1, gy2])
    refine wpAnyH_ready (rs := [22]) (by kernel_rfl) (by simp) ?_
    refine rdy (fun K hK => ?_) AllReadyH.nil
    go_simp
    refine (C3.out _ P3.out.bel).mono ?_
    rintro e v4 ⟨g3, A3, n3, c3, D3, m3, d3, rfl, r3, b⟩
    have P4 := hid (P3.out.keep b)
    clear b hH P3
    have RC := hid r3
    clear r3
    (try go_wp2_with fail)
    refine hK.out _ _ ?_ (fun hH => ?_)
    exact (And.intro (blk_two P4.out.box) (blk_seven P4.out.out))
    clear hK K
    (try simp only [Act.put, gy0, gy1, gy2])
    refine wpAnyH_ready (rs := [23]) (by kernel_rfl) (by simp) ?_
    refine rdy (fun K hK => ?_) AllReadyH.nil
    go_simp
    refine (C4.out _ P4.out.bel g3 A3 n3 c3 D3 m3 d3 RC.out).mono ?_
    rintro e v5 ⟨rfl, b⟩
    have P5 := hid (P4.out.keep b)
    clear b hH P4
    clear RC
    (try go_wp2_with fail)
    refine hK.out _ _ ?_ (fun hH => ?_)
    exact (And.intro (blk_two P5.out.box) (blk_seven P5.out.out))
    clear hK K
    (try simp only [Act.put, gy0, gy1, gy2])
    refine tk 24 hH ?_
    (try simp only [Act.put, gy0, gy1, gy2])
    refine tk 25 hH ?_
    (try simp only [Act.put, gy0, gy1, gy2])
    refine tk 26 hH ?_
    (try simp only [Act.put, gy0, gy1, gy2])
    refine tkn 27 hH ?_
    (try simp only [Act.put, gy0, gy1, gy2])
    refine tkn 28 hH ?_
    (try simp only [Act.put, gy0, gy1, gy2])
    refine tkn 29 hH ?_
    (try simp only [Act.put, gy0, gy1, gy2])
    refine tkn 30 hH ?_
    (try simp only [Act.put, gy0, gy1, gy2])
    refine tkn 31 hH ?_
    (try simp only [Act.put, gy0, gy1, gy2])
    refine tkn 32 hH ?_
    (try simp only [Act.put, gy0, gy1, gy2])
    refine tk 33 hH ?_
    (try simp only [Act.put, gy0, gy1, gy2])
    refine tk 34 hH ?_
    (try simp only [Act.put, gy0, gy1, gy2])
    refine wpAnyH_done (by kernel_rfl) ?_ _
    refine NoPanic.normal ?_
    clear hH
    have EE := hid (vld_no (by rw [er.out, t2]; rfl : r = false) P5.out.bel)
    clear P5 er
    go_wp2_with fail
    go_ret
    exact EE.out
  subst s0
  (try simp only [List.append_eq, List.cons_append, List.nil_append])
  refine wp_region_noPanic ?_
  refine wp_region_held_drew (S := (fun W => (W.cell? ⟨w.heap.size, 0, none⟩ = some (.slice V0 vn vc) ∧ W.cell? ⟨w.heap.size, 1, none⟩ = some (.slice R0 rn rc)) ∧ W.cell? ⟨w.heap.size + 1, 0, none⟩ = some (.int .i64 0) ∧ W.cell? ⟨w.heap.size + 1, 1, none⟩ = some (.bool g) ∧ W.cell? ⟨w.heap.size + 1, 2, none⟩ = some (.slice A n c) ∧ W.cell? ⟨w.heap.size + 1, 3, none⟩ = some (.slice D m d) ∧ W.cell? ⟨w.heap.size + 1, 4, none⟩ = some (.slice PA pn pc) ∧ W.cell? ⟨w.heap.size + 1, 5, none⟩ = some (.slice MA mn mc) ∧ W.cell? ⟨w.heap.size + 1, 6, none⟩ = some (.slice YA 0 yc))) (by kernel_rfl) ?_ (fun hH => ?_)
  exact (And.intro (blk_two P0.out.box) (blk_seven P0.out.out))
  have bd := bx_drew (bx_refl E1)
  obtain ⟨E0, hW0⟩ : ∃ W, W = E1.drew := ⟨_, rfl⟩
  rw [← hW0] at bd hH ⊢
  clear hW0
  have P1 := hid (P0.out.keep bd)
  clear bd P0
  refine tk 0 hH ?_
  (try simp only [Act.put, gy0, gy1, gy2])
  refine tk 1 hH ?_
  (try simp only [Act.put, gy0, gy1, gy2])
  refine tk 2 hH ?_
  (try simp only [Act.put, gy0, gy1, gy2])
  refine wpAnyH_ready (rs := [3]) (by kernel_rfl) (by simp) ?_
  refine rdy (fun K hK => ?_) AllReadyH.nil
  go_simp
  refine (C1.out _ P1.out.bel).mono ?_
  rintro e v2 ⟨rfl, b⟩
  have P2 := hid (P1.out.keep b)
  clear b hH P1
  (try go_wp2_with fail)
  refine hK.out _ _ ?_ (fun hH => ?_)
  exact (And.intro (blk_two P2.out.box) (blk_seven P2.out.out))
  clear hK K
  (try simp only [Act.put, gy0, gy1, gy2])
  refine tk 4 hH ?_
  (try simp only [Act.put, gy0, gy1, gy2])
  refine tk 5 hH ?_
  (try simp only [Act.put, gy0, gy1, gy2])
  refine tk 6 hH ?_
  (try simp only [Act.put, gy0, gy1, gy2])
  refine tk 7 hH ?_
  (try simp only [Act.put, gy0, gy1, gy2])
  refine wpAnyH_ready (rs := [8]) (by kernel_rfl) (by simp) ?_
  refine rdy (fun K hK => ?_) AllReadyH.nil
  go_simp
  refine (C2.out _ P2.out.bel).mono ?_
  rintro e v3 ⟨rfl, b⟩
  have P3 := hid (P2.out.keep b)
  clear b hH P2
  (try go_wp2_with fail)
  refine hK.out _ _ ?_ (fun hH => ?_)
  exact (And.intro (blk_two P3.out.box) (blk_seven P3.out.out))
  clear hK K
  (try simp only [Act.put, gy0, gy1, gy2])
  refine tk 9 hH ?_
  (try simp only [Act.put, gy0, gy1, gy2])
  refine tk 10 hH ?_
  (try simp only [Act.put, gy0, gy1, gy2])
  refine tk 11 hH ?_
  (try simp only [Act.put, gy0, gy1, gy2])
  refine tk 12 hH ?_
  (try simp only [Act.put, gy0, gy1, gy2])
  refine tk 13 hH ?_
  (try simp only [Act.put, gy0, gy1, gy2])
  refine tk 14 hH ?_
  (try simp only [Act.put, gy0, gy1, gy2])
  refine tk 15 hH ?_
  (try simp only [Act.put, gy0, gy1, gy2])
  refine tk 16 hH ?_
  (try simp only [Act.put, gy0, gy1, gy2])
  refine tk 17 hH ?_
  (try simp only [Act.put, gy0, gy1, gy2])
  refine tk 18 hH ?_
  (try simp only [Act.put, gy0, gy1, gy2])
  refine tk 19 hH ?_
  (try simp only [Act.put, gy0, gy1, gy2])
  refine tk 20 hH ?_
  (try simp only [Act.put, gy0, gy1, gy2])
  refine tk 21 hH ?_
  (try simp only [Act.put, gy0, gy1, gy2])
  refine wpAnyH_ready (rs := [22]) (by kernel_rfl) (by simp) ?_
  refine rdy (fun K hK => ?_) AllReadyH.nil
  go_simp
  refine (C3.out _ P3.out.bel).mono ?_
  rintro e v4 ⟨g3, A3, n3, c3, D3, m3, d3, rfl, r3, b⟩
  have P4 := hid (P3.out.keep b)
  clear b hH P3
  have RC := hid r3
  clear r3
  (try go_wp2_with fail)
  refine hK.out _ _ ?_ (fun hH => ?_)
  exact (And.intro (blk_two P4.out.box) (blk_seven P4.out.out))
  clear hK K
  (try simp only [Act.put, gy0, gy1, gy2])
  refine wpAnyH_ready (rs := [23]) (by kernel_rfl) (by simp) ?_
  refine rdy (fun K hK => ?_) AllReadyH.nil
  go_simp
  refine (C4.out _ P4.out.bel g3 A3 n3 c3 D3 m3 d3 RC.out).mono ?_
  rintro e v5 ⟨rfl, b⟩
  have P5 := hid (P4.out.keep b)
  clear b hH P4
  clear RC
  (try go_wp2_with fail)
  refine hK.out _ _ ?_ (fun hH => ?_)
  exact (And.intro (blk_two P5.out.box) (blk_seven P5.out.out))
  clear hK K
  (try simp only [Act.put, gy0, gy1, gy2])
  refine tk 24 hH ?_
  (try simp only [Act.put, gy0, gy1, gy2])
  refine tk 25 hH ?_
  (try simp only [Act.put, gy0, gy1, gy2])
  refine tk 26 hH ?_
  (try simp only [Act.put, gy0, gy1, gy2])
  refine tk 27 hH ?_
  (try simp only [Act.put, gy0, gy1, gy2])
  refine tk 28 hH ?_
  (try simp only [Act.put, gy0, gy1, gy2])
  refine tk 29 hH ?_
  (try simp only [Act.put, gy0, gy1, gy2])
  refine tk 30 hH ?_
  (try simp only [Act.put, gy0, gy1, gy2])
  refine tk 31 hH ?_
  (try simp only [Act.put, gy0, gy1, gy2])
  refine wpAnyH_ready (rs := [32]) (by kernel_rfl) (by simp) ?_
  refine rdy (fun K hK => ?_) AllReadyH.nil
  go_simp
  refine (C5.out _ P5.out.bel).mono ?_
  rintro e v6 ⟨rfl, b⟩
  have P6 := hid (P5.out.keep b)
  clear b hH P5
  (try go_wp2_with fail)
  refine hK.out _ _ ?_ (fun hH => ?_)
  exact (And.intro (blk_two P6.out.box) (blk_seven P6.out.out))
  clear hK K
  (try simp only [Act.put, gy0, gy1, gy2])
  refine tk 33 hH ?_
  (try simp only [Act.put, gy0, gy1, gy2])
  refine tk 34 hH ?_
  (try simp only [Act.put, gy0, gy1, gy2])
  refine wpAnyH_done (by kernel_rfl) ?_ _
  refine NoPanic.normal ?_
  clear hH
  have EE := hid (show RetB w r (.returned (.bool b5)) v6 from ⟨by rw [er.out]; rfl, P6.out.bel⟩)
  clear P6 er
  go_wp2_with fail
  go_ret
  exact EE.out
set_option maxHeartbeats 16000000 in
theorem rprv2 (p : PD) (o : OD) (k : Nat) (w : World) (h : Pg w p) (ho : Ov w o k) (hk : k ≤ 100) :
    Calls Tryz.prog 27 #[.agg #[.slice p.V0 p.vn p.vc, .slice p.R0 p.rn p.rc], .agg #[.int .i64 1, .bool o.g, .slice o.A o.n o.c, .slice o.D o.m o.d, .slice o.PA o.pn o.pc, .slice o.MA o.mn o.mc, .slice o.YA o.yn o.yc]] w (RetB w (p.pv2 o)) := by
  obtain ⟨W0, hW⟩ : ∃ W, W = (w.alloc (.cells #[.slice p.V0 p.vn p.vc, .slice p.R0 p.rn p.rc] 25)).alloc (.cells #[.int .i64 1, .bool o.g, .slice o.A o.n o.c, .slice o.D o.m o.d, .slice o.PA o.pn o.pc, .slice o.MA o.mn o.mc, .slice o.YA o.yn o.yc] 34) := ⟨_, rfl⟩
  have B0 := bx_alloc (bx_alloc (bx_refl w) (.cells #[.slice p.V0 p.vn p.vc, .slice p.R0 p.rn p.rc] 25)) (.cells #[.int .i64 1, .bool o.g, .slice o.A o.n o.c, .slice o.D o.m o.d, .slice o.PA o.pn o.pc, .slice o.MA o.mn o.mc, .slice o.YA o.yn o.yc] 34)
  have K0 := (Blk.new w [.slice p.V0 p.vn p.vc, .slice p.R0 p.rn p.rc] 25).alloc (.cells #[.int .i64 1, .bool o.g, .slice o.A o.n o.c, .slice o.D o.m o.d, .slice o.PA o.pn o.pc, .slice o.MA o.mn o.mc, .slice o.YA o.yn o.yc] 34)
  have K1 := blk_new1 w (.cells #[.slice p.V0 p.vn p.vc, .slice p.R0 p.rn p.rc] 25) [.int .i64 1, .bool o.g, .slice o.A o.n o.c, .slice o.D o.m o.d, .slice o.PA o.pn o.pc, .slice o.MA o.mn o.mc, .slice o.YA o.yn o.yc] 34
  change Blk ((w.alloc (.cells #[.slice p.V0 p.vn p.vc, .slice p.R0 p.rn p.rc] 25)).alloc (.cells #[.int .i64 1, .bool o.g, .slice o.A o.n o.c, .slice o.D o.m o.d, .slice o.PA o.pn o.pc, .slice o.MA o.mn o.mc, .slice o.YA o.yn o.yc] 34)) _ _ _ at K0 K1
  rw [← hW] at B0 K0 K1
  have P0 := hid (show Kq w p.V0 p.vn p.vc p.R0 p.rn p.rc [.int .i64 1, .bool o.g, .slice o.A o.n o.c, .slice o.D o.m o.d, .slice o.PA o.pn o.pc, .slice o.MA o.mn o.mc, .slice o.YA o.yn o.yc] W0 from ⟨B0, K0, K1⟩)
  have VA := hid (fun (W : World) (b : Below w.heap.size w W) => rvalid_v o.g o.A o.n o.c o.D o.m o.d k o.q W (ho.val.keep b) (by omega))
  have C2 := hid (fun (W : World) (b : Below w.heap.size w W) => rvalid5 o.MA o.mn o.mc k o.ms p.rn W (ho.mu.keep b) (by omega))
  have C5 := hid (fun (W : World) (b : Below w.heap.size w W) => rinf5 p o.MA o.mn o.mc k o.ms W (h.keep b) (ho.mu.keep b).qs hk)
  obtain ⟨s, hs⟩ : ∃ s, s = sgnQ o.q := ⟨_, rfl⟩
  have C4 := hid (fun (W : World) (b : Below w.heap.size w W) => (show Calls Tryz.prog 12 #[.agg #[.bool o.g, .slice o.A o.n o.c, .slice o.D o.m o.d]] W (RetI W s) by
    have L := (ho.val.keep b).2.v
    rw [← ho.val.1] at L
    rw [hs]
    exact vrsign o.g o.A o.n o.c o.D o.m o.d k o.q W L (by omega)))
  obtain ⟨b2, hb2⟩ : ∃ b, b = decide (o.mn = p.rn) := ⟨_, rfl⟩
  rw [← hb2] at C2
  obtain ⟨b5, hb5⟩ : ∃ b, b = p.i5B (pt o.mn o.ms) := ⟨_, rfl⟩
  rw [← hb5] at C5
  obtain ⟨r, hr⟩ : ∃ r, r = p.pv2 o := ⟨_, rfl⟩
  have er := hid (show r = ((((decide (o.pn = 0) && b2) && decide (o.yn = 0)) && decide (s = 0)) && b5) by rw [hr, hb2, hb5, hs]; rfl)
  rw [← hr]
  obtain ⟨V0, vn, vc, lo, up, op, it, co, R0, rn, rc, nm, gr, ki, bo, TA, tn, tc, v, cf⟩ := p
  obtain ⟨kd, g, A, n, c, D, m, d, q, PA, pn, pc, ps, MA, mn, mc, ms, YA, yn, yc, ys⟩ := o
  dsimp only at VA C2 C4 C5 hW P0 er ⊢
  clear h ho hk B0 K0 K1 hr hs hb2 hb5
  go_enter Tryz.func27, Tryz.ntmps27
  go_upto_region 1 with fail
  rw [← hW]
  clear hW
  obtain ⟨y0, y1, y2, y3, y4, y5, y6⟩ := blk_seven P0.out.out
  go_wp2_with fail
  refine (VA.out _ P0.out.bel).mono ?_
  rintro e W1 ⟨rfl, b⟩
  have Q0 := hid (P0.out.keep b)
  clear VA P0 b y0 y1 y2 y3 y4 y5 y6
  go_upto_region 3 with fail
  (try simp only [List.append_eq, List.cons_append, List.nil_append])
  refine wp_region_noPanic ?_
  refine wp_region_held_drew (S := (fun W => (W.cell? ⟨w.heap.size, 0, none⟩ = some (.slice V0 vn vc) ∧ W.cell? ⟨w.heap.size, 1, none⟩ = some (.slice R0 rn rc)) ∧ W.cell? ⟨w.heap.size + 1, 0, none⟩ = some (.int .i64 1) ∧ W.cell? ⟨w.heap.size + 1, 1, none⟩ = some (.bool g) ∧ W.cell? ⟨w.heap.size + 1, 2, none⟩ = some (.slice A n c) ∧ W.cell? ⟨w.heap.size + 1, 3, none⟩ = some (.slice D m d) ∧ W.cell? ⟨w.heap.size + 1, 4, none⟩ = some (.slice PA pn pc) ∧ W.cell? ⟨w.heap.size + 1, 5, none⟩ = some (.slice MA mn mc) ∧ W.cell? ⟨w.heap.size + 1, 6, none⟩ = some (.slice YA yn yc))) (by kernel_rfl) ?_ (fun hH => ?_)
  exact (And.intro (blk_two Q0.out.box) (blk_seven Q0.out.out))
  have bd := bx_drew (bx_refl W1)
  obtain ⟨E1, hW0⟩ : ∃ W, W = W1.drew := ⟨_, rfl⟩
  rw [← hW0] at bd hH ⊢
  clear hW0
  have R0 := hid (Q0.out.keep bd)
  clear bd Q0
  refine tk 0 hH ?_
  (try simp only [Act.put, gy0, gy1, gy2])
  refine tk 1 hH ?_
  (try simp only [Act.put, gy0, gy1, gy2])
  refine tk 2 hH ?_
  (try simp only [Act.put, gy0, gy1, gy2])
  refine tk 3 hH ?_
  (try simp only [Act.put, gy0, gy1, gy2])
  refine tk 4 hH ?_
  (try simp only [Act.put, gy0, gy1, gy2])
  refine tk 5 hH ?_
  (try simp only [Act.put, gy0, gy1, gy2])
  refine tk 6 hH ?_
  (try simp only [Act.put, gy0, gy1, gy2])
  refine tk 7 hH ?_
  (try simp only [Act.put, gy0, gy1, gy2])
  refine wpAnyH_done (by kernel_rfl) ?_ _
  refine NoPanic.normal ?_
  clear hH
  have P0 := R0
  clear R0
  obtain ⟨y0, y1, y2, y3, y4, y5, y6⟩ := blk_seven P0.out.out
  obtain ⟨z0, z1⟩ := blk_two P0.out.box
  by_cases x0 : pn = 0
  case neg =>
    have t1 : ((pn : Int) == 0) = false := beq_eq_false_iff_ne.2 (by omega)
    have t2 : decide ((pn : Int) = 0) = false := decide_eq_false (by omega)
    have t3 : decide (pn = 0) = false := decide_eq_false x0
    have X := hid x0
    clear x0
    have EE := hid (vld_no (by rw [er.out, t3]; rfl : r = false) P0.out.bel)
    clear P0 er C2 C4 C5
    go_wp2_with fail
    go_ret
    exact EE.out
  subst x0
  go_wp2_with fail
  refine (C2.out _ P0.out.bel).mono ?_
  rintro e v1 ⟨rfl, b⟩
  have P1 := hid (P0.out.keep b)
  clear C2 P0 b z0 z1 y0 y1 y2 y3 y4 y5 y6
  obtain ⟨z0, z1⟩ := blk_two P1.out.box
  obtain ⟨y0, y1, y2, y3, y4, y5, y6⟩ := blk_seven P1.out.out
  cases b2
  case false =>
    have EE := hid (vld_no (by rw [er.out]; rfl : r = false) P1.out.bel)
    clear P1 er C4 C5
    go_wp2_with fail
    go_ret
    exact EE.out
  by_cases x2 : yn = 0
  case neg =>
    have t1 : ((yn : Int) == 0) = false := beq_eq_false_iff_ne.2 (by omega)
    have t2 : decide ((yn : Int) = 0) = false := decide_eq_false (by omega)
    have t3 : decide (yn = 0) = false := decide_eq_false x2
    have X := hid x2
    clear x2
    have EE := hid (vld_no (by rw [er.out, t3]; rfl : r = false) P1.out.bel)
    clear P1 er C4 C5
    go_wp2_with fail
    go_ret
    exact EE.out
  subst x2
  go_wp2_with fail
  refine (C4.out _ P1.out.bel).mono ?_
  rintro e v2 ⟨rfl, b⟩
  have P2 := hid (P1.out.keep b)
  clear C4 P1 b z0 z1 y0 y1 y2 y3 y4 y5 y6
  obtain ⟨z0, z1⟩ := blk_two P2.out.box
  obtain ⟨y0, y1, y2, y3, y4, y5, y6⟩ := blk_seven P2.out.out
  by_cases s0 : s = 0
  case neg =>
    have t1 : (s == 0) = false := beq_eq_false_iff_ne.2 s0
    have t2 : decide (s = 0) = false := decide_eq_false s0
    have X := hid s0
    clear s0
    have EE := hid (vld_no (by rw [er.out, t2]; rfl : r = false) P2.out.bel)
    clear P2 er C5
    go_wp2_with fail
    go_ret
    exact EE.out
  subst s0
  go_wp2_with fail
  refine (C5.out _ P2.out.bel).mono ?_
  rintro e v3 ⟨rfl, b⟩
  have P3 := hid (P2.out.keep b)
  clear C5 P2 b z0 z1 y0 y1 y2 y3 y4 y5 y6
  have EE := hid (show RetB w r (.returned (.bool b5)) v3 from ⟨by rw [er.out]; rfl, P3.out.bel⟩)
  clear P3 er
  go_wp2_with fail
  go_ret
  exact EE.out
set_option maxHeartbeats 16000000 in
theorem rprv3 (p : PD) (o : OD) (k : Nat) (w : World) (h : Pg w p) (ho : Ov w o k) (hk : k ≤ 100) :
    Calls Tryz.prog 27 #[.agg #[.slice p.V0 p.vn p.vc, .slice p.R0 p.rn p.rc], .agg #[.int .i64 2, .bool o.g, .slice o.A o.n o.c, .slice o.D o.m o.d, .slice o.PA o.pn o.pc, .slice o.MA o.mn o.mc, .slice o.YA o.yn o.yc]] w (RetB w (p.pv3 o)) := by
  obtain ⟨W0, hW⟩ : ∃ W, W = (w.alloc (.cells #[.slice p.V0 p.vn p.vc, .slice p.R0 p.rn p.rc] 25)).alloc (.cells #[.int .i64 2, .bool o.g, .slice o.A o.n o.c, .slice o.D o.m o.d, .slice o.PA o.pn o.pc, .slice o.MA o.mn o.mc, .slice o.YA o.yn o.yc] 34) := ⟨_, rfl⟩
  have B0 := bx_alloc (bx_alloc (bx_refl w) (.cells #[.slice p.V0 p.vn p.vc, .slice p.R0 p.rn p.rc] 25)) (.cells #[.int .i64 2, .bool o.g, .slice o.A o.n o.c, .slice o.D o.m o.d, .slice o.PA o.pn o.pc, .slice o.MA o.mn o.mc, .slice o.YA o.yn o.yc] 34)
  have K0 := (Blk.new w [.slice p.V0 p.vn p.vc, .slice p.R0 p.rn p.rc] 25).alloc (.cells #[.int .i64 2, .bool o.g, .slice o.A o.n o.c, .slice o.D o.m o.d, .slice o.PA o.pn o.pc, .slice o.MA o.mn o.mc, .slice o.YA o.yn o.yc] 34)
  have K1 := blk_new1 w (.cells #[.slice p.V0 p.vn p.vc, .slice p.R0 p.rn p.rc] 25) [.int .i64 2, .bool o.g, .slice o.A o.n o.c, .slice o.D o.m o.d, .slice o.PA o.pn o.pc, .slice o.MA o.mn o.mc, .slice o.YA o.yn o.yc] 34
  change Blk ((w.alloc (.cells #[.slice p.V0 p.vn p.vc, .slice p.R0 p.rn p.rc] 25)).alloc (.cells #[.int .i64 2, .bool o.g, .slice o.A o.n o.c, .slice o.D o.m o.d, .slice o.PA o.pn o.pc, .slice o.MA o.mn o.mc, .slice o.YA o.yn o.yc] 34)) _ _ _ at K0 K1
  rw [← hW] at B0 K0 K1
  have P0 := hid (show Kq w p.V0 p.vn p.vc p.R0 p.rn p.rc [.int .i64 2, .bool o.g, .slice o.A o.n o.c, .slice o.D o.m o.d, .slice o.PA o.pn o.pc, .slice o.MA o.mn o.mc, .slice o.YA o.yn o.yc] W0 from ⟨B0, K0, K1⟩)
  have VA := hid (fun (W : World) (b : Below w.heap.size w W) => rvalid_v o.g o.A o.n o.c o.D o.m o.d k o.q W (ho.val.keep b) (by omega))
  have C1 := hid (fun (W : World) (b : Below w.heap.size w W) => rvalid5 o.PA o.pn o.pc k o.ps p.vn W (ho.pt.keep b) (by omega))
  have C3 := hid (fun (W : World) (b : Below w.heap.size w W) => rvalid5 o.YA o.yn o.yc k o.ys p.vn W (ho.ray.keep b) (by omega))
  have C5 := hid (fun (W : World) (b : Below w.heap.size w W) => runb5 p o.PA o.pn o.pc k o.ps o.YA o.yn o.yc k o.ys W (h.keep b) (ho.pt.keep b).qs hk (ho.ray.keep b).qs hk)
  obtain ⟨s, hs⟩ : ∃ s, s = sgnQ o.q := ⟨_, rfl⟩
  have C4 := hid (fun (W : World) (b : Below w.heap.size w W) => (show Calls Tryz.prog 12 #[.agg #[.bool o.g, .slice o.A o.n o.c, .slice o.D o.m o.d]] W (RetI W s) by
    have L := (ho.val.keep b).2.v
    rw [← ho.val.1] at L
    rw [hs]
    exact vrsign o.g o.A o.n o.c o.D o.m o.d k o.q W L (by omega)))
  obtain ⟨b1, hb1⟩ : ∃ b, b = decide (o.pn = p.vn) := ⟨_, rfl⟩
  rw [← hb1] at C1
  obtain ⟨b3, hb3⟩ : ∃ b, b = decide (o.yn = p.vn) := ⟨_, rfl⟩
  rw [← hb3] at C3
  obtain ⟨b5, hb5⟩ : ∃ b, b = p.u5B (pt o.pn o.ps) (pt o.yn o.ys) := ⟨_, rfl⟩
  rw [← hb5] at C5
  obtain ⟨r, hr⟩ : ∃ r, r = p.pv3 o := ⟨_, rfl⟩
  have er := hid (show r = ((((b1 && decide (o.mn = 0)) && b3) && decide (s = 0)) && b5) by rw [hr, hb1, hb3, hb5, hs]; rfl)
  rw [← hr]
  obtain ⟨V0, vn, vc, lo, up, op, it, co, R0, rn, rc, nm, gr, ki, bo, TA, tn, tc, v, cf⟩ := p
  obtain ⟨kd, g, A, n, c, D, m, d, q, PA, pn, pc, ps, MA, mn, mc, ms, YA, yn, yc, ys⟩ := o
  dsimp only at VA C1 C3 C4 C5 hW P0 er ⊢
  clear h ho hk B0 K0 K1 hr hs hb1 hb3 hb5
  go_enter Tryz.func27, Tryz.ntmps27
  go_upto_region 1 with fail
  rw [← hW]
  clear hW
  obtain ⟨y0, y1, y2, y3, y4, y5, y6⟩ := blk_seven P0.out.out
  go_wp2_with fail
  refine (VA.out _ P0.out.bel).mono ?_
  rintro e W1 ⟨rfl, b⟩
  have Q0 := hid (P0.out.keep b)
  clear VA P0 b y0 y1 y2 y3 y4 y5 y6
  go_upto_region 3 with fail
  (try simp only [List.append_eq, List.cons_append, List.nil_append])
  refine wp_region_noPanic ?_
  refine wp_region_held_drew (S := (fun W => (W.cell? ⟨w.heap.size, 0, none⟩ = some (.slice V0 vn vc) ∧ W.cell? ⟨w.heap.size, 1, none⟩ = some (.slice R0 rn rc)) ∧ W.cell? ⟨w.heap.size + 1, 0, none⟩ = some (.int .i64 2) ∧ W.cell? ⟨w.heap.size + 1, 1, none⟩ = some (.bool g) ∧ W.cell? ⟨w.heap.size + 1, 2, none⟩ = some (.slice A n c) ∧ W.cell? ⟨w.heap.size + 1, 3, none⟩ = some (.slice D m d) ∧ W.cell? ⟨w.heap.size + 1, 4, none⟩ = some (.slice PA pn pc) ∧ W.cell? ⟨w.heap.size + 1, 5, none⟩ = some (.slice MA mn mc) ∧ W.cell? ⟨w.heap.size + 1, 6, none⟩ = some (.slice YA yn yc))) (by kernel_rfl) ?_ (fun hH => ?_)
  exact (And.intro (blk_two Q0.out.box) (blk_seven Q0.out.out))
  have bd := bx_drew (bx_refl W1)
  obtain ⟨E1, hW0⟩ : ∃ W, W = W1.drew := ⟨_, rfl⟩
  rw [← hW0] at bd hH ⊢
  clear hW0
  have R0 := hid (Q0.out.keep bd)
  clear bd Q0
  refine tk 0 hH ?_
  (try simp only [Act.put, gy0, gy1, gy2])
  refine tk 1 hH ?_
  (try simp only [Act.put, gy0, gy1, gy2])
  refine tk 2 hH ?_
  (try simp only [Act.put, gy0, gy1, gy2])
  refine tk 3 hH ?_
  (try simp only [Act.put, gy0, gy1, gy2])
  refine tk 4 hH ?_
  (try simp only [Act.put, gy0, gy1, gy2])
  refine tk 5 hH ?_
  (try simp only [Act.put, gy0, gy1, gy2])
  refine tk 6 hH ?_
  (try simp only [Act.put, gy0, gy1, gy2])
  refine tk 7 hH ?_
  (try simp only [Act.put, gy0, gy1, gy2])
  refine wpAnyH_done (by kernel_rfl) ?_ _
  refine NoPanic.normal ?_
  clear hH
  have P0 := R0
  clear R0
  obtain ⟨y0, y1, y2, y3, y4, y5, y6⟩ := blk_seven P0.out.out
  obtain ⟨z0, z1⟩ := blk_two P0.out.box
  go_wp2_with fail
  refine (C1.out _ P0.out.bel).mono ?_
  rintro e v1 ⟨rfl, b⟩
  have P1 := hid (P0.out.keep b)
  clear C1 P0 b z0 z1 y0 y1 y2 y3 y4 y5 y6
  obtain ⟨z0, z1⟩ := blk_two P1.out.box
  obtain ⟨y0, y1, y2, y3, y4, y5, y6⟩ := blk_seven P1.out.out
  cases b1
  case false =>
    have EE := hid (vld_no (by rw [er.out]; rfl : r = false) P1.out.bel)
    clear P1 er C3 C4 C5
    go_wp2_with fail
    go_ret
    exact EE.out
  by_cases x1 : mn = 0
  case neg =>
    have t1 : ((mn : Int) == 0) = false := beq_eq_false_iff_ne.2 (by omega)
    have t2 : decide ((mn : Int) = 0) = false := decide_eq_false (by omega)
    have t3 : decide (mn = 0) = false := decide_eq_false x1
    have X := hid x1
    clear x1
    have EE := hid (vld_no (by rw [er.out, t3]; rfl : r = false) P1.out.bel)
    clear P1 er C3 C4 C5
    go_wp2_with fail
    go_ret
    exact EE.out
  subst x1
  go_wp2_with fail
  refine (C3.out _ P1.out.bel).mono ?_
  rintro e v2 ⟨rfl, b⟩
  have P2 := hid (P1.out.keep b)
  clear C3 P1 b z0 z1 y0 y1 y2 y3 y4 y5 y6
  obtain ⟨z0, z1⟩ := blk_two P2.out.box
  obtain ⟨y0, y1, y2, y3, y4, y5, y6⟩ := blk_seven P2.out.out
  cases b3
  case false =>
    have EE := hid (vld_no (by rw [er.out]; rfl : r = false) P2.out.bel)
    clear P2 er C4 C5
    go_wp2_with fail
    go_ret
    exact EE.out
  go_wp2_with fail
  refine (C4.out _ P2.out.bel).mono ?_
  rintro e v3 ⟨rfl, b⟩
  have P3 := hid (P2.out.keep b)
  clear C4 P2 b z0 z1 y0 y1 y2 y3 y4 y5 y6
  obtain ⟨z0, z1⟩ := blk_two P3.out.box
  obtain ⟨y0, y1, y2, y3, y4, y5, y6⟩ := blk_seven P3.out.out
  by_cases s0 : s = 0
  case neg =>
    have t1 : (s == 0) = false := beq_eq_false_iff_ne.2 s0
    have t2 : decide (s = 0) = false := decide_eq_false s0
    have X := hid s0
    clear s0
    have EE := hid (vld_no (by rw [er.out, t2]; rfl : r = false) P3.out.bel)
    clear P3 er C5
    go_wp2_with fail
    go_ret
    exact EE.out
  subst s0
  go_wp2_with fail
  refine (C5.out _ P3.out.bel).mono ?_
  rintro e v4 ⟨rfl, b⟩
  have P4 := hid (P3.out.keep b)
  clear C5 P3 b z0 z1 y0 y1 y2 y3 y4 y5 y6
  have EE := hid (show RetB w r (.returned (.bool b5)) v4 from ⟨by rw [er.out]; rfl, P4.out.bel⟩)
  clear P4 er
  go_wp2_with fail
  go_ret
  exact EE.out
def Only (b : Nat) (w w' : World) : Prop := w.heap.size ≤ w'.heap.size ∧ ∀ j, j < w.heap.size → j ≠ b → w'.heap[j]? = w.heap[j]?
theorem Only.refl (b : Nat) (w : World) : Only b w w := ⟨Nat.le_refl _, fun _ _ _ => rfl⟩
theorem Only.set {b : Nat} {w w' : World} (h : Only b w w') (i : Nat) (u : Value) : Only b w (w'.setCell ⟨b, i, none⟩ u) := by
  have hs : (w'.setCell ⟨b, i, none⟩ u).heap.size = w'.heap.size := by unfold World.setCell; simp
  exact ⟨by rw [hs]; exact h.1, fun j hj hne => (Below.heap_setCell w' ⟨b, i, none⟩ u j hne).trans (h.2 j hj hne)⟩
theorem out_plain {kd : Int} {g : Bool} {v2 v3 v4 v5 v6 : Value} (h2 : ∃ a n c, v2 = .slice a n c) (h3 : ∃ a n c, v3 = .slice a n c) (h4 : ∃ a n c, v4 = .slice a n c) (h5 : ∃ a n c, v5 = .slice a n c) (h6 : ∃ a n c, v6 = .slice a n c) (j x : Nat) : [Value.int .i64 kd, .bool g, v2, v3, v4, v5, v6][j]? ≠ some (.int .u32 (x : Int)) := by
  obtain ⟨_, _, _, rfl⟩ := h2
  obtain ⟨_, _, _, rfl⟩ := h3
  obtain ⟨_, _, _, rfl⟩ := h4
  obtain ⟨_, _, _, rfl⟩ := h5
  obtain ⟨_, _, _, rfl⟩ := h6
  match j with
  | 0 => simp
  | 1 => simp
  | 2 => simp
  | 3 => simp
  | 4 => simp
  | 5 => simp
  | 6 => simp
  | j + 7 => simp
theorem fv_only {w w' : World} {g0 t : Nat} {cs : List Value} {g : Bool} {A : Option Addr} {n' c : Nat} {D : Option Addr} {m d k : Nat} {q : Rat} (h : Fv w g A n' c D m d k q) (K : Blk w g0 cs t) (hp : ∀ j x : Nat, cs[j]? ≠ some (.int .u32 (x : Int))) (hb : Only g0 w w') : Fv w' g A n' c D m d k q := by
  have far : ∀ {B : Option Addr} {y z : Nat} {zs : List Nat}, Rd w B y z zs → Rd w' B y z zs := fun {B y z zs} r => by
    obtain ⟨r1, r2, r3, r4, r5⟩ := r
    refine ⟨r1, r2, r3, r4, fun hn => ?_⟩
    obtain ⟨e, o, hA, hlt, hcc⟩ := r5 hn
    have hne : e ≠ g0 := by
      rintro rfl
      have h6 := hcc 0 hn
      rw [Blk.cell K (o + 0)] at h6
      exact hp _ _ h6
    exact ⟨e, o, hA, Nat.lt_of_lt_of_le hlt hb.1, fun j hj => (World.cell?_of_block (hb.2 e hlt hne)).trans (hcc j hj)⟩
  obtain ⟨f0, f1, f2, f3, f4, f5⟩ := h
  exact ⟨f0, far f1, f2, far f3, f4, f5⟩
theorem qov_only {w w' : World} {g0 t base : Nat} {cs : List Value} {A : Option Addr} {n c k : Nat} {qs : Nat → Rat} (h : QOv w base (.slice A n c) n k qs) (hk : 1 ≤ k) (K : Blk w g0 cs t) (hlt : g0 < base) (hp : ∀ j x : Nat, cs[j]? ≠ some (.int .u32 (x : Int))) (hb : Only g0 w w') : Qv w' A n c k qs := by
  have hx : ∀ b o, A = some ⟨b, o, none⟩ → 0 < n → b ≠ g0 := by
    rintro b o rfl hn rfl
    rcases h with ⟨e, h0⟩ | ⟨g, cap, e, h1, _⟩
    · omega
    · simp only [Value.slice.injEq, Option.some.injEq, Addr.mk.injEq] at e
      omega
  obtain ⟨A2, c2, e2, q⟩ := h.qs hk
  simp only [Value.slice.injEq, true_and] at e2
  obtain ⟨rfl, rfl⟩ := e2
  refine ⟨q.1, q.2.1, q.2.2.1, fun hn => ?_⟩
  obtain ⟨b, o, e, h2, h3⟩ := q.2.2.2 hn
  refine ⟨b, o, e, Nat.lt_of_lt_of_le h2 hb.1, fun j hj => ?_⟩
  obtain ⟨g, A', n', c', D', m', d', e0, e1, e2, e3⟩ := h3 j hj
  have hc := hb.2 b h2 (hx b o e hn)
  exact ⟨g, A', n', c', D', m', d', (World.cell?_of_block hc).trans e0, (World.cell?_of_block hc).trans e1, (World.cell?_of_block hc).trans e2, fv_only e3 K hp hb⟩
theorem Kq.put3 {w : World} {V0 : Option Addr} {vn vc : Nat} {R0 : Option Addr} {rn rc : Nat} {x0 x1 x2 x3 x4 x5 x6 : Value} {W : World} (h : Kq w V0 vn vc R0 rn rc [x0, x1, x2, x3, x4, x5, x6] W) (u1 u2 u3 : Value) :
    Kq w V0 vn vc R0 rn rc [x0, u1, u2, u3, x4, x5, x6] (((W.setCell ⟨w.heap.size + 1, 1, none⟩ u1).setCell ⟨w.heap.size + 1, 2, none⟩ u2).setCell ⟨w.heap.size + 1, 3, none⟩ u3) :=
  ⟨bx_set (bx_set (bx_set h.bel (by omega)) (by omega)) (by omega), ((h.box.far (by omega) _).far (by omega) _).far (by omega) _, ((h.out.set_ 1 u1).set_ 2 u2).set_ 3 u3⟩
theorem Kq.put4 {w : World} {V0 : Option Addr} {vn vc : Nat} {R0 : Option Addr} {rn rc : Nat} {x0 x1 x2 x3 x4 x5 x6 : Value} {W : World} (h : Kq w V0 vn vc R0 rn rc [x0, x1, x2, x3, x4, x5, x6] W) (u : Value) : Kq w V0 vn vc R0 rn rc [x0, x1, x2, x3, u, x5, x6] (W.setCell ⟨w.heap.size + 1, 4, none⟩ u) :=
  ⟨bx_set h.bel (by omega), h.box.far (by omega) _, h.out.set_ 4 u⟩
theorem Kq.put5 {w : World} {V0 : Option Addr} {vn vc : Nat} {R0 : Option Addr} {rn rc : Nat} {x0 x1 x2 x3 x4 x5 x6 : Value} {W : World} (h : Kq w V0 vn vc R0 rn rc [x0, x1, x2, x3, x4, x5, x6] W) (u : Value) : Kq w V0 vn vc R0 rn rc [x0, x1, x2, x3, x4, u, x6] (W.setCell ⟨w.heap.size + 1, 5, none⟩ u) :=
  ⟨bx_set h.bel (by omega), h.box.far (by omega) _, h.out.set_ 5 u⟩
theorem Kq.put6 {w : World} {V0 : Option Addr} {vn vc : Nat} {R0 : Option Addr} {rn rc : Nat} {x0 x1 x2 x3 x4 x5 x6 : Value} {W : World} (h : Kq w V0 vn vc R0 rn rc [x0, x1, x2, x3, x4, x5, x6] W) (u : Value) : Kq w V0 vn vc R0 rn rc [x0, x1, x2, x3, x4, x5, u] (W.setCell ⟨w.heap.size + 1, 6, none⟩ u) :=
  ⟨bx_set h.bel (by omega), h.box.far (by omega) _, h.out.set_ 6 u⟩
def PD.pvk (p : PD) (o : OD) : Bool := if o.kd = 0 then p.pv1 o else if o.kd = 1 then p.pv2 o else p.pv3 o
def PD.chk6 (p : PD) (o : OD) : Int := if p.okB = true ∧ 0 ≤ o.kd ∧ o.kd ≤ 2 then (if p.pvk o = true then 0 else 13) else 1
theorem rprvk (p : PD) (o : OD) (k : Nat) (w : World) (h : Pg w p) (ho : Ov w o k) (hk : k ≤ 100) (h0 : 0 ≤ o.kd) (h2 : o.kd ≤ 2) :
    Calls Tryz.prog 27 #[.agg #[.slice p.V0 p.vn p.vc, .slice p.R0 p.rn p.rc], .agg #[.int .i64 o.kd, .bool o.g, .slice o.A o.n o.c, .slice o.D o.m o.d, .slice o.PA o.pn o.pc, .slice o.MA o.mn o.mc, .slice o.YA o.yn o.yc]] w (RetB w (p.pvk o)) := by
  obtain ⟨kd, g, A, n, c, D, m, d, q, PA, pn, pc, ps, MA, mn, mc, ms, YA, yn, yc, ys⟩ := o
  dsimp only at h0 h2 ⊢
  have hc : kd = 0 ∨ kd = 1 ∨ kd = 2 := by omega
  rcases hc with rfl | rfl | rfl
  · exact rprv1 p ⟨0, g, A, n, c, D, m, d, q, PA, pn, pc, ps, MA, mn, mc, ms, YA, yn, yc, ys⟩ k w h ho hk
  · exact rprv2 p ⟨1, g, A, n, c, D, m, d, q, PA, pn, pc, ps, MA, mn, mc, ms, YA, yn, yc, ys⟩ k w h ho hk
  · exact rprv3 p ⟨2, g, A, n, c, D, m, d, q, PA, pn, pc, ps, MA, mn, mc, ms, YA, yn, yc, ys⟩ k w h ho hk
set_option maxHeartbeats 16000000 in
theorem r6_check (p : PD) (o : OD) (k : Nat) (w : World) (h : Pg w p) (ho : Og w o k) (hk : k ≤ 100) (hp : o.pn ≤ 1000) (hm : o.mn ≤ 1000) (hy : o.yn ≤ 1000) :
    Calls Tryz.prog 9 #[.agg #[.slice p.V0 p.vn p.vc, .slice p.R0 p.rn p.rc], .agg #[.int .i64 o.kd, .bool o.g, .slice o.A o.n o.c, .slice o.D o.m o.d, .slice o.PA o.pn o.pc, .slice o.MA o.mn o.mc, .slice o.YA o.yn o.yc]] w (RetI w (p.chk6 o)) := by
  have hk1 := ho.pt.2.2.1
  obtain ⟨W0, hW⟩ : ∃ W, W = (w.alloc (.cells #[.slice p.V0 p.vn p.vc, .slice p.R0 p.rn p.rc] 25)).alloc (.cells #[.int .i64 o.kd, .bool o.g, .slice o.A o.n o.c, .slice o.D o.m o.d, .slice o.PA o.pn o.pc, .slice o.MA o.mn o.mc, .slice o.YA o.yn o.yc] 34) := ⟨_, rfl⟩
  have B0 := bx_alloc (bx_alloc (bx_refl w) (.cells #[.slice p.V0 p.vn p.vc, .slice p.R0 p.rn p.rc] 25)) (.cells #[.int .i64 o.kd, .bool o.g, .slice o.A o.n o.c, .slice o.D o.m o.d, .slice o.PA o.pn o.pc, .slice o.MA o.mn o.mc, .slice o.YA o.yn o.yc] 34)
  have K0 := (Blk.new w [.slice p.V0 p.vn p.vc, .slice p.R0 p.rn p.rc] 25).alloc (.cells #[.int .i64 o.kd, .bool o.g, .slice o.A o.n o.c, .slice o.D o.m o.d, .slice o.PA o.pn o.pc, .slice o.MA o.mn o.mc, .slice o.YA o.yn o.yc] 34)
  have K1 := blk_new1 w (.cells #[.slice p.V0 p.vn p.vc, .slice p.R0 p.rn p.rc] 25) [.int .i64 o.kd, .bool o.g, .slice o.A o.n o.c, .slice o.D o.m o.d, .slice o.PA o.pn o.pc, .slice o.MA o.mn o.mc, .slice o.YA o.yn o.yc] 34
  change Blk ((w.alloc (.cells #[.slice p.V0 p.vn p.vc, .slice p.R0 p.rn p.rc] 25)).alloc (.cells #[.int .i64 o.kd, .bool o.g, .slice o.A o.n o.c, .slice o.D o.m o.d, .slice o.PA o.pn o.pc, .slice o.MA o.mn o.mc, .slice o.YA o.yn o.yc] 34)) _ _ _ at K0 K1
  rw [← hW] at B0 K0 K1
  have P0 := hid (show Kq w p.V0 p.vn p.vc p.R0 p.rn p.rc [.int .i64 o.kd, .bool o.g, .slice o.A o.n o.c, .slice o.D o.m o.d, .slice o.PA o.pn o.pc, .slice o.MA o.mn o.mc, .slice o.YA o.yn o.yc] W0 from ⟨B0, K0, K1⟩)
  have VA := hid (fun (W : World) (b : Below w.heap.size w W) => r_valid p W (h.keep b))
  have FX := hid (fun (W : World) (b : Below w.heap.size w W) => vrfix o.g o.A o.n o.c o.D o.m o.d k o.q W (ho.val.keep b) (by omega))
  have F1 := hid (fun (W : World) (b : Below w.heap.size w W) => rfixed o.PA o.pn o.pc k o.ps W (ho.pt.keep b) hp (by omega))
  have F2 := hid (fun (W : World) (b : Below w.heap.size w W) => rfixed o.MA o.mn o.mc k o.ms W (ho.mu.keep b) hm (by omega))
  have F3 := hid (fun (W : World) (b : Below w.heap.size w W) => rfixed o.YA o.yn o.yc k o.ys W (ho.ray.keep b) hy (by omega))
  obtain ⟨b5, hb5⟩ : ∃ b, b = p.pvk o := ⟨_, rfl⟩
  have PV := hid (fun (W : World) (b : Below w.heap.size w W) (h0 : 0 ≤ o.kd) (h2 : o.kd ≤ 2) (g1 : Bool) (A1 : Option Addr) (n1 c1 : Nat) (D1 : Option Addr) (m1 d1 : Nat) (PA1 : Option Addr) (pc1 : Nat) (MA1 : Option Addr) (mc1 : Nat) (YA1 : Option Addr) (yc1 : Nat) (hv : Fv W g1 A1 n1 c1 D1 m1 d1 k o.q) (q1 : Qv W PA1 o.pn pc1 k o.ps) (q2 : Qv W MA1 o.mn mc1 k o.ms) (q3 : Qv W YA1 o.yn yc1 k o.ys) => (show Calls Tryz.prog 27 #[.agg #[.slice p.V0 p.vn p.vc, .slice p.R0 p.rn p.rc], .agg #[.int .i64 o.kd, .bool g1, .slice A1 n1 c1, .slice D1 m1 d1, .slice PA1 o.pn pc1, .slice MA1 o.mn mc1, .slice YA1 o.yn yc1]] W (RetB W b5) by
    rw [hb5]
    exact rprvk p ⟨o.kd, g1, A1, n1, c1, D1, m1, d1, o.q, PA1, o.pn, pc1, o.ps, MA1, o.mn, mc1, o.ms, YA1, o.yn, yc1, o.ys⟩ k W (h.keep b) ⟨hv, q1, q2, q3⟩ hk h0 h2))
  obtain ⟨r, hr⟩ : ∃ r, r = p.chk6 o := ⟨_, rfl⟩
  obtain ⟨b1, hb1⟩ : ∃ b, b = p.okB := ⟨_, rfl⟩
  have er := hid (show r = if b1 = true ∧ 0 ≤ o.kd ∧ o.kd ≤ 2 then (if b5 = true then 0 else 13) else 1 by rw [hr, hb1, hb5]; rfl)
  rw [← hr]
  rw [← hb1] at VA
  obtain ⟨V0, vn, vc, lo, up, op, it, co, R0, rn, rc, nm, gr, ki, bo, TA, tn, tc, v, cf⟩ := p
  obtain ⟨kd, g, A, n, c, D, m, d, q, PA, pn, pc, ps, MA, mn, mc, ms, YA, yn, yc, ys⟩ := o
  dsimp only at VA FX F1 F2 F3 PV hW P0 er ⊢
  clear h ho hk hp hm hy B0 K0 K1 hr hb1 hb5
  go_enter Tryz.func9, Tryz.ntmps9
  go_upto_region 1 with fail
  rw [← hW]
  clear hW
  obtain ⟨z0, z1⟩ := blk_two P0.out.box
  obtain ⟨y0, y1, y2, y3, y4, y5, y6⟩ := blk_seven P0.out.out
  go_wp2_with fail
  refine (VA.out _ P0.out.bel).mono ?_
  rintro e W1 ⟨rfl, b⟩
  have P1 := hid (P0.out.keep b)
  clear VA P0 b z0 z1 y0 y1 y2 y3 y4 y5 y6
  obtain ⟨z0, z1⟩ := blk_two P1.out.box
  obtain ⟨y0, y1, y2, y3, y4, y5, y6⟩ := blk_seven P1.out.out
  cases b1
  case false =>
    have HH := hid (show RetI w r (.returned (.int .i64 1)) W1 from ⟨by rw [er.out, if_neg (fun x => absurd x.1 (by decide))], P1.out.bel⟩)
    clear FX F1 F2 F3 PV er P1
    go_wp2_with fail
    go_ret
    exact HH.out
  by_cases h0 : kd < 0
  case pos =>
    have t1 : decide (kd < 0) = true := decide_eq_true h0
    have HH := hid (show RetI w r (.returned (.int .i64 1)) W1 from ⟨by rw [er.out, if_neg (fun x => absurd x.2.1 (Int.not_le.2 h0))], P1.out.bel⟩)
    have X := hid h0
    clear FX F1 F2 F3 PV er P1 h0
    go_wp2_with fail
    go_ret
    exact HH.out
  have t1 : decide (kd < 0) = false := decide_eq_false h0
  by_cases h2 : 2 < kd
  case pos =>
    have t2 : decide (2 < kd) = true := decide_eq_true h2
    have HH := hid (show RetI w r (.returned (.int .i64 1)) W1 from ⟨by rw [er.out, if_neg (fun x => absurd x.2.2 (Int.not_le.2 h2))], P1.out.bel⟩)
    have X := hid h0
    have X2 := hid h2
    clear FX F1 F2 F3 PV er P1 h0 h2
    go_wp2_with fail
    go_ret
    exact HH.out
  have t2 : decide (2 < kd) = false := decide_eq_false h2
  have e2 := hid (show r = if b5 = true then 0 else 13 by rw [er.out, if_pos ⟨rfl, Int.not_lt.1 h0, Int.not_lt.1 h2⟩])
  have PW := hid (fun (W : World) (b : Below w.heap.size w W) => PV.out W b (Int.not_lt.1 h0) (Int.not_lt.1 h2))
  clear er PV h0 h2
  go_upto_region 3 with fail
  clear t1 t2 z0 z1 y0 y1 y2 y3 y4 y5 y6
  (try simp only [List.append_eq, List.cons_append, List.nil_append])
  refine wp_region_noPanic ?_
  refine lbegin (S := fun W => W.cell? ⟨w.heap.size + 1, 0, none⟩ = some (.int .i64 kd) ∧ W.cell? ⟨w.heap.size + 1, 1, none⟩ = some (.bool g) ∧ W.cell? ⟨w.heap.size + 1, 2, none⟩ = some (.slice A n c) ∧ W.cell? ⟨w.heap.size + 1, 3, none⟩ = some (.slice D m d) ∧ W.cell? ⟨w.heap.size + 1, 4, none⟩ = some (.slice PA pn pc) ∧ W.cell? ⟨w.heap.size + 1, 5, none⟩ = some (.slice MA mn mc) ∧ W.cell? ⟨w.heap.size + 1, 6, none⟩ = some (.slice YA yn yc)) (t := 13) (by kernel_rfl) ?_ (fun hH => ?_)
  exact blk_seven P1.out.out
  have bd := bx_drew (bx_refl W1)
  obtain ⟨D0, hW0⟩ : ∃ W, W = W1.drew := ⟨_, rfl⟩
  rw [← hW0] at bd hH ⊢
  clear hW0
  have P2 := hid (P1.out.keep bd)
  clear bd P1
  refine ltk 0 hH ?_
  (try simp only [Act.put, gy0, gy1, gy2])
  refine ltk 1 hH ?_
  (try simp only [Act.put, gy0, gy1, gy2])
  refine ltk 3 hH ?_
  (try simp only [Act.put, gy0, gy1, gy2])
  refine ltk 4 hH ?_
  (try simp only [Act.put, gy0, gy1, gy2])
  refine ltk 6 hH ?_
  (try simp only [Act.put, gy0, gy1, gy2])
  refine ltk 7 hH ?_
  (try simp only [Act.put, gy0, gy1, gy2])
  refine ltk 9 hH ?_
  (try simp only [Act.put, gy0, gy1, gy2])
  refine ltk 10 hH ?_
  (try simp only [Act.put, gy0, gy1, gy2])
  refine lone 2 (fun K hK => ?_)
  go_simp
  refine (FX.out _ P2.out.bel).mono ?_
  rintro e v1 ⟨A1, n1, c1, D1, m1, d1, rfl, fr, b⟩
  obtain ⟨g1, hg1⟩ : ∃ g, g = sg q.num := ⟨_, rfl⟩
  rw [← hg1]
  have P3 := hid (P2.out.keep b)
  have V3 := hid (show Fv v1 g1 A1 n1 c1 D1 m1 d1 k q from ⟨hg1, fr⟩)
  clear FX P2 b fr hg1 hH
  (try go_wp2_with fail)
  refine hK.out _ _ (fun _ => blk_seven P3.out.out) ?_
  clear hK K
  (try simp only [Act.put, gy0, gy1, gy2])
  refine ltk 12 (blk_seven P3.out.out) ?_
  (try simp only [Act.put, gy0, gy1, gy2])
  refine lone 5 (fun K hK => ?_)
  go_simp
  refine (F1.out _ P3.out.bel).mono ?_
  rintro e v2 ⟨PA1, pc1, rfl, q1, b⟩
  have P4 := hid (P3.out.keep b)
  have V4 := hid (V3.out.keep b)
  have L1 := hid (show w.heap.size + 1 < v1.heap.size from P3.out.out.lt)
  have Q4 := hid q1
  clear F1 P3 V3 b q1
  (try go_wp2_with fail)
  refine hK.out _ _ (fun _ => blk_seven P4.out.out) ?_
  clear hK K
  (try simp only [Act.put, gy0, gy1, gy2])
  refine lone 8 (fun K hK => ?_)
  go_simp
  refine (F2.out _ P4.out.bel).mono ?_
  rintro e v3 ⟨MA1, mc1, rfl, q1, b⟩
  have P5 := hid (P4.out.keep b)
  have V5 := hid (V4.out.keep b)
  have L2 := hid (show w.heap.size + 1 < v2.heap.size from P4.out.out.lt)
  have Q5 := hid (Q4.out.keep b)
  have M5 := hid q1
  clear F2 P4 V4 Q4 b q1
  (try go_wp2_with fail)
  refine hK.out _ _ (fun _ => blk_seven P5.out.out) ?_
  clear hK K
  (try simp only [Act.put, gy0, gy1, gy2])
  refine lone 11 (fun K hK => ?_)
  go_simp
  refine (F3.out _ P5.out.bel).mono ?_
  rintro e v4 ⟨YA1, yc1, rfl, q1, b⟩
  have P6 := hid (P5.out.keep b)
  have V6 := hid (V5.out.keep b)
  have L3 := hid (show w.heap.size + 1 < v3.heap.size from P5.out.out.lt)
  have Q6 := hid (Q5.out.keep b)
  have M6 := hid (M5.out.keep b)
  have Y6 := hid q1
  clear F3 P5 V5 Q5 M5 b q1
  (try go_wp2_with fail)
  refine hK.out _ _ (fun _ => blk_seven P6.out.out) ?_
  clear hK K
  (try simp only [Act.put, gy0, gy1, gy2])
  have ON := hid ((((((Only.refl (w.heap.size + 1) v4).set 1 (.bool g1)).set 2 (.slice A1 n1 c1)).set 3 (.slice D1 m1 d1)).set 4 (.slice PA1 pn pc1)).set 5 (.slice MA1 mn mc1) |>.set 6 (.slice YA1 yn yc1))
  have PL := hid (out_plain (kd := kd) (g := g) ⟨A, n, c, rfl⟩ ⟨D, m, d, rfl⟩ ⟨PA, pn, pc, rfl⟩ ⟨MA, mn, mc, rfl⟩ ⟨YA, yn, yc, rfl⟩)
  have V7 := hid (fv_only V6.out P6.out.out PL.out ON.out)
  have Q7 := hid (qov_only Q6.out hk1 P6.out.out L1.out PL.out ON.out)
  have M7 := hid (qov_only M6.out hk1 P6.out.out L2.out PL.out ON.out)
  have Y7 := hid (qov_only Y6.out hk1 P6.out.out L3.out PL.out ON.out)
  have P7 := hid (P6.out.put3 (.bool g1) (.slice A1 n1 c1) (.slice D1 m1 d1))
  have P8 := hid (P7.out.put4 (.slice PA1 pn pc1))
  have P9 := hid (P8.out.put5 (.slice MA1 mn mc1))
  have P10 := hid (P9.out.put6 (.slice YA1 yn yc1))
  clear ON PL V6 Q6 M6 Y6 L1 L2 L3
  refine lone 13 (fun K hK => ?_)
  obtain ⟨y0, y1, y2, y3, y4, y5, y6⟩ := blk_seven P6.out.out
  have f1 := P6.out.out.free 1
  have f2 := P6.out.out.free 2
  have f3 := P6.out.out.free 3
  go_simp
  refine hK.out _ _ (fun h => by simp at h) ?_
  clear hK K y0 y1 y2 y3 y4 y5 y6 f1 f2 f3 P6
  (try simp only [Act.put, gy0, gy1, gy2])
  refine lone 14 (fun K hK => ?_)
  go_simp
  refine hK.out _ _ (fun h => by simp at h) ?_
  clear hK K
  (try simp only [Act.put, gy0, gy1, gy2])
  refine lone 15 (fun K hK => ?_)
  obtain ⟨y0, y1, y2, y3, y4, y5, y6⟩ := blk_seven P7.out.out
  have f4 := P7.out.out.free 4
  go_simp
  refine hK.out _ _ (fun h => by simp at h) ?_
  clear hK K y0 y1 y2 y3 y4 y5 y6 f4 P7
  (try simp only [Act.put, gy0, gy1, gy2])
  refine lone 16 (fun K hK => ?_)
  go_simp
  refine hK.out _ _ (fun h => by simp at h) ?_
  clear hK K
  (try simp only [Act.put, gy0, gy1, gy2])
  refine lone 17 (fun K hK => ?_)
  obtain ⟨y0, y1, y2, y3, y4, y5, y6⟩ := blk_seven P8.out.out
  have f5 := P8.out.out.free 5
  go_simp
  refine hK.out _ _ (fun h => by simp at h) ?_
  clear hK K y0 y1 y2 y3 y4 y5 y6 f5 P8
  (try simp only [Act.put, gy0, gy1, gy2])
  refine lone 18 (fun K hK => ?_)
  go_simp
  refine hK.out _ _ (fun h => by simp at h) ?_
  clear hK K
  (try simp only [Act.put, gy0, gy1, gy2])
  refine lone 19 (fun K hK => ?_)
  obtain ⟨y0, y1, y2, y3, y4, y5, y6⟩ := blk_seven P9.out.out
  have f6 := P9.out.out.free 6
  go_simp
  refine hK.out _ _ (fun h => by simp at h) ?_
  clear hK K y0 y1 y2 y3 y4 y5 y6 f6 P9
  (try simp only [Act.put, gy0, gy1, gy2])
  refine ldone ?_ (by kernel_rfl) _
  refine NoPanic.normal ?_
  obtain ⟨W9, hW9⟩ : ∃ W, W = ((((((v4.setCell ⟨w.heap.size + 1, 1, none⟩ (.bool g1)).setCell ⟨w.heap.size + 1, 2, none⟩ (.slice A1 n1 c1)).setCell ⟨w.heap.size + 1, 3, none⟩ (.slice D1 m1 d1)).setCell ⟨w.heap.size + 1, 4, none⟩ (.slice PA1 pn pc1)).setCell ⟨w.heap.size + 1, 5, none⟩ (.slice MA1 mn mc1)).setCell ⟨w.heap.size + 1, 6, none⟩ (.slice YA1 yn yc1)) := ⟨_, rfl⟩
  rw [← hW9] at V7 Q7 M7 Y7 P10 ⊢
  clear hW9
  obtain ⟨z0, z1⟩ := blk_two P10.out.box
  obtain ⟨y0, y1, y2, y3, y4, y5, y6⟩ := blk_seven P10.out.out
  go_wp2_with fail
  refine (PW.out _ P10.out.bel g1 A1 n1 c1 D1 m1 d1 PA1 pc1 MA1 mc1 YA1 yc1 V7.out Q7.out M7.out Y7.out).mono ?_
  rintro e v9 ⟨rfl, b⟩
  have BB := hid (bx_call P10.out.bel b)
  clear PW b V7 Q7 M7 Y7 P10 z0 z1 y0 y1 y2 y3 y4 y5 y6
  cases b5
  · have HH := hid (show RetI w r (.returned (.int .i64 13)) v9 from ⟨by rw [e2.out]; rfl, BB.out⟩)
    clear e2 BB
    go_wp2_with fail
    go_ret
    exact HH.out
  · have HH := hid (show RetI w r (.returned (.int .i64 0)) v9 from ⟨by rw [e2.out]; rfl, BB.out⟩)
    clear e2 BB
    go_wp2_with fail
    go_ret
    exact HH.out
theorem PD.chk_eq (p : PD) (o : OD) : p.chk6 o = p.chk o := by
  have e1 : p.okB = true → p.ck1 o = p.pv1 o := fun h => by
    unfold PD.ck1 PD.pv1 szB
    rw [← PD.opt6, h, Bool.true_and]
    generalize p.o5B _ _ = a
    generalize decide (sgnQ _ = 0) = b
    generalize decide (o.pn = p.vn) = c
    generalize decide (o.mn = p.rn) = d
    generalize decide (o.yn = 0) = e
    cases a <;> cases b <;> cases c <;> cases d <;> cases e <;> rfl
  have e2 : p.okB = true → p.ck2 o = p.pv2 o := fun h => by
    unfold PD.ck2 PD.pv2 szB
    rw [← PD.inf6, h, Bool.true_and]
  have e3 : p.okB = true → p.ck3 o = p.pv3 o := fun h => by
    unfold PD.ck3 PD.pv3 szB
    rw [← PD.unb6, h, Bool.true_and]
  unfold PD.chk PD.chk6 PD.chk1 PD.chk2 PD.chk3 PD.pvk
  by_cases hb : p.okB = true
  · rw [e1 hb, e2 hb, e3 hb]
    by_cases h0 : o.kd = 0
    · rw [if_pos h0, if_pos ⟨hb, by omega, by omega⟩, if_pos h0, if_pos hb]
    by_cases h1 : o.kd = 1
    · rw [if_neg h0, if_pos h1, if_pos ⟨hb, by omega, by omega⟩, if_neg h0, if_pos h1, if_pos hb]
    by_cases h2 : o.kd = 2
    · rw [if_neg h0, if_neg h1, if_pos ⟨hb, by omega, by omega⟩, if_neg h0, if_neg h1, if_pos h2, if_pos hb]
    · rw [if_neg (show ¬(p.okB = true ∧ 0 ≤ o.kd ∧ o.kd ≤ 2) from fun x => by omega), if_neg h0, if_neg h1, if_neg h2]
  · rw [if_neg (fun x => hb x.1)]
    simp only [if_neg hb, ite_self]
set_option maxHeartbeats 16000000 in
theorem dualityChecks_any (p : PD) (kd : Int) (g : Bool) (A : Option Addr) (n c : Nat) (xs : List Nat) (D : Option Addr) (m d : Nat) (ds : List Nat) (X Y Z : LD) (w : World) (h : Pw w p) (r1 : Rd w A n c xs) (r2 : Rd w D m d ds) (hx : X.ok w) (hy : Y.ok w) (hz : Z.ok w) :
    Calls Tryz.prog 3 #[.agg #[.slice p.V0 p.vn p.vc, .slice p.R0 p.rn p.rc], .agg #[.int .i64 kd, .bool g, .slice A n c, .slice D m d, .slice X.A X.n X.c, .slice Y.A Y.n Y.c, .slice Z.A Z.n Z.c]] w (RetB w true) := by
  have SM := hid (fun (W : World) (b : Nat) (B : Below w.heap.size w W) (K : Blk W b ([X, Y, Z].map LD.v) 32) => l_smL p b [X, Y, Z] 32 W (h.keep B) K (by show (3 : Nat) ≤ _; omega) (fun l hl => by
    simp only [List.mem_cons, List.not_mem_nil, or_false] at hl
    rcases hl with rfl | rfl | rfl
    · exact hx.keep B
    · exact hy.keep B
    · exact hz.keep B))
  have ss : smL p [X, Y, Z] = true → fewP p.vn p.rn p.nm p.tn 6 8 = true ∧ X.sm = true ∧ Y.sm = true ∧ Z.sm = true := fun e => by
    unfold smL at e
    rw [Bool.and_eq_true] at e
    have e1 := of_decide_eq_true e.1
    exact ⟨e.2, e1 _ (by simp), e1 _ (by simp), e1 _ (by simp)⟩
  have sn : ∀ l : LD, l.sm = true → l.n ≤ 1000 := fun l e => by
    unfold LD.sm shortB at e
    rw [Bool.and_eq_true] at e
    have := of_decide_eq_true e.1
    omega
  obtain ⟨o, ho⟩ : ∃ o : OD, o = ⟨kd, g, A, n, c, D, m, d, mkRat (iv g xs) (dv1 ds), X.A, X.n, X.c, X.qs, Y.A, Y.n, Y.c, Y.qs, Z.A, Z.n, Z.c, Z.qs⟩ := ⟨_, rfl⟩
  have OG : smL p [X, Y, Z] = true → (n ≤ 4 ∧ m ≤ 4) → ∀ W, Below w.heap.size w W → Og W o 4 := fun e f W B => by
    rw [ho]
    exact ⟨⟨xs, ds, r1.keep B, f.1, r2.keep B, f.2, by omega, rfl⟩, (hx.keep B).q (ss e).2.1, (hy.keep B).q (ss e).2.2.1, (hz.keep B).q (ss e).2.2.2⟩
  obtain ⟨z, hzz⟩ : ∃ z, z = p.chk o := ⟨_, rfl⟩
  have C1 := hid (fun (e : smL p [X, Y, Z] = true) (f : decide (n ≤ 4 ∧ m ≤ 4) = true) (W : World) (B : Below w.heap.size w W) => (show Calls Tryz.prog 8 #[.agg #[.slice p.V0 p.vn p.vc, .slice p.R0 p.rn p.rc], .agg #[.int .i64 kd, .bool g, .slice A n c, .slice D m d, .slice X.A X.n X.c, .slice Y.A Y.n Y.c, .slice Z.A Z.n Z.c]] W (RetI W z) by
    have t := d_check p o 4 W ((h.keep B).pg (ss e).1) (OG e (of_decide_eq_true f) W B) (by omega)
    rw [← hzz] at t
    rw [ho] at t
    exact t))
  have C2 := hid (fun (e : smL p [X, Y, Z] = true) (f : decide (n ≤ 4 ∧ m ≤ 4) = true) (W : World) (B : Below w.heap.size w W) => (show Calls Tryz.prog 9 #[.agg #[.slice p.V0 p.vn p.vc, .slice p.R0 p.rn p.rc], .agg #[.int .i64 kd, .bool g, .slice A n c, .slice D m d, .slice X.A X.n X.c, .slice Y.A Y.n Y.c, .slice Z.A Z.n Z.c]] W (RetI W z) by
    have t := r6_check p o 4 W ((h.keep B).pg (ss e).1) (OG e (of_decide_eq_true f) W B) (by omega) (by rw [ho]; exact sn _ (ss e).2.1) (by rw [ho]; exact sn _ (ss e).2.2.1) (by rw [ho]; exact sn _ (ss e).2.2.2)
    rw [PD.chk_eq, ← hzz] at t
    rw [ho] at t
    exact t))
  obtain ⟨s, hs⟩ : ∃ s, s = smL p [X, Y, Z] := ⟨_, rfl⟩
  rw [← hs] at SM C1 C2
  have FW := hid (fun (W : World) => qfew1 (k := 4) (by omega) (Blk.new W [.bool g, .slice A n c, .slice D m d] 31) (by have := r1.2.1; have := r1.2.2.1; omega) (by have := r2.2.1; have := r2.2.2.1; omega))
  obtain ⟨f, hf⟩ : ∃ f, f = decide (n ≤ 4 ∧ m ≤ 4) := ⟨_, rfl⟩
  rw [← hf] at FW C1 C2
  clear hx hy hz hs ss sn OG ho hzz h r1 r2 hf
  obtain ⟨V0, vn, vc, lo, up, op, it, co, R0, rn, rc, nm, gr, ki, bo, TA, tn, tc, v, cf⟩ := p
  obtain ⟨XA, Xn, Xc, XN, XM, xq⟩ := X
  obtain ⟨YA, Yn, Yc, YN, YM, yq⟩ := Y
  obtain ⟨ZA, Zn, Zc, ZN, ZM, zq⟩ := Z
  dsimp only [List.map, LD.v, List.length] at SM C1 C2 FW ⊢
  obtain ⟨W0, hW⟩ : ∃ W, W = (w.alloc (.cells #[.slice V0 vn vc, .slice R0 rn rc] 25)).alloc (.cells #[.int .i64 kd, .bool g, .slice A n c, .slice D m d, .slice XA Xn Xc, .slice YA Yn Yc, .slice ZA Zn Zc] 34) := ⟨_, rfl⟩
  have B0 := bx_alloc (bx_alloc (bx_refl w) (.cells #[.slice V0 vn vc, .slice R0 rn rc] 25)) (.cells #[.int .i64 kd, .bool g, .slice A n c, .slice D m d, .slice XA Xn Xc, .slice YA Yn Yc, .slice ZA Zn Zc] 34)
  have K0 := (Blk.new w [.slice V0 vn vc, .slice R0 rn rc] 25).alloc (.cells #[.int .i64 kd, .bool g, .slice A n c, .slice D m d, .slice XA Xn Xc, .slice YA Yn Yc, .slice ZA Zn Zc] 34)
  have K1 := blk_new1 w (.cells #[.slice V0 vn vc, .slice R0 rn rc] 25) [.int .i64 kd, .bool g, .slice A n c, .slice D m d, .slice XA Xn Xc, .slice YA Yn Yc, .slice ZA Zn Zc] 34
  change Blk ((w.alloc (.cells #[.slice V0 vn vc, .slice R0 rn rc] 25)).alloc (.cells #[.int .i64 kd, .bool g, .slice A n c, .slice D m d, .slice XA Xn Xc, .slice YA Yn Yc, .slice ZA Zn Zc] 34)) _ _ _ at K0 K1
  rw [← hW] at B0 K0 K1
  have P0 := hid (show Kq w V0 vn vc R0 rn rc [.int .i64 kd, .bool g, .slice A n c, .slice D m d, .slice XA Xn Xc, .slice YA Yn Yc, .slice ZA Zn Zc] W0 from ⟨B0, K0, K1⟩)
  clear B0 K0 K1
  go_enter Tryz.func3, Tryz.ntmps3
  go_upto_region 1 with fail
  rw [← hW]
  clear hW
  go_wp2_with fail
  refine (awk6 W0).mono ?_
  rintro e W1 ⟨rfl, b⟩
  have P1 := hid (P0.out.keep b)
  clear P0 b
  obtain ⟨z0, z1⟩ := blk_two P1.out.box
  obtain ⟨y0, y1, y2, y3, y4, y5, y6⟩ := blk_seven P1.out.out
  have ba := bx_alloc (bx_refl W1) (.cells #[.slice XA Xn Xc, .slice YA Yn Yc, .slice ZA Zn Zc] 32)
  have kn := Blk.new W1 [.slice XA Xn Xc, .slice YA Yn Yc, .slice ZA Zn Zc] 32
  change Below W1.heap.size W1 (W1.alloc (.cells #[.slice XA Xn Xc, .slice YA Yn Yc, .slice ZA Zn Zc] 32)) at ba
  have SM2 := hid (SM.out _ _ (bx_call P1.out.bel ba) kn)
  have P2 := hid (P1.out.keep ba)
  clear kn ba SM P1
  go_wp2_with fail
  refine (SM2.out).mono ?_
  rintro e W2 ⟨rfl, b⟩
  have P3 := hid (P2.out.keep b)
  clear SM2 P2 b z0 z1 y0 y1 y2 y3 y4 y5 y6
  obtain ⟨y0, y1, y2, y3, y4, y5, y6⟩ := blk_seven P3.out.out
  cases s
  case false =>
    clear C1 C2 FW
    go_wp2_with fail
    refine (awk6 W2).mono ?_
    rintro e W3 ⟨rfl, b⟩
    have P4 := hid (P3.out.keep b)
    clear P3 b
    go_wp2_with fail
    go_ret
    exact vld_yes rfl P4.out.bel
  have D1 := hid (C1.out rfl)
  have D2 := hid (C2.out rfl)
  clear C1 C2
  have FV := hid (FW.out W2)
  have ba := bx_alloc (bx_refl W2) (.cells #[.bool g, .slice A n c, .slice D m d] 31)
  have P4 := hid (P3.out.keep ba)
  clear FW P3 ba
  go_wp2_with fail
  refine (FV.out).mono ?_
  rintro e W3 ⟨rfl, b⟩
  have P5 := hid (P4.out.keep b)
  clear FV P4 b y0 y1 y2 y3 y4 y5 y6
  cases f
  case false =>
    clear D1 D2
    go_wp2_with fail
    refine (awk6 W3).mono ?_
    rintro e W4 ⟨rfl, b⟩
    have P6 := hid (P5.out.keep b)
    clear P5 b
    go_wp2_with fail
    go_ret
    exact vld_yes rfl P6.out.bel
  have E1 := hid (D1.out rfl)
  have E2 := hid (D2.out rfl)
  clear D1 D2
  go_upto_region 3 with fail
  have P0 := P5
  clear P5
  (try simp only [List.append_eq, List.cons_append, List.nil_append])
  refine wp_region_noPanic ?_
  refine wp_region_held_drew (S := (fun W => (W.cell? ⟨w.heap.size, 0, none⟩ = some (.slice V0 vn vc) ∧ W.cell? ⟨w.heap.size, 1, none⟩ = some (.slice R0 rn rc)) ∧ W.cell? ⟨w.heap.size + 1, 0, none⟩ = some (.int .i64 kd) ∧ W.cell? ⟨w.heap.size + 1, 1, none⟩ = some (.bool g) ∧ W.cell? ⟨w.heap.size + 1, 2, none⟩ = some (.slice A n c) ∧ W.cell? ⟨w.heap.size + 1, 3, none⟩ = some (.slice D m d) ∧ W.cell? ⟨w.heap.size + 1, 4, none⟩ = some (.slice XA Xn Xc) ∧ W.cell? ⟨w.heap.size + 1, 5, none⟩ = some (.slice YA Yn Yc) ∧ W.cell? ⟨w.heap.size + 1, 6, none⟩ = some (.slice ZA Zn Zc))) (by kernel_rfl) ?_ (fun hH => ?_)
  exact (And.intro (blk_two P0.out.box) (blk_seven P0.out.out))
  have bd := bx_drew (bx_refl W3)
  obtain ⟨E0, hW0⟩ : ∃ W, W = W3.drew := ⟨_, rfl⟩
  rw [← hW0] at bd hH ⊢
  clear hW0
  have P1 := hid (P0.out.keep bd)
  clear bd P0
  refine tk 0 hH ?_
  (try simp only [Act.put, gy0, gy1, gy2])
  refine tk 1 hH ?_
  (try simp only [Act.put, gy0, gy1, gy2])
  refine tk 3 hH ?_
  (try simp only [Act.put, gy0, gy1, gy2])
  refine tk 4 hH ?_
  (try simp only [Act.put, gy0, gy1, gy2])
  refine wpAnyH_ready (rs := [2]) (by kernel_rfl) (by simp) ?_
  refine rdy (fun K hK => ?_) AllReadyH.nil
  go_simp
  refine (E1.out _ P1.out.bel).mono ?_
  rintro e v2 ⟨rfl, b⟩
  have P2 := hid (P1.out.keep b)
  clear b hH P1 E1
  (try go_wp2_with fail)
  refine hK.out _ _ ?_ (fun hH => ?_)
  exact (And.intro (blk_two P2.out.box) (blk_seven P2.out.out))
  clear hK K
  (try simp only [Act.put, gy0, gy1, gy2])
  refine wpAnyH_ready (rs := [5]) (by kernel_rfl) (by simp) ?_
  refine rdy (fun K hK => ?_) AllReadyH.nil
  go_simp
  refine (E2.out _ P2.out.bel).mono ?_
  rintro e v3 ⟨rfl, b⟩
  have P3 := hid (P2.out.keep b)
  clear b hH P2 E2
  (try go_wp2_with fail)
  refine hK.out _ _ ?_ (fun hH => ?_)
  exact (And.intro (blk_two P3.out.box) (blk_seven P3.out.out))
  clear hK K
  (try simp only [Act.put, gy0, gy1, gy2])
  refine tk 6 hH ?_
  (try simp only [Act.put, gy0, gy1, gy2])
  refine tk 7 hH ?_
  (try simp only [Act.put, gy0, gy1, gy2])
  refine wpAnyH_done (by kernel_rfl) ?_ _
  refine NoPanic.normal ?_
  clear hH
  have HP := hid (vld_yes rfl P3.out.bel : RetB w true (.returned (.bool true)) _)
  clear P3
  go_wp2_with fail
  go_ret
  exact HP.out
end Go.Proofs.YthbogaindaflpaaGreat
