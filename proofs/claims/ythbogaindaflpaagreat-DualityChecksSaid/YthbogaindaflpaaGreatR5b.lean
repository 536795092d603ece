/- R5b: Bd5, Prf, Unb in one text. -/
import Derived.Test.YthbogaindaflpaaGreatR5a
import Derived.Deep.DeepCutAuto
import Derived.BigQuiet
namespace Go.Proofs.YthbogaindaflpaaGreat
open Go.RowKit
set_option maxRecDepth 100000
theorem wp_append_q {w : World} {o : Oper} {a : Act} {K : Act → World → Prop} {Q : Exit → Act → World → Prop} (s x : Operand) (ho : o.op = .call { callee := .builtin .append, args := #[s, x], argTypes := #[32, 32] })
    (base : Nat) (v : Value) (n k : Nat) (qs : Nat → Rat) (hs : a.eval s = v) (hown : QO w base v n k qs) (g0 : Nat) (hx : a.eval x = .slice (some ⟨g0, 0, none⟩) 1 1) {g : Bool} {A : Option Addr} {n' c : Nat} {D : Option Addr} {m d : Nat} {q : Rat} (K0 : Blk w g0 [.bool g, .slice A n' c, .slice D m d] 31) (f : FrV w g A n' c D m d k q) (hn : n ≤ 1000000) (hbase : base ≤ w.heap.size)
    (h : ∀ w' g1 cap, QO w' base (.slice (some ⟨g1, 0, none⟩) (n + 1) cap) (n + 1) k (fun j => if j = n then q else qs j) → w.grownBy w' v.ownBlock → K (a.put o.dst (.slice (some ⟨g1, 0, none⟩) (n + 1) cap)) w') : o.wp Tryz.prog a w K Q := by
  obtain ⟨v', w', hr, h2, h3, g1, cap, rfl⟩ := run_append_rat (ty := o.type) hown K0 f hn hbase
  unfold Oper.wp execOp
  simp only [ho, resolve, invoke, builtin, Sem.run_bind, Sem.run_pure, Result.andThen_ok, List.map_toArray, List.map_cons, List.map_nil, hs, hx, hr]
  exact h w' g1 cap h2 h3
def PD.b5B (p : PD) (y : Nat → Rat) : Bool := sgdB p.rn p.ki y && lstB p.vn p.lo p.up p.op (p.redV y)
def PD.b5V (p : PD) (y : Nat → Rat) : Rat := if p.b5B y = true then cmbB p.rn p.bo y + lstV p.vn p.lo p.up p.op (p.redV y) else 0
structure R5 (w : World) (V0 : Option Addr) (vn vc : Nat) (R0 : Option Addr) (rn rc : Nat) (W : World) : Prop where
  bel : Below w.heap.size w W
  box : Blk W w.heap.size [.slice V0 vn vc, .slice R0 rn rc] 25
  res : Blk W (w.heap.size + 1) [.bool false, .slice none 0 0, .slice none 0 0] 31
theorem R5.keep {w : World} {V0 : Option Addr} {vn vc : Nat} {R0 : Option Addr} {rn rc : Nat} {W W' : World} (h : R5 w V0 vn vc R0 rn rc W) (b : Below W.heap.size W W') : R5 w V0 vn vc R0 rn rc W' := ⟨bx_call h.bel b, h.box.keep b, h.res.keep b⟩
theorem FrL.up9 {w : World} {A : Option Addr} {n c : Nat} {D : Option Addr} {m d j k : Nat} {q : Rat} (h : FrL w A n c D m d j q) (hk : j ≤ k) : FrL w A n c D m d k q := ⟨h.1, Nat.le_trans h.2.1 hk, h.2.2.1, Nat.le_trans h.2.2.2.1 hk, Nat.le_trans h.2.2.2.2 hk⟩
section
variable (p : PD) (A : Option Addr) (n c k : Nat) (qs : Nat → Rat) (w : World)
theorem r_signed (h : Pg w p) (hQ : Qs w A n c k qs) (hk : k ≤ 100) : Calls Tryz.prog 93 #[.agg #[.slice p.V0 p.vn p.vc, .slice p.R0 p.rn p.rc], .slice A n c] w (RetB w (sgdB p.rn p.ki (pt n qs))) :=
  rsigned p.V0 p.vn p.vc p.R0 p.rn p.rc p.nm p.gr p.ki p.bo p.TA p.tn p.tc p.v p.cf A n c k qs w h.rs hQ (by omega)
theorem r_combine (h : Pg w p) (hQ : Qs w A n c k qs) (hk : k ≤ 100) : Calls Tryz.prog 95 #[.agg #[.slice p.V0 p.vn p.vc, .slice p.R0 p.rn p.rc], .slice A n c] w (RetCm w p.vn 1100003 (cmbA p.rn p.tn p.v p.cf (pt n qs)) (cmbB p.rn p.bo (pt n qs))) :=
  rcombine p.V0 p.vn p.vc p.R0 p.rn p.rc p.nm p.gr p.ki p.bo p.TA p.tn p.tc p.v p.cf A n c k qs w (by have := h.vl; omega) h.rl h.rs h.tl hQ hk
theorem r_least (h : Pg w p) (f : Nat → Rat) (hQ : Qs w A p.vn c k qs) (hk : k ≤ 2200007) (hf : ∀ j, j < p.vn → qs j = f j) : Calls Tryz.prog 97 #[.agg #[.slice p.V0 p.vn p.vc, .slice p.R0 p.rn p.rc], .slice A p.vn c] w (RetVB w (lstV p.vn p.lo p.up p.op f) 220001001 (lstB p.vn p.lo p.up p.op f)) := by
  have h1 := h.vl
  have h3 : p.vn * (k + 3) ≤ 100 * 2200010 := mul_le (by omega) (by omega)
  have := rleast p.V0 p.vn p.vc p.R0 p.rn p.rc p.lo p.up p.op p.it p.co A p.vn c k qs w h.vs hQ (by omega)
  rw [lstV_congr (q := f) (fun j hj => (atQ_in hj).trans (hf j hj)), lstB_congr (q := f) (fun j hj => (atQ_in hj).trans (hf j hj))] at this
  exact this.mono fun _ _ r => by
    obtain ⟨g, A, n, c, D, m, d, e1, e2, e3⟩ := r
    exact ⟨g, A, n, c, D, m, d, e1, e2.up (by omega), e3⟩
end
set_option maxHeartbeats 16000000 in
theorem rbound5 (p : PD) (A : Option Addr) (n c k : Nat) (qs : Nat → Rat) (w : World) (h : Pg w p) (hQ : Qs w A n c k qs) (hk : k ≤ 100) :
    Calls Tryz.prog 91 #[.agg #[.slice p.V0 p.vn p.vc, .slice p.R0 p.rn p.rc], .slice A n c] w (RetLB w (p.b5V (pt n qs)) 440003000 (p.b5B (pt n qs))) := by
  have hvl := h.vl
  have hc1 := h.vs.1
  have hc2 := h.vs.2.1
  obtain ⟨W0, hW⟩ : ∃ W, W = (w.alloc (.cells #[.slice p.V0 p.vn p.vc, .slice p.R0 p.rn p.rc] 25)).alloc (.cells #[.bool false, .slice none 0 0, .slice none 0 0] 31) := ⟨_, rfl⟩
  have B0 := bx_alloc (bx_alloc (bx_refl w) (.cells #[.slice p.V0 p.vn p.vc, .slice p.R0 p.rn p.rc] 25)) (.cells #[.bool false, .slice none 0 0, .slice none 0 0] 31)
  have K0 := (Blk.new w [.slice p.V0 p.vn p.vc, .slice p.R0 p.rn p.rc] 25).alloc (.cells #[.bool false, .slice none 0 0, .slice none 0 0] 31)
  have K1 := blk_new1 w (.cells #[.slice p.V0 p.vn p.vc, .slice p.R0 p.rn p.rc] 25) [.bool false, .slice none 0 0, .slice none 0 0] 31
  change Blk ((w.alloc (.cells #[.slice p.V0 p.vn p.vc, .slice p.R0 p.rn p.rc] 25)).alloc (.cells #[.bool false, .slice none 0 0, .slice none 0 0] 31)) _ _ _ at K0 K1
  rw [← hW] at B0 K0 K1
  have P0 := hid (show R5 w p.V0 p.vn p.vc p.R0 p.rn p.rc W0 from ⟨B0, K0, K1⟩)
  have SG := hid (fun (W : World) (b : Below w.heap.size w W) => r_signed p A n c k qs W (h.keep b) (hQ.keep b) hk)
  have CO := hid (fun (W : World) (b : Below w.heap.size w W) => r_combine p A n c k qs W (h.keep b) (hQ.keep b) hk)
  obtain ⟨F, hF⟩ : ∃ F : Nat → Rat, F = cmbA p.rn p.tn p.v p.cf (pt n qs) := ⟨_, rfl⟩
  obtain ⟨q, hq⟩ : ∃ q : Nat → Rat, q = p.redV (pt n qs) := ⟨_, rfl⟩
  have HQJ := hid (fun j : Nat => (show q j = (p.co j : Rat) - F j by rw [hq, hF]; rfl))
  have LE := hid (fun (W : World) (b : Below w.heap.size w W) (A1 : Option Addr) (c1 : Nat) (L : Qs W A1 p.vn c1 2200007 q) => r_least p A1 c1 2200007 q W (h.keep b) q L (by omega) (fun j _ => rfl))
  obtain ⟨b1, hb1⟩ : ∃ b, b = sgdB p.rn p.ki (pt n qs) := ⟨_, rfl⟩
  obtain ⟨b2, hb2⟩ : ∃ b, b = lstB p.vn p.lo p.up p.op q := ⟨_, rfl⟩
  obtain ⟨qb, hqb⟩ : ∃ b, b = cmbB p.rn p.bo (pt n qs) := ⟨_, rfl⟩
  obtain ⟨ql, hql⟩ : ∃ b, b = lstV p.vn p.lo p.up p.op q := ⟨_, rfl⟩
  obtain ⟨r, hr⟩ : ∃ b, b = p.b5B (pt n qs) := ⟨_, rfl⟩
  obtain ⟨rv, hrv⟩ : ∃ b, b = p.b5V (pt n qs) := ⟨_, rfl⟩
  have er := hid (show r = (b1 && b2) by rw [hr, hb1, hb2, hq]; rfl)
  have ev := hid (show rv = if (b1 && b2) = true then qb + ql else 0 by rw [hrv, hb1, hb2, hqb, hql, hq]; rfl)
  rw [← hr, ← hrv]
  rw [← hb1] at SG
  rw [← hF, ← hqb] at CO
  rw [← hb2, ← hql] at LE
  have HV := hid h.vs
  have CB := hid h.vs.2.2.1
  have SU := hid (fun (W : World) (x z : Rat) (A1 : Option Addr) (n1 c1 : Nat) (D1 : Option Addr) (m1 d1 : Nat) (L : FrL W A1 n1 c1 D1 m1 d1 2 x) (g2 : Bool) (A2 : Option Addr) (n2 c2 : Nat) (D2 : Option Addr) (m2 d2 : Nat) (M : FrV W g2 A2 n2 c2 D2 m2 d2 1100003 z) => vrsub (sg x.num) A1 n1 c1 D1 m1 d1 g2 A2 n2 c2 D2 m2 d2 1100003 x z W (L.v.up (by omega)) M (by omega))
  have AD := hid (fun (W : World) (g1 : Bool) (A1 : Option Addr) (n1 c1 : Nat) (D1 : Option Addr) (m1 d1 : Nat) (L : FrV W g1 A1 n1 c1 D1 m1 d1 1100003 qb) (g2 : Bool) (A2 : Option Addr) (n2 c2 : Nat) (D2 : Option Addr) (m2 d2 : Nat) (M : FrV W g2 A2 n2 c2 D2 m2 d2 220001001 ql) => vradd g1 A1 n1 c1 D1 m1 d1 g2 A2 n2 c2 D2 m2 d2 220001001 qb ql W (L.up (by omega)) M (by omega))
  obtain ⟨V0, vn, vc, lo, up, op, it, co, R0, rn, rc, nm, gr, ki, bo, TA, tn, tc, v, cf⟩ := p
  dsimp only at hvl hc1 hc2 hW P0 SG CO HQJ LE HV CB ⊢
  clear h hQ hk B0 K0 K1 hF hq hb1 hb2 hqb hql hr hrv
  go_enter Tryz.func91, Tryz.ntmps91
  go_upto_region 1 with fail
  rw [← hW]
  clear hW
  obtain ⟨z0, z1⟩ := blk_two P0.out.box
  go_wp2_with fail
  refine (SG.out _ P0.out.bel).mono ?_
  rintro e W1 ⟨rfl, b⟩
  have P1 := hid (P0.out.keep b)
  clear P0 SG b z0 z1
  obtain ⟨z0, z1⟩ := blk_two P1.out.box
  cases b1
  · obtain ⟨w0, w1, w2⟩ := blk_three P1.out.res
    have f0 := P1.out.res.free 0
    have f1 := P1.out.res.free 1
    have f2 := P1.out.res.free 2
    have EE := hid (retlb_as (retlb_zero (b := false) (k := 440003000) (by omega) P1.out.res P1.out.bel (by omega)) (show rv = 0 by rw [ev.out]; rfl) (show r = false by rw [er.out]; rfl))
    clear CO LE SU AD HV CB HQJ P1 er ev
    go_wp2_with fail
    exact bodyPost_ret (v := .tuple #[.agg #[.bool false, .slice none 0 0, .slice none 0 0], .bool false]) (by simp [results, Tryz.results91, go_sem, w0, w1, w2]) rfl EE.out
  go_wp2_with fail
  refine (CO.out _ P1.out.bel).mono ?_
  rintro e W2 ⟨Cb, gb, Ab, nb, cb, Db, mb, db, rfl, qq, fb, _, b⟩
  have P2 := hid (P1.out.keep b)
  have Q2 := hid qq
  have F2 := hid fb
  clear P1 CO b qq fb z0 z1
  go_upto_region 4 with fail
  obtain ⟨W3, bb, hW, hp, b, kk⟩ := mk_cells W2 [.bool gb, .slice Ab nb cb, .slice Db mb db] 31
  simp only [List.toArray] at hW
  rw [← hW, ← hp]
  have P3 := hid (P2.out.keep b)
  have Q3 := hid (Q2.out.keep b)
  have F3 := hid (F2.out.keep b)
  have K3 := hid kk
  clear hW hp b kk P2 Q2 F2
  have ST := hid (show PIn W3 (.slice (some ⟨W3.heap.size, 0, none⟩) 0 0) 0 2200007 q (W3.alloc (.cells #[] 31)) from ⟨bx_alloc (bx_refl W3) _, QO.start W3 2200007 _⟩)
  go_wp2_with fail
  go_loopw [8, 9] (fun u i wr => ∃ j : Nat, j ≤ vn ∧ i = .int .i64 j ∧ (∃ A0 c0, u = .slice A0 j c0) ∧ Hid (PIn W3 u j 2200007 q wr)) (fun _ i _ => vn - (intOf i).toNat)
  case atStart => exact ⟨0, Nat.zero_le _, rfl, ⟨_, _, rfl⟩, ST⟩
  case round =>
    clear ST
    obtain ⟨j, hj, rfl, ⟨A0, c0, rfl⟩, hz⟩ := hrel
    obtain ⟨z0, z1⟩ := blk_two (P3.out.box.keep hz.out.bel)
    rcases Nat.lt_or_ge j vn with hlt | hge
    · obtain ⟨bv, ov, rfl, hbv, hcell⟩ := HV.out.2.2.2 (by omega)
      obtain ⟨_, _, c1, c2⟩ := CB.out j hlt
      have x4 := cell_bx (hcell j hlt).2.2.2.2 (bx_call P3.out.bel hz.out.bel)
      obtain ⟨gj, Aj, nj, cj, Dj, mj, dj, y0, y1, y2, FJ⟩ := (Q3.out.keep hz.out.bel).get hlt
      have NX := hid (fun (w' : World) (g1 cap : Nat) (W : World) (P : PIn W3 (.slice A0 j c0) j 2200007 q W) (qv : Rat) (hqv : qv = q j) (x : QO w' W3.heap.size (.slice (some ⟨g1, 0, none⟩) (j + 1) cap) (j + 1) 2200007 (fun i => if i = j then qv else q i)) (hg : W.grownBy w' (Value.slice A0 j c0).ownBlock) => (show PIn W3 (.slice (some ⟨g1, 0, none⟩) (j + 1) cap) (j + 1) 2200007 q w' from P.grow (x.congr fun i hi => by
        show (if i = j then qv else q i) = q i
        by_cases e : i = j
        · rw [if_pos e, hqv, e]
        · rw [if_neg e]) hg))
      have HJ := hid (HQJ.out j)
      have FR := hid (fun (W : World) => vrfrom (co j) W c1 c2)
      obtain ⟨Fj, hFj⟩ : ∃ x, x = F j := ⟨_, rfl⟩
      obtain ⟨C, hC⟩ : ∃ x, x = co j := ⟨_, rfl⟩
      rw [← hFj] at HJ FJ
      rw [← hC] at HJ FR x4
      obtain ⟨qz, hqz⟩ : ∃ x, x = (C : Rat) := ⟨_, rfl⟩
      rw [← hqz] at HJ FR
      have P0 := hid hz.out
      have FF := hid FJ
      have hn9 : j ≤ 1000000 := by omega
      have KC := hid (fun (W : World) (b : Below wr.heap.size wr W) => (show ((W.cell? ⟨w.heap.size, 0, none⟩ = some (.slice (some ⟨bv, ov, none⟩) vn vc)) ∧ W.cell? ⟨bv, ov + j * 5 + 4, none⟩ = some (.int .i64 C)) ∧ (W.cell? ⟨Cb, j * 3, none⟩ = some (.bool gj) ∧ W.cell? ⟨Cb, j * 3 + 1, none⟩ = some (.slice Aj nj cj) ∧ W.cell? ⟨Cb, j * 3 + 2, none⟩ = some (.slice Dj mj dj)) from ⟨⟨cell_bx z0 b, cell_bx x4 b⟩, cell_bx y0 b, cell_bx y1 b, cell_bx y2 b⟩))
      have KG := hid (fun (W : World) (P : PIn W3 (.slice A0 j c0) j 2200007 q W) (b : Below wr.heap.size wr W) (w' : World) (hg : W.grownBy w' (Value.slice A0 j c0).ownBlock) => (show ((w'.cell? ⟨w.heap.size, 0, none⟩ = some (.slice (some ⟨bv, ov, none⟩) vn vc)) ∧ w'.cell? ⟨bv, ov + j * 5 + 4, none⟩ = some (.int .i64 C)) ∧ (w'.cell? ⟨Cb, j * 3, none⟩ = some (.bool gj) ∧ w'.cell? ⟨Cb, j * 3 + 1, none⟩ = some (.slice Aj nj cj) ∧ w'.cell? ⟨Cb, j * 3 + 2, none⟩ = some (.slice Dj mj dj)) by
        have hlt9 := P.own.lt
        have near : ∀ {x o : Nat} {u : Value}, x < W3.heap.size → W.cell? ⟨x, o, none⟩ = some u → w'.cell? ⟨x, o, none⟩ = some u := fun {x o u} hx hu => by
          rw [← hu]
          exact World.cell?_of_block (hg.block x (by have := P.bel.size; omega) (fun e => by have := (hlt9 x e.symm).1; omega))
        have l1 := P3.out.box.lt
        have l2 := Q3.out.lt
        have l3 : bv < W3.heap.size := by have := P3.out.bel.size; omega
        exact ⟨⟨near l1 (cell_bx z0 b), near l3 (cell_bx x4 b)⟩, near l2 (cell_bx y0 b), near l2 (cell_bx y1 b), near l2 (cell_bx y2 b)⟩))
      have XX := hid (bx_refl wr)
      clear hz hFj hC hqz HQJ hcell FJ
      go_upto_region 8 with fail
      (try simp only [List.append_eq, List.cons_append, List.nil_append])
      refine wp_region_noPanic ?_
      refine wp_region_held_drew (S := (fun W => ((W.cell? ⟨w.heap.size, 0, none⟩ = some (.slice (some ⟨bv, ov, none⟩) vn vc)) ∧ W.cell? ⟨bv, ov + j * 5 + 4, none⟩ = some (.int .i64 C)) ∧ (W.cell? ⟨Cb, j * 3, none⟩ = some (.bool gj) ∧ W.cell? ⟨Cb, j * 3 + 1, none⟩ = some (.slice Aj nj cj) ∧ W.cell? ⟨Cb, j * 3 + 2, none⟩ = some (.slice Dj mj dj)))) (by kernel_rfl) ?_ (fun hH => ?_)
      exact (KC.out _ (bx_drew (bx_refl _)))
      have bd := bx_drew (bx_refl wr)
      obtain ⟨E0, hW0⟩ : ∃ W, W = wr.drew := ⟨_, rfl⟩
      rw [← hW0] at bd hH ⊢
      clear hW0
      have P1 := hid (P0.out.keep bd)
      have X1 := hid (bx_call XX.out bd)
      have FF_1 := hid (FF.out.keep bd)
      clear bd P0 XX FF
      refine tk 0 hH ?_
      (try simp only [Act.put, gy0, gy1, gy2])
      refine tk 1 hH ?_
      (try simp only [Act.put, gy0, gy1, gy2])
      refine tk 2 hH ?_
      (try simp only [Act.put, gy0, gy1, gy2])
      refine tk 3 hH ?_
      (try simp only [Act.put, gy0, gy1, gy2])
      refine tk 4 hH ?_
      (try simp only [Act.put, gy0, gy1, gy2])
      refine tk 5 hH ?_
      (try simp only [Act.put, gy0, gy1, gy2])
      refine tk 6 hH ?_
      (try simp only [Act.put, gy0, gy1, gy2])
      refine tk 8 hH ?_
      (try simp only [Act.put, gy0, gy1, gy2])
      refine tk 9 hH ?_
      (try simp only [Act.put, gy0, gy1, gy2])
      refine tk 10 hH ?_
      (try simp only [Act.put, gy0, gy1, gy2])
      refine tk 11 hH ?_
      (try simp only [Act.put, gy0, gy1, gy2])
      refine wpAnyH_ready (rs := [7]) (by kernel_rfl) (by simp) ?_
      refine rdy (fun K hK => ?_) AllReadyH.nil
      go_simp
      refine (FR.out _).mono ?_
      rintro e v2 ⟨A1, n1, cc1, D1, m1, d1, rfl, r, b⟩
      have P2 := hid (P1.out.keep b)
      have X2 := hid (bx_call X1.out b)
      have FF_2 := hid (FF_1.out.keep b)
      clear b hH P1 X1 FF_1
      have RF_2 := hid r
      clear r
      (try go_wp2_with fail)
      refine hK.out _ _ ?_ (fun hH => ?_)
      exact (KC.out _ X2.out)
      clear hK K
      (try simp only [Act.put, gy0, gy1, gy2])
      refine wpAnyH_ready (rs := [12]) (by kernel_rfl) (by simp) ?_
      refine rdy (fun K hK => ?_) AllReadyH.nil
      go_simp
      refine (SU.out _ qz Fj A1 n1 cc1 D1 m1 d1 RF_2.out gj Aj nj cj Dj mj dj FF_2.out).mono ?_
      rintro e v3 ⟨A2, n2, cc2, D2, m2, d2, rfl, r, b⟩
      have P3 := hid (P2.out.keep b)
      have X3 := hid (bx_call X2.out b)
      clear b hH P2 X2 
      have RS_3 := hid r
      clear r RF_2 FF_2
      (try go_wp2_with fail)
      refine hK.out _ _ ?_ (fun hH => ?_)
      exact (KC.out _ X3.out)
      clear hK K
      (try simp only [Act.put, gy0, gy1, gy2])
      refine wpAnyH_ready (rs := [13]) (by kernel_rfl) (by simp) ?_
      refine rdy (fun K hK => ?_) AllReadyH.nil
      go_simp
      obtain ⟨v4, nb9, hW, hp, b, kk⟩ := mk_cells v3 [.bool (sg (qz - Fj).num), .slice A2 n2 cc2, .slice D2 m2 d2] 31
      simp only [List.toArray] at hW
      rw [← hW, ← hp]
      clear hW hp
      have P4 := hid (P3.out.keep b)
      have X4 := hid (bx_call X3.out b)
      have RS_4 := hid (RS_3.out.keep b)
      clear b hH P3 X3 RS_3
      have KN := hid kk
      clear kk
      refine hK.out _ _ ?_ (fun hH => ?_)
      exact (KC.out _ X4.out)
      clear hK K
      (try simp only [Act.put, gy0, gy1, gy2])
      refine wpAnyH_ready (rs := [14]) (by kernel_rfl) (by simp) ?_
      refine rdy (fun K hK => ?_) AllReadyH.nil
      rw [if_pos (by rfl)]
      refine wp_append_q (.tmp 31) (.tmp 44) rfl W3.heap.size (.slice A0 j c0) j 2200007 _ rfl P4.out.own nb9 rfl KN.out RS_4.out.v hn9 P4.out.bel.size ?_
      intro v8 g9 cap x hg
      have P8 := hid (NX.out v8 g9 cap v4 P4.out _ HJ.out.symm x hg)
      have C8 := hid (KG.out v4 P4.out X4.out v8 hg)
      clear x hg hH P4 KN RS_4 X4
      (try go_wp2_with fail)
      refine hK.out _ _ ?_ (fun hH => ?_)
      exact C8.out
      clear hK K
      (try simp only [Act.put, gy0, gy1, gy2])
      refine tk 15 hH ?_
      (try simp only [Act.put, gy0, gy1, gy2])
      refine wpAnyH_done (by kernel_rfl) ?_ _
      refine NoPanic.normal ?_
      clear hH
      clear FR NX HJ KC KG y0 y1 y2 x4 z0 z1 C8
      go_wp2_with fail
      go_roundw
      case rel => exact ⟨j + 1, by omega, by go_num, ⟨_, _, rfl⟩, P8⟩
      case measure => simp [intOf]; omega
    · obtain rfl : j = vn := by omega
      obtain ⟨A2, c2, e2, q2⟩ := hz.out.own.qs (by omega)
      obtain ⟨rfl, _, rfl⟩ : A0 = A2 ∧ True ∧ c0 = c2 := by
        simp only [Value.slice.injEq] at e2
        exact ⟨e2.1, trivial, e2.2.2⟩
      have P4 := hid (P3.out.keep hz.out.bel)
      have F4 := hid (F3.out.keep hz.out.bel)
      have K4 := hid (K3.out.keep hz.out.bel)
      have QD := hid q2
      clear hz e2 q2 HV CB HQJ SU P3 Q3 F3 K3
      go_wp2_with fail
      refine (LE.out _ P4.out.bel _ _ QD.out).mono ?_
      rintro e W5 ⟨gl, Al, nl, cl, Dl, ml, dl, rfl, fl, b⟩
      have P5 := hid (P4.out.keep b)
      have F5 := hid (F4.out.keep b)
      have K5 := hid (K4.out.keep b)
      have FL := hid fl
      clear LE QD P4 F4 K4 fl b z0 z1
      go_upto_region 10 with fail
      obtain ⟨W6, lb, hW, hp, b, kk⟩ := mk_cells W5 [.bool gl, .slice Al nl cl, .slice Dl ml dl] 31
      simp only [List.toArray] at hW
      rw [← hW, ← hp]
      have P6 := hid (P5.out.keep b)
      have F6 := hid (F5.out.keep b)
      have K6 := hid (K5.out.keep b)
      have FL6 := hid (FL.out.keep b)
      have KL6 := hid kk
      clear hW hp b kk P5 F5 K5 FL
      obtain ⟨w0, w1, w2⟩ := blk_three P6.out.res
      cases b2
      · have f0 := P6.out.res.free 0
        have f1 := P6.out.res.free 1
        have f2 := P6.out.res.free 2
        have EE := hid (retlb_as (retlb_zero (b := false) (k := 440003000) (by omega) P6.out.res P6.out.bel (by omega)) (show rv = 0 by rw [ev.out]; rfl) (show r = false by rw [er.out]; rfl))
        clear AD P6 F6 K6 FL6 KL6 er ev
        go_wp2_with fail
        exact bodyPost_ret (v := .tuple #[.agg #[.bool false, .slice none 0 0, .slice none 0 0], .bool false]) (by simp [results, Tryz.results91, go_sem, w0, w1, w2]) rfl EE.out
      · obtain ⟨y0, y1, y2⟩ := blk_three K6.out
        obtain ⟨x0, x1, x2⟩ := blk_three KL6.out
        go_wp2_with fail
        refine (AD.out _ gb Ab nb cb Db mb db F6.out gl Al nl cl Dl ml dl FL6.out).mono ?_
        rintro e W7 ⟨Ar, nr, cr, Dr, mr, dr, rfl, fr, b⟩
        have P7 := hid (P6.out.keep b)
        have FR := hid fr
        clear AD P6 F6 K6 FL6 KL6 fr b y0 y1 y2 x0 x1 x2 w0 w1 w2
        obtain ⟨w0, w1, w2⟩ := blk_three P7.out.res
        have f0 := P7.out.res.free 0
        have f1 := P7.out.res.free 1
        have f2 := P7.out.res.free 2
        have EE := hid (retlb_as (b := true) (b' := r) (q' := rv) (retlb_end (b := true) (k := 440003000) (FrL.up9 FR.out (by omega)) P7.out.res P7.out.bel (by omega)) (show rv = qb + ql by rw [ev.out]; rfl) (show r = true by rw [er.out]; rfl))
        clear P7 FR er ev
        go_wp2_with fail
        exact bodyPost_ret (v := .tuple #[.agg #[.bool (sg (qb + ql).num), .slice Ar nr cr, .slice Dr mr dr], .bool true]) (by simp [results, Tryz.results91, go_sem, w0, w1, w2]) rfl EE.out
def PD.i5B (p : PD) (y : Nat → Rat) : Bool := sgdB p.rn p.ki y && (empB p.vn p.lo p.up p.op || p.excB y)
structure I5 (w : World) (V0 : Option Addr) (vn vc : Nat) (R0 : Option Addr) (rn rc : Nat) (bb Cb : Nat) (g : Bool) (A : Option Addr) (n c : Nat) (D : Option Addr) (m d : Nat) (b : Rat) (f : Nat → Rat) (W : World) : Prop where
  kp : Kp w V0 vn vc R0 rn rc W
  bnd : Blk W bb [.bool g, .slice A n c, .slice D m d] 31
  fr : FrV W g A n c D m d 1100003 b
  qb : QB W Cb vn 1100003 f
section
variable {w W W' : World} {V0 : Option Addr} {vn vc : Nat} {R0 : Option Addr} {rn rc : Nat} {bb Cb : Nat} {g : Bool} {A : Option Addr} {n c : Nat} {D : Option Addr} {m d : Nat} {b : Rat} {f : Nat → Rat}
theorem I5.keep (h : I5 w V0 vn vc R0 rn rc bb Cb g A n c D m d b f W) (hb : Below W.heap.size W W') : I5 w V0 vn vc R0 rn rc bb Cb g A n c D m d b f W' := ⟨h.kp.keep hb, h.bnd.keep hb, h.fr.keep hb, h.qb.keep hb⟩
theorem I5.store (h : I5 w V0 vn vc R0 rn rc bb Cb g A n c D m d b f W) (h1 : w.heap.size < Cb) (h3 : bb ≠ Cb) {i : Nat} (hi : i < vn) {g1 : Bool} {A1 : Option Addr} {n1 c1 : Nat} {D1 : Option Addr} {m1 d1 : Nat} {q : Rat} (r : FrV W g1 A1 n1 c1 D1 m1 d1 1100003 q) :
    I5 w V0 vn vc R0 rn rc bb Cb g A n c D m d b (fun j => if j = i then q else f j) (((W.setCell ⟨Cb, i * 3, none⟩ (.bool g1)).setCell ⟨Cb, i * 3 + 1, none⟩ (.slice A1 n1 c1)).setCell ⟨Cb, i * 3 + 2, none⟩ (.slice D1 m1 d1)) :=
  ⟨⟨bx_set (bx_set (bx_set h.kp.bel (by omega)) (by omega)) (by omega), ((h.kp.box.far (by omega) _).far (by omega) _).far (by omega) _⟩, ((h.bnd.far h3 _).far h3 _).far h3 _, h.qb.other _ _ _ h.fr, h.qb.set hi r⟩
theorem I5.congr (h : I5 w V0 vn vc R0 rn rc bb Cb g A n c D m d b f W) {f' : Nat → Rat} (e : ∀ j, j < vn → f j = f' j) : I5 w V0 vn vc R0 rn rc bb Cb g A n c D m d b f' W := ⟨h.kp, h.bnd, h.fr, h.qb.congr e⟩
end
set_option maxHeartbeats 8000000 in
theorem rfea5 (p : PD) (A : Option Addr) (n c k : Nat) (qs : Nat → Rat) (w : World) (h : Pg w p) (hQ : Qs w A n c k qs) (hk : k ≤ 100) :
    Calls Tryz.prog 92 #[.agg #[.slice p.V0 p.vn p.vc, .slice p.R0 p.rn p.rc], .slice A n c] w (RetB w (p.feaB (pt n qs))) := by
  obtain ⟨W0, hW⟩ : ∃ W, W = w.alloc (.cells #[.slice p.V0 p.vn p.vc, .slice p.R0 p.rn p.rc] 25) := ⟨_, rfl⟩
  have B0 := bx_alloc (bx_refl w) (.cells #[.slice p.V0 p.vn p.vc, .slice p.R0 p.rn p.rc] 25)
  have K0 := Blk.new w [.slice p.V0 p.vn p.vc, .slice p.R0 p.rn p.rc] 25
  change Blk (w.alloc (.cells #[.slice p.V0 p.vn p.vc, .slice p.R0 p.rn p.rc] 25)) _ _ _ at K0
  rw [← hW] at B0 K0
  have P0 := hid (show Kp w p.V0 p.vn p.vc p.R0 p.rn p.rc W0 from ⟨B0, K0⟩)
  have ef : p.feaB (pt n qs) = (p.inB (pt n qs) && decide (vio (p.rowB (pt n qs)) p.rn = [])) := by unfold PD.feaB; rw [vio_dec]
  rw [ef]
  have C1 := hid (fun (W : World) (b : Below w.heap.size w W) => r_inside p A n c k qs W (h.keep b) (hQ.keep b) hk)
  have C2 := hid (fun (W : World) (b : Below w.heap.size w W) => r_violated p A n c k qs W (h.keep b) (hQ.keep b) hk)
  obtain ⟨b1, hb1⟩ : ∃ b, b = p.inB (pt n qs) := ⟨_, rfl⟩
  obtain ⟨l, hl⟩ : ∃ b, b = vio (p.rowB (pt n qs)) p.rn := ⟨_, rfl⟩
  rw [← hb1] at C1 ⊢
  rw [← hl] at C2 ⊢
  obtain ⟨r, hr⟩ : ∃ r, r = (b1 && decide (l = [])) := ⟨_, rfl⟩
  rw [← hr]
  have er := hid hr
  obtain ⟨V0, vn, vc, lo, up, op, it, co, R0, rn, rc, nm, gr, ki, bo, TA, tn, tc, v, cf⟩ := p
  dsimp only at hW P0 C1 C2 ⊢
  clear h hQ hk ef hb1 hl hr B0 K0
  go_enter Tryz.func92, Tryz.ntmps92
  go_upto_region 1 with fail
  rw [← hW]
  clear hW
  obtain ⟨z0, z1⟩ := blk_two P0.out.box
  go_wp2_with fail
  refine (C1.out _ P0.out.bel).mono ?_
  rintro e W1 ⟨rfl, b⟩
  have P1 := hid (P0.out.keep b)
  clear P0 C1 b z0 z1
  obtain ⟨z0, z1⟩ := blk_two P1.out.box
  cases b1
  · have EE := hid (vld_no (by rw [er.out]; rfl : r = false) P1.out.bel)
    clear C2 P1 er
    go_wp2_with fail
    go_ret
    exact EE.out
  go_wp2_with fail
  refine (C2.out _ P1.out.bel).mono ?_
  rintro e W2 ⟨LA, Lc, rfl, _, b⟩
  have P2 := hid (P1.out.keep b)
  clear P1 C2 b z0 z1
  cases l with
  | cons l0 l =>
    have EE := hid (vld_no (by rw [er.out]; rfl : r = false) P2.out.bel)
    have hlen : (l0 :: l).length = l.length + 1 := rfl
    rw [hlen]
    obtain ⟨L, hL⟩ : ∃ L, L = l.length := ⟨_, rfl⟩
    rw [← hL]
    have t1 : (((L + 1 : Nat) : Int) == 0) = false := beq_eq_false_iff_ne.2 (by omega)
    have t2 : ((L : Int) + 1 == 0) = false := beq_eq_false_iff_ne.2 (by omega)
    have t3 : decide ((L : Int) + 1 = 0) = false := decide_eq_false (by omega)
    clear P2 er hL hlen
    go_wp2_with fail
    go_ret
    exact EE.out
  | nil =>
    have EE := hid (vld_yes (by rw [er.out]; rfl : r = true) P2.out.bel)
    have hlen : ([] : List Nat).length = 0 := rfl
    rw [hlen]
    clear P2 er hlen
    go_wp2_with fail
    go_ret
    exact EE.out
set_option maxHeartbeats 16000000 in
theorem rinf5 (p : PD) (A : Option Addr) (n c k : Nat) (qs : Nat → Rat) (w : World) (h : Pg w p) (hQ : Qs w A n c k qs) (hk : k ≤ 100) :
    Calls Tryz.prog 59 #[.agg #[.slice p.V0 p.vn p.vc, .slice p.R0 p.rn p.rc], .slice A n c] w (RetB w (p.i5B (pt n qs))) := by
  have hvl := h.vl
  obtain ⟨W0, hW⟩ : ∃ W, W = w.alloc (.cells #[.slice p.V0 p.vn p.vc, .slice p.R0 p.rn p.rc] 25) := ⟨_, rfl⟩
  have B0 := bx_alloc (bx_refl w) (.cells #[.slice p.V0 p.vn p.vc, .slice p.R0 p.rn p.rc] 25)
  have K0 := Blk.new w [.slice p.V0 p.vn p.vc, .slice p.R0 p.rn p.rc] 25
  change Blk (w.alloc (.cells #[.slice p.V0 p.vn p.vc, .slice p.R0 p.rn p.rc] 25)) _ _ _ at K0
  rw [← hW] at B0 K0
  have P0 := hid (show Kp w p.V0 p.vn p.vc p.R0 p.rn p.rc W0 from ⟨B0, K0⟩)
  have SG := hid (fun (W : World) (b : Below w.heap.size w W) => r_signed p A n c k qs W (h.keep b) (hQ.keep b) hk)
  have EM := hid (fun (W : World) (b : Below w.heap.size w W) => rempty p.V0 p.vn p.vc p.R0 p.rn p.rc p.lo p.up p.op p.it p.co W (h.keep b).vs)
  have CO := hid (fun (W : World) (b : Below w.heap.size w W) => r_combine p A n c k qs W (h.keep b) (hQ.keep b) hk)
  obtain ⟨F, hF⟩ : ∃ F : Nat → Rat, F = cmbA p.rn p.tn p.v p.cf (pt n qs) := ⟨_, rfl⟩
  have eN : p.negV (pt n qs) = fun j => -F j := by rw [hF]; rfl
  have LE := hid (fun (W : World) (b : Below w.heap.size w W) (A1 : Option Addr) (c1 : Nat) (f : Nat → Rat) (L : Qs W A1 p.vn c1 1100003 f) (hf : ∀ j, j < p.vn → f j = -F j) => r_least p A1 c1 1100003 f W (h.keep b) (fun j => -F j) L (by omega) hf)
  obtain ⟨b1, hb1⟩ : ∃ b, b = sgdB p.rn p.ki (pt n qs) := ⟨_, rfl⟩
  obtain ⟨b2, hb2⟩ : ∃ b, b = empB p.vn p.lo p.up p.op := ⟨_, rfl⟩
  obtain ⟨b3, hb3⟩ : ∃ b, b = lstB p.vn p.lo p.up p.op (fun j => -F j) := ⟨_, rfl⟩
  obtain ⟨qb, hqb⟩ : ∃ b, b = cmbB p.rn p.bo (pt n qs) := ⟨_, rfl⟩
  obtain ⟨ql, hql⟩ : ∃ b, b = lstV p.vn p.lo p.up p.op (fun j => -F j) := ⟨_, rfl⟩
  obtain ⟨r, hr⟩ : ∃ b, b = p.i5B (pt n qs) := ⟨_, rfl⟩
  obtain ⟨s, hs⟩ : ∃ s, s = sgnQ (qb + ql) := ⟨_, rfl⟩
  have er := hid (show r = (b1 && (b2 || (b3 && decide (0 < s)))) by
    rw [hr, hb1, hb2, hb3, hs, hqb, hql]
    unfold PD.i5B PD.excB
    rw [eN]
    congr 3
    refine decide_eq_decide.2 ?_
    rw [show lstV p.vn p.lo p.up p.op (fun j => -F j) - -cmbB p.rn p.bo (pt n qs) = cmbB p.rn p.bo (pt n qs) + lstV p.vn p.lo p.up p.op (fun j => -F j) by grind])
  rw [← hr]
  rw [← hb1] at SG
  rw [← hb2] at EM
  rw [← hF, ← hqb] at CO
  rw [← hb3, ← hql] at LE
  have NE := hid (fun (W : World) (q : Rat) (g1 : Bool) (A1 : Option Addr) (n1 c1 : Nat) (D1 : Option Addr) (m1 d1 : Nat) (L : FrV W g1 A1 n1 c1 D1 m1 d1 1100003 q) => vrneg g1 A1 n1 c1 D1 m1 d1 1100003 q W L (by omega))
  have AD := hid (fun (W : World) (g1 : Bool) (A1 : Option Addr) (n1 c1 : Nat) (D1 : Option Addr) (m1 d1 : Nat) (L : FrV W g1 A1 n1 c1 D1 m1 d1 1100003 qb) (g2 : Bool) (A2 : Option Addr) (n2 c2 : Nat) (D2 : Option Addr) (m2 d2 : Nat) (M : FrV W g2 A2 n2 c2 D2 m2 d2 220001001 ql) => vradd g1 A1 n1 c1 D1 m1 d1 g2 A2 n2 c2 D2 m2 d2 220001001 qb ql W (L.up (by omega)) M (by omega))
  have SI := hid (fun (W : World) (A1 : Option Addr) (n1 c1 : Nat) (D1 : Option Addr) (m1 d1 : Nat) (L : FrL W A1 n1 c1 D1 m1 d1 (220001001 + 220001001 + 1) (qb + ql)) => (show Calls Tryz.prog 12 #[.agg #[.bool (sg (qb + ql).num), .slice A1 n1 c1, .slice D1 m1 d1]] W (RetI W s) by rw [hs]; exact vrsign _ A1 n1 c1 D1 m1 d1 (220001001 + 220001001 + 1) (qb + ql) W L.v (by omega)))
  obtain ⟨V0, vn, vc, lo, up, op, it, co, R0, rn, rc, nm, gr, ki, bo, TA, tn, tc, v, cf⟩ := p
  dsimp only at hvl hW P0 SG EM CO LE ⊢
  clear h hQ hk B0 K0 hF hb1 hb2 hb3 hqb hql hr eN hs
  go_enter Tryz.func59, Tryz.ntmps59
  go_upto_region 1 with fail
  rw [← hW]
  clear hW
  obtain ⟨z0, z1⟩ := blk_two P0.out.box
  go_wp2_with fail
  refine (SG.out _ P0.out.bel).mono ?_
  rintro e W1 ⟨rfl, b⟩
  have P1 := hid (P0.out.keep b)
  clear P0 SG b z0 z1
  obtain ⟨z0, z1⟩ := blk_two P1.out.box
  cases b1
  · have EE := hid (vld_no (by rw [er.out]; rfl : r = false) P1.out.bel)
    clear EM CO LE NE AD SI P1 er
    go_wp2_with fail
    go_ret
    exact EE.out
  go_wp2_with fail
  refine (EM.out _ P1.out.bel).mono ?_
  rintro e W2 ⟨rfl, b⟩
  have P2 := hid (P1.out.keep b)
  clear P1 EM b z0 z1
  obtain ⟨z0, z1⟩ := blk_two P2.out.box
  cases b2
  case true =>
    have EE := hid (vld_yes (by rw [er.out]; rfl : r = true) P2.out.bel)
    clear CO LE NE AD SI P2 er
    go_wp2_with fail
    go_ret
    exact EE.out
  go_wp2_with fail
  refine (CO.out _ P2.out.bel).mono ?_
  rintro e W3 ⟨Cb, gb, Ab, nb, cb, Db, mb, db, rfl, qq, fb, hCb, b⟩
  have P3 := hid (P2.out.keep b)
  have Q3 := hid qq
  have F3 := hid fb
  have hs1 : w.heap.size < Cb := Nat.lt_of_lt_of_le P2.out.box.lt hCb
  have hs2 : Cb < W3.heap.size := qq.lt
  clear P2 CO b qq fb z0 z1 hCb
  go_upto_region 6 with fail
  obtain ⟨W4, bb, hW, hp, b, kk⟩ := mk_cells W3 [.bool gb, .slice Ab nb cb, .slice Db mb db] 31
  simp only [List.toArray] at hW
  have hs3 : bb ≠ Cb := by omega
  rw [← hW, ← hp]
  have ST := hid (show I5 w V0 vn vc R0 rn rc bb Cb gb Ab nb cb Db mb db qb (fun x => if x < 0 then -F x else F x) W4 from ⟨P3.out.keep b, kk, F3.out.keep b, (Q3.out.keep b).congr fun x _ => by rw [if_neg (by omega)]⟩)
  clear hW hp b kk P3 Q3 F3 hs2
  go_wp2_with fail
  go_loopw [7] (fun i wr => ∃ j : Nat, j ≤ vn ∧ i = .int .i64 j ∧ Hid (I5 w V0 vn vc R0 rn rc bb Cb gb Ab nb cb Db mb db qb (fun x => if x < j then -F x else F x) wr)) (fun i _ => vn - (intOf i).toNat)
  case atStart => exact ⟨0, Nat.zero_le _, rfl, ST⟩
  case round =>
    clear ST
    obtain ⟨j, hj, rfl, hz⟩ := hrel
    rcases Nat.lt_or_ge j vn with hlt | hge
    · obtain ⟨gj, Aj, nj, cj, Dj, mj, dj, y0, y1, y2, FJ⟩ := hz.out.qb.get hlt
      have FJ : FrV wr gj Aj nj cj Dj mj dj 1100003 (F j) := by
        have : (if j < j then -F j else F j) = F j := if_neg (by omega)
        rw [← this]; exact FJ
      have NC := hid (NE.out wr (F j) gj Aj nj cj Dj mj dj FJ)
      have NX := hid (fun (W : World) (b : Below wr.heap.size wr W) (g2 : Bool) (A2 : Option Addr) (n2 c2 : Nat) (D2 : Option Addr) (m2 d2 : Nat) (r : FrV W g2 A2 n2 c2 D2 m2 d2 1100003 (-F j)) => ((hz.out.keep b).store hs1 hs3 hlt r).congr (f' := fun x => if x < j + 1 then -F x else F x) (fun x _ => by
        show (if x = j then -F j else if x < j then -F x else F x) = _
        by_cases e : x = j
        · rw [if_pos e, if_pos (by omega), e]
        · rw [if_neg e]
          by_cases e2 : x < j
          · rw [if_pos e2, if_pos (by omega)]
          · rw [if_neg e2, if_neg (by omega)]))
      have QF := hid (fun (W : World) (b : Below wr.heap.size wr W) (o : Nat) => (hz.out.qb.keep b).free o)
      obtain ⟨Nj, hNj⟩ : ∃ x, x = -F j := ⟨_, rfl⟩
      rw [← hNj] at NC NX
      clear hz hNj FJ LE NE AD SI er
      go_wp2_with fail
      refine (NC.out).mono ?_
      rintro e w2 ⟨A2, n2, c2, D2, m2, d2, rfl, r, b⟩
      have NN := hid (NX.out w2 b _ _ _ _ _ _ _ r.v)
      have u0 := cell_bx y0 b
      have u1 := cell_bx y1 b
      have u2 := cell_bx y2 b
      have f0 := QF.out w2 b (j * 3)
      have f1 := QF.out w2 b (j * 3 + 1)
      have f2 := QF.out w2 b (j * 3 + 2)
      clear NC NX QF r b y0 y1 y2
      go_wp2_with fail
      go_roundw
      case rel => exact ⟨j + 1, by omega, by go_num, NN⟩
      case measure => simp [intOf]; omega
    · obtain rfl : j = vn := by omega
      have QD := hid (hz.out.qb.qs (by omega) (by omega))
      have Z1 := hid hz.out
      obtain ⟨z0, z1⟩ := blk_two hz.out.kp.box
      clear hz NE
      go_wp2_with fail
      refine (LE.out _ Z1.out.kp.bel _ _ _ QD.out (fun x hx => by rw [if_pos hx])).mono ?_
      rintro e W5 ⟨gl, Al, nl, cl, Dl, ml, dl, rfl, fl, b⟩
      have Z2 := hid (Z1.out.keep b)
      have FL := hid fl
      clear LE QD Z1 fl b z0 z1
      go_upto_region 11 with fail
      obtain ⟨W6, lb, hW, hp, b, kk⟩ := mk_cells W5 [.bool gl, .slice Al nl cl, .slice Dl ml dl] 31
      simp only [List.toArray] at hW
      rw [← hW, ← hp]
      have Z3 := hid (Z2.out.keep b)
      have FL6 := hid (FL.out.keep b)
      obtain ⟨y0, y1, y2⟩ := blk_three (Z2.out.bnd.keep b)
      obtain ⟨x0, x1, x2⟩ := blk_three kk
      clear hW hp b kk Z2 FL
      cases b3
      · have EE := hid (vld_no (by rw [er.out]; rfl : r = false) Z3.out.kp.bel)
        clear AD SI Z3 FL6 er
        go_wp2_with fail
        go_ret
        exact EE.out
      · go_wp2_with fail
        refine (AD.out _ gb Ab nb cb Db mb db Z3.out.fr gl Al nl cl Dl ml dl FL6.out).mono ?_
        rintro e W7 ⟨Ar, nr, cr, Dr, mr, dr, rfl, fr, b⟩
        have Z4 := hid (Z3.out.keep b)
        have FR := hid fr
        clear AD Z3 FL6 fr b y0 y1 y2 x0 x1 x2
        go_wp2_with fail
        refine (SI.out _ Ar nr cr Dr mr dr FR.out).mono ?_
        rintro e W8 ⟨rfl, b⟩
        have EE := hid (show RetB w r (.returned (.bool (decide (0 < s)))) W8 from ⟨by rw [er.out]; rfl, bx_call Z4.out.kp.bel b⟩)
        clear SI Z4 FR b er
        go_wp2_with fail
        go_ret
        exact EE.out
def PD.o5B (p : PD) (x y : Nat → Rat) : Bool := (p.b5B y && p.feaB x) && decide (sgnQ (p.b5V y - p.costV x) = 0)
set_option maxHeartbeats 16000000 in
theorem ropt5 (p : PD) (A : Option Addr) (n c k : Nat) (qs : Nat → Rat) (A' : Option Addr) (n' c' k' : Nat) (qs' : Nat → Rat) (w : World) (h : Pg w p) (hQ : Qs w A n c k qs) (hk : k ≤ 100) (hQ' : Qs w A' n' c' k' qs') (hk' : k' ≤ 100) :
    Calls Tryz.prog 58 #[.agg #[.slice p.V0 p.vn p.vc, .slice p.R0 p.rn p.rc], .slice A n c, .slice A' n' c'] w (RetB w (p.o5B (pt n qs) (pt n' qs'))) := by
  obtain ⟨W0, hW⟩ : ∃ W, W = w.alloc (.cells #[.slice p.V0 p.vn p.vc, .slice p.R0 p.rn p.rc] 25) := ⟨_, rfl⟩
  have B0 := bx_alloc (bx_refl w) (.cells #[.slice p.V0 p.vn p.vc, .slice p.R0 p.rn p.rc] 25)
  have K0 := Blk.new w [.slice p.V0 p.vn p.vc, .slice p.R0 p.rn p.rc] 25
  change Blk (w.alloc (.cells #[.slice p.V0 p.vn p.vc, .slice p.R0 p.rn p.rc] 25)) _ _ _ at K0
  rw [← hW] at B0 K0
  have P0 := hid (show Kp w p.V0 p.vn p.vc p.R0 p.rn p.rc W0 from ⟨B0, K0⟩)
  have C1 := hid (fun (W : World) (b : Below w.heap.size w W) => rbound5 p A' n' c' k' qs' W (h.keep b) (hQ'.keep b) hk')
  have C2 := hid (fun (W : World) (b : Below w.heap.size w W) => rfea5 p A n c k qs W (h.keep b) (hQ.keep b) hk)
  have C3 := hid (fun (W : World) (b : Below w.heap.size w W) => r_cost p A n c k qs W (h.keep b) (hQ.keep b) hk)
  obtain ⟨b1, hb1⟩ : ∃ b, b = p.b5B (pt n' qs') := ⟨_, rfl⟩
  obtain ⟨b2, hb2⟩ : ∃ b, b = p.feaB (pt n qs) := ⟨_, rfl⟩
  obtain ⟨qb, hqb⟩ : ∃ b, b = p.b5V (pt n' qs') := ⟨_, rfl⟩
  obtain ⟨qc, hqc⟩ : ∃ b, b = p.costV (pt n qs) := ⟨_, rfl⟩
  obtain ⟨s, hs⟩ : ∃ s, s = sgnQ (qb - qc) := ⟨_, rfl⟩
  obtain ⟨r, hr⟩ : ∃ b, b = p.o5B (pt n qs) (pt n' qs') := ⟨_, rfl⟩
  have er := hid (show r = ((b1 && b2) && decide (s = 0)) by rw [hr, hb1, hb2, hs, hqb, hqc]; rfl)
  rw [← hr]
  rw [← hb1, ← hqb] at C1
  rw [← hb2] at C2
  rw [← hqc] at C3
  have CM := hid (fun (W : World) (A1 : Option Addr) (n1 c1 : Nat) (D1 : Option Addr) (m1 d1 : Nat) (L : FrL W A1 n1 c1 D1 m1 d1 440003000 qb) (g2 : Bool) (A2 : Option Addr) (n2 c2 : Nat) (D2 : Option Addr) (m2 d2 : Nat) (M : FrV W g2 A2 n2 c2 D2 m2 d2 10301 qc) => (show Calls Tryz.prog 56 #[.agg #[.bool (sg qb.num), .slice A1 n1 c1, .slice D1 m1 d1], .agg #[.bool g2, .slice A2 n2 c2, .slice D2 m2 d2]] W (RetI W s) by rw [hs]; exact vrcmp (sg qb.num) A1 n1 c1 D1 m1 d1 g2 A2 n2 c2 D2 m2 d2 440003000 qb qc W L.v (M.up (by omega)) (by omega)))
  obtain ⟨V0, vn, vc, lo, up, op, it, co, R0, rn, rc, nm, gr, ki, bo, TA, tn, tc, v, cf⟩ := p
  dsimp only at hW P0 C1 C2 C3 ⊢
  clear h hQ hk hQ' hk' B0 K0 hb1 hb2 hqb hqc hs hr
  go_enter Tryz.func58, Tryz.ntmps58
  go_upto_region 1 with fail
  rw [← hW]
  clear hW
  obtain ⟨z0, z1⟩ := blk_two P0.out.box
  go_wp2_with fail
  refine (C1.out _ P0.out.bel).mono ?_
  rintro e W1 ⟨Ab, nb, cb, Db, mb, db, rfl, fb, b⟩
  have P1 := hid (P0.out.keep b)
  have FB := hid fb
  clear P0 C1 b fb z0 z1
  go_upto_region 2 with fail
  obtain ⟨W2, bb, hW, hp, b, kk⟩ := mk_cells W1 [.bool (sg qb.num), .slice Ab nb cb, .slice Db mb db] 31
  simp only [List.toArray] at hW
  rw [← hW, ← hp]
  have P0 := hid (P1.out.keep b)
  have FB0 := hid (FB.out.keep b)
  have KB0 := hid kk
  clear hW hp b kk P1 FB
  cases b1
  · clear C2 C3 CM
    (try simp only [List.append_eq, List.cons_append, List.nil_append])
    refine wp_region_noPanic ?_
    refine wp_region_held_drew (S := (fun W => (W.cell? ⟨w.heap.size, 0, none⟩ = some (.slice V0 vn vc) ∧ W.cell? ⟨w.heap.size, 1, none⟩ = some (.slice R0 rn rc)) ∧ (W.cell? ⟨bb, 0, none⟩ = some (.bool (sg qb.num)) ∧ W.cell? ⟨bb, 1, none⟩ = some (.slice Ab nb cb) ∧ W.cell? ⟨bb, 2, none⟩ = some (.slice Db mb db)))) (by kernel_rfl) ?_ (fun hH => ?_)
    exact (And.intro (blk_two P0.out.box) (blk_three KB0.out))
    have bd := bx_drew (bx_refl W2)
    obtain ⟨E0, hW0⟩ : ∃ W, W = W2.drew := ⟨_, rfl⟩
    rw [← hW0] at bd hH ⊢
    clear hW0
    have P1 := hid (P0.out.keep bd)
    have FB1 := hid (FB0.out.keep bd)
    have KB1 := hid (KB0.out.keep bd)
    clear bd P0 FB0 KB0
    refine tk 0 hH ?_
    (try simp only [Act.put, gy0, gy1, gy2])
    refine tk 1 hH ?_
    (try simp only [Act.put, gy0, gy1, gy2])
    refine tkn 2 hH ?_
    (try simp only [Act.put, gy0, gy1, gy2])
    refine tkn 3 hH ?_
    (try simp only [Act.put, gy0, gy1, gy2])
    refine tkn 4 hH ?_
    (try simp only [Act.put, gy0, gy1, gy2])
    refine tk 5 hH ?_
    (try simp only [Act.put, gy0, gy1, gy2])
    refine tk 6 hH ?_
    (try simp only [Act.put, gy0, gy1, gy2])
    refine tkn 7 hH ?_
    (try simp only [Act.put, gy0, gy1, gy2])
    refine tkn 8 hH ?_
    (try simp only [Act.put, gy0, gy1, gy2])
    refine tkn 9 hH ?_
    (try simp only [Act.put, gy0, gy1, gy2])
    refine tkn 10 hH ?_
    (try simp only [Act.put, gy0, gy1, gy2])
    refine tkn 11 hH ?_
    (try simp only [Act.put, gy0, gy1, gy2])
    refine tkn 12 hH ?_
    (try simp only [Act.put, gy0, gy1, gy2])
    refine tk 13 hH ?_
    (try simp only [Act.put, gy0, gy1, gy2])
    refine tk 14 hH ?_
    (try simp only [Act.put, gy0, gy1, gy2])
    refine wpAnyH_done (by kernel_rfl) ?_ _
    refine NoPanic.normal ?_
    clear hH
    have EE := hid (vld_no (by rw [er.out]; rfl : r = false) P1.out.bel)
    clear P1 FB1 KB1 er
    go_wp2_with fail
    go_ret
    exact EE.out
  cases b2
  · clear C3 CM
    (try simp only [List.append_eq, List.cons_append, List.nil_append])
    refine wp_region_noPanic ?_
    refine wp_region_held_drew (S := (fun W => (W.cell? ⟨w.heap.size, 0, none⟩ = some (.slice V0 vn vc) ∧ W.cell? ⟨w.heap.size, 1, none⟩ = some (.slice R0 rn rc)) ∧ (W.cell? ⟨bb, 0, none⟩ = some (.bool (sg qb.num)) ∧ W.cell? ⟨bb, 1, none⟩ = some (.slice Ab nb cb) ∧ W.cell? ⟨bb, 2, none⟩ = some (.slice Db mb db)))) (by kernel_rfl) ?_ (fun hH => ?_)
    exact (And.intro (blk_two P0.out.box) (blk_three KB0.out))
    have bd := bx_drew (bx_refl W2)
    obtain ⟨E0, hW0⟩ : ∃ W, W = W2.drew := ⟨_, rfl⟩
    rw [← hW0] at bd hH ⊢
    clear hW0
    have P1 := hid (P0.out.keep bd)
    have FB1 := hid (FB0.out.keep bd)
    have KB1 := hid (KB0.out.keep bd)
    clear bd P0 FB0 KB0
    refine tk 0 hH ?_
    (try simp only [Act.put, gy0, gy1, gy2])
    refine tk 1 hH ?_
    (try simp only [Act.put, gy0, gy1, gy2])
    refine tk 2 hH ?_
    (try simp only [Act.put, gy0, gy1, gy2])
    refine tk 3 hH ?_
    (try simp only [Act.put, gy0, gy1, gy2])
    refine wpAnyH_ready (rs := [4]) (by kernel_rfl) (by simp) ?_
    refine rdy (fun K hK => ?_) AllReadyH.nil
    go_simp
    refine (C2.out _ P1.out.bel).mono ?_
    rintro e v2 ⟨rfl, b⟩
    have P2 := hid (P1.out.keep b)
    have FB2 := hid (FB1.out.keep b)
    have KB2 := hid (KB1.out.keep b)
    clear b hH P1 FB1 KB1
    (try go_wp2_with fail)
    refine hK.out _ _ ?_ (fun hH => ?_)
    exact (And.intro (blk_two P2.out.box) (blk_three KB2.out))
    clear hK K
    (try simp only [Act.put, gy0, gy1, gy2])
    refine tk 5 hH ?_
    (try simp only [Act.put, gy0, gy1, gy2])
    refine tk 6 hH ?_
    (try simp only [Act.put, gy0, gy1, gy2])
    refine tkn 7 hH ?_
    (try simp only [Act.put, gy0, gy1, gy2])
    refine tkn 8 hH ?_
    (try simp only [Act.put, gy0, gy1, gy2])
    refine tkn 9 hH ?_
    (try simp only [Act.put, gy0, gy1, gy2])
    refine tkn 10 hH ?_
    (try simp only [Act.put, gy0, gy1, gy2])
    refine tkn 11 hH ?_
    (try simp only [Act.put, gy0, gy1, gy2])
    refine tkn 12 hH ?_
    (try simp only [Act.put, gy0, gy1, gy2])
    refine tk 13 hH ?_
    (try simp only [Act.put, gy0, gy1, gy2])
    refine tk 14 hH ?_
    (try simp only [Act.put, gy0, gy1, gy2])
    refine wpAnyH_done (by kernel_rfl) ?_ _
    refine NoPanic.normal ?_
    clear hH
    have EE := hid (vld_no (by rw [er.out]; rfl : r = false) P2.out.bel)
    clear P2 FB2 KB2 er C2
    go_wp2_with fail
    go_ret
    exact EE.out
  (try simp only [List.append_eq, List.cons_append, List.nil_append])
  refine wp_region_noPanic ?_
  refine wp_region_held_drew (S := (fun W => (W.cell? ⟨w.heap.size, 0, none⟩ = some (.slice V0 vn vc) ∧ W.cell? ⟨w.heap.size, 1, none⟩ = some (.slice R0 rn rc)) ∧ (W.cell? ⟨bb, 0, none⟩ = some (.bool (sg qb.num)) ∧ W.cell? ⟨bb, 1, none⟩ = some (.slice Ab nb cb) ∧ W.cell? ⟨bb, 2, none⟩ = some (.slice Db mb db)))) (by kernel_rfl) ?_ (fun hH => ?_)
  exact (And.intro (blk_two P0.out.box) (blk_three KB0.out))
  have bd := bx_drew (bx_refl W2)
  obtain ⟨E0, hW0⟩ : ∃ W, W = W2.drew := ⟨_, rfl⟩
  rw [← hW0] at bd hH ⊢
  clear hW0
  have P1 := hid (P0.out.keep bd)
  have FB1 := hid (FB0.out.keep bd)
  have KB1 := hid (KB0.out.keep bd)
  clear bd P0 FB0 KB0
  refine tk 0 hH ?_
  (try simp only [Act.put, gy0, gy1, gy2])
  refine tk 1 hH ?_
  (try simp only [Act.put, gy0, gy1, gy2])
  refine tk 2 hH ?_
  (try simp only [Act.put, gy0, gy1, gy2])
  refine tk 3 hH ?_
  (try simp only [Act.put, gy0, gy1, gy2])
  refine wpAnyH_ready (rs := [4]) (by kernel_rfl) (by simp) ?_
  refine rdy (fun K hK => ?_) AllReadyH.nil
  go_simp
  refine (C2.out _ P1.out.bel).mono ?_
  rintro e v2 ⟨rfl, b⟩
  have P2 := hid (P1.out.keep b)
  have FB2 := hid (FB1.out.keep b)
  have KB2 := hid (KB1.out.keep b)
  clear b hH P1 FB1 KB1
  (try go_wp2_with fail)
  refine hK.out _ _ ?_ (fun hH => ?_)
  exact (And.intro (blk_two P2.out.box) (blk_three KB2.out))
  clear hK K
  (try simp only [Act.put, gy0, gy1, gy2])
  refine tk 5 hH ?_
  (try simp only [Act.put, gy0, gy1, gy2])
  refine tk 6 hH ?_
  (try simp only [Act.put, gy0, gy1, gy2])
  refine tk 7 hH ?_
  (try simp only [Act.put, gy0, gy1, gy2])
  refine tk 8 hH ?_
  (try simp only [Act.put, gy0, gy1, gy2])
  refine tk 9 hH ?_
  (try simp only [Act.put, gy0, gy1, gy2])
  refine wpAnyH_ready (rs := [10]) (by kernel_rfl) (by simp) ?_
  refine rdy (fun K hK => ?_) AllReadyH.nil
  go_simp
  refine (C3.out _ P2.out.bel).mono ?_
  rintro e v3 ⟨g3, A3, n3, c3, D3, m3, d3, rfl, r3, b⟩
  have P3 := hid (P2.out.keep b)
  have FB3 := hid (FB2.out.keep b)
  have KB3 := hid (KB2.out.keep b)
  clear b hH P2 FB2 KB2
  have RC := hid r3
  clear r3
  (try go_wp2_with fail)
  refine hK.out _ _ ?_ (fun hH => ?_)
  exact (And.intro (blk_two P3.out.box) (blk_three KB3.out))
  clear hK K
  (try simp only [Act.put, gy0, gy1, gy2])
  refine wpAnyH_ready (rs := [11]) (by kernel_rfl) (by simp) ?_
  refine rdy (fun K hK => ?_) AllReadyH.nil
  go_simp
  refine (CM.out _ Ab nb cb Db mb db FB3.out g3 A3 n3 c3 D3 m3 d3 RC.out).mono ?_
  rintro e v4 ⟨rfl, b⟩
  have P4 := hid (P3.out.keep b)
  have FB4 := hid (FB3.out.keep b)
  have KB4 := hid (KB3.out.keep b)
  clear b hH P3 FB3 KB3
  clear RC
  (try go_wp2_with fail)
  refine hK.out _ _ ?_ (fun hH => ?_)
  exact (And.intro (blk_two P4.out.box) (blk_three KB4.out))
  clear hK K
  (try simp only [Act.put, gy0, gy1, gy2])
  refine tk 12 hH ?_
  (try simp only [Act.put, gy0, gy1, gy2])
  refine tk 13 hH ?_
  (try simp only [Act.put, gy0, gy1, gy2])
  refine tk 14 hH ?_
  (try simp only [Act.put, gy0, gy1, gy2])
  refine wpAnyH_done (by kernel_rfl) ?_ _
  refine NoPanic.normal ?_
  clear hH
  have EE := hid (show RetB w r (.returned (.bool (s == 0))) v4 from ⟨by rw [er.out]; rfl, P4.out.bel⟩)
  clear P4 FB4 KB4 er C2 C3 CM
  go_wp2_with fail
  go_ret
  exact EE.out
theorem within0 {op : Bool} {q : Rat} : within op 0 0 q ↔ ¬sgnQ q < 0 ∧ ¬(op = false ∧ 0 < sgnQ q) := by
  unfold within
  rw [show q - ((0 : Int) : Rat) = q by rw [show ((0 : Int) : Rat) = 0 from rfl]; grind]
def PD.u5B (p : PD) (x y : Nat → Rat) : Bool := ((p.feaB x && decide (sgnQ (p.costV y) < 0)) && decide (∀ j, j < p.vn → within (p.op j) 0 0 (y j))) && decide (∀ i, i < p.rn → holdB (p.ki i) 0 (rowV p.vn (p.tn i) (p.v i) (p.cf i) y) = true)
set_option maxHeartbeats 16000000 in
theorem runb5 (p : PD) (A : Option Addr) (n c k : Nat) (qs : Nat → Rat) (A' : Option Addr) (n' c' k' : Nat) (qs' : Nat → Rat) (w : World) (h : Pg w p) (hQ : Qs w A n c k qs) (hk : k ≤ 100) (hQ' : Qs w A' n' c' k' qs') (hk' : k' ≤ 100) :
    Calls Tryz.prog 60 #[.agg #[.slice p.V0 p.vn p.vc, .slice p.R0 p.rn p.rc], .slice A n c, .slice A' n' c'] w (RetB w (p.u5B (pt n qs) (pt n' qs'))) := by
  have hvl := h.vl
  have hrl := h.rl
  have hc1 := h.vs.1
  have hc2 := h.vs.2.1
  have hd1 := h.rs.1
  have hd2 := h.rs.2.1
  obtain ⟨W0, hW⟩ : ∃ W, W = w.alloc (.cells #[.slice p.V0 p.vn p.vc, .slice p.R0 p.rn p.rc] 25) := ⟨_, rfl⟩
  have B0 := bx_alloc (bx_refl w) (.cells #[.slice p.V0 p.vn p.vc, .slice p.R0 p.rn p.rc] 25)
  have K0 := Blk.new w [.slice p.V0 p.vn p.vc, .slice p.R0 p.rn p.rc] 25
  change Blk (w.alloc (.cells #[.slice p.V0 p.vn p.vc, .slice p.R0 p.rn p.rc] 25)) _ _ _ at K0
  rw [← hW] at B0 K0
  have P0 := hid (show Kp w p.V0 p.vn p.vc p.R0 p.rn p.rc W0 from ⟨B0, K0⟩)
  have C1 := hid (fun (W : World) (b : Below w.heap.size w W) => rfea5 p A n c k qs W (h.keep b) (hQ.keep b) hk)
  have C2 := hid (fun (W : World) (b : Below w.heap.size w W) => r_cost p A' n' c' k' qs' W (h.keep b) (hQ'.keep b) hk')
  obtain ⟨y, hy⟩ : ∃ y, y = pt n' qs' := ⟨_, rfl⟩
  have AT0 := hid (fun (W : World) (b : Below w.heap.size w W) (j : Nat) => (show Calls Tryz.prog 13 #[.slice A' n' c', .int .i64 (j : Int)] W (RetV W (y j) k') by rw [hy]; exact qat A' n' c' k' qs' (j : Int) W (hQ'.keep b)))
  have HO0 := hid (fun (W : World) (b : Below w.heap.size w W) (i : Nat) (hi : i < p.rn) => (show Calls Tryz.prog 98 #[.agg #[.slice p.V0 p.vn p.vc, .slice p.R0 p.rn p.rc], .agg #[.string (p.nm i), .int .i64 (p.gr i), .int .i64 (p.ki i), .slice (p.TA i) (p.tn i) (p.tc i), .int .i64 0], .slice A' n' c'] W (RetB W (holdB (p.ki i) 0 (rowV p.vn (p.tn i) (p.v i) (p.cf i) y))) by
    rw [hy]
    obtain ⟨h1, _, _, h4⟩ := h.rs.2.2.1 i hi
    exact rholds p.V0 p.vn p.vc p.R0 p.rn p.rc (p.nm i) (p.gr i) (p.ki i) 0 (p.TA i) (p.tn i) (p.tc i) (p.v i) (p.cf i) A' n' c' k' qs' W (by omega) h1 (by omega) (h4.keep b) (by have := h.tl i hi; omega) (hQ'.keep b) (by omega)))
  obtain ⟨b1, hb1⟩ : ∃ b, b = p.feaB (pt n qs) := ⟨_, rfl⟩
  obtain ⟨qc, hqc⟩ : ∃ b, b = p.costV (pt n' qs') := ⟨_, rfl⟩
  obtain ⟨s, hs⟩ : ∃ s, s = sgnQ qc := ⟨_, rfl⟩
  obtain ⟨r, hr⟩ : ∃ b, b = p.u5B (pt n qs) (pt n' qs') := ⟨_, rfl⟩
  have er := hid (show r = (((b1 && decide (s < 0)) && decide (∀ j, j < p.vn → within (p.op j) 0 0 (y j))) && decide (∀ i, i < p.rn → holdB (p.ki i) 0 (rowV p.vn (p.tn i) (p.v i) (p.cf i) y) = true)) by rw [hr, hb1, hs, hqc, hy]; rfl)
  rw [← hr]
  rw [← hb1] at C1
  rw [← hqc] at C2
  have SI := hid (fun (W : World) (g1 : Bool) (A1 : Option Addr) (n1 c1 : Nat) (D1 : Option Addr) (m1 d1 : Nat) (L : FrV W g1 A1 n1 c1 D1 m1 d1 10301 qc) => (show Calls Tryz.prog 12 #[.agg #[.bool g1, .slice A1 n1 c1, .slice D1 m1 d1]] W (RetI W s) by rw [hs]; exact vrsign g1 A1 n1 c1 D1 m1 d1 10301 qc W L (by omega)))
  have SJ := hid (fun (W : World) (q : Rat) (g1 : Bool) (A1 : Option Addr) (n1 c1 : Nat) (D1 : Option Addr) (m1 d1 : Nat) (L : FrV W g1 A1 n1 c1 D1 m1 d1 k' q) => vrsign g1 A1 n1 c1 D1 m1 d1 k' q W L (by omega))
  have HV := hid h.vs
  have HR := hid h.rs
  have HN := hid h.nms
  obtain ⟨V0, vn, vc, lo, up, op, it, co, R0, rn, rc, nm, gr, ki, bo, TA, tn, tc, v, cf⟩ := p
  dsimp only at hvl hrl hc1 hc2 hd1 hd2 hW P0 C1 C2 HO0 er HV HR HN ⊢
  clear h hQ hk hQ' hk' B0 K0 hb1 hqc hs hr hy
  go_enter Tryz.func60, Tryz.ntmps60
  go_upto_region 1 with fail
  rw [← hW]
  clear hW
  obtain ⟨z0, z1⟩ := blk_two P0.out.box
  go_wp2_with fail
  refine (C1.out _ P0.out.bel).mono ?_
  rintro e W1 ⟨rfl, b⟩
  have P1 := hid (P0.out.keep b)
  clear P0 C1 b z0 z1
  obtain ⟨z0, z1⟩ := blk_two P1.out.box
  cases b1
  · have EE := hid (vld_no (by rw [er.out]; rfl : r = false) P1.out.bel)
    clear C2 AT0 HO0 SI SJ HV HR HN P1 er
    go_wp2_with fail
    go_ret
    exact EE.out
  go_wp2_with fail
  refine (C2.out _ P1.out.bel).mono ?_
  rintro e W2 ⟨gc, Ac, nc, cc, Dc, mc, dc, rfl, fc, b⟩
  have P2 := hid (P1.out.keep b)
  have FC := hid fc
  clear P1 C2 b fc z0 z1
  go_wp2_with fail
  refine (SI.out _ gc Ac nc cc Dc mc dc FC.out).mono ?_
  rintro e W3 ⟨rfl, b⟩
  have P3 := hid (P2.out.keep b)
  clear P2 SI FC b
  by_cases s1 : s < 0
  case neg =>
    have t1 : decide (0 ≤ s) = true := decide_eq_true (by omega)
    have EE := hid (vld_no (by rw [er.out, decide_eq_false s1]; rfl : r = false) P3.out.bel)
    clear AT0 HO0 SJ HV HR HN P3 er
    go_wp2_with fail
    go_ret
    exact EE.out
  have t1 : decide (0 ≤ s) = false := decide_eq_false (by omega)
  have e2 := hid (show r = (decide (∀ j, j < vn → within (op j) 0 0 (y j)) && decide (∀ i, i < rn → holdB (ki i) 0 (rowV vn (tn i) (v i) (cf i) y) = true)) by rw [er.out, decide_eq_true s1]; rfl)
  have ST := hid (show AllP w [.slice V0 vn vc, .slice R0 rn rc] (fun j => within (op j) 0 0 (y j)) 0 W3 from ⟨fun i hi => absurd hi (by omega), P3.out.bel, P3.out.box⟩)
  clear P3 er
  go_wp2_with fail
  go_loopw [7] (fun i wr => ∃ j : Nat, j ≤ vn ∧ i = .int .i64 j ∧ Hid (AllP w [.slice V0 vn vc, .slice R0 rn rc] (fun j => within (op j) 0 0 (y j)) j wr)) (fun i _ => vn - (intOf i).toNat)
  case atStart => exact ⟨0, Nat.zero_le _, rfl, ST⟩
  case round =>
    clear ST t1
    obtain ⟨j, hj, rfl, hz⟩ := hrel
    obtain ⟨z0, z1⟩ := blk_two hz.out.2.2
    rcases Nat.lt_or_ge j vn with hlt | hge
    · obtain ⟨b, o, rfl, hb, hcell⟩ := HV.out.2.2.2 (by omega)
      have x2 := cell_bx (hcell j hlt).2.2.1 hz.out.2.1
      have AT := hid (AT0.out wr hz.out.2.1 j)
      have NO := hid (fun (W : World) (B : Below wr.heap.size wr W) (h : ¬within (op j) 0 0 (y j)) => vld_no (by rw [e2.out, decide_eq_false fun g => h (g j hlt)]; rfl : r = false) (bx_call hz.out.2.1 B))
      have YE := hid (fun (W : World) (B : Below wr.heap.size wr W) (h : within (op j) 0 0 (y j)) => AllP.next hz.out h B)
      have WI := hid (within0 (op := op j) (q := y j))
      obtain ⟨O, hO⟩ : ∃ O, O = op j := ⟨_, rfl⟩
      obtain ⟨yj, hyj⟩ : ∃ O, O = y j := ⟨_, rfl⟩
      rw [← hO] at x2 WI NO
      rw [← hyj] at AT WI NO
      have YE := hid (fun (W : World) (B : Below wr.heap.size wr W) (h : within O 0 0 yj) => YE.out W B (by rw [← hO, ← hyj]; exact h))
      have SK := hid (fun W g1 A1 n1 c1 D1 m1 d1 L => SJ.out W yj g1 A1 n1 c1 D1 m1 d1 L)
      obtain ⟨t, ht⟩ : ∃ t, t = sgnQ yj := ⟨_, rfl⟩
      rw [← ht] at SK WI
      clear hz AT0 HO0 SJ HV HR HN hcell hO hyj ht e2
      go_wp2_with fail
      refine (AT.out).mono ?_
      rintro e w1 ⟨g1, A1, n1, c1, D1, m1, d1, rfl, r1, b1⟩
      have X1 := hid b1
      have R1 := hid r1
      have x2_1 := cell_bx x2 b1
      have z0_1 := cell_bx z0 b1
      clear AT b1 r1
      go_wp2_with fail
      refine (SK.out _ g1 A1 n1 c1 D1 m1 d1 R1.out).mono ?_
      rintro e w2 ⟨rfl, b2⟩
      have X2 := hid (bx_call X1.out b2)
      have x2_2 := cell_bx x2_1 b2
      have z0_2 := cell_bx z0_1 b2
      clear SK X1 R1 b2 x2 x2_1 z0 z1 z0_1
      by_cases u1 : t < 0
      · have t2 : decide (t < 0) = true := decide_eq_true u1
        have NN := hid (NO.out _ X2.out (fun h => by have := (WI.out.1 h).1; omega))
        clear NO YE WI X2
        go_wp2_with fail
        go_ret
        exact NN.out
      have t2 : decide (t < 0) = false := decide_eq_false u1
      by_cases u2 : 0 < t
      · have t3 : decide (0 < t) = true := decide_eq_true u2
        cases O
        · have NN := hid (NO.out _ X2.out (fun h => (WI.out.1 h).2 ⟨rfl, u2⟩))
          clear NO YE WI X2
          go_wp2_with fail
          go_ret
          exact NN.out
        · have ZZ := hid (YE.out _ X2.out (WI.out.2 ⟨by omega, fun h => by cases h.1⟩))
          clear NO YE WI X2
          go_wp2_with fail
          go_roundw
          case rel => exact ⟨j + 1, by omega, by go_num, ZZ⟩
          case measure => simp [intOf]; omega
      · have t3 : decide (0 < t) = false := decide_eq_false u2
        have ZZ := hid (YE.out _ X2.out (WI.out.2 ⟨by omega, fun h => by have := h.2; omega⟩))
        clear NO YE WI X2
        go_wp2_with fail
        go_roundw
        case rel => exact ⟨j + 1, by omega, by go_num, ZZ⟩
        case measure => simp [intOf]; omega
    · obtain rfl : j = vn := by omega
      have e3 := hid (show r = decide (∀ i, i < rn → holdB (ki i) 0 (rowV j (tn i) (v i) (cf i) y) = true) by rw [e2.out, decide_eq_true hz.out.1, Bool.true_and])
      have ST := hid (show AllP w [.slice V0 j vc, .slice R0 rn rc] (fun i => holdB (ki i) 0 (rowV j (tn i) (v i) (cf i) y) = true) 0 wr from ⟨fun i hi => absurd hi (by omega), hz.out.2⟩)
      clear hz e2 AT0 SJ HV
      go_wp2_with fail
      clear z0 z1
      obtain ⟨wo, rfl⟩ : ∃ wo : World, wo = wr := ⟨_, rfl⟩
      go_loopw [9] (fun i wr => ∃ l : Nat, l ≤ rn ∧ i = .int .i64 l ∧ Hid (AllP w [.slice V0 j vc, .slice R0 rn rc] (fun i => holdB (ki i) 0 (rowV j (tn i) (v i) (cf i) y) = true) l wr)) (fun i _ => rn - (intOf i).toNat)
      case atStart => exact ⟨0, Nat.zero_le _, rfl, ST⟩
      case round =>
        clear ST
        obtain ⟨i, hi, rfl, hz⟩ := hrel
        obtain ⟨z0, z1⟩ := blk_two hz.out.2.2
        rcases Nat.lt_or_ge i rn with hlt | hge
        · obtain ⟨b, o, rfl, hb, hcell⟩ := HR.out.2.2.2 (by omega)
          have x0 := cell_bx (hcell i hlt).1 hz.out.2.1
          have x1 := cell_bx (hcell i hlt).2.1 hz.out.2.1
          have x2 := cell_bx (hcell i hlt).2.2.1 hz.out.2.1
          have x3 := cell_bx (hcell i hlt).2.2.2.1 hz.out.2.1
          have x4 := cell_bx (hcell i hlt).2.2.2.2 hz.out.2.1
          obtain ⟨W5, hW5⟩ : ∃ W, W = wr.alloc (.cells #[.string (nm i), .int .i64 (gr i), .int .i64 (ki i), .slice (TA i) (tn i) (tc i), .int .i64 (bo i)] 43) := ⟨_, rfl⟩
          have B1 := bx_alloc (bx_refl wr) (.cells #[.string (nm i), .int .i64 (gr i), .int .i64 (ki i), .slice (TA i) (tn i) (tc i), .int .i64 (bo i)] 43)
          have KT := Blk.new wr [.string (nm i), .int .i64 (gr i), .int .i64 (ki i), .slice (TA i) (tn i) (tc i), .int .i64 (bo i)] 43
          change Blk (wr.alloc (.cells #[.string (nm i), .int .i64 (gr i), .int .i64 (ki i), .slice (TA i) (tn i) (tc i), .int .i64 (bo i)] 43)) _ _ _ at KT
          rw [← hW5] at B1 KT
          have hne : w.heap.size ≠ wr.heap.size := Nat.ne_of_lt hz.out.2.2.lt
          have KS : Blk (W5.setCell ⟨wr.heap.size, 4, none⟩ (.int .i64 0)) wr.heap.size [.string (nm i), .int .i64 (gr i), .int .i64 (ki i), .slice (TA i) (tn i) (tc i), .int .i64 0] 43 := KT.set_ 4 _
          have BS : Below wr.heap.size wr (W5.setCell ⟨wr.heap.size, 4, none⟩ (.int .i64 0)) := bx_set B1 (Nat.le_refl _)
          have HC := hid (fun (W : World) (B : Below wr.heap.size wr W) => HO0.out W (bx_call hz.out.2.1 B) i hlt)
          have NO := hid (fun (W : World) (B : Below wr.heap.size wr W) (h : ¬holdB (ki i) 0 (rowV j (tn i) (v i) (cf i) y) = true) => vld_no (by rw [e3.out, decide_eq_false fun g => h (g i hlt)] : r = false) (bx_call hz.out.2.1 B))
          have YE := hid (fun (W : World) (B : Below wr.heap.size wr W) (h : holdB (ki i) 0 (rowV j (tn i) (v i) (cf i) y) = true) => AllP.next hz.out h B)
          obtain ⟨q, hq⟩ : ∃ q, q = holdB (ki i) 0 (rowV j (tn i) (v i) (cf i) y) := ⟨_, rfl⟩
          rw [← hq] at HC NO
          have YE := hid (fun (W : World) (B : Below wr.heap.size wr W) (h : q = true) => YE.out W B (by rw [← hq]; exact h))
          obtain ⟨r0, r1, r2, r3, r4⟩ := blk_five KT
          have f4 := KT.free 4
          obtain ⟨s0, s1, s2, s3, s4⟩ := blk_five KS
          have p0 := cell_bx z0 BS
          have p1 := cell_bx z1 BS
          obtain ⟨W6, hW6⟩ : ∃ W, W = W5.setCell ⟨wr.heap.size, 4, none⟩ (.int .i64 0) := ⟨_, rfl⟩
          rw [← hW6] at s0 s1 s2 s3 s4 p0 p1 BS
          have BB := hid BS
          clear hz HO0 HR HN hcell e3 hq B1 KT KS BS
          go_upto_region 13 with fail
          rw [← hW5]
          clear hW5 x0 x1 x2 x3 x4 z0 z1
          go_upto_region 14 with fail
          rw [← hW6]
          clear hW6 r0 r1 r2 r3 r4 f4
          go_wp2_with fail
          refine (HC.out _ BB.out).mono ?_
          rintro e w7 ⟨rfl, b7⟩
          have B7 := hid (bx_call BB.out b7)
          clear HC BB b7 s0 s1 s2 s3 s4 p0 p1
          cases q
          · have NN := hid (NO.out _ B7.out (by decide))
            clear NO YE B7
            go_wp2_with fail
            go_ret
            exact NN.out
          · have ZZ := hid (YE.out _ B7.out rfl)
            clear NO YE B7
            go_wp2_with fail
            go_roundw
            case rel => exact ⟨i + 1, by omega, by go_num, ZZ⟩
            case measure => simp [intOf]; omega
        · obtain rfl : i = rn := by omega
          have YY := hid (vld_yes (by rw [e3.out, decide_eq_true hz.out.1] : r = true) hz.out.2.1)
          clear HO0 HR HN hz e3
          go_wp2_with fail
          go_ret
          exact YY.out
theorem r_valid (p : PD) (w : World) (h : Pg w p) : Calls Tryz.prog 24 #[.agg #[.slice p.V0 p.vn p.vc, .slice p.R0 p.rn p.rc]] w (RetB w p.okB) :=
  rvalidp p.V0 p.vn p.vc p.R0 p.rn p.rc p.lo p.up p.op p.it p.co p.nm p.gr p.ki p.bo p.TA p.tn p.tc p.v p.cf w h.vs h.rs h.nms
theorem PD.inf6 (p : PD) (y : Nat → Rat) : (p.okB && p.i5B y) = p.infB y := by unfold PD.infB PD.i5B; rw [Bool.and_assoc]
theorem PD.opt6 (p : PD) (x y : Nat → Rat) : (p.okB && p.o5B x y) = p.optB x y := by
  have e1 : p.bndB y = (p.okB && p.b5B y) := by unfold PD.bndB PD.b5B; rw [Bool.and_assoc]
  have e2 : p.okB = true → p.bndV y = p.b5V y := fun h => by unfold PD.bndV PD.b5V; rw [e1, h, Bool.true_and]
  unfold PD.optB PD.o5B
  cases hk : p.okB
  · rfl
  · rw [e1, e2 hk, hk]
    cases p.b5B y <;> cases p.feaB x <;> rfl
theorem PD.unb6 (p : PD) (x y : Nat → Rat) : (p.okB && p.u5B x y) = p.unbB x y := by
  have e1 : p.dirB y = (decide (∀ j, j < p.vn → within (p.op j) 0 0 (y j)) && decide (∀ i, i < p.rn → holdB (p.ki i) 0 (rowV p.vn (p.tn i) (p.v i) (p.cf i) y) = true)) := rfl
  unfold PD.unbB PD.u5B
  rw [e1]
  cases p.okB <;> cases p.feaB x <;> cases decide (sgnQ (p.costV y) < 0) <;> cases decide (∀ j, j < p.vn → within (p.op j) 0 0 (y j)) <;> cases decide (∀ i, i < p.rn → holdB (p.ki i) 0 (rowV p.vn (p.tn i) (p.v i) (p.cf i) y) = true) <;> rfl
end Go.Proofs.YthbogaindaflpaaGreat
