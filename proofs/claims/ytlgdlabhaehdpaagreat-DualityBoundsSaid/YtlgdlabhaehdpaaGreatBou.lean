/- The law DualityBounds. -/
import Derived.Test.YtlgdlabhaehdpaaGreatDrf
import Derived.Test.YtlgdlabhaehdpaaGreatAwk6
import Derived.Deep.DeepCutAuto
import Derived.BigQuiet
namespace Go.Proofs.YtlgdlabhaehdpaaGreat
open Go.RowKit

set_option maxRecDepth 100000 in
set_option maxHeartbeats 8000000 in
theorem dualityBounds_any (p : PD) (X Y : LD) (w : World) (h : Pw w p) (hx : X.ok w) (hy : Y.ok w) :
    Calls Tryz.prog 5 #[.agg #[.slice p.V0 p.vn p.vc, .slice p.R0 p.rn p.rc], .slice X.A X.n X.c, .slice Y.A Y.n Y.c] w (RetB w true) := by
  have SM := hid (fun (W : World) (b : Nat) (B : Below w.heap.size w W) (K : Blk W b ([X, Y].map LD.v) 26) => l_smL p b [X, Y] 26 W (h.keep B) K (by show (2 : Nat) ≤ _; omega) (fun l hl => by
    simp only [List.mem_cons, List.not_mem_nil, or_false] at hl
    rcases hl with rfl | rfl
    · exact hx.keep B
    · exact hy.keep B))
  have ss : smL p [X, Y] = true → fewP p.vn p.rn p.nm p.tn 6 8 = true ∧ X.sm = true ∧ Y.sm = true := fun e => by
    unfold smL at e
    rw [Bool.and_eq_true] at e
    have e1 := of_decide_eq_true e.1
    exact ⟨e.2, e1 _ (by simp), e1 _ (by simp)⟩
  have C1 := hid (fun (e : smL p [X, Y] = true) (W : World) (B : Below w.heap.size w W) => r_inside p X.A X.n X.c 4 X.qs W ((h.keep B).pg (ss e).1) ((hx.keep B).q (ss e).2.1) (by omega))
  have C2 := hid (fun (e : smL p [X, Y] = true) (W : World) (B : Below w.heap.size w W) => r_violated p X.A X.n X.c 4 X.qs W ((h.keep B).pg (ss e).1) ((hx.keep B).q (ss e).2.1) (by omega))
  have C3 := hid (fun (e : smL p [X, Y] = true) (W : World) (B : Below w.heap.size w W) => d_bound p Y.A Y.n Y.c 4 Y.qs W ((h.keep B).pg (ss e).1) ((hy.keep B).q (ss e).2.2) (by omega))
  have C4 := hid (fun (e : smL p [X, Y] = true) (W : World) (B : Below w.heap.size w W) => d_infeasible p Y.A Y.n Y.c 4 Y.qs W ((h.keep B).pg (ss e).1) ((hy.keep B).q (ss e).2.2) (by omega))
  have C5 := hid (fun (e : smL p [X, Y] = true) (W : World) (B : Below w.heap.size w W) => r_cost p X.A X.n X.c 4 X.qs W ((h.keep B).pg (ss e).1) ((hx.keep B).q (ss e).2.1) (by omega))
  have NI := fun (a : p.inB (pt X.n X.qs) = true) (b : vio (p.rowB (pt X.n X.qs)) p.rn = []) => PD.inf_no (p := p) (x := pt X.n X.qs) (y := pt Y.n Y.qs)
  have M1 : p.inB (pt X.n X.qs) = true → vio (p.rowB (pt X.n X.qs)) p.rn = [] → p.infB (pt Y.n Y.qs) = false := fun a b => by
    have f := PD.fea_of a b
    cases hi : p.infB (pt Y.n Y.qs)
    · rfl
    · rw [PD.inf_no hi] at f; cases f
  have M2 : p.inB (pt X.n X.qs) = true → vio (p.rowB (pt X.n X.qs)) p.rn = [] → p.bndB (pt Y.n Y.qs) = true → 0 ≤ sgnQ (p.costV (pt X.n X.qs) - p.bndV (pt Y.n Y.qs)) := fun a b e => PD.bnd_le (PD.fea_of a b) e
  obtain ⟨s, hs⟩ : ∃ s, s = smL p [X, Y] := ⟨_, rfl⟩
  rw [← hs] at SM C1 C2 C3 C4 C5
  obtain ⟨b1, hb1⟩ : ∃ s, s = p.inB (pt X.n X.qs) := ⟨_, rfl⟩
  rw [← hb1] at C1 M1 M2
  obtain ⟨l, hl⟩ : ∃ s, s = vio (p.rowB (pt X.n X.qs)) p.rn := ⟨_, rfl⟩
  rw [← hl] at C2 M1 M2
  obtain ⟨b3, hb3⟩ : ∃ s, s = p.bndB (pt Y.n Y.qs) := ⟨_, rfl⟩
  rw [← hb3] at C3 M2
  obtain ⟨b4, hb4⟩ : ∃ s, s = p.infB (pt Y.n Y.qs) := ⟨_, rfl⟩
  rw [← hb4] at C4 M1
  obtain ⟨qb, hqb⟩ : ∃ s, s = p.bndV (pt Y.n Y.qs) := ⟨_, rfl⟩
  rw [← hqb] at C3 M2
  obtain ⟨qc, hqc⟩ : ∃ s, s = p.costV (pt X.n X.qs) := ⟨_, rfl⟩
  rw [← hqc] at C5 M2
  have CM := hid (fun (W : World) (g1 : Bool) (A1 : Option Addr) (n1 c1 : Nat) (D1 : Option Addr) (m1 d1 : Nat) (L : FrV W g1 A1 n1 c1 D1 m1 d1 10301 qc) (g2 : Bool) (A2 : Option Addr) (n2 c2 : Nat) (D2 : Option Addr) (m2 d2 : Nat) (M : FrV W g2 A2 n2 c2 D2 m2 d2 112000000 qb) => vrcmp g1 A1 n1 c1 D1 m1 d1 g2 A2 n2 c2 D2 m2 d2 112000000 qc qb W (L.up (by omega)) M (by omega))
  obtain ⟨z, hz⟩ : ∃ z, z = sgnQ (qc - qb) := ⟨_, rfl⟩
  rw [← hz] at CM M2
  have H1 := hid M1
  have H2 := hid M2
  clear hx hy hs hb1 hl hb3 hb4 hqb hqc hz M1 M2 NI ss h
  obtain ⟨V0, vn, vc, lo, up, op, it, co, R0, rn, rc, nm, gr, ki, bo, TA, tn, tc, v, cf⟩ := p
  obtain ⟨XA, Xn, Xc, XN, XM, xs⟩ := X
  obtain ⟨YA, Yn, Yc, YN, YM, ys⟩ := Y
  dsimp only [List.map, LD.v, List.length] at SM C1 C2 C3 C4 C5 ⊢
  obtain ⟨W0, hW⟩ : ∃ W, W = w.alloc (.cells #[.slice V0 vn vc, .slice R0 rn rc] 25) := ⟨_, rfl⟩
  have B0 := bx_alloc (bx_refl w) (.cells #[.slice V0 vn vc, .slice R0 rn rc] 25)
  have K0 := Blk.new w [.slice V0 vn vc, .slice R0 rn rc] 25
  change Blk (w.alloc (.cells #[.slice V0 vn vc, .slice R0 rn rc] 25)) _ _ _ at K0
  rw [← hW] at B0 K0
  have P0 := hid (show Kp w V0 vn vc R0 rn rc W0 from ⟨B0, K0⟩)
  clear B0 K0
  go_enter Tryz.func5, Tryz.ntmps5
  go_upto_region 1 with fail
  rw [← hW]
  clear hW
  go_wp2_with fail
  refine (awk6 W0).mono ?_
  rintro e W1 ⟨rfl, b⟩
  have P1 := hid (P0.out.keep b)
  clear P0 b
  obtain ⟨z0, z1⟩ := blk_two P1.out.box
  have ba := bx_alloc (bx_refl W1) (.cells #[.slice XA Xn Xc, .slice YA Yn Yc] 26)
  have kn := Blk.new W1 [.slice XA Xn Xc, .slice YA Yn Yc] 26
  change Below W1.heap.size W1 (W1.alloc (.cells #[.slice XA Xn Xc, .slice YA Yn Yc] 26)) at ba
  have SM2 := hid (SM.out _ _ (bx_call P1.out.bel ba) kn)
  have P2 := hid (P1.out.keep ba)
  clear kn ba SM P1
  go_wp2_with fail
  refine (SM2.out).mono ?_
  rintro e W2 ⟨rfl, b⟩
  have P3 := hid (P2.out.keep b)
  clear SM2 P2 b z0 z1
  cases s
  · clear C1 C2 C3 C4 C5 CM H1 H2
    go_wp2_with fail
    refine (awk6 W2).mono ?_
    rintro e W3 ⟨rfl, b⟩
    have P4 := hid (P3.out.keep b)
    clear P3 b
    go_wp2_with fail
    go_ret
    exact vld_yes rfl P4.out.bel
  have D1 := hid (C1.out rfl)
  have D2 := hid (C2.out rfl)
  have D3 := hid (C3.out rfl)
  have D4 := hid (C4.out rfl)
  have D5 := hid (C5.out rfl)
  clear C1 C2 C3 C4 C5
  obtain ⟨z0, z1⟩ := blk_two P3.out.box
  go_wp2_with fail
  refine (D1.out _ P3.out.bel).mono ?_
  rintro e W3 ⟨rfl, b⟩
  have P4 := hid (P3.out.keep b)
  clear P3 b D1 z0 z1
  obtain ⟨z0, z1⟩ := blk_two P4.out.box
  cases b1
  · have HP := hid (vld_yes rfl P4.out.bel : RetB w true (.returned (.bool true)) W3)
    clear D2 D3 D4 D5 CM H1 H2 P4
    go_wp2_with fail
    go_ret
    exact HP.out
  go_wp2_with fail
  refine (D2.out _ P4.out.bel).mono ?_
  rintro e W4 ⟨LA, Lc, rfl, _, b⟩
  have P5 := hid (P4.out.keep b)
  clear P4 b D2 z0 z1
  obtain ⟨z0, z1⟩ := blk_two P5.out.box
  cases l with
  | cons l0 l =>
    have HP := hid (vld_yes rfl P5.out.bel : RetB w true (.returned (.bool true)) W4)
    have hlen : (l0 :: l).length = l.length + 1 := rfl
    rw [hlen]
    obtain ⟨L, hL⟩ : ∃ L, L = l.length := ⟨_, rfl⟩
    rw [← hL]
    have t1 : decide ((0 : Int) < ((L + 1 : Nat) : Int)) = true := decide_eq_true (by omega)
    have t2 : decide (0 < L + 1) = true := decide_eq_true (by omega)
    have t3 : decide ((0 : Int) < (L : Int) + 1) = true := decide_eq_true (by omega)
    clear D3 D4 D5 CM H1 H2 P5 hlen hL
    go_wp2_with fail
    go_ret
    exact HP.out
  | nil =>
  have e4 := H1.out (by simp) (by simp)
  have H3 := hid (fun e => H2.out (by simp) (by simp) e)
  clear H1 H2
  subst e4
  have hlen : ([] : List Nat).length = 0 := rfl
  rw [hlen]
  go_wp2_with fail
  refine (D3.out _ P5.out.bel).mono ?_
  rintro e W5 ⟨gb, Ab, nb, cb, Db, mb, db, rfl, rb, b⟩
  have P6 := hid (P5.out.keep b)
  have RB := hid rb
  clear P5 b D3 z0 z1 rb hlen
  go_upto_region 6 with fail
  obtain ⟨W6, bb, hW, hp, b, kk⟩ := mk_cells W5 [.bool gb, .slice Ab nb cb, .slice Db mb db] 34
  simp only [List.toArray] at hW
  rw [← hW, ← hp]
  have P0 := hid (P6.out.keep b)
  have RB0 := hid (RB.out.keep b)
  have KB0 := hid kk
  clear hW hp b kk P6 RB
  cases b3
  · clear H3 CM D5
    (try simp only [List.append_eq, List.cons_append, List.nil_append])
    refine wp_region_noPanic ?_
    refine wp_region_held_drew (S := (fun W => (W.cell? ⟨w.heap.size, 0, none⟩ = some (.slice V0 vn vc) ∧ W.cell? ⟨w.heap.size, 1, none⟩ = some (.slice R0 rn rc)) ∧ (W.cell? ⟨bb, 0, none⟩ = some (.bool gb) ∧ W.cell? ⟨bb, 1, none⟩ = some (.slice Ab nb cb) ∧ W.cell? ⟨bb, 2, none⟩ = some (.slice Db mb db)))) (by kernel_rfl) ?_ (fun hH => ?_)
    exact (And.intro (blk_two P0.out.box) (blk_three KB0.out))
    have bd := bx_drew (bx_refl W6)
    obtain ⟨E0, hW0⟩ : ∃ W, W = W6.drew := ⟨_, rfl⟩
    rw [← hW0] at bd hH ⊢
    clear hW0
    have P1 := hid (P0.out.keep bd)
    have RB1 := hid (RB0.out.keep bd)
    have KB1 := hid (KB0.out.keep bd)
    clear bd P0 RB0 KB0
    refine wpAnyH_take (i := 0) (v := ?_) (by simp only [gx0, gx2]; rfl) (by kernel_rfl) (by kernel_rfl) (by kernel_rfl) (fun _ _ _ h => h) (.inl ⟨by rfl, ?_⟩) hH ?_
    rotate_left
    · intro w hSw; (try dsimp only at hSw); first | (go_simp; done) | (go_simp; with_reducible rfl) | (go_simp; decide)
    (try simp only [Act.put, gy0, gy1, gy2])
    refine wpAnyH_take (i := 1) (v := ?_) (by simp only [gx0, gx1, gx2]; rfl) (by kernel_rfl) (by kernel_rfl) (by kernel_rfl) (fun _ _ _ h => h) (.inl ⟨by rfl, ?_⟩) hH ?_
    rotate_left
    · intro w hSw; (try dsimp only at hSw); first | (go_simp; done) | (go_simp; with_reducible rfl) | (go_simp; decide)
    (try simp only [Act.put, gy0, gy1, gy2])
    refine wpAnyH_ready (rs := [2]) (by kernel_rfl) (by simp) ?_
    refine AllReadyH.cons (by simp only [gx0, gx1, gx2]; rfl) (fun K hK => ?_) AllReadyH.nil
    go_simp
    refine (D4.out _ P1.out.bel).mono ?_
    rintro e v2 ⟨rfl, b⟩
    have P2 := hid (P1.out.keep b)
    have RB2 := hid (RB1.out.keep b)
    have KB2 := hid (KB1.out.keep b)
    clear b hH P1 RB1 KB1
    (try go_wp2_with fail)
    refine hK.out _ _ ?_ (fun hH => ?_)
    exact (And.intro (blk_two P2.out.box) (blk_three KB2.out))
    clear hK K
    (try simp only [Act.put, gy0, gy1, gy2])
    refine wpAnyH_take (i := 3) (v := ?_) (by simp only [gx0, gx1, gx2]; rfl) (by kernel_rfl) (by kernel_rfl) (by kernel_rfl) (fun _ _ _ h => h) (.inl ⟨by rfl, ?_⟩) hH ?_
    rotate_left
    · intro w hSw; (try dsimp only at hSw); first | (go_simp; done) | (go_simp; with_reducible rfl) | (go_simp; decide)
    (try simp only [Act.put, gy0, gy1, gy2])
    refine wpAnyH_take (i := 4) (v := ?_) (by simp only [gx0, gx1, gx2]; rfl) (by kernel_rfl) (by kernel_rfl) (by kernel_rfl) (fun _ _ _ h => h) (.inl ⟨by rfl, ?_⟩) hH ?_
    rotate_left
    · intro w hSw; (try dsimp only at hSw); first | (go_simp; done) | (go_simp; with_reducible rfl) | (go_simp; decide)
    (try simp only [Act.put, gy0, gy1, gy2])
    refine wpAnyH_take (i := 5) (v := ?_) (by simp only [gx0, gx1, gx2]; rfl) (by kernel_rfl) (by kernel_rfl) (by kernel_rfl) (fun _ _ _ h => h) (.inl ⟨by rfl, ?_⟩) hH ?_
    rotate_left
    · intro w hSw; (try dsimp only at hSw); first | (go_simp; done) | (go_simp; with_reducible rfl) | (go_simp; decide)
    (try simp only [Act.put, gy0, gy1, gy2])
    refine wpAnyH_take (i := 6) (v := ?_) (by simp only [gx0, gx1, gx2]; rfl) (by kernel_rfl) (by kernel_rfl) (by kernel_rfl) (fun _ _ _ h => h) (.inl ⟨by rfl, ?_⟩) hH ?_
    rotate_left
    · intro w hSw; (try dsimp only at hSw); first | (go_simp; done) | (go_simp; with_reducible rfl) | (go_simp; decide)
    (try simp only [Act.put, gy0, gy1, gy2])
    refine wpAnyH_take (i := 7) (v := ?_) (by simp only [gx0, gx1, gx2]; rfl) (by kernel_rfl) (by kernel_rfl) (by kernel_rfl) (fun _ _ _ h => h) (.inl ⟨by rfl, ?_⟩) hH ?_
    rotate_left
    · intro w hSw; (try dsimp only at hSw); first | (go_simp; done) | (go_simp; with_reducible rfl) | (go_simp; decide)
    (try simp only [Act.put, gy0, gy1, gy2])
    refine wpAnyH_take (i := 8) (v := undef) (by simp only [gx0, gx1, gx2]; rfl) (by kernel_rfl) (by kernel_rfl) (by kernel_rfl) (fun _ _ _ h => h) (.inr ⟨by rfl, by rfl⟩) hH ?_
    (try simp only [Act.put, gy0, gy1, gy2])
    refine wpAnyH_take (i := 9) (v := undef) (by simp only [gx0, gx1, gx2]; rfl) (by kernel_rfl) (by kernel_rfl) (by kernel_rfl) (fun _ _ _ h => h) (.inr ⟨by rfl, by rfl⟩) hH ?_
    (try simp only [Act.put, gy0, gy1, gy2])
    refine wpAnyH_take (i := 10) (v := undef) (by simp only [gx0, gx1, gx2]; rfl) (by kernel_rfl) (by kernel_rfl) (by kernel_rfl) (fun _ _ _ h => h) (.inr ⟨by rfl, by rfl⟩) hH ?_
    (try simp only [Act.put, gy0, gy1, gy2])
    refine wpAnyH_take (i := 11) (v := undef) (by simp only [gx0, gx1, gx2]; rfl) (by kernel_rfl) (by kernel_rfl) (by kernel_rfl) (fun _ _ _ h => h) (.inr ⟨by rfl, by rfl⟩) hH ?_
    (try simp only [Act.put, gy0, gy1, gy2])
    refine wpAnyH_take (i := 12) (v := undef) (by simp only [gx0, gx1, gx2]; rfl) (by kernel_rfl) (by kernel_rfl) (by kernel_rfl) (fun _ _ _ h => h) (.inr ⟨by rfl, by rfl⟩) hH ?_
    (try simp only [Act.put, gy0, gy1, gy2])
    refine wpAnyH_take (i := 13) (v := undef) (by simp only [gx0, gx1, gx2]; rfl) (by kernel_rfl) (by kernel_rfl) (by kernel_rfl) (fun _ _ _ h => h) (.inr ⟨by rfl, by rfl⟩) hH ?_
    (try simp only [Act.put, gy0, gy1, gy2])
    refine wpAnyH_take (i := 14) (v := ?_) (by simp only [gx0, gx1, gx2]; rfl) (by kernel_rfl) (by kernel_rfl) (by kernel_rfl) (fun _ _ _ h => h) (.inl ⟨by rfl, ?_⟩) hH ?_
    rotate_left
    · intro w hSw; (try dsimp only at hSw); first | (go_simp; done) | (go_simp; with_reducible rfl) | (go_simp; decide)
    (try simp only [Act.put, gy0, gy1, gy2])
    refine wpAnyH_take (i := 15) (v := ?_) (by simp only [gx0, gx1, gx2]; rfl) (by kernel_rfl) (by kernel_rfl) (by kernel_rfl) (fun _ _ _ h => h) (.inl ⟨by rfl, ?_⟩) hH ?_
    rotate_left
    · intro w hSw; (try dsimp only at hSw); first | (go_simp; done) | (go_simp; with_reducible rfl) | (go_simp; decide)
    (try simp only [Act.put, gy0, gy1, gy2])
    refine wpAnyH_take (i := 16) (v := ?_) (by simp only [gx0, gx1, gx2]; rfl) (by kernel_rfl) (by kernel_rfl) (by kernel_rfl) (fun _ _ _ h => h) (.inl ⟨by rfl, ?_⟩) hH ?_
    rotate_left
    · intro w hSw; (try dsimp only at hSw); first | (go_simp; done) | (go_simp; with_reducible rfl) | (go_simp; decide)
    (try simp only [Act.put, gy0, gy1, gy2])
    refine wpAnyH_done (by kernel_rfl) ?_ _
    refine NoPanic.normal ?_
    clear hH
    have HP := hid (vld_yes rfl P2.out.bel : RetB w true (.returned (.bool true)) _)
    clear P2 RB2 KB2 D4
    go_wp2_with fail
    go_ret
    exact HP.out
  have hz := H3.out (by simp)
  have t1 : decide (0 ≤ z) = true := decide_eq_true hz
  have HZ := hid hz
  clear H3 hz
  (try simp only [List.append_eq, List.cons_append, List.nil_append])
  refine wp_region_noPanic ?_
  refine wp_region_held_drew (S := (fun W => (W.cell? ⟨w.heap.size, 0, none⟩ = some (.slice V0 vn vc) ∧ W.cell? ⟨w.heap.size, 1, none⟩ = some (.slice R0 rn rc)) ∧ (W.cell? ⟨bb, 0, none⟩ = some (.bool gb) ∧ W.cell? ⟨bb, 1, none⟩ = some (.slice Ab nb cb) ∧ W.cell? ⟨bb, 2, none⟩ = some (.slice Db mb db)))) (by kernel_rfl) ?_ (fun hH => ?_)
  exact (And.intro (blk_two P0.out.box) (blk_three KB0.out))
  have bd := bx_drew (bx_refl W6)
  obtain ⟨E0, hW0⟩ : ∃ W, W = W6.drew := ⟨_, rfl⟩
  rw [← hW0] at bd hH ⊢
  clear hW0
  have P1 := hid (P0.out.keep bd)
  have RB1 := hid (RB0.out.keep bd)
  have KB1 := hid (KB0.out.keep bd)
  clear bd P0 RB0 KB0
  refine wpAnyH_take (i := 0) (v := ?_) (by simp only [gx0, gx2]; rfl) (by kernel_rfl) (by kernel_rfl) (by kernel_rfl) (fun _ _ _ h => h) (.inl ⟨by rfl, ?_⟩) hH ?_
  rotate_left
  · intro w hSw; (try dsimp only at hSw); first | (go_simp; done) | (go_simp; with_reducible rfl) | (go_simp; decide)
  (try simp only [Act.put, gy0, gy1, gy2])
  refine wpAnyH_take (i := 1) (v := ?_) (by simp only [gx0, gx1, gx2]; rfl) (by kernel_rfl) (by kernel_rfl) (by kernel_rfl) (fun _ _ _ h => h) (.inl ⟨by rfl, ?_⟩) hH ?_
  rotate_left
  · intro w hSw; (try dsimp only at hSw); first | (go_simp; done) | (go_simp; with_reducible rfl) | (go_simp; decide)
  (try simp only [Act.put, gy0, gy1, gy2])
  refine wpAnyH_ready (rs := [2]) (by kernel_rfl) (by simp) ?_
  refine AllReadyH.cons (by simp only [gx0, gx1, gx2]; rfl) (fun K hK => ?_) AllReadyH.nil
  go_simp
  refine (D4.out _ P1.out.bel).mono ?_
  rintro e v2 ⟨rfl, b⟩
  have P2 := hid (P1.out.keep b)
  have RB2 := hid (RB1.out.keep b)
  have KB2 := hid (KB1.out.keep b)
  clear b hH P1 RB1 KB1
  (try go_wp2_with fail)
  refine hK.out _ _ ?_ (fun hH => ?_)
  exact (And.intro (blk_two P2.out.box) (blk_three KB2.out))
  clear hK K
  (try simp only [Act.put, gy0, gy1, gy2])
  refine wpAnyH_take (i := 3) (v := ?_) (by simp only [gx0, gx1, gx2]; rfl) (by kernel_rfl) (by kernel_rfl) (by kernel_rfl) (fun _ _ _ h => h) (.inl ⟨by rfl, ?_⟩) hH ?_
  rotate_left
  · intro w hSw; (try dsimp only at hSw); first | (go_simp; done) | (go_simp; with_reducible rfl) | (go_simp; decide)
  (try simp only [Act.put, gy0, gy1, gy2])
  refine wpAnyH_take (i := 4) (v := ?_) (by simp only [gx0, gx1, gx2]; rfl) (by kernel_rfl) (by kernel_rfl) (by kernel_rfl) (fun _ _ _ h => h) (.inl ⟨by rfl, ?_⟩) hH ?_
  rotate_left
  · intro w hSw; (try dsimp only at hSw); first | (go_simp; done) | (go_simp; with_reducible rfl) | (go_simp; decide)
  (try simp only [Act.put, gy0, gy1, gy2])
  refine wpAnyH_take (i := 5) (v := ?_) (by simp only [gx0, gx1, gx2]; rfl) (by kernel_rfl) (by kernel_rfl) (by kernel_rfl) (fun _ _ _ h => h) (.inl ⟨by rfl, ?_⟩) hH ?_
  rotate_left
  · intro w hSw; (try dsimp only at hSw); first | (go_simp; done) | (go_simp; with_reducible rfl) | (go_simp; decide)
  (try simp only [Act.put, gy0, gy1, gy2])
  refine wpAnyH_take (i := 6) (v := ?_) (by simp only [gx0, gx1, gx2]; rfl) (by kernel_rfl) (by kernel_rfl) (by kernel_rfl) (fun _ _ _ h => h) (.inl ⟨by rfl, ?_⟩) hH ?_
  rotate_left
  · intro w hSw; (try dsimp only at hSw); first | (go_simp; done) | (go_simp; with_reducible rfl) | (go_simp; decide)
  (try simp only [Act.put, gy0, gy1, gy2])
  refine wpAnyH_take (i := 7) (v := ?_) (by simp only [gx0, gx1, gx2]; rfl) (by kernel_rfl) (by kernel_rfl) (by kernel_rfl) (fun _ _ _ h => h) (.inl ⟨by rfl, ?_⟩) hH ?_
  rotate_left
  · intro w hSw; (try dsimp only at hSw); first | (go_simp; done) | (go_simp; with_reducible rfl) | (go_simp; decide)
  (try simp only [Act.put, gy0, gy1, gy2])
  refine wpAnyH_take (i := 8) (v := ?_) (by simp only [gx0, gx1, gx2]; rfl) (by kernel_rfl) (by kernel_rfl) (by kernel_rfl) (fun _ _ _ h => h) (.inl ⟨by rfl, ?_⟩) hH ?_
  rotate_left
  · intro w hSw; (try dsimp only at hSw); first | (go_simp; done) | (go_simp; with_reducible rfl) | (go_simp; decide)
  (try simp only [Act.put, gy0, gy1, gy2])
  refine wpAnyH_take (i := 9) (v := ?_) (by simp only [gx0, gx1, gx2]; rfl) (by kernel_rfl) (by kernel_rfl) (by kernel_rfl) (fun _ _ _ h => h) (.inl ⟨by rfl, ?_⟩) hH ?_
  rotate_left
  · intro w hSw; (try dsimp only at hSw); first | (go_simp; done) | (go_simp; with_reducible rfl) | (go_simp; decide)
  (try simp only [Act.put, gy0, gy1, gy2])
  refine wpAnyH_take (i := 11) (v := ?_) (by simp only [gx0, gx1, gx2]; rfl) (by kernel_rfl) (by kernel_rfl) (by kernel_rfl) (fun _ _ _ h => h) (.inl ⟨by rfl, ?_⟩) hH ?_
  rotate_left
  · intro w hSw; (try dsimp only at hSw); first | (go_simp; done) | (go_simp; with_reducible rfl) | (go_simp; decide)
  (try simp only [Act.put, gy0, gy1, gy2])
  refine wpAnyH_ready (rs := [10]) (by kernel_rfl) (by simp) ?_
  refine AllReadyH.cons (by simp only [gx0, gx1, gx2]; rfl) (fun K hK => ?_) AllReadyH.nil
  go_simp
  refine (D5.out _ P2.out.bel).mono ?_
  rintro e v3 ⟨g3, A3, n3, c3, D3, m3, d3, rfl, r, b⟩
  have P3 := hid (P2.out.keep b)
  have RB3 := hid (RB2.out.keep b)
  have KB3 := hid (KB2.out.keep b)
  clear b hH P2 RB2 KB2
  have RC := hid r
  clear r
  (try go_wp2_with fail)
  refine hK.out _ _ ?_ (fun hH => ?_)
  exact (And.intro (blk_two P3.out.box) (blk_three KB3.out))
  clear hK K
  (try simp only [Act.put, gy0, gy1, gy2])
  refine wpAnyH_ready (rs := [12]) (by kernel_rfl) (by simp) ?_
  refine AllReadyH.cons (by simp only [gx0, gx1, gx2]; rfl) (fun K hK => ?_) AllReadyH.nil
  go_simp
  refine (CM.out _ g3 A3 n3 c3 D3 m3 d3 RC.out gb Ab nb cb Db mb db RB3.out).mono ?_
  rintro e v4 ⟨rfl, b⟩
  have P4 := hid (P3.out.keep b)
  have RB4 := hid (RB3.out.keep b)
  have KB4 := hid (KB3.out.keep b)
  clear b hH P3 RB3 KB3
  clear RC
  (try go_wp2_with fail)
  refine hK.out _ _ ?_ (fun hH => ?_)
  exact (And.intro (blk_two P4.out.box) (blk_three KB4.out))
  clear hK K
  (try simp only [Act.put, gy0, gy1, gy2])
  refine wpAnyH_take (i := 13) (v := ?_) (by simp only [gx0, gx1, gx2]; rfl) (by kernel_rfl) (by kernel_rfl) (by kernel_rfl) (fun _ _ _ h => h) (.inl ⟨by rfl, ?_⟩) hH ?_
  rotate_left
  · intro w hSw; (try dsimp only at hSw); first | (go_simp; done) | (go_simp; with_reducible rfl) | (go_simp; decide)
  (try simp only [Act.put, gy0, gy1, gy2])
  refine wpAnyH_take (i := 14) (v := ?_) (by simp only [gx0, gx1, gx2]; rfl) (by kernel_rfl) (by kernel_rfl) (by kernel_rfl) (fun _ _ _ h => h) (.inl ⟨by rfl, ?_⟩) hH ?_
  rotate_left
  · intro w hSw; (try dsimp only at hSw); first | (go_simp; done) | (go_simp; with_reducible rfl) | (go_simp; decide)
  (try simp only [Act.put, gy0, gy1, gy2])
  refine wpAnyH_take (i := 15) (v := ?_) (by simp only [gx0, gx1, gx2]; rfl) (by kernel_rfl) (by kernel_rfl) (by kernel_rfl) (fun _ _ _ h => h) (.inl ⟨by rfl, ?_⟩) hH ?_
  rotate_left
  · intro w hSw; (try dsimp only at hSw); first | (go_simp; done) | (go_simp; with_reducible rfl) | (go_simp; decide)
  (try simp only [Act.put, gy0, gy1, gy2])
  refine wpAnyH_take (i := 16) (v := ?_) (by simp only [gx0, gx1, gx2]; rfl) (by kernel_rfl) (by kernel_rfl) (by kernel_rfl) (fun _ _ _ h => h) (.inl ⟨by rfl, ?_⟩) hH ?_
  rotate_left
  · intro w hSw; (try dsimp only at hSw); first | (go_simp; done) | (go_simp; with_reducible rfl) | (go_simp; decide)
  (try simp only [Act.put, gy0, gy1, gy2])
  refine wpAnyH_done (by kernel_rfl) ?_ _
  refine NoPanic.normal ?_
  clear hH
  have HP := hid (vld_yes rfl P4.out.bel : RetB w true (.returned (.bool true)) _)
  clear P4 RB4 KB4 D4 D5 CM
  go_wp2_with fail
  go_ret
  exact HP.out

end Go.Proofs.YtlgdlabhaehdpaaGreat
