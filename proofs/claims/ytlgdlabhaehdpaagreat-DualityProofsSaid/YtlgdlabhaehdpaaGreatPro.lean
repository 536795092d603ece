/- The law DualityProofs. -/
import Derived.Test.YtlgdlabhaehdpaaGreatR5b
import Derived.Test.YtlgdlabhaehdpaaGreatAwk6
import Derived.Deep.DeepCutAuto
import Derived.BigQuiet
namespace Go.Proofs.YtlgdlabhaehdpaaGreat
open Go.RowKit

set_option maxRecDepth 100000 in
set_option maxHeartbeats 16000000 in
theorem dualityProofs_any (p : PD) (X Y R : LD) (w : World) (h : Pw w p) (hx : X.ok w) (hy : Y.ok w) (hr : R.ok w) :
    Calls Tryz.prog 3 #[.agg #[.slice p.V0 p.vn p.vc, .slice p.R0 p.rn p.rc], .slice X.A X.n X.c, .slice Y.A Y.n Y.c, .slice R.A R.n R.c] w (RetB w true) := by
  have SM := hid (fun (W : World) (b : Nat) (B : Below w.heap.size w W) (K : Blk W b ([X, Y, R].map LD.v) 26) => l_smL p b [X, Y, R] 26 W (h.keep B) K (by show (3 : Nat) ≤ _; omega) (fun l hl => by
    simp only [List.mem_cons, List.not_mem_nil, or_false] at hl
    rcases hl with rfl | rfl | rfl
    · exact hx.keep B
    · exact hy.keep B
    · exact hr.keep B))
  have ss : smL p [X, Y, R] = true → fewP p.vn p.rn p.nm p.tn 6 8 = true ∧ X.sm = true ∧ Y.sm = true ∧ R.sm = true := fun e => by
    unfold smL at e
    rw [Bool.and_eq_true] at e
    have e1 := of_decide_eq_true e.1
    exact ⟨e.2, e1 _ (by simp), e1 _ (by simp), e1 _ (by simp)⟩
  have C1 := hid (fun (e : smL p [X, Y, R] = true) (W : World) (B : Below w.heap.size w W) => d_boundL p Y.A Y.n Y.c 4 Y.qs W ((h.keep B).pg (ss e).1) ((hy.keep B).q (ss e).2.2.1) (by omega))
  have C2 := hid (fun (e : smL p [X, Y, R] = true) (W : World) (B : Below w.heap.size w W) => r6_Bound p Y.A Y.n Y.c 4 Y.qs W ((h.keep B).pg (ss e).1) ((hy.keep B).q (ss e).2.2.1) (by omega))
  have C3 := hid (fun (e : smL p [X, Y, R] = true) (W : World) (B : Below w.heap.size w W) => d_optimal p X.A X.n X.c 4 X.qs Y.A Y.n Y.c 4 Y.qs W ((h.keep B).pg (ss e).1) ((hx.keep B).q (ss e).2.1) (by omega) ((hy.keep B).q (ss e).2.2.1) (by omega))
  have C4 := hid (fun (e : smL p [X, Y, R] = true) (W : World) (B : Below w.heap.size w W) => r6_Optimal p X.A X.n X.c 4 X.qs Y.A Y.n Y.c 4 Y.qs W ((h.keep B).pg (ss e).1) ((hx.keep B).q (ss e).2.1) (by omega) ((hy.keep B).q (ss e).2.2.1) (by omega))
  have C5 := hid (fun (e : smL p [X, Y, R] = true) (W : World) (B : Below w.heap.size w W) => d_infeasible p Y.A Y.n Y.c 4 Y.qs W ((h.keep B).pg (ss e).1) ((hy.keep B).q (ss e).2.2.1) (by omega))
  have C6 := hid (fun (e : smL p [X, Y, R] = true) (W : World) (B : Below w.heap.size w W) => r6_Infeasible p Y.A Y.n Y.c 4 Y.qs W ((h.keep B).pg (ss e).1) ((hy.keep B).q (ss e).2.2.1) (by omega))
  have C7 := hid (fun (e : smL p [X, Y, R] = true) (W : World) (B : Below w.heap.size w W) => d_unbounded p X.A X.n X.c 4 X.qs R.A R.n R.c 4 R.qs W ((h.keep B).pg (ss e).1) ((hx.keep B).q (ss e).2.1) (by omega) ((hr.keep B).q (ss e).2.2.2) (by omega))
  have C8 := hid (fun (e : smL p [X, Y, R] = true) (W : World) (B : Below w.heap.size w W) => r6_Unbounded p X.A X.n X.c 4 X.qs R.A R.n R.c 4 R.qs W ((h.keep B).pg (ss e).1) ((hx.keep B).q (ss e).2.1) (by omega) ((hr.keep B).q (ss e).2.2.2) (by omega))
  rw [PD.opt6] at C4
  rw [PD.inf6] at C6
  rw [PD.unb6] at C8
  obtain ⟨s, hs⟩ : ∃ s, s = smL p [X, Y, R] := ⟨_, rfl⟩
  rw [← hs] at SM C1 C2 C3 C4 C5 C6 C7 C8
  obtain ⟨bk, hb1⟩ : ∃ s, s = p.bndB (pt Y.n Y.qs) := ⟨_, rfl⟩
  obtain ⟨qk, hb2⟩ : ∃ s, s = p.bndV (pt Y.n Y.qs) := ⟨_, rfl⟩
  rw [← hb1, ← hb2] at C1 C2
  obtain ⟨bo9, hb3⟩ : ∃ s, s = p.optB (pt X.n X.qs) (pt Y.n Y.qs) := ⟨_, rfl⟩
  rw [← hb3] at C3 C4
  obtain ⟨bi9, hb4⟩ : ∃ s, s = p.infB (pt Y.n Y.qs) := ⟨_, rfl⟩
  rw [← hb4] at C5 C6
  obtain ⟨bu9, hb5⟩ : ∃ s, s = p.unbB (pt X.n X.qs) (pt R.n R.qs) := ⟨_, rfl⟩
  rw [← hb5] at C7 C8
  clear hx hy hr hs hb1 hb2 hb3 hb4 hb5 ss h
  obtain ⟨V0, vn, vc, lo, up, op, it, co, R0, rn, rc, nm, gr, ki, bo, TA, tn, tc, v, cf⟩ := p
  obtain ⟨XA, Xn, Xc, XN, XM, xs⟩ := X
  obtain ⟨YA, Yn, Yc, YN, YM, ys⟩ := Y
  obtain ⟨RA, Rn, Rc, RN, RM, rs⟩ := R
  dsimp only [List.map, LD.v, List.length] at SM C1 C2 C3 C4 C5 C6 C7 C8 ⊢
  obtain ⟨W0, hW⟩ : ∃ W, W = w.alloc (.cells #[.slice V0 vn vc, .slice R0 rn rc] 25) := ⟨_, rfl⟩
  have B0 := bx_alloc (bx_refl w) (.cells #[.slice V0 vn vc, .slice R0 rn rc] 25)
  have K0 := Blk.new w [.slice V0 vn vc, .slice R0 rn rc] 25
  change Blk (w.alloc (.cells #[.slice V0 vn vc, .slice R0 rn rc] 25)) _ _ _ at K0
  rw [← hW] at B0 K0
  have P0 := hid (show Kp w V0 vn vc R0 rn rc W0 from ⟨B0, K0⟩)
  clear B0 K0
  go_enter Tryz.func3, Tryz.ntmps3
  go_upto_region 1 with fail
  rw [← hW]
  clear hW
  go_wp2_with fail
  refine (awk6 W0).mono ?_
  rintro e W1 ⟨rfl, b⟩
  have P1 := hid (P0.out.keep b)
  clear P0 b
  obtain ⟨z0, z1⟩ := blk_two P1.out.box
  have ba := bx_alloc (bx_refl W1) (.cells #[.slice XA Xn Xc, .slice YA Yn Yc, .slice RA Rn Rc] 26)
  have kn := Blk.new W1 [.slice XA Xn Xc, .slice YA Yn Yc, .slice RA Rn Rc] 26
  change Below W1.heap.size W1 (W1.alloc (.cells #[.slice XA Xn Xc, .slice YA Yn Yc, .slice RA Rn Rc] 26)) at ba
  have SM2 := hid (SM.out _ _ (bx_call P1.out.bel ba) kn)
  have P2 := hid (P1.out.keep ba)
  clear kn ba SM P1
  go_wp2_with fail
  refine (SM2.out).mono ?_
  rintro e W2 ⟨rfl, b⟩
  have P3 := hid (P2.out.keep b)
  clear SM2 P2 b z0 z1
  cases s
  · clear C1 C2 C3 C4 C5 C6 C7 C8
    go_wp2_with fail
    refine (awk6 W2).mono ?_
    rintro e W3 ⟨rfl, b⟩
    have P4 := hid (P3.out.keep b)
    clear P3 b
    go_wp2_with fail
    go_ret
    exact vld_yes rfl P4.out.bel
  have D1 := hid (C1.out rfl)
  have D2 := hid (C2.out rfl)
  have D3 := hid (C3.out rfl)
  have D4 := hid (C4.out rfl)
  have D5 := hid (C5.out rfl)
  have D6 := hid (C6.out rfl)
  have D7 := hid (C7.out rfl)
  have D8 := hid (C8.out rfl)
  clear C1 C2 C3 C4 C5 C6 C7 C8
  obtain ⟨z0, z1⟩ := blk_two P3.out.box
  go_wp2_with fail
  refine (D1.out _ P3.out.bel).mono ?_
  rintro e W3 ⟨Aa, na, ca, Fa, ma, da, rfl, fa, b⟩
  have P4 := hid (P3.out.keep b)
  have FA := hid fa
  clear P3 fa b D1 z0 z1
  go_upto_region 4 with fail
  obtain ⟨W4, ab, hW, hp, b, kk⟩ := mk_cells W3 [.bool (sg qk.num), .slice Aa na ca, .slice Fa ma da] 34
  simp only [List.toArray] at hW
  rw [← hW, ← hp]
  have P5 := hid (P4.out.keep b)
  have BA5 := hid (show Bq W4 ab 112000000 qk Aa na ca Fa ma da from ⟨kk, FA.out.keep b⟩)
  clear hW hp b kk P4 FA
  obtain ⟨z0, z1⟩ := blk_two P5.out.box
  go_wp2_with fail
  refine (D2.out _ P5.out.bel).mono ?_
  rintro e W5 ⟨Ab, nb, cb, Fb, mb, db, rfl, fb, b⟩
  have P6 := hid (P5.out.keep b)
  have BA6 := hid (BA5.out.keep b)
  have FB := hid fb
  clear P5 BA5 fb b D2 z0 z1
  go_upto_region 5 with fail
  obtain ⟨W6, bb, hW, hp, b, kk⟩ := mk_cells W5 [.bool (sg qk.num), .slice Ab nb cb, .slice Fb mb db] 34
  simp only [List.toArray] at hW
  rw [← hW, ← hp]
  have P0 := hid (P6.out.keep b)
  have BA0 := hid (BA6.out.keep b)
  have BB0 := hid (show Bq W6 bb 440003000 qk Ab nb cb Fb mb db from ⟨kk, FB.out.keep b⟩)
  clear hW hp b kk P6 BA6 FB
  (try simp only [List.append_eq, List.cons_append, List.nil_append])
  refine wp_region_noPanic ?_
  refine wp_region_held_drew (S := (fun W => (W.cell? ⟨w.heap.size, 0, none⟩ = some (.slice V0 vn vc) ∧ W.cell? ⟨w.heap.size, 1, none⟩ = some (.slice R0 rn rc)) ∧ (W.cell? ⟨ab, 0, none⟩ = some (.bool (sg qk.num)) ∧ W.cell? ⟨ab, 1, none⟩ = some (.slice Aa na ca) ∧ W.cell? ⟨ab, 2, none⟩ = some (.slice Fa ma da)) ∧ (W.cell? ⟨bb, 0, none⟩ = some (.bool (sg qk.num)) ∧ W.cell? ⟨bb, 1, none⟩ = some (.slice Ab nb cb) ∧ W.cell? ⟨bb, 2, none⟩ = some (.slice Fb mb db)))) (by kernel_rfl) ?_ (fun hH => ?_)
  exact (And.intro (blk_two P0.out.box) (And.intro (blk_three BA0.out.blk) (blk_three BB0.out.blk)))
  have bd := bx_drew (bx_refl W6)
  obtain ⟨E0, hW0⟩ : ∃ W, W = W6.drew := ⟨_, rfl⟩
  rw [← hW0] at bd hH ⊢
  clear hW0
  have P1 := hid (P0.out.keep bd)
  have BA1 := hid (BA0.out.keep bd)
  have BB1 := hid (BB0.out.keep bd)
  clear bd P0 BA0 BB0
  refine tk 0 hH ?_
  (try simp only [Act.put, gy0, gy1, gy2])
  refine tk 1 hH ?_
  (try simp only [Act.put, gy0, gy1, gy2])
  refine wpAnyH_ready (rs := [2]) (by kernel_rfl) (by simp) ?_
  refine rdy (fun K hK => ?_) AllReadyH.nil
  go_simp
  refine (vsame_refl BA1.out.fr BB1.out.fr).mono ?_
  rintro e v1 ⟨rfl, b⟩
  have P2 := hid (P1.out.keep b)
  have BA2 := hid (BA1.out.keep b)
  have BB2 := hid (BB1.out.keep b)
  clear b hH P1 BA1 BB1
  (try go_wp2_with fail)
  refine hK.out _ _ ?_ (fun hH => ?_)
  exact (And.intro (blk_two P2.out.box) (And.intro (blk_three BA2.out.blk) (blk_three BB2.out.blk)))
  clear hK K
  (try simp only [Act.put, gy0, gy1, gy2])
  refine tk 3 hH ?_
  (try simp only [Act.put, gy0, gy1, gy2])
  refine tk 4 hH ?_
  (try simp only [Act.put, gy0, gy1, gy2])
  refine tk 5 hH ?_
  (try simp only [Act.put, gy0, gy1, gy2])
  refine tk 6 hH ?_
  (try simp only [Act.put, gy0, gy1, gy2])
  refine tk 7 hH ?_
  (try simp only [Act.put, gy0, gy1, gy2])
  refine tk 8 hH ?_
  (try simp only [Act.put, gy0, gy1, gy2])
  refine tk 9 hH ?_
  (try simp only [Act.put, gy0, gy1, gy2])
  refine tk 10 hH ?_
  (try simp only [Act.put, gy0, gy1, gy2])
  refine tk 11 hH ?_
  (try simp only [Act.put, gy0, gy1, gy2])
  refine tk 13 hH ?_
  (try simp only [Act.put, gy0, gy1, gy2])
  refine tk 14 hH ?_
  (try simp only [Act.put, gy0, gy1, gy2])
  refine tk 15 hH ?_
  (try simp only [Act.put, gy0, gy1, gy2])
  refine wpAnyH_ready (rs := [12]) (by kernel_rfl) (by simp) ?_
  refine rdy (fun K hK => ?_) AllReadyH.nil
  go_simp
  refine (D3.out _ P2.out.bel).mono ?_
  rintro e v2 ⟨rfl, b⟩
  have P3 := hid (P2.out.keep b)
  have BA3 := hid (BA2.out.keep b)
  have BB3 := hid (BB2.out.keep b)
  clear b hH P2 BA2 BB2
  clear D3
  (try go_wp2_with fail)
  refine hK.out _ _ ?_ (fun hH => ?_)
  exact (And.intro (blk_two P3.out.box) (And.intro (blk_three BA3.out.blk) (blk_three BB3.out.blk)))
  clear hK K
  (try simp only [Act.put, gy0, gy1, gy2])
  refine wpAnyH_ready (rs := [16]) (by kernel_rfl) (by simp) ?_
  refine rdy (fun K hK => ?_) AllReadyH.nil
  go_simp
  refine (D4.out _ P3.out.bel).mono ?_
  rintro e v3 ⟨rfl, b⟩
  have P4 := hid (P3.out.keep b)
  have BA4 := hid (BA3.out.keep b)
  have BB4 := hid (BB3.out.keep b)
  clear b hH P3 BA3 BB3
  clear D4
  (try go_wp2_with fail)
  refine hK.out _ _ ?_ (fun hH => ?_)
  exact (And.intro (blk_two P4.out.box) (And.intro (blk_three BA4.out.blk) (blk_three BB4.out.blk)))
  clear hK K
  (try simp only [Act.put, gy0, gy1, gy2])
  refine tk 17 hH ?_
  (try simp only [Act.put, gy0, gy1, gy2])
  refine tk 18 hH ?_
  (try simp only [Act.put, gy0, gy1, gy2])
  refine tk 19 hH ?_
  (try simp only [Act.put, gy0, gy1, gy2])
  refine tk 20 hH ?_
  (try simp only [Act.put, gy0, gy1, gy2])
  refine tk 21 hH ?_
  (try simp only [Act.put, gy0, gy1, gy2])
  refine tk 23 hH ?_
  (try simp only [Act.put, gy0, gy1, gy2])
  refine tk 24 hH ?_
  (try simp only [Act.put, gy0, gy1, gy2])
  refine wpAnyH_ready (rs := [22]) (by kernel_rfl) (by simp) ?_
  refine rdy (fun K hK => ?_) AllReadyH.nil
  go_simp
  refine (D5.out _ P4.out.bel).mono ?_
  rintro e v4 ⟨rfl, b⟩
  have P5 := hid (P4.out.keep b)
  have BA5 := hid (BA4.out.keep b)
  have BB5 := hid (BB4.out.keep b)
  clear b hH P4 BA4 BB4
  clear D5
  (try go_wp2_with fail)
  refine hK.out _ _ ?_ (fun hH => ?_)
  exact (And.intro (blk_two P5.out.box) (And.intro (blk_three BA5.out.blk) (blk_three BB5.out.blk)))
  clear hK K
  (try simp only [Act.put, gy0, gy1, gy2])
  refine wpAnyH_ready (rs := [25]) (by kernel_rfl) (by simp) ?_
  refine rdy (fun K hK => ?_) AllReadyH.nil
  go_simp
  refine (D6.out _ P5.out.bel).mono ?_
  rintro e v5 ⟨rfl, b⟩
  have P6 := hid (P5.out.keep b)
  have BA6 := hid (BA5.out.keep b)
  have BB6 := hid (BB5.out.keep b)
  clear b hH P5 BA5 BB5
  clear D6
  (try go_wp2_with fail)
  refine hK.out _ _ ?_ (fun hH => ?_)
  exact (And.intro (blk_two P6.out.box) (And.intro (blk_three BA6.out.blk) (blk_three BB6.out.blk)))
  clear hK K
  (try simp only [Act.put, gy0, gy1, gy2])
  refine tk 26 hH ?_
  (try simp only [Act.put, gy0, gy1, gy2])
  refine tk 27 hH ?_
  (try simp only [Act.put, gy0, gy1, gy2])
  refine tk 28 hH ?_
  (try simp only [Act.put, gy0, gy1, gy2])
  refine tk 29 hH ?_
  (try simp only [Act.put, gy0, gy1, gy2])
  refine tk 30 hH ?_
  (try simp only [Act.put, gy0, gy1, gy2])
  refine tk 31 hH ?_
  (try simp only [Act.put, gy0, gy1, gy2])
  refine tk 33 hH ?_
  (try simp only [Act.put, gy0, gy1, gy2])
  refine tk 34 hH ?_
  (try simp only [Act.put, gy0, gy1, gy2])
  refine tk 35 hH ?_
  (try simp only [Act.put, gy0, gy1, gy2])
  refine wpAnyH_ready (rs := [32]) (by kernel_rfl) (by simp) ?_
  refine rdy (fun K hK => ?_) AllReadyH.nil
  go_simp
  refine (D7.out _ P6.out.bel).mono ?_
  rintro e v6 ⟨rfl, b⟩
  have P7 := hid (P6.out.keep b)
  have BA7 := hid (BA6.out.keep b)
  have BB7 := hid (BB6.out.keep b)
  clear b hH P6 BA6 BB6
  clear D7
  (try go_wp2_with fail)
  refine hK.out _ _ ?_ (fun hH => ?_)
  exact (And.intro (blk_two P7.out.box) (And.intro (blk_three BA7.out.blk) (blk_three BB7.out.blk)))
  clear hK K
  (try simp only [Act.put, gy0, gy1, gy2])
  refine wpAnyH_ready (rs := [36]) (by kernel_rfl) (by simp) ?_
  refine rdy (fun K hK => ?_) AllReadyH.nil
  go_simp
  refine (D8.out _ P7.out.bel).mono ?_
  rintro e v7 ⟨rfl, b⟩
  have P8 := hid (P7.out.keep b)
  have BA8 := hid (BA7.out.keep b)
  have BB8 := hid (BB7.out.keep b)
  clear b hH P7 BA7 BB7
  clear D8
  (try go_wp2_with fail)
  refine hK.out _ _ ?_ (fun hH => ?_)
  exact (And.intro (blk_two P8.out.box) (And.intro (blk_three BA8.out.blk) (blk_three BB8.out.blk)))
  clear hK K
  (try simp only [Act.put, gy0, gy1, gy2])
  refine tk 37 hH ?_
  (try simp only [Act.put, gy0, gy1, gy2])
  refine tk 38 hH ?_
  (try simp only [Act.put, gy0, gy1, gy2])
  refine tk 39 hH ?_
  (try simp only [Act.put, gy0, gy1, gy2])
  refine wpAnyH_done (by kernel_rfl) ?_ _
  refine NoPanic.normal ?_
  clear hH
  have HP := hid (vld_yes rfl P8.out.bel : RetB w true (.returned (.bool true)) _)
  clear P8 BA8 BB8
  go_wp2_with fail
  go_ret
  exact HP.out

end Go.Proofs.YtlgdlabhaehdpaaGreat
