/- The law DualityKinds. -/
import Derived.Test.YtlgdlabhaehdpaaDmat
import Derived.Test.YtlgdlabhaehdpaaAwk6
import Derived.Deep.DeepCutAuto
import Derived.BigQuiet
namespace Go.Proofs.Ytlgdlabhaehdpaa
open Go.RowKit

/-- The program's box. -/
structure Kp (w : World) (V0 : Option Addr) (vn vc : Nat) (R0 : Option Addr) (rn rc : Nat) (W : World) : Prop where
  bel : Below w.heap.size w W
  box : Blk W w.heap.size [.slice V0 vn vc, .slice R0 rn rc] 25
theorem Kp.keep {w : World} {V0 : Option Addr} {vn vc : Nat} {R0 : Option Addr} {rn rc : Nat} {W W' : World} (h : Kp w V0 vn vc R0 rn rc W) (b : Below W.heap.size W W') : Kp w V0 vn vc R0 rn rc W' := ⟨bx_call h.bel b, h.box.keep b⟩

set_option maxRecDepth 100000 in
set_option maxHeartbeats 8000000 in
theorem dualityKinds_any (p : PD) (X Y Z R : LD) (w : World) (h : Pw w p) (hx : X.ok w) (hy : Y.ok w) (hz : Z.ok w) (hr : R.ok w) :
    Calls Try.prog 3 #[.agg #[.slice p.V0 p.vn p.vc, .slice p.R0 p.rn p.rc], .slice X.A X.n X.c, .slice Y.A Y.n Y.c, .slice Z.A Z.n Z.c, .slice R.A R.n R.c] w (RetB w true) := by
  have SM := hid (fun (W : World) (b : Nat) (B : Below w.heap.size w W) (K : Blk W b ([X, Y, Z, R].map LD.v) 26) => l_smL p b [X, Y, Z, R] 26 W (h.keep B) K (by show (4 : Nat) ≤ _; omega) (fun l hl => by
    simp only [List.mem_cons, List.not_mem_nil, or_false] at hl
    rcases hl with rfl | rfl | rfl | rfl
    · exact hx.keep B
    · exact hy.keep B
    · exact hz.keep B
    · exact hr.keep B))
  have ss : smL p [X, Y, Z, R] = true → fewP p.vn p.rn p.nm p.tn 6 8 = true ∧ X.sm = true ∧ Y.sm = true ∧ Z.sm = true ∧ R.sm = true := fun e => by
    unfold smL at e
    rw [Bool.and_eq_true] at e
    have e1 := of_decide_eq_true e.1
    exact ⟨e.2, e1 _ (by simp), e1 _ (by simp), e1 _ (by simp), e1 _ (by simp)⟩
  have C1 := hid (fun (e : smL p [X, Y, Z, R] = true) (W : World) (B : Below w.heap.size w W) => d_infeasible p Y.A Y.n Y.c 4 Y.qs W ((h.keep B).pg (ss e).1) ((hy.keep B).q (ss e).2.2.1) (by omega))
  have C2 := hid (fun (e : smL p [X, Y, Z, R] = true) (W : World) (B : Below w.heap.size w W) => d_optimal p X.A X.n X.c 4 X.qs Z.A Z.n Z.c 4 Z.qs W ((h.keep B).pg (ss e).1) ((hx.keep B).q (ss e).2.1) (by omega) ((hz.keep B).q (ss e).2.2.2.1) (by omega))
  have C3 := hid (fun (e : smL p [X, Y, Z, R] = true) (W : World) (B : Below w.heap.size w W) => d_unbounded p X.A X.n X.c 4 X.qs R.A R.n R.c 4 R.qs W ((h.keep B).pg (ss e).1) ((hx.keep B).q (ss e).2.1) (by omega) ((hr.keep B).q (ss e).2.2.2.2) (by omega))
  have KD := PD.kinds (p := p) (x := pt X.n X.qs) (y := pt Y.n Y.qs) (z := pt Z.n Z.qs) (ray := pt R.n R.qs)
  obtain ⟨s, hs⟩ : ∃ s, s = smL p [X, Y, Z, R] := ⟨_, rfl⟩
  rw [← hs] at SM C1 C2 C3
  obtain ⟨b1, hb1⟩ : ∃ s, s = p.infB (pt Y.n Y.qs) := ⟨_, rfl⟩
  rw [← hb1] at C1 KD
  obtain ⟨b2, hb2⟩ : ∃ s, s = p.optB (pt X.n X.qs) (pt Z.n Z.qs) := ⟨_, rfl⟩
  rw [← hb2] at C2 KD
  obtain ⟨b3, hb3⟩ : ∃ s, s = p.unbB (pt X.n X.qs) (pt R.n R.qs) := ⟨_, rfl⟩
  rw [← hb3] at C3 KD
  have HK := hid KD
  clear hx hy hz hr hs hb1 hb2 hb3 KD ss h
  obtain ⟨V0, vn, vc, lo, up, op, it, co, R0, rn, rc, nm, gr, ki, bo, TA, tn, tc, v, cf⟩ := p
  obtain ⟨XA, Xn, Xc, XN, XM, xs⟩ := X
  obtain ⟨YA, Yn, Yc, YN, YM, ys⟩ := Y
  obtain ⟨ZA, Zn, Zc, ZN, ZM, zs⟩ := Z
  obtain ⟨RA, Rn, Rc, RN, RM, rs⟩ := R
  dsimp only [List.map, LD.v, List.length] at SM C1 C2 C3 ⊢
  obtain ⟨W0, hW⟩ : ∃ W, W = w.alloc (.cells #[.slice V0 vn vc, .slice R0 rn rc] 25) := ⟨_, rfl⟩
  have B0 := bx_alloc (bx_refl w) (.cells #[.slice V0 vn vc, .slice R0 rn rc] 25)
  have K0 := Blk.new w [.slice V0 vn vc, .slice R0 rn rc] 25
  change Blk (w.alloc (.cells #[.slice V0 vn vc, .slice R0 rn rc] 25)) _ _ _ at K0
  rw [← hW] at B0 K0
  have P0 := hid (show Kp w V0 vn vc R0 rn rc W0 from ⟨B0, K0⟩)
  clear B0 K0
  go_enter Try.func3, Try.ntmps3
  go_upto_region 1 with fail
  rw [← hW]
  clear hW
  go_wp2_with fail
  refine (awk6 W0).mono ?_
  rintro e W1 ⟨rfl, b⟩
  have P1 := hid (P0.out.keep b)
  clear P0 b
  obtain ⟨z0, z1⟩ := blk_two P1.out.box
  have ba := bx_alloc (bx_refl W1) (.cells #[.slice XA Xn Xc, .slice YA Yn Yc, .slice ZA Zn Zc, .slice RA Rn Rc] 26)
  have kn := Blk.new W1 [.slice XA Xn Xc, .slice YA Yn Yc, .slice ZA Zn Zc, .slice RA Rn Rc] 26
  change Below W1.heap.size W1 (W1.alloc (.cells #[.slice XA Xn Xc, .slice YA Yn Yc, .slice ZA Zn Zc, .slice RA Rn Rc] 26)) at ba
  have SM2 := hid (SM.out _ _ (bx_call P1.out.bel ba) kn)
  have P2 := hid (P1.out.keep ba)
  clear kn ba SM P1
  go_wp2_with fail
  refine (SM2.out).mono ?_
  rintro e W2 ⟨rfl, b⟩
  have P3 := hid (P2.out.keep b)
  clear SM2 P2 b z0 z1
  cases s
  · clear C1 C2 C3 HK
    go_wp2_with fail
    refine (awk6 W2).mono ?_
    rintro e W3 ⟨rfl, b⟩
    have P4 := hid (P3.out.keep b)
    clear P3 b
    go_wp2_with fail
    go_ret
    exact vld_yes rfl P4.out.bel
  have D1 := hid (C1.out rfl)
  have D2 := hid (C2.out rfl)
  have D3 := hid (C3.out rfl)
  clear C1 C2 C3
  go_upto_region 3 with fail
  (try simp only [List.append_eq, List.cons_append, List.nil_append])
  refine wp_region_noPanic ?_
  refine wp_region_held_drew (S := (fun W => W.cell? ⟨w.heap.size, 0, none⟩ = some (.slice V0 vn vc) ∧ W.cell? ⟨w.heap.size, 1, none⟩ = some (.slice R0 rn rc))) (by kernel_rfl) ?_ (fun hH => ?_)
  exact (blk_two P3.out.box)
  have bd := bx_drew (bx_refl W2)
  obtain ⟨D0, hW0⟩ : ∃ W, W = W2.drew := ⟨_, rfl⟩
  rw [← hW0] at bd hH ⊢
  clear hW0
  have P4 := hid (P3.out.keep bd)
  clear bd P3
  refine wpAnyH_take (i := 0) (v := ?_) (by simp only [gx0, gx2]; rfl) (by kernel_rfl) (by kernel_rfl) (by kernel_rfl) (fun _ _ _ h => h) (.inl ⟨by rfl, ?_⟩) hH ?_
  rotate_left
  · intro w hSw; (try dsimp only at hSw); first | (go_simp; done) | (go_simp; with_reducible rfl) | (go_simp; decide)
  (try simp only [Act.put, gy0, gy1, gy2])
  refine wpAnyH_take (i := 1) (v := ?_) (by simp only [gx0, gx1, gx2]; rfl) (by kernel_rfl) (by kernel_rfl) (by kernel_rfl) (fun _ _ _ h => h) (.inl ⟨by rfl, ?_⟩) hH ?_
  rotate_left
  · intro w hSw; (try dsimp only at hSw); first | (go_simp; done) | (go_simp; with_reducible rfl) | (go_simp; decide)
  (try simp only [Act.put, gy0, gy1, gy2])
  refine wpAnyH_take (i := 3) (v := ?_) (by simp only [gx0, gx1, gx2]; rfl) (by kernel_rfl) (by kernel_rfl) (by kernel_rfl) (fun _ _ _ h => h) (.inl ⟨by rfl, ?_⟩) hH ?_
  rotate_left
  · intro w hSw; (try dsimp only at hSw); first | (go_simp; done) | (go_simp; with_reducible rfl) | (go_simp; decide)
  (try simp only [Act.put, gy0, gy1, gy2])
  refine wpAnyH_take (i := 4) (v := ?_) (by simp only [gx0, gx1, gx2]; rfl) (by kernel_rfl) (by kernel_rfl) (by kernel_rfl) (fun _ _ _ h => h) (.inl ⟨by rfl, ?_⟩) hH ?_
  rotate_left
  · intro w hSw; (try dsimp only at hSw); first | (go_simp; done) | (go_simp; with_reducible rfl) | (go_simp; decide)
  (try simp only [Act.put, gy0, gy1, gy2])
  refine wpAnyH_take (i := 5) (v := ?_) (by simp only [gx0, gx1, gx2]; rfl) (by kernel_rfl) (by kernel_rfl) (by kernel_rfl) (fun _ _ _ h => h) (.inl ⟨by rfl, ?_⟩) hH ?_
  rotate_left
  · intro w hSw; (try dsimp only at hSw); first | (go_simp; done) | (go_simp; with_reducible rfl) | (go_simp; decide)
  (try simp only [Act.put, gy0, gy1, gy2])
  refine wpAnyH_take (i := 7) (v := ?_) (by simp only [gx0, gx1, gx2]; rfl) (by kernel_rfl) (by kernel_rfl) (by kernel_rfl) (fun _ _ _ h => h) (.inl ⟨by rfl, ?_⟩) hH ?_
  rotate_left
  · intro w hSw; (try dsimp only at hSw); first | (go_simp; done) | (go_simp; with_reducible rfl) | (go_simp; decide)
  (try simp only [Act.put, gy0, gy1, gy2])
  refine wpAnyH_take (i := 8) (v := ?_) (by simp only [gx0, gx1, gx2]; rfl) (by kernel_rfl) (by kernel_rfl) (by kernel_rfl) (fun _ _ _ h => h) (.inl ⟨by rfl, ?_⟩) hH ?_
  rotate_left
  · intro w hSw; (try dsimp only at hSw); first | (go_simp; done) | (go_simp; with_reducible rfl) | (go_simp; decide)
  (try simp only [Act.put, gy0, gy1, gy2])
  refine wpAnyH_take (i := 9) (v := ?_) (by simp only [gx0, gx1, gx2]; rfl) (by kernel_rfl) (by kernel_rfl) (by kernel_rfl) (fun _ _ _ h => h) (.inl ⟨by rfl, ?_⟩) hH ?_
  rotate_left
  · intro w hSw; (try dsimp only at hSw); first | (go_simp; done) | (go_simp; with_reducible rfl) | (go_simp; decide)
  (try simp only [Act.put, gy0, gy1, gy2])
  refine wpAnyH_ready (rs := [2]) (by kernel_rfl) (by simp) ?_
  refine AllReadyH.cons (by simp only [gx0, gx1, gx2]; rfl) (fun K hK => ?_) AllReadyH.nil
  go_simp
  refine (D1.out _ P4.out.bel).mono ?_
  rintro e v0 ⟨rfl, b⟩
  have P5 := hid (P4.out.keep b)
  clear b hH P4 D1
  (try go_wp2_with fail)
  refine hK.out _ _ ?_ (fun hH => ?_)
  exact (blk_two P5.out.box)
  clear hK K
  (try simp only [Act.put, gy0, gy1, gy2])
  refine wpAnyH_ready (rs := [6]) (by kernel_rfl) (by simp) ?_
  refine AllReadyH.cons (by simp only [gx0, gx1, gx2]; rfl) (fun K hK => ?_) AllReadyH.nil
  go_simp
  refine (D2.out _ P5.out.bel).mono ?_
  rintro e v1 ⟨rfl, b⟩
  have P6 := hid (P5.out.keep b)
  clear b hH P5 D2
  (try go_wp2_with fail)
  refine hK.out _ _ ?_ (fun hH => ?_)
  exact (blk_two P6.out.box)
  clear hK K
  (try simp only [Act.put, gy0, gy1, gy2])
  refine wpAnyH_ready (rs := [10]) (by kernel_rfl) (by simp) ?_
  refine AllReadyH.cons (by simp only [gx0, gx1, gx2]; rfl) (fun K hK => ?_) AllReadyH.nil
  go_simp
  refine (D3.out _ P6.out.bel).mono ?_
  rintro e v2 ⟨rfl, b⟩
  have P7 := hid (P6.out.keep b)
  clear b hH P6 D3
  (try go_wp2_with fail)
  refine hK.out _ _ ?_ (fun hH => ?_)
  exact (blk_two P7.out.box)
  clear hK K
  (try simp only [Act.put, gy0, gy1, gy2])
  refine wpAnyH_take (i := 11) (v := ?_) (by simp only [gx0, gx1, gx2]; rfl) (by kernel_rfl) (by kernel_rfl) (by kernel_rfl) (fun _ _ _ h => h) (.inl ⟨by rfl, ?_⟩) hH ?_
  rotate_left
  · intro w hSw; (try dsimp only at hSw); first | (go_simp; done) | (go_simp; with_reducible rfl) | (go_simp; decide)
  (try simp only [Act.put, gy0, gy1, gy2])
  refine wpAnyH_take (i := 12) (v := ?_) (by simp only [gx0, gx1, gx2]; rfl) (by kernel_rfl) (by kernel_rfl) (by kernel_rfl) (fun _ _ _ h => h) (.inl ⟨by rfl, ?_⟩) hH ?_
  rotate_left
  · intro w hSw; (try dsimp only at hSw); first | (go_simp; done) | (go_simp; with_reducible rfl) | (go_simp; decide)
  (try simp only [Act.put, gy0, gy1, gy2])
  refine wpAnyH_take (i := 13) (v := ?_) (by simp only [gx0, gx1, gx2]; rfl) (by kernel_rfl) (by kernel_rfl) (by kernel_rfl) (fun _ _ _ h => h) (.inl ⟨by rfl, ?_⟩) hH ?_
  rotate_left
  · intro w hSw; (try dsimp only at hSw); first | (go_simp; done) | (go_simp; with_reducible rfl) | (go_simp; decide)
  (try simp only [Act.put, gy0, gy1, gy2])
  refine wpAnyH_done (by kernel_rfl) ?_ _
  refine NoPanic.normal ?_
  clear hH
  have HP := hid (vld_yes rfl P7.out.bel : RetB w true (.returned (.bool true)) _)
  clear P7
  cases b1 <;> cases b2 <;> cases b3 <;> first
    | exact absurd HK.out (by decide)
    | (clear HK
       go_wp2_with fail
       go_ret
       exact HP.out)

end Go.Proofs.Ytlgdlabhaehdpaa
