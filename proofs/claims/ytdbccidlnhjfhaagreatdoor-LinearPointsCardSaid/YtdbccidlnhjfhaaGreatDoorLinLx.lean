/- LinLx. -/
import Derived.Test.YtdbccidlnhjfhaaGreatDoorLinA
import Derived.Deep.DeepCutAuto
import Derived.BigQuiet
import Derived.Test.YtdbccidlnhjfhaaGreatDoorLinL
namespace Go.Proofs.YtdbccidlnhjfhaaGreatDoor
open Go.RowKit
set_option maxRecDepth 100000
def AccX (w : World) (cs : List Value) (t : TypeId) (k : Nat) (q : Rat) (W : World) : Prop := Below w.heap.size w W ∧ Blk W w.heap.size cs t ∧ Blk W (w.heap.size + 1) [.bool false, .slice none 0 0, .slice none 0 0] 41 ∧ ∃ g A n c D m d, Blk W (w.heap.size + 2) [.bool g, .slice A n c, .slice D m d] 41 ∧ FrW W g A n c D m d k q
theorem AccX.start (w : World) (cs : List Value) (t : TypeId) {k : Nat} (hk : 1 ≤ k) : AccX w cs t k 0 (((w.alloc (.cells cs.toArray t)).alloc (.cells #[.bool false, .slice none 0 0, .slice none 0 0] 41)).alloc (.cells #[.bool false, .slice none 0 0, .slice none 0 0] 41)) := by
  refine ⟨bx_alloc (bx_alloc (bx_alloc (bx_refl w) _) _) _, ((Blk.new w cs t).alloc _).alloc _, (blk_new1 w _ [.bool false, .slice none 0 0, .slice none 0 0] 41).alloc _, false, none, 0, 0, none, 0, 0, ?_, FrW.zero _ hk⟩
  have := blk_new1 (w.alloc (.cells cs.toArray t)) (.cells #[.bool false, .slice none 0 0, .slice none 0 0] 41) [.bool false, .slice none 0 0, .slice none 0 0] 41
  rwa [World.size_alloc] at this
theorem AccX.keep {w W W' : World} {cs : List Value} {t : TypeId} {k : Nat} {q : Rat} (h : AccX w cs t k q W) (b : Below W.heap.size W W') : AccX w cs t k q W' := by
  obtain ⟨h1, h0, h2, g, A, n, c, D, m, d, h3, h4⟩ := h
  exact ⟨bx_call h1 b, h0.keep b, h2.keep b, g, A, n, c, D, m, d, h3.keep b, h4.keep b⟩
theorem AccX.next {w W : World} {cs : List Value} {t : TypeId} {k k' : Nat} {q q' : Rat} {g : Bool} {A D : Option Addr} {n c m d : Nat} (h : AccX w cs t k q W) (f : FrW W g A n c D m d k' q') : AccX w cs t k' q' (((W.setCell ⟨w.heap.size + 2, 0, none⟩ (.bool g)).setCell ⟨w.heap.size + 2, 1, none⟩ (.slice A n c)).setCell ⟨w.heap.size + 2, 2, none⟩ (.slice D m d)) := by
  obtain ⟨h1, h0, h2, g0, A0, n0, c0, D0, m0, d0, h3, h4⟩ := h
  have hg : w.heap.size ≤ w.heap.size + 2 := by omega
  exact ⟨bx_set (bx_set (bx_set h1 hg) hg) hg, ((h0.far (by omega) _).far (by omega) _).far (by omega) _, ((h2.far (by omega) _).far (by omega) _).far (by omega) _, g, A, n, c, D, m, d, ((h3.set_ 0 _).set_ 1 _).set_ 2 _, frw_far3 f h3 _ _ _⟩
theorem AccX.done {w W : World} {k : Nat} {q : Rat} {g : Bool} {A D : Option Addr} {n c m d : Nat} (h1 : Below w.heap.size w W) (h2 : Blk W (w.heap.size + 1) [.bool false, .slice none 0 0, .slice none 0 0] 41) (f : FrW W g A n c D m d k q) : RetW w q k (.returned (.agg #[.bool g, .slice A n c, .slice D m d])) (((W.setCell ⟨w.heap.size + 1, 0, none⟩ (.bool g)).setCell ⟨w.heap.size + 1, 1, none⟩ (.slice A n c)).setCell ⟨w.heap.size + 1, 2, none⟩ (.slice D m d)) :=
  retw_end f h2 h1 (Nat.le_succ _)
set_option maxHeartbeats 4000000 in
theorem rdotL (Ta : Option Addr) (nt tc : Nat) (v cf : Nat → Int) (A : Option Addr) (n c k : Nat) (qs : Nat → Rat) (w : World) (hT : Ts w Ta nt tc v cf) (hQ : Qs w A n c k qs) (hk : nt * (k + 3) + 1 + (k + 2) ≤ 274877906943) :
    Calls Tryz.prog 20 #[.slice Ta nt tc, .slice A n c] w (RetW w (sumN (fun j => (cf j : Rat) * atQ n qs (v j)) nt) (nt * (k + 3) + 1)) := by
  have hc := hT.1
  have hc2 := hT.2.1
  have hqc := hQ.1
  have hqc2 := hQ.2.1
  obtain ⟨f, hf⟩ : ∃ f : Nat → Rat, f = fun j => (cf j : Rat) * atQ n qs (v j) := ⟨_, rfl⟩
  rw [← hf]
  obtain ⟨K, hK⟩ : ∃ K, K = nt * (k + 3) + 1 := ⟨_, rfl⟩
  rw [← hK] at hk ⊢
  have k1 := hQ.2.2.1
  have ST := hid (AccW.start w (k := K) (by omega))
  have AT := hid (fun (W : World) (b : Below w.heap.size w W) (j : Nat) => qat A n c k qs (v j) W (hQ.keep b))
  have HT := hid hT
  have AQ := hid (fun i => atQ_lq hQ i)
  clear hT hQ
  go_enter Tryz.func20, Tryz.ntmps20
  go_wp2_with fail
  go_loopw [6] (fun i wr => ∃ j : Nat, j ≤ nt ∧ i = .int .i64 j ∧ Hid (AccW w K (sumN f j) wr)) (fun i _ => nt - (intOf i).toNat)
  case atStart => exact ⟨0, Nat.zero_le _, rfl, ST⟩
  case round =>
    obtain ⟨j, hj, rfl, hz⟩ := hrel
    have PR := hid hz.out
    obtain ⟨g0, A0, n0, c0, D0, m0, d0, KA, FA⟩ := hz.out.2.2
    have BR := hid hz.out.1
    have FR := hid FA
    have y0 := Blk.cell KA 0
    have y1 := Blk.cell KA 1
    have y2 := Blk.cell KA 2
    rcases Nat.lt_or_ge j nt with hlt | hge
    · obtain ⟨⟨v1, v2⟩, cf1, cf2⟩ := HT.out.2.2.1 j hlt
      obtain ⟨b, o, rfl, hb, hcell⟩ := HT.out.2.2.2 (by omega)
      have z0 := cell_bx (hcell j hlt).1 hz.out.1
      have z1 := cell_bx (hcell j hlt).2 hz.out.1
      obtain ⟨S, hS⟩ : ∃ S, S = sumN f j := ⟨_, rfl⟩
      obtain ⟨V, hV⟩ : ∃ V, V = (cf j : Rat) * atQ n qs (v j) := ⟨_, rfl⟩
      have LS := hid (show LQ K (S + V) by
        have h1 := sumN_lq (f := f) (k := k + 2) (n := j + 1) (fun i hi => by rw [hf]; exact (LQ_mul (LQ_int (HT.out.2.2.1 i (by omega)).2.1 (HT.out.2.2.1 i (by omega)).2.2) (show LQ k (atQ n qs (v i)) from AQ.out (v i))).up (by omega))
        rw [hS, hV]
        have e : sumN f (j + 1) = sumN f j + (cf j : Rat) * atQ n qs (v j) := by show sumN f j + f j = _; rw [hf]
        rw [e] at h1
        refine h1.up ?_
        rw [hK]
        exact Nat.add_le_add_right (Nat.mul_le_mul_right _ (by omega)) 1)
      have NX := hid (show sumN f (j + 1) = S + V by rw [hS, hV]; show sumN f j + f j = _; rw [hf])
      have VT := hid (fun (W : World) (ga : Bool) (A1 : Option Addr) (n1 c1 : Nat) (D1 : Option Addr) (m1 d1 : Nat) (L : FrV W ga A1 n1 c1 D1 m1 d1 k (atQ n qs (v j))) => vtimes (cf j) ga A1 n1 c1 D1 m1 d1 k _ W cf1 cf2 L (by omega))
      rw [← hV] at VT
      rw [← hS] at FR PR FA
      have AD := hid (fun (W : World) (L : FrW W g0 A0 n0 c0 D0 m0 d0 K S) (A2 : Option Addr) (n2 c2 : Nat) (D2 : Option Addr) (m2 d2 : Nat) (M : FrL W A2 n2 c2 D2 m2 d2 (2 + k) V) => (vradd g0 A0 n0 c0 D0 m0 d0 (sg V.num) A2 n2 c2 D2 m2 d2 (K + (k + 2)) S V W (L.v.up (by omega)) (M.v.up (by omega)) hk).mono fun _ _ r => r.fit LS.out)
      obtain ⟨U, hU⟩ : ∃ U, U = S + V := ⟨_, rfl⟩
      rw [← hU] at AD NX
      clear hz KA FA HT hcell ST hK LS hU hS hV
      go_wp2_with fail
      refine wp_region_noPanic ?_
      refine wp_region_held_drew (S := (fun W => W.cell? ⟨b, o + j * 2, none⟩ = some (.int .i64 (v j)) ∧ W.cell? ⟨b, o + j * 2 + 1, none⟩ = some (.int .i64 (cf j)))) (by kernel_rfl) ?_ (fun hH => ?_)
      · (try dsimp only); (refine ⟨?_, ?_⟩ <;> repeat' (first | with_reducible assumption | with_reducible refine cell_dr ?_ | with_reducible refine cell_al ?_ | with_reducible refine cell_fr ?_ (by omega)))
      refine tk 1 hH ?_
      (try simp only [Act.put, gy0, gy1, gy2])
      refine tk 2 hH ?_
      (try simp only [Act.put, gy0, gy1, gy2])
      refine tk 3 hH ?_
      (try simp only [Act.put, gy0, gy1, gy2])
      refine tk 4 hH ?_
      (try simp only [Act.put, gy0, gy1, gy2])
      refine tk 5 hH ?_
      (try simp only [Act.put, gy0, gy1, gy2])
      refine tk 6 hH ?_
      (try simp only [Act.put, gy0, gy1, gy2])
      refine tk 7 hH ?_
      (try simp only [Act.put, gy0, gy1, gy2])
      refine tk 8 hH ?_
      (try simp only [Act.put, gy0, gy1, gy2])
      refine tk 9 hH ?_
      (try simp only [Act.put, gy0, gy1, gy2])
      refine tk 10 hH ?_
      (try simp only [Act.put, gy0, gy1, gy2])
      refine tk 11 hH ?_
      (try simp only [Act.put, gy0, gy1, gy2])
      refine wpAnyH_ready (rs := [0, 12]) (by kernel_rfl) (by simp) ?_
      refine rdy (fun K hK => ?_) ?_
      go_simp
      refine hK.out _ _ ?_ (fun hH2 => ?_)
      · (try dsimp only); (refine ⟨?_, ?_⟩ <;> repeat' (first | with_reducible assumption | with_reducible refine cell_dr ?_ | with_reducible refine cell_al ?_ | with_reducible refine cell_fr ?_ (by omega)))
      clear hK K hH
      have hH := hH2
      clear hH2
      (try simp only [Act.put, gy0, gy1, gy2])
      refine wpAnyH_ready (rs := [12]) (by kernel_rfl) (by simp) ?_
      refine rdy (fun K hK => ?_) ?_
      go_simp
      (first | (go_at_call 37; refine (AD.out w2 F2.out A2 n2 c2 D2 m2 d2 R2.out).mono ?_; rintro e w3 ⟨A3, n3, c3, D3, m3, d3, rfl, r, b⟩; have y0_3 := cell_bx y0_2 b; have y1_3 := cell_bx y1_2 b; have y2_3 := cell_bx y2_2 b; have z0_3 := cell_bx z0_2 b; have z1_3 := cell_bx z1_2 b; have X3 := hid (bx_call X2.out b); have P3 := hid (P2.out.keep b); have F3 := hid (F2.out.keep b); have NN := hid (P3.out.next (FrW.of r)); obtain ⟨_, _, _, _, _, _, _, _, _, K3, _⟩ := P3.out; have f0 := Blk.free K3 0; have f1 := Blk.free K3 1; have f2 := Blk.free K3 2; clear b r K3) | (go_at_call 68; refine (VT.out w1 ga A1 n1 c1 D1 m1 d1 R1.out).mono ?_; rintro e w2 ⟨A2, n2, c2, D2, m2, d2, rfl, r, b⟩; have y0_2 := cell_bx y0_1 b; have y1_2 := cell_bx y1_1 b; have y2_2 := cell_bx y2_1 b; have z0_2 := cell_bx z0_1 b; have z1_2 := cell_bx z1_1 b; have X2 := hid (bx_call X1.out b); have P2 := hid (P1.out.keep b); have F2 := hid (F1.out.keep b); have R2 := hid r; clear b r) | (go_at_call 39; refine (AT.out _ (bx_call BR.out (bx_drew (bx_refl _))) j).mono ?_; rintro e w1 ⟨ga, A1, n1, c1, D1, m1, d1, rfl, r, b⟩; have y0_1 := cell_bx (cell_dr y0) b; have y1_1 := cell_bx (cell_dr y1) b; have y2_1 := cell_bx (cell_dr y2) b; have z0_1 := cell_bx (cell_dr z0) b; have z1_1 := cell_bx (cell_dr z1) b; have X1 := hid (bx_call BR.out (bx_call (bx_drew (bx_refl _)) b)); have P1 := hid (PR.out.keep (bx_call (bx_drew (bx_refl _)) b)); have F1 := hid (FR.out.keep (bx_call (bx_drew (bx_refl _)) b)); have R1 := hid r; clear b r))
      (try go_wp2_with fail)
      refine hK.out _ _ ?_ (fun hH2 => ?_)
      · (try dsimp only); (refine ⟨?_, ?_⟩ <;> repeat' (first | with_reducible assumption | with_reducible refine cell_dr ?_ | with_reducible refine cell_al ?_ | with_reducible refine cell_fr ?_ (by omega)))
      clear hK K hH
      have hH := hH2
      clear hH2
      (try simp only [Act.put, gy0, gy1, gy2])
      refine wpAnyH_ready (rs := [13]) (by kernel_rfl) (by simp) ?_
      refine rdy (fun K hK => ?_) ?_
      go_simp
      (first | (go_at_call 37; refine (AD.out w2 F2.out A2 n2 c2 D2 m2 d2 R2.out).mono ?_; rintro e w3 ⟨A3, n3, c3, D3, m3, d3, rfl, r, b⟩; have y0_3 := cell_bx y0_2 b; have y1_3 := cell_bx y1_2 b; have y2_3 := cell_bx y2_2 b; have z0_3 := cell_bx z0_2 b; have z1_3 := cell_bx z1_2 b; have X3 := hid (bx_call X2.out b); have P3 := hid (P2.out.keep b); have F3 := hid (F2.out.keep b); have NN := hid (P3.out.next (FrW.of r)); obtain ⟨_, _, _, _, _, _, _, _, _, K3, _⟩ := P3.out; have f0 := Blk.free K3 0; have f1 := Blk.free K3 1; have f2 := Blk.free K3 2; clear b r K3) | (go_at_call 68; refine (VT.out w1 ga A1 n1 c1 D1 m1 d1 R1.out).mono ?_; rintro e w2 ⟨A2, n2, c2, D2, m2, d2, rfl, r, b⟩; have y0_2 := cell_bx y0_1 b; have y1_2 := cell_bx y1_1 b; have y2_2 := cell_bx y2_1 b; have z0_2 := cell_bx z0_1 b; have z1_2 := cell_bx z1_1 b; have X2 := hid (bx_call X1.out b); have P2 := hid (P1.out.keep b); have F2 := hid (F1.out.keep b); have R2 := hid r; clear b r) | (go_at_call 39; refine (AT.out _ (bx_call BR.out (bx_drew (bx_refl _))) j).mono ?_; rintro e w1 ⟨ga, A1, n1, c1, D1, m1, d1, rfl, r, b⟩; have y0_1 := cell_bx (cell_dr y0) b; have y1_1 := cell_bx (cell_dr y1) b; have y2_1 := cell_bx (cell_dr y2) b; have z0_1 := cell_bx (cell_dr z0) b; have z1_1 := cell_bx (cell_dr z1) b; have X1 := hid (bx_call BR.out (bx_call (bx_drew (bx_refl _)) b)); have P1 := hid (PR.out.keep (bx_call (bx_drew (bx_refl _)) b)); have F1 := hid (FR.out.keep (bx_call (bx_drew (bx_refl _)) b)); have R1 := hid r; clear b r))
      (try go_wp2_with fail)
      refine hK.out _ _ ?_ (fun hH2 => ?_)
      · (try dsimp only); (refine ⟨?_, ?_⟩ <;> repeat' (first | with_reducible assumption | with_reducible refine cell_dr ?_ | with_reducible refine cell_al ?_ | with_reducible refine cell_fr ?_ (by omega)))
      clear hK K hH
      have hH := hH2
      clear hH2
      (try simp only [Act.put, gy0, gy1, gy2])
      refine wpAnyH_ready (rs := [14]) (by kernel_rfl) (by simp) ?_
      refine rdy (fun K hK => ?_) ?_
      go_simp
      (first | (go_at_call 37; refine (AD.out w2 F2.out A2 n2 c2 D2 m2 d2 R2.out).mono ?_; rintro e w3 ⟨A3, n3, c3, D3, m3, d3, rfl, r, b⟩; have y0_3 := cell_bx y0_2 b; have y1_3 := cell_bx y1_2 b; have y2_3 := cell_bx y2_2 b; have z0_3 := cell_bx z0_2 b; have z1_3 := cell_bx z1_2 b; have X3 := hid (bx_call X2.out b); have P3 := hid (P2.out.keep b); have F3 := hid (F2.out.keep b); have NN := hid (P3.out.next (FrW.of r)); obtain ⟨_, _, _, _, _, _, _, _, _, K3, _⟩ := P3.out; have f0 := Blk.free K3 0; have f1 := Blk.free K3 1; have f2 := Blk.free K3 2; clear b r K3) | (go_at_call 68; refine (VT.out w1 ga A1 n1 c1 D1 m1 d1 R1.out).mono ?_; rintro e w2 ⟨A2, n2, c2, D2, m2, d2, rfl, r, b⟩; have y0_2 := cell_bx y0_1 b; have y1_2 := cell_bx y1_1 b; have y2_2 := cell_bx y2_1 b; have z0_2 := cell_bx z0_1 b; have z1_2 := cell_bx z1_1 b; have X2 := hid (bx_call X1.out b); have P2 := hid (P1.out.keep b); have F2 := hid (F1.out.keep b); have R2 := hid r; clear b r) | (go_at_call 39; refine (AT.out _ (bx_call BR.out (bx_drew (bx_refl _))) j).mono ?_; rintro e w1 ⟨ga, A1, n1, c1, D1, m1, d1, rfl, r, b⟩; have y0_1 := cell_bx (cell_dr y0) b; have y1_1 := cell_bx (cell_dr y1) b; have y2_1 := cell_bx (cell_dr y2) b; have z0_1 := cell_bx (cell_dr z0) b; have z1_1 := cell_bx (cell_dr z1) b; have X1 := hid (bx_call BR.out (bx_call (bx_drew (bx_refl _)) b)); have P1 := hid (PR.out.keep (bx_call (bx_drew (bx_refl _)) b)); have F1 := hid (FR.out.keep (bx_call (bx_drew (bx_refl _)) b)); have R1 := hid r; clear b r))
      (try go_wp2_with fail)
      refine hK.out _ _ ?_ (fun hH2 => ?_)
      · (try dsimp only); (refine ⟨?_, ?_⟩ <;> repeat' (first | with_reducible assumption | with_reducible refine cell_dr ?_ | with_reducible refine cell_al ?_ | with_reducible refine cell_fr ?_ (by omega)))
      clear hK K hH
      have hH := hH2
      clear hH2
      (try simp only [Act.put, gy0, gy1, gy2])
      refine wpAnyH_ready (rs := [15]) (by kernel_rfl) (by simp) ?_
      refine rdy (fun K hK => ?_) ?_
      go_simp
      refine hK.out _ _ ?_ (fun hH2 => ?_)
      · (try dsimp only); (refine ⟨?_, ?_⟩ <;> repeat' (first | with_reducible assumption | with_reducible refine cell_dr ?_ | with_reducible refine cell_al ?_ | with_reducible refine cell_fr ?_ (by omega)))
      clear hK K hH
      have hH := hH2
      clear hH2
      (try simp only [Act.put, gy0, gy1, gy2])
      refine wpAnyH_done (by kernel_rfl) ?_ _
      refine NoPanic.normal ?_
      clear hH
      rotate_left
      exact AllReadyH.nil
      exact AllReadyH.nil
      exact AllReadyH.nil
      exact AllReadyH.nil
      refine rdy (fun K hK => ?_) ?_
      go_simp
      (first | (go_at_call 37; refine (AD.out w2 F2.out A2 n2 c2 D2 m2 d2 R2.out).mono ?_; rintro e w3 ⟨A3, n3, c3, D3, m3, d3, rfl, r, b⟩; have y0_3 := cell_bx y0_2 b; have y1_3 := cell_bx y1_2 b; have y2_3 := cell_bx y2_2 b; have z0_3 := cell_bx z0_2 b; have z1_3 := cell_bx z1_2 b; have X3 := hid (bx_call X2.out b); have P3 := hid (P2.out.keep b); have F3 := hid (F2.out.keep b); have NN := hid (P3.out.next (FrW.of r)); obtain ⟨_, _, _, _, _, _, _, _, _, K3, _⟩ := P3.out; have f0 := Blk.free K3 0; have f1 := Blk.free K3 1; have f2 := Blk.free K3 2; clear b r K3) | (go_at_call 68; refine (VT.out w1 ga A1 n1 c1 D1 m1 d1 R1.out).mono ?_; rintro e w2 ⟨A2, n2, c2, D2, m2, d2, rfl, r, b⟩; have y0_2 := cell_bx y0_1 b; have y1_2 := cell_bx y1_1 b; have y2_2 := cell_bx y2_1 b; have z0_2 := cell_bx z0_1 b; have z1_2 := cell_bx z1_1 b; have X2 := hid (bx_call X1.out b); have P2 := hid (P1.out.keep b); have F2 := hid (F1.out.keep b); have R2 := hid r; clear b r) | (go_at_call 39; refine (AT.out _ (bx_call BR.out (bx_drew (bx_refl _))) j).mono ?_; rintro e w1 ⟨ga, A1, n1, c1, D1, m1, d1, rfl, r, b⟩; have y0_1 := cell_bx (cell_dr y0) b; have y1_1 := cell_bx (cell_dr y1) b; have y2_1 := cell_bx (cell_dr y2) b; have z0_1 := cell_bx (cell_dr z0) b; have z1_1 := cell_bx (cell_dr z1) b; have X1 := hid (bx_call BR.out (bx_call (bx_drew (bx_refl _)) b)); have P1 := hid (PR.out.keep (bx_call (bx_drew (bx_refl _)) b)); have F1 := hid (FR.out.keep (bx_call (bx_drew (bx_refl _)) b)); have R1 := hid r; clear b r))
      (try go_wp2_with fail)
      refine hK.out _ _ ?_ (fun hH2 => ?_)
      · (try dsimp only); (refine ⟨?_, ?_⟩ <;> repeat' (first | with_reducible assumption | with_reducible refine cell_dr ?_ | with_reducible refine cell_al ?_ | with_reducible refine cell_fr ?_ (by omega)))
      clear hK K hH
      have hH := hH2
      clear hH2
      (try simp only [Act.put, gy0, gy1, gy2])
      refine wpAnyH_ready (rs := [0, 13]) (by kernel_rfl) (by simp) ?_
      refine rdy (fun K hK => ?_) ?_
      go_simp
      refine hK.out _ _ ?_ (fun hH2 => ?_)
      · (try dsimp only); (refine ⟨?_, ?_⟩ <;> repeat' (first | with_reducible assumption | with_reducible refine cell_dr ?_ | with_reducible refine cell_al ?_ | with_reducible refine cell_fr ?_ (by omega)))
      clear hK K hH
      have hH := hH2
      clear hH2
      (try simp only [Act.put, gy0, gy1, gy2])
      refine wpAnyH_ready (rs := [13]) (by kernel_rfl) (by simp) ?_
      refine rdy (fun K hK => ?_) ?_
      go_simp
      (first | (go_at_call 37; refine (AD.out w2 F2.out A2 n2 c2 D2 m2 d2 R2.out).mono ?_; rintro e w3 ⟨A3, n3, c3, D3, m3, d3, rfl, r, b⟩; have y0_3 := cell_bx y0_2 b; have y1_3 := cell_bx y1_2 b; have y2_3 := cell_bx y2_2 b; have z0_3 := cell_bx z0_2 b; have z1_3 := cell_bx z1_2 b; have X3 := hid (bx_call X2.out b); have P3 := hid (P2.out.keep b); have F3 := hid (F2.out.keep b); have NN := hid (P3.out.next (FrW.of r)); obtain ⟨_, _, _, _, _, _, _, _, _, K3, _⟩ := P3.out; have f0 := Blk.free K3 0; have f1 := Blk.free K3 1; have f2 := Blk.free K3 2; clear b r K3) | (go_at_call 68; refine (VT.out w1 ga A1 n1 c1 D1 m1 d1 R1.out).mono ?_; rintro e w2 ⟨A2, n2, c2, D2, m2, d2, rfl, r, b⟩; have y0_2 := cell_bx y0_1 b; have y1_2 := cell_bx y1_1 b; have y2_2 := cell_bx y2_1 b; have z0_2 := cell_bx z0_1 b; have z1_2 := cell_bx z1_1 b; have X2 := hid (bx_call X1.out b); have P2 := hid (P1.out.keep b); have F2 := hid (F1.out.keep b); have R2 := hid r; clear b r) | (go_at_call 39; refine (AT.out _ (bx_call BR.out (bx_drew (bx_refl _))) j).mono ?_; rintro e w1 ⟨ga, A1, n1, c1, D1, m1, d1, rfl, r, b⟩; have y0_1 := cell_bx (cell_dr y0) b; have y1_1 := cell_bx (cell_dr y1) b; have y2_1 := cell_bx (cell_dr y2) b; have z0_1 := cell_bx (cell_dr z0) b; have z1_1 := cell_bx (cell_dr z1) b; have X1 := hid (bx_call BR.out (bx_call (bx_drew (bx_refl _)) b)); have P1 := hid (PR.out.keep (bx_call (bx_drew (bx_refl _)) b)); have F1 := hid (FR.out.keep (bx_call (bx_drew (bx_refl _)) b)); have R1 := hid r; clear b r))
      (try go_wp2_with fail)
      refine hK.out _ _ ?_ (fun hH2 => ?_)
      · (try dsimp only); (refine ⟨?_, ?_⟩ <;> repeat' (first | with_reducible assumption | with_reducible refine cell_dr ?_ | with_reducible refine cell_al ?_ | with_reducible refine cell_fr ?_ (by omega)))
      clear hK K hH
      have hH := hH2
      clear hH2
      (try simp only [Act.put, gy0, gy1, gy2])
      refine wpAnyH_ready (rs := [14]) (by kernel_rfl) (by simp) ?_
      refine rdy (fun K hK => ?_) ?_
      go_simp
      (first | (go_at_call 37; refine (AD.out w2 F2.out A2 n2 c2 D2 m2 d2 R2.out).mono ?_; rintro e w3 ⟨A3, n3, c3, D3, m3, d3, rfl, r, b⟩; have y0_3 := cell_bx y0_2 b; have y1_3 := cell_bx y1_2 b; have y2_3 := cell_bx y2_2 b; have z0_3 := cell_bx z0_2 b; have z1_3 := cell_bx z1_2 b; have X3 := hid (bx_call X2.out b); have P3 := hid (P2.out.keep b); have F3 := hid (F2.out.keep b); have NN := hid (P3.out.next (FrW.of r)); obtain ⟨_, _, _, _, _, _, _, _, _, K3, _⟩ := P3.out; have f0 := Blk.free K3 0; have f1 := Blk.free K3 1; have f2 := Blk.free K3 2; clear b r K3) | (go_at_call 68; refine (VT.out w1 ga A1 n1 c1 D1 m1 d1 R1.out).mono ?_; rintro e w2 ⟨A2, n2, c2, D2, m2, d2, rfl, r, b⟩; have y0_2 := cell_bx y0_1 b; have y1_2 := cell_bx y1_1 b; have y2_2 := cell_bx y2_1 b; have z0_2 := cell_bx z0_1 b; have z1_2 := cell_bx z1_1 b; have X2 := hid (bx_call X1.out b); have P2 := hid (P1.out.keep b); have F2 := hid (F1.out.keep b); have R2 := hid r; clear b r) | (go_at_call 39; refine (AT.out _ (bx_call BR.out (bx_drew (bx_refl _))) j).mono ?_; rintro e w1 ⟨ga, A1, n1, c1, D1, m1, d1, rfl, r, b⟩; have y0_1 := cell_bx (cell_dr y0) b; have y1_1 := cell_bx (cell_dr y1) b; have y2_1 := cell_bx (cell_dr y2) b; have z0_1 := cell_bx (cell_dr z0) b; have z1_1 := cell_bx (cell_dr z1) b; have X1 := hid (bx_call BR.out (bx_call (bx_drew (bx_refl _)) b)); have P1 := hid (PR.out.keep (bx_call (bx_drew (bx_refl _)) b)); have F1 := hid (FR.out.keep (bx_call (bx_drew (bx_refl _)) b)); have R1 := hid r; clear b r))
      (try go_wp2_with fail)
      refine hK.out _ _ ?_ (fun hH2 => ?_)
      · (try dsimp only); (refine ⟨?_, ?_⟩ <;> repeat' (first | with_reducible assumption | with_reducible refine cell_dr ?_ | with_reducible refine cell_al ?_ | with_reducible refine cell_fr ?_ (by omega)))
      clear hK K hH
      have hH := hH2
      clear hH2
      (try simp only [Act.put, gy0, gy1, gy2])
      refine wpAnyH_ready (rs := [15]) (by kernel_rfl) (by simp) ?_
      refine rdy (fun K hK => ?_) ?_
      go_simp
      refine hK.out _ _ ?_ (fun hH2 => ?_)
      · (try dsimp only); (refine ⟨?_, ?_⟩ <;> repeat' (first | with_reducible assumption | with_reducible refine cell_dr ?_ | with_reducible refine cell_al ?_ | with_reducible refine cell_fr ?_ (by omega)))
      clear hK K hH
      have hH := hH2
      clear hH2
      (try simp only [Act.put, gy0, gy1, gy2])
      refine wpAnyH_done (by kernel_rfl) ?_ _
      refine NoPanic.normal ?_
      clear hH
      rotate_left
      exact AllReadyH.nil
      exact AllReadyH.nil
      exact AllReadyH.nil
      refine rdy (fun K hK => ?_) ?_
      go_simp
      (first | (go_at_call 37; refine (AD.out w2 F2.out A2 n2 c2 D2 m2 d2 R2.out).mono ?_; rintro e w3 ⟨A3, n3, c3, D3, m3, d3, rfl, r, b⟩; have y0_3 := cell_bx y0_2 b; have y1_3 := cell_bx y1_2 b; have y2_3 := cell_bx y2_2 b; have z0_3 := cell_bx z0_2 b; have z1_3 := cell_bx z1_2 b; have X3 := hid (bx_call X2.out b); have P3 := hid (P2.out.keep b); have F3 := hid (F2.out.keep b); have NN := hid (P3.out.next (FrW.of r)); obtain ⟨_, _, _, _, _, _, _, _, _, K3, _⟩ := P3.out; have f0 := Blk.free K3 0; have f1 := Blk.free K3 1; have f2 := Blk.free K3 2; clear b r K3) | (go_at_call 68; refine (VT.out w1 ga A1 n1 c1 D1 m1 d1 R1.out).mono ?_; rintro e w2 ⟨A2, n2, c2, D2, m2, d2, rfl, r, b⟩; have y0_2 := cell_bx y0_1 b; have y1_2 := cell_bx y1_1 b; have y2_2 := cell_bx y2_1 b; have z0_2 := cell_bx z0_1 b; have z1_2 := cell_bx z1_1 b; have X2 := hid (bx_call X1.out b); have P2 := hid (P1.out.keep b); have F2 := hid (F1.out.keep b); have R2 := hid r; clear b r) | (go_at_call 39; refine (AT.out _ (bx_call BR.out (bx_drew (bx_refl _))) j).mono ?_; rintro e w1 ⟨ga, A1, n1, c1, D1, m1, d1, rfl, r, b⟩; have y0_1 := cell_bx (cell_dr y0) b; have y1_1 := cell_bx (cell_dr y1) b; have y2_1 := cell_bx (cell_dr y2) b; have z0_1 := cell_bx (cell_dr z0) b; have z1_1 := cell_bx (cell_dr z1) b; have X1 := hid (bx_call BR.out (bx_call (bx_drew (bx_refl _)) b)); have P1 := hid (PR.out.keep (bx_call (bx_drew (bx_refl _)) b)); have F1 := hid (FR.out.keep (bx_call (bx_drew (bx_refl _)) b)); have R1 := hid r; clear b r))
      (try go_wp2_with fail)
      refine hK.out _ _ ?_ (fun hH2 => ?_)
      · (try dsimp only); (refine ⟨?_, ?_⟩ <;> repeat' (first | with_reducible assumption | with_reducible refine cell_dr ?_ | with_reducible refine cell_al ?_ | with_reducible refine cell_fr ?_ (by omega)))
      clear hK K hH
      have hH := hH2
      clear hH2
      (try simp only [Act.put, gy0, gy1, gy2])
      refine wpAnyH_ready (rs := [0]) (by kernel_rfl) (by simp) ?_
      refine rdy (fun K hK => ?_) ?_
      go_simp
      refine hK.out _ _ ?_ (fun hH2 => ?_)
      · (try dsimp only); (refine ⟨?_, ?_⟩ <;> repeat' (first | with_reducible assumption | with_reducible refine cell_dr ?_ | with_reducible refine cell_al ?_ | with_reducible refine cell_fr ?_ (by omega)))
      clear hK K hH
      have hH := hH2
      clear hH2
      (try simp only [Act.put, gy0, gy1, gy2])
      refine wpAnyH_ready (rs := [14]) (by kernel_rfl) (by simp) ?_
      refine rdy (fun K hK => ?_) ?_
      go_simp
      (first | (go_at_call 37; refine (AD.out w2 F2.out A2 n2 c2 D2 m2 d2 R2.out).mono ?_; rintro e w3 ⟨A3, n3, c3, D3, m3, d3, rfl, r, b⟩; have y0_3 := cell_bx y0_2 b; have y1_3 := cell_bx y1_2 b; have y2_3 := cell_bx y2_2 b; have z0_3 := cell_bx z0_2 b; have z1_3 := cell_bx z1_2 b; have X3 := hid (bx_call X2.out b); have P3 := hid (P2.out.keep b); have F3 := hid (F2.out.keep b); have NN := hid (P3.out.next (FrW.of r)); obtain ⟨_, _, _, _, _, _, _, _, _, K3, _⟩ := P3.out; have f0 := Blk.free K3 0; have f1 := Blk.free K3 1; have f2 := Blk.free K3 2; clear b r K3) | (go_at_call 68; refine (VT.out w1 ga A1 n1 c1 D1 m1 d1 R1.out).mono ?_; rintro e w2 ⟨A2, n2, c2, D2, m2, d2, rfl, r, b⟩; have y0_2 := cell_bx y0_1 b; have y1_2 := cell_bx y1_1 b; have y2_2 := cell_bx y2_1 b; have z0_2 := cell_bx z0_1 b; have z1_2 := cell_bx z1_1 b; have X2 := hid (bx_call X1.out b); have P2 := hid (P1.out.keep b); have F2 := hid (F1.out.keep b); have R2 := hid r; clear b r) | (go_at_call 39; refine (AT.out _ (bx_call BR.out (bx_drew (bx_refl _))) j).mono ?_; rintro e w1 ⟨ga, A1, n1, c1, D1, m1, d1, rfl, r, b⟩; have y0_1 := cell_bx (cell_dr y0) b; have y1_1 := cell_bx (cell_dr y1) b; have y2_1 := cell_bx (cell_dr y2) b; have z0_1 := cell_bx (cell_dr z0) b; have z1_1 := cell_bx (cell_dr z1) b; have X1 := hid (bx_call BR.out (bx_call (bx_drew (bx_refl _)) b)); have P1 := hid (PR.out.keep (bx_call (bx_drew (bx_refl _)) b)); have F1 := hid (FR.out.keep (bx_call (bx_drew (bx_refl _)) b)); have R1 := hid r; clear b r))
      (try go_wp2_with fail)
      refine hK.out _ _ ?_ (fun hH2 => ?_)
      · (try dsimp only); (refine ⟨?_, ?_⟩ <;> repeat' (first | with_reducible assumption | with_reducible refine cell_dr ?_ | with_reducible refine cell_al ?_ | with_reducible refine cell_fr ?_ (by omega)))
      clear hK K hH
      have hH := hH2
      clear hH2
      (try simp only [Act.put, gy0, gy1, gy2])
      refine wpAnyH_ready (rs := [15]) (by kernel_rfl) (by simp) ?_
      refine rdy (fun K hK => ?_) ?_
      go_simp
      refine hK.out _ _ ?_ (fun hH2 => ?_)
      · (try dsimp only); (refine ⟨?_, ?_⟩ <;> repeat' (first | with_reducible assumption | with_reducible refine cell_dr ?_ | with_reducible refine cell_al ?_ | with_reducible refine cell_fr ?_ (by omega)))
      clear hK K hH
      have hH := hH2
      clear hH2
      (try simp only [Act.put, gy0, gy1, gy2])
      refine wpAnyH_done (by kernel_rfl) ?_ _
      refine NoPanic.normal ?_
      clear hH
      rotate_left
      exact AllReadyH.nil
      exact AllReadyH.nil
      exact AllReadyH.nil
      exact AllReadyH.nil
      exact AllReadyH.nil
      all_goals
        go_wp2_with fail
        go_roundw
        case rel => exact ⟨j + 1, by omega, by go_num, by rw [NX.out]; exact NN⟩
        case measure => simp [intOf]; omega
    · obtain rfl : j = nt := by omega
      clear HT AT ST hge
      have DD := hid (AccW.done hz.out.1 hz.out.2.1 FA)
      have f0 := Blk.free hz.out.2.1 0
      have f1 := Blk.free hz.out.2.1 1
      have f2 := Blk.free hz.out.2.1 2
      have e0 := Blk.cell hz.out.2.1 0
      have e1 := Blk.cell hz.out.2.1 1
      have e2 := Blk.cell hz.out.2.1 2
      clear KA FA hz BR FR PR
      go_wp2_with fail
      exact bodyPost_ret (v := .agg #[.bool g0, .slice A0 n0 c0, .slice D0 m0 d0]) (by simp [results, Tryz.results20, go_sem, e0, e1, e2]) rfl DD.out
set_option maxHeartbeats 4000000 in
theorem rcostL (V0 : Option Addr) (vn vc : Nat) (R0 : Option Addr) (rn rc : Nat) (lo up : Nat → Int) (op it : Nat → Bool) (cf : Nat → Int) (A : Option Addr) (n c k : Nat) (qs : Nat → Rat) (w : World) (hT : Vs w V0 vn vc lo up op it cf) (hQ : Qs w A n c k qs) (hk : vn * (k + 3) + 1 + (k + 2) ≤ 274877906943) :
    Calls Tryz.prog 22 #[.agg #[.slice V0 vn vc, .slice R0 rn rc], .slice A n c] w (RetW w (sumN (fun j => (cf j : Rat) * atQ n qs (j : Int)) vn) (vn * (k + 3) + 1)) := by
  have hc := hT.1
  have hc2 := hT.2.1
  have hqc := hQ.1
  have hqc2 := hQ.2.1
  obtain ⟨f, hf⟩ : ∃ f : Nat → Rat, f = fun j => (cf j : Rat) * atQ n qs (j : Int) := ⟨_, rfl⟩
  rw [← hf]
  obtain ⟨K, hK⟩ : ∃ K, K = vn * (k + 3) + 1 := ⟨_, rfl⟩
  rw [← hK] at hk ⊢
  have k1 := hQ.2.2.1
  have ST := hid (AccX.start w [.slice V0 vn vc, .slice R0 rn rc] 25 (k := K) (by omega))
  have AT := hid (fun (W : World) (b : Below w.heap.size w W) (j : Nat) => qat A n c k qs (j : Int) W (hQ.keep b))
  have HT := hid hT
  have AQ := hid (fun i => atQ_lq hQ i)
  clear hT hQ
  go_enter Tryz.func22, Tryz.ntmps22
  go_wp2_with fail
  go_loopw [6] (fun i wr => ∃ j : Nat, j ≤ vn ∧ i = .int .i64 j ∧ Hid (AccX w [.slice V0 vn vc, .slice R0 rn rc] 25 K (sumN f j) wr)) (fun i _ => vn - (intOf i).toNat)
  case atStart => exact ⟨0, Nat.zero_le _, rfl, ST⟩
  case round =>
    obtain ⟨j, hj, rfl, hz⟩ := hrel
    have PR := hid hz.out
    obtain ⟨g0, A0, n0, c0, D0, m0, d0, KA, FA⟩ := hz.out.2.2.2
    have BR := hid hz.out.1
    have FR := hid FA
    obtain ⟨y0, y1, y2⟩ := blk_three KA
    have z0 := (blk_two hz.out.2.1).1
    rcases Nat.lt_or_ge j vn with hlt | hge
    · obtain ⟨_, _, cf1, cf2⟩ := HT.out.2.2.1 j hlt
      obtain ⟨b, o, rfl, hb, hcell⟩ := HT.out.2.2.2 (by omega)
      have z1 := cell_bx (hcell j hlt).2.2.2.2 hz.out.1
      obtain ⟨S, hS⟩ : ∃ S, S = sumN f j := ⟨_, rfl⟩
      obtain ⟨V, hV⟩ : ∃ V, V = (cf j : Rat) * atQ n qs (j : Int) := ⟨_, rfl⟩
      have LS := hid (show LQ K (S + V) by
        have h1 := sumN_lq (f := f) (k := k + 2) (n := j + 1) (fun i hi => by rw [hf]; exact (LQ_mul (LQ_int (HT.out.2.2.1 i (by omega)).2.2.1 (HT.out.2.2.1 i (by omega)).2.2.2) (show LQ k (atQ n qs (i : Int)) from AQ.out (i : Int))).up (by omega))
        rw [hS, hV]
        have e : sumN f (j + 1) = sumN f j + (cf j : Rat) * atQ n qs (j : Int) := by show sumN f j + f j = _; rw [hf]
        rw [e] at h1
        refine h1.up ?_
        rw [hK]
        exact Nat.add_le_add_right (Nat.mul_le_mul_right _ (by omega)) 1)
      have NX := hid (show sumN f (j + 1) = S + V by rw [hS, hV]; show sumN f j + f j = _; rw [hf])
      have VT := hid (fun (W : World) (ga : Bool) (A1 : Option Addr) (n1 c1 : Nat) (D1 : Option Addr) (m1 d1 : Nat) (L : FrV W ga A1 n1 c1 D1 m1 d1 k (atQ n qs (j : Int))) => vtimes (cf j) ga A1 n1 c1 D1 m1 d1 k _ W cf1 cf2 L (by omega))
      rw [← hV] at VT
      rw [← hS] at FR PR FA
      have AD := hid (fun (W : World) (L : FrW W g0 A0 n0 c0 D0 m0 d0 K S) (A2 : Option Addr) (n2 c2 : Nat) (D2 : Option Addr) (m2 d2 : Nat) (M : FrL W A2 n2 c2 D2 m2 d2 (2 + k) V) => (vradd g0 A0 n0 c0 D0 m0 d0 (sg V.num) A2 n2 c2 D2 m2 d2 (K + (k + 2)) S V W (L.v.up (by omega)) (M.v.up (by omega)) hk).mono fun _ _ r => r.fit LS.out)
      obtain ⟨U, hU⟩ : ∃ U, U = S + V := ⟨_, rfl⟩
      rw [← hU] at AD NX
      clear hz KA FA HT hcell ST hK LS hU hS hV
      go_wp2_with fail
      refine wp_region_noPanic ?_
      refine wp_region_held_drew (S := (fun W => W.cell? ⟨w.heap.size, 0, none⟩ = some (.slice (some ⟨b, o, none⟩) vn vc) ∧ W.cell? ⟨b, o + j * 5 + 4, none⟩ = some (.int .i64 (cf j)))) (by kernel_rfl) ?_ (fun hH => ?_)
      · (try dsimp only); (refine ⟨?_, ?_⟩ <;> repeat' (first | with_reducible assumption | with_reducible refine cell_dr ?_ | with_reducible refine cell_al ?_ | with_reducible refine cell_fr ?_ (by omega)))
      refine tk 1 hH ?_
      (try simp only [Act.put, gy0, gy1, gy2])
      refine tk 2 hH ?_
      (try simp only [Act.put, gy0, gy1, gy2])
      refine tk 3 hH ?_
      (try simp only [Act.put, gy0, gy1, gy2])
      refine tk 4 hH ?_
      (try simp only [Act.put, gy0, gy1, gy2])
      refine tk 5 hH ?_
      (try simp only [Act.put, gy0, gy1, gy2])
      refine tk 6 hH ?_
      (try simp only [Act.put, gy0, gy1, gy2])
      refine tk 7 hH ?_
      (try simp only [Act.put, gy0, gy1, gy2])
      refine tk 8 hH ?_
      (try simp only [Act.put, gy0, gy1, gy2])
      refine wpAnyH_ready (rs := [0, 9]) (by kernel_rfl) (by simp) ?_
      refine rdy (fun K hK => ?_) ?_
      go_simp
      refine hK.out _ _ ?_ (fun hH2 => ?_)
      · (try dsimp only); (refine ⟨?_, ?_⟩ <;> repeat' (first | with_reducible assumption | with_reducible refine cell_dr ?_ | with_reducible refine cell_al ?_ | with_reducible refine cell_fr ?_ (by omega)))
      clear hK K hH
      have hH := hH2
      clear hH2
      (try simp only [Act.put, gy0, gy1, gy2])
      refine wpAnyH_ready (rs := [9]) (by kernel_rfl) (by simp) ?_
      refine rdy (fun K hK => ?_) ?_
      go_simp
      (first | (go_at_call 37; refine (AD.out w2 F2.out A2 n2 c2 D2 m2 d2 R2.out).mono ?_; rintro e w3 ⟨A3, n3, c3, D3, m3, d3, rfl, r, b⟩; have y0_3 := cell_bx y0_2 b; have y1_3 := cell_bx y1_2 b; have y2_3 := cell_bx y2_2 b; have z0_3 := cell_bx z0_2 b; have z1_3 := cell_bx z1_2 b; have P3 := hid (P2.out.keep b); have F3 := hid (F2.out.keep b); have NN := hid (P3.out.next (FrW.of r)); obtain ⟨_, _, _, _, _, _, _, _, _, _, K3, _⟩ := P3.out; have f0 := Blk.free K3 0; have f1 := Blk.free K3 1; have f2 := Blk.free K3 2; clear b r K3) | (go_at_call 68; refine (VT.out w1 ga A1 n1 c1 D1 m1 d1 R1.out).mono ?_; rintro e w2 ⟨A2, n2, c2, D2, m2, d2, rfl, r, b⟩; have y0_2 := cell_bx y0_1 b; have y1_2 := cell_bx y1_1 b; have y2_2 := cell_bx y2_1 b; have z0_2 := cell_bx z0_1 b; have z1_2 := cell_bx z1_1 b; have P2 := hid (P1.out.keep b); have F2 := hid (F1.out.keep b); have R2 := hid r; clear b r) | (go_at_call 39; refine (AT.out _ (bx_call BR.out (bx_drew (bx_refl _))) j).mono ?_; rintro e w1 ⟨ga, A1, n1, c1, D1, m1, d1, rfl, r, b⟩; have y0_1 := cell_bx (cell_dr y0) b; have y1_1 := cell_bx (cell_dr y1) b; have y2_1 := cell_bx (cell_dr y2) b; have z0_1 := cell_bx (cell_dr z0) b; have z1_1 := cell_bx (cell_dr z1) b; have P1 := hid (PR.out.keep (bx_call (bx_drew (bx_refl _)) b)); have F1 := hid (FR.out.keep (bx_call (bx_drew (bx_refl _)) b)); have R1 := hid r; clear b r))
      (try go_wp2_with fail)
      refine hK.out _ _ ?_ (fun hH2 => ?_)
      · (try dsimp only); (refine ⟨?_, ?_⟩ <;> repeat' (first | with_reducible assumption | with_reducible refine cell_dr ?_ | with_reducible refine cell_al ?_ | with_reducible refine cell_fr ?_ (by omega)))
      clear hK K hH
      have hH := hH2
      clear hH2
      (try simp only [Act.put, gy0, gy1, gy2])
      refine wpAnyH_ready (rs := [10]) (by kernel_rfl) (by simp) ?_
      refine rdy (fun K hK => ?_) ?_
      go_simp
      (first | (go_at_call 37; refine (AD.out w2 F2.out A2 n2 c2 D2 m2 d2 R2.out).mono ?_; rintro e w3 ⟨A3, n3, c3, D3, m3, d3, rfl, r, b⟩; have y0_3 := cell_bx y0_2 b; have y1_3 := cell_bx y1_2 b; have y2_3 := cell_bx y2_2 b; have z0_3 := cell_bx z0_2 b; have z1_3 := cell_bx z1_2 b; have P3 := hid (P2.out.keep b); have F3 := hid (F2.out.keep b); have NN := hid (P3.out.next (FrW.of r)); obtain ⟨_, _, _, _, _, _, _, _, _, _, K3, _⟩ := P3.out; have f0 := Blk.free K3 0; have f1 := Blk.free K3 1; have f2 := Blk.free K3 2; clear b r K3) | (go_at_call 68; refine (VT.out w1 ga A1 n1 c1 D1 m1 d1 R1.out).mono ?_; rintro e w2 ⟨A2, n2, c2, D2, m2, d2, rfl, r, b⟩; have y0_2 := cell_bx y0_1 b; have y1_2 := cell_bx y1_1 b; have y2_2 := cell_bx y2_1 b; have z0_2 := cell_bx z0_1 b; have z1_2 := cell_bx z1_1 b; have P2 := hid (P1.out.keep b); have F2 := hid (F1.out.keep b); have R2 := hid r; clear b r) | (go_at_call 39; refine (AT.out _ (bx_call BR.out (bx_drew (bx_refl _))) j).mono ?_; rintro e w1 ⟨ga, A1, n1, c1, D1, m1, d1, rfl, r, b⟩; have y0_1 := cell_bx (cell_dr y0) b; have y1_1 := cell_bx (cell_dr y1) b; have y2_1 := cell_bx (cell_dr y2) b; have z0_1 := cell_bx (cell_dr z0) b; have z1_1 := cell_bx (cell_dr z1) b; have P1 := hid (PR.out.keep (bx_call (bx_drew (bx_refl _)) b)); have F1 := hid (FR.out.keep (bx_call (bx_drew (bx_refl _)) b)); have R1 := hid r; clear b r))
      (try go_wp2_with fail)
      refine hK.out _ _ ?_ (fun hH2 => ?_)
      · (try dsimp only); (refine ⟨?_, ?_⟩ <;> repeat' (first | with_reducible assumption | with_reducible refine cell_dr ?_ | with_reducible refine cell_al ?_ | with_reducible refine cell_fr ?_ (by omega)))
      clear hK K hH
      have hH := hH2
      clear hH2
      (try simp only [Act.put, gy0, gy1, gy2])
      refine wpAnyH_ready (rs := [11]) (by kernel_rfl) (by simp) ?_
      refine rdy (fun K hK => ?_) ?_
      go_simp
      (first | (go_at_call 37; refine (AD.out w2 F2.out A2 n2 c2 D2 m2 d2 R2.out).mono ?_; rintro e w3 ⟨A3, n3, c3, D3, m3, d3, rfl, r, b⟩; have y0_3 := cell_bx y0_2 b; have y1_3 := cell_bx y1_2 b; have y2_3 := cell_bx y2_2 b; have z0_3 := cell_bx z0_2 b; have z1_3 := cell_bx z1_2 b; have P3 := hid (P2.out.keep b); have F3 := hid (F2.out.keep b); have NN := hid (P3.out.next (FrW.of r)); obtain ⟨_, _, _, _, _, _, _, _, _, _, K3, _⟩ := P3.out; have f0 := Blk.free K3 0; have f1 := Blk.free K3 1; have f2 := Blk.free K3 2; clear b r K3) | (go_at_call 68; refine (VT.out w1 ga A1 n1 c1 D1 m1 d1 R1.out).mono ?_; rintro e w2 ⟨A2, n2, c2, D2, m2, d2, rfl, r, b⟩; have y0_2 := cell_bx y0_1 b; have y1_2 := cell_bx y1_1 b; have y2_2 := cell_bx y2_1 b; have z0_2 := cell_bx z0_1 b; have z1_2 := cell_bx z1_1 b; have P2 := hid (P1.out.keep b); have F2 := hid (F1.out.keep b); have R2 := hid r; clear b r) | (go_at_call 39; refine (AT.out _ (bx_call BR.out (bx_drew (bx_refl _))) j).mono ?_; rintro e w1 ⟨ga, A1, n1, c1, D1, m1, d1, rfl, r, b⟩; have y0_1 := cell_bx (cell_dr y0) b; have y1_1 := cell_bx (cell_dr y1) b; have y2_1 := cell_bx (cell_dr y2) b; have z0_1 := cell_bx (cell_dr z0) b; have z1_1 := cell_bx (cell_dr z1) b; have P1 := hid (PR.out.keep (bx_call (bx_drew (bx_refl _)) b)); have F1 := hid (FR.out.keep (bx_call (bx_drew (bx_refl _)) b)); have R1 := hid r; clear b r))
      (try go_wp2_with fail)
      refine hK.out _ _ ?_ (fun hH2 => ?_)
      · (try dsimp only); (refine ⟨?_, ?_⟩ <;> repeat' (first | with_reducible assumption | with_reducible refine cell_dr ?_ | with_reducible refine cell_al ?_ | with_reducible refine cell_fr ?_ (by omega)))
      clear hK K hH
      have hH := hH2
      clear hH2
      (try simp only [Act.put, gy0, gy1, gy2])
      refine wpAnyH_ready (rs := [12]) (by kernel_rfl) (by simp) ?_
      refine rdy (fun K hK => ?_) ?_
      go_simp
      refine hK.out _ _ ?_ (fun hH2 => ?_)
      · (try dsimp only); (refine ⟨?_, ?_⟩ <;> repeat' (first | with_reducible assumption | with_reducible refine cell_dr ?_ | with_reducible refine cell_al ?_ | with_reducible refine cell_fr ?_ (by omega)))
      clear hK K hH
      have hH := hH2
      clear hH2
      (try simp only [Act.put, gy0, gy1, gy2])
      refine wpAnyH_done (by kernel_rfl) ?_ _
      refine NoPanic.normal ?_
      clear hH
      rotate_left
      exact AllReadyH.nil
      exact AllReadyH.nil
      exact AllReadyH.nil
      exact AllReadyH.nil
      refine rdy (fun K hK => ?_) ?_
      go_simp
      (first | (go_at_call 37; refine (AD.out w2 F2.out A2 n2 c2 D2 m2 d2 R2.out).mono ?_; rintro e w3 ⟨A3, n3, c3, D3, m3, d3, rfl, r, b⟩; have y0_3 := cell_bx y0_2 b; have y1_3 := cell_bx y1_2 b; have y2_3 := cell_bx y2_2 b; have z0_3 := cell_bx z0_2 b; have z1_3 := cell_bx z1_2 b; have P3 := hid (P2.out.keep b); have F3 := hid (F2.out.keep b); have NN := hid (P3.out.next (FrW.of r)); obtain ⟨_, _, _, _, _, _, _, _, _, _, K3, _⟩ := P3.out; have f0 := Blk.free K3 0; have f1 := Blk.free K3 1; have f2 := Blk.free K3 2; clear b r K3) | (go_at_call 68; refine (VT.out w1 ga A1 n1 c1 D1 m1 d1 R1.out).mono ?_; rintro e w2 ⟨A2, n2, c2, D2, m2, d2, rfl, r, b⟩; have y0_2 := cell_bx y0_1 b; have y1_2 := cell_bx y1_1 b; have y2_2 := cell_bx y2_1 b; have z0_2 := cell_bx z0_1 b; have z1_2 := cell_bx z1_1 b; have P2 := hid (P1.out.keep b); have F2 := hid (F1.out.keep b); have R2 := hid r; clear b r) | (go_at_call 39; refine (AT.out _ (bx_call BR.out (bx_drew (bx_refl _))) j).mono ?_; rintro e w1 ⟨ga, A1, n1, c1, D1, m1, d1, rfl, r, b⟩; have y0_1 := cell_bx (cell_dr y0) b; have y1_1 := cell_bx (cell_dr y1) b; have y2_1 := cell_bx (cell_dr y2) b; have z0_1 := cell_bx (cell_dr z0) b; have z1_1 := cell_bx (cell_dr z1) b; have P1 := hid (PR.out.keep (bx_call (bx_drew (bx_refl _)) b)); have F1 := hid (FR.out.keep (bx_call (bx_drew (bx_refl _)) b)); have R1 := hid r; clear b r))
      (try go_wp2_with fail)
      refine hK.out _ _ ?_ (fun hH2 => ?_)
      · (try dsimp only); (refine ⟨?_, ?_⟩ <;> repeat' (first | with_reducible assumption | with_reducible refine cell_dr ?_ | with_reducible refine cell_al ?_ | with_reducible refine cell_fr ?_ (by omega)))
      clear hK K hH
      have hH := hH2
      clear hH2
      (try simp only [Act.put, gy0, gy1, gy2])
      refine wpAnyH_ready (rs := [0, 10]) (by kernel_rfl) (by simp) ?_
      refine rdy (fun K hK => ?_) ?_
      go_simp
      refine hK.out _ _ ?_ (fun hH2 => ?_)
      · (try dsimp only); (refine ⟨?_, ?_⟩ <;> repeat' (first | with_reducible assumption | with_reducible refine cell_dr ?_ | with_reducible refine cell_al ?_ | with_reducible refine cell_fr ?_ (by omega)))
      clear hK K hH
      have hH := hH2
      clear hH2
      (try simp only [Act.put, gy0, gy1, gy2])
      refine wpAnyH_ready (rs := [10]) (by kernel_rfl) (by simp) ?_
      refine rdy (fun K hK => ?_) ?_
      go_simp
      (first | (go_at_call 37; refine (AD.out w2 F2.out A2 n2 c2 D2 m2 d2 R2.out).mono ?_; rintro e w3 ⟨A3, n3, c3, D3, m3, d3, rfl, r, b⟩; have y0_3 := cell_bx y0_2 b; have y1_3 := cell_bx y1_2 b; have y2_3 := cell_bx y2_2 b; have z0_3 := cell_bx z0_2 b; have z1_3 := cell_bx z1_2 b; have P3 := hid (P2.out.keep b); have F3 := hid (F2.out.keep b); have NN := hid (P3.out.next (FrW.of r)); obtain ⟨_, _, _, _, _, _, _, _, _, _, K3, _⟩ := P3.out; have f0 := Blk.free K3 0; have f1 := Blk.free K3 1; have f2 := Blk.free K3 2; clear b r K3) | (go_at_call 68; refine (VT.out w1 ga A1 n1 c1 D1 m1 d1 R1.out).mono ?_; rintro e w2 ⟨A2, n2, c2, D2, m2, d2, rfl, r, b⟩; have y0_2 := cell_bx y0_1 b; have y1_2 := cell_bx y1_1 b; have y2_2 := cell_bx y2_1 b; have z0_2 := cell_bx z0_1 b; have z1_2 := cell_bx z1_1 b; have P2 := hid (P1.out.keep b); have F2 := hid (F1.out.keep b); have R2 := hid r; clear b r) | (go_at_call 39; refine (AT.out _ (bx_call BR.out (bx_drew (bx_refl _))) j).mono ?_; rintro e w1 ⟨ga, A1, n1, c1, D1, m1, d1, rfl, r, b⟩; have y0_1 := cell_bx (cell_dr y0) b; have y1_1 := cell_bx (cell_dr y1) b; have y2_1 := cell_bx (cell_dr y2) b; have z0_1 := cell_bx (cell_dr z0) b; have z1_1 := cell_bx (cell_dr z1) b; have P1 := hid (PR.out.keep (bx_call (bx_drew (bx_refl _)) b)); have F1 := hid (FR.out.keep (bx_call (bx_drew (bx_refl _)) b)); have R1 := hid r; clear b r))
      (try go_wp2_with fail)
      refine hK.out _ _ ?_ (fun hH2 => ?_)
      · (try dsimp only); (refine ⟨?_, ?_⟩ <;> repeat' (first | with_reducible assumption | with_reducible refine cell_dr ?_ | with_reducible refine cell_al ?_ | with_reducible refine cell_fr ?_ (by omega)))
      clear hK K hH
      have hH := hH2
      clear hH2
      (try simp only [Act.put, gy0, gy1, gy2])
      refine wpAnyH_ready (rs := [11]) (by kernel_rfl) (by simp) ?_
      refine rdy (fun K hK => ?_) ?_
      go_simp
      (first | (go_at_call 37; refine (AD.out w2 F2.out A2 n2 c2 D2 m2 d2 R2.out).mono ?_; rintro e w3 ⟨A3, n3, c3, D3, m3, d3, rfl, r, b⟩; have y0_3 := cell_bx y0_2 b; have y1_3 := cell_bx y1_2 b; have y2_3 := cell_bx y2_2 b; have z0_3 := cell_bx z0_2 b; have z1_3 := cell_bx z1_2 b; have P3 := hid (P2.out.keep b); have F3 := hid (F2.out.keep b); have NN := hid (P3.out.next (FrW.of r)); obtain ⟨_, _, _, _, _, _, _, _, _, _, K3, _⟩ := P3.out; have f0 := Blk.free K3 0; have f1 := Blk.free K3 1; have f2 := Blk.free K3 2; clear b r K3) | (go_at_call 68; refine (VT.out w1 ga A1 n1 c1 D1 m1 d1 R1.out).mono ?_; rintro e w2 ⟨A2, n2, c2, D2, m2, d2, rfl, r, b⟩; have y0_2 := cell_bx y0_1 b; have y1_2 := cell_bx y1_1 b; have y2_2 := cell_bx y2_1 b; have z0_2 := cell_bx z0_1 b; have z1_2 := cell_bx z1_1 b; have P2 := hid (P1.out.keep b); have F2 := hid (F1.out.keep b); have R2 := hid r; clear b r) | (go_at_call 39; refine (AT.out _ (bx_call BR.out (bx_drew (bx_refl _))) j).mono ?_; rintro e w1 ⟨ga, A1, n1, c1, D1, m1, d1, rfl, r, b⟩; have y0_1 := cell_bx (cell_dr y0) b; have y1_1 := cell_bx (cell_dr y1) b; have y2_1 := cell_bx (cell_dr y2) b; have z0_1 := cell_bx (cell_dr z0) b; have z1_1 := cell_bx (cell_dr z1) b; have P1 := hid (PR.out.keep (bx_call (bx_drew (bx_refl _)) b)); have F1 := hid (FR.out.keep (bx_call (bx_drew (bx_refl _)) b)); have R1 := hid r; clear b r))
      (try go_wp2_with fail)
      refine hK.out _ _ ?_ (fun hH2 => ?_)
      · (try dsimp only); (refine ⟨?_, ?_⟩ <;> repeat' (first | with_reducible assumption | with_reducible refine cell_dr ?_ | with_reducible refine cell_al ?_ | with_reducible refine cell_fr ?_ (by omega)))
      clear hK K hH
      have hH := hH2
      clear hH2
      (try simp only [Act.put, gy0, gy1, gy2])
      refine wpAnyH_ready (rs := [12]) (by kernel_rfl) (by simp) ?_
      refine rdy (fun K hK => ?_) ?_
      go_simp
      refine hK.out _ _ ?_ (fun hH2 => ?_)
      · (try dsimp only); (refine ⟨?_, ?_⟩ <;> repeat' (first | with_reducible assumption | with_reducible refine cell_dr ?_ | with_reducible refine cell_al ?_ | with_reducible refine cell_fr ?_ (by omega)))
      clear hK K hH
      have hH := hH2
      clear hH2
      (try simp only [Act.put, gy0, gy1, gy2])
      refine wpAnyH_done (by kernel_rfl) ?_ _
      refine NoPanic.normal ?_
      clear hH
      rotate_left
      exact AllReadyH.nil
      exact AllReadyH.nil
      exact AllReadyH.nil
      refine rdy (fun K hK => ?_) ?_
      go_simp
      (first | (go_at_call 37; refine (AD.out w2 F2.out A2 n2 c2 D2 m2 d2 R2.out).mono ?_; rintro e w3 ⟨A3, n3, c3, D3, m3, d3, rfl, r, b⟩; have y0_3 := cell_bx y0_2 b; have y1_3 := cell_bx y1_2 b; have y2_3 := cell_bx y2_2 b; have z0_3 := cell_bx z0_2 b; have z1_3 := cell_bx z1_2 b; have P3 := hid (P2.out.keep b); have F3 := hid (F2.out.keep b); have NN := hid (P3.out.next (FrW.of r)); obtain ⟨_, _, _, _, _, _, _, _, _, _, K3, _⟩ := P3.out; have f0 := Blk.free K3 0; have f1 := Blk.free K3 1; have f2 := Blk.free K3 2; clear b r K3) | (go_at_call 68; refine (VT.out w1 ga A1 n1 c1 D1 m1 d1 R1.out).mono ?_; rintro e w2 ⟨A2, n2, c2, D2, m2, d2, rfl, r, b⟩; have y0_2 := cell_bx y0_1 b; have y1_2 := cell_bx y1_1 b; have y2_2 := cell_bx y2_1 b; have z0_2 := cell_bx z0_1 b; have z1_2 := cell_bx z1_1 b; have P2 := hid (P1.out.keep b); have F2 := hid (F1.out.keep b); have R2 := hid r; clear b r) | (go_at_call 39; refine (AT.out _ (bx_call BR.out (bx_drew (bx_refl _))) j).mono ?_; rintro e w1 ⟨ga, A1, n1, c1, D1, m1, d1, rfl, r, b⟩; have y0_1 := cell_bx (cell_dr y0) b; have y1_1 := cell_bx (cell_dr y1) b; have y2_1 := cell_bx (cell_dr y2) b; have z0_1 := cell_bx (cell_dr z0) b; have z1_1 := cell_bx (cell_dr z1) b; have P1 := hid (PR.out.keep (bx_call (bx_drew (bx_refl _)) b)); have F1 := hid (FR.out.keep (bx_call (bx_drew (bx_refl _)) b)); have R1 := hid r; clear b r))
      (try go_wp2_with fail)
      refine hK.out _ _ ?_ (fun hH2 => ?_)
      · (try dsimp only); (refine ⟨?_, ?_⟩ <;> repeat' (first | with_reducible assumption | with_reducible refine cell_dr ?_ | with_reducible refine cell_al ?_ | with_reducible refine cell_fr ?_ (by omega)))
      clear hK K hH
      have hH := hH2
      clear hH2
      (try simp only [Act.put, gy0, gy1, gy2])
      refine wpAnyH_ready (rs := [0]) (by kernel_rfl) (by simp) ?_
      refine rdy (fun K hK => ?_) ?_
      go_simp
      refine hK.out _ _ ?_ (fun hH2 => ?_)
      · (try dsimp only); (refine ⟨?_, ?_⟩ <;> repeat' (first | with_reducible assumption | with_reducible refine cell_dr ?_ | with_reducible refine cell_al ?_ | with_reducible refine cell_fr ?_ (by omega)))
      clear hK K hH
      have hH := hH2
      clear hH2
      (try simp only [Act.put, gy0, gy1, gy2])
      refine wpAnyH_ready (rs := [11]) (by kernel_rfl) (by simp) ?_
      refine rdy (fun K hK => ?_) ?_
      go_simp
      (first | (go_at_call 37; refine (AD.out w2 F2.out A2 n2 c2 D2 m2 d2 R2.out).mono ?_; rintro e w3 ⟨A3, n3, c3, D3, m3, d3, rfl, r, b⟩; have y0_3 := cell_bx y0_2 b; have y1_3 := cell_bx y1_2 b; have y2_3 := cell_bx y2_2 b; have z0_3 := cell_bx z0_2 b; have z1_3 := cell_bx z1_2 b; have P3 := hid (P2.out.keep b); have F3 := hid (F2.out.keep b); have NN := hid (P3.out.next (FrW.of r)); obtain ⟨_, _, _, _, _, _, _, _, _, _, K3, _⟩ := P3.out; have f0 := Blk.free K3 0; have f1 := Blk.free K3 1; have f2 := Blk.free K3 2; clear b r K3) | (go_at_call 68; refine (VT.out w1 ga A1 n1 c1 D1 m1 d1 R1.out).mono ?_; rintro e w2 ⟨A2, n2, c2, D2, m2, d2, rfl, r, b⟩; have y0_2 := cell_bx y0_1 b; have y1_2 := cell_bx y1_1 b; have y2_2 := cell_bx y2_1 b; have z0_2 := cell_bx z0_1 b; have z1_2 := cell_bx z1_1 b; have P2 := hid (P1.out.keep b); have F2 := hid (F1.out.keep b); have R2 := hid r; clear b r) | (go_at_call 39; refine (AT.out _ (bx_call BR.out (bx_drew (bx_refl _))) j).mono ?_; rintro e w1 ⟨ga, A1, n1, c1, D1, m1, d1, rfl, r, b⟩; have y0_1 := cell_bx (cell_dr y0) b; have y1_1 := cell_bx (cell_dr y1) b; have y2_1 := cell_bx (cell_dr y2) b; have z0_1 := cell_bx (cell_dr z0) b; have z1_1 := cell_bx (cell_dr z1) b; have P1 := hid (PR.out.keep (bx_call (bx_drew (bx_refl _)) b)); have F1 := hid (FR.out.keep (bx_call (bx_drew (bx_refl _)) b)); have R1 := hid r; clear b r))
      (try go_wp2_with fail)
      refine hK.out _ _ ?_ (fun hH2 => ?_)
      · (try dsimp only); (refine ⟨?_, ?_⟩ <;> repeat' (first | with_reducible assumption | with_reducible refine cell_dr ?_ | with_reducible refine cell_al ?_ | with_reducible refine cell_fr ?_ (by omega)))
      clear hK K hH
      have hH := hH2
      clear hH2
      (try simp only [Act.put, gy0, gy1, gy2])
      refine wpAnyH_ready (rs := [12]) (by kernel_rfl) (by simp) ?_
      refine rdy (fun K hK => ?_) ?_
      go_simp
      refine hK.out _ _ ?_ (fun hH2 => ?_)
      · (try dsimp only); (refine ⟨?_, ?_⟩ <;> repeat' (first | with_reducible assumption | with_reducible refine cell_dr ?_ | with_reducible refine cell_al ?_ | with_reducible refine cell_fr ?_ (by omega)))
      clear hK K hH
      have hH := hH2
      clear hH2
      (try simp only [Act.put, gy0, gy1, gy2])
      refine wpAnyH_done (by kernel_rfl) ?_ _
      refine NoPanic.normal ?_
      clear hH
      rotate_left
      exact AllReadyH.nil
      exact AllReadyH.nil
      exact AllReadyH.nil
      exact AllReadyH.nil
      exact AllReadyH.nil
      all_goals
        go_wp2_with fail
        go_roundw
        case rel => exact ⟨j + 1, by omega, by go_num, by rw [NX.out]; exact NN⟩
        case measure => simp [intOf]; omega
    · obtain rfl : j = vn := by omega
      clear HT AT ST hge AQ
      have DD := hid (AccX.done hz.out.1 hz.out.2.2.1 FA)
      have f0 := Blk.free hz.out.2.2.1 0
      have f1 := Blk.free hz.out.2.2.1 1
      have f2 := Blk.free hz.out.2.2.1 2
      obtain ⟨e0, e1, e2⟩ := blk_three hz.out.2.2.1
      clear KA FA hz BR FR PR
      go_wp2_with fail
      exact bodyPost_ret (v := .agg #[.bool g0, .slice A0 n0 c0, .slice D0 m0 d0]) (by simp [results, Tryz.results22, go_sem, e0, e1, e2]) rfl DD.out
set_option maxHeartbeats 4000000 in
theorem vcostL (V0 : Option Addr) (vn vc : Nat) (R0 : Option Addr) (rn rc : Nat) (lo up : Nat → Int) (op it : Nat → Bool) (cf : Nat → Int) (A : Option Addr) (n c k : Nat) (qs : Nat → Rat) (w : World) (hT : Vs w V0 vn vc lo up op it cf) (hQ : Qs w A n c k qs) (hvn : vn ≤ 17592186044416) (hk : vn * (k + 3) + 1 + (k + 2) ≤ 274877906943) :
    Calls Tryz.prog 21 #[.agg #[.slice V0 vn vc, .slice R0 rn rc], .slice A n c] w (RetW w (sumN (fun j => (cf j : Rat) * atQ n qs (j : Int)) vn) (vn * (k + 3) + 1)) := by
  have hqn : n ≤ 9223372036854775807 := Nat.le_trans hQ.1 hQ.2.1
  have hc1 := hT.1
  have hc2 := hT.2.1
  have hcf : ∀ i, i < vn → -9223372036854775808 ≤ cf i ∧ cf i ≤ 9223372036854775807 := fun i hi => (hT.2.2.1 i hi).2.2
  obtain ⟨W0, hW⟩ : ∃ W, W = (w.alloc (.cells #[.slice V0 vn vc, .slice R0 rn rc] 25)).alloc (.cells #[.bool false, .slice none 0 0, .slice none 0 0] 41) := ⟨_, rfl⟩
  have B0 := bx_alloc (bx_alloc (bx_refl w) (.cells #[.slice V0 vn vc, .slice R0 rn rc] 25)) (.cells #[.bool false, .slice none 0 0, .slice none 0 0] 41)
  have KP := (Blk.new w [.slice V0 vn vc, .slice R0 rn rc] 25).alloc (.cells #[.bool false, .slice none 0 0, .slice none 0 0] 41)
  have KR := blk_new1 w (.cells #[.slice V0 vn vc, .slice R0 rn rc] 25) [.bool false, .slice none 0 0, .slice none 0 0] 41
  change Blk ((w.alloc (.cells #[.slice V0 vn vc, .slice R0 rn rc] 25)).alloc (.cells #[.bool false, .slice none 0 0, .slice none 0 0] 41)) _ _ _ at KP KR
  rw [← hW] at B0 KP KR
  have LI := hid (vlisted vn 70 #[.pointer (some ⟨w.heap.size, 0, none⟩)] cf W0 hvn hcf cost1_cf (fun W i hi hb => vcost1 w.heap.size V0 vn vc R0 rn rc lo up op it cf i W hi (hT.keep (bx_call B0 hb)) (KP.keep hb)))
  have EL := hid (fun (W : World) => velem A n c vn (min vn n) W hqn rfl)
  have SM := hid (fun (W : World) (b : Below W0.heap.size W0 W) (tb bn bl : Nat) (ts : Ts W (some ⟨tb, 0, none⟩) vn vn (fun i => (i : Int)) cf) (kn : Blk W bn [.int .i64 (min vn n : Nat)] 3) (kl : Blk W bl [.slice A n c] 32) => vsumL (some ⟨tb, 0, none⟩) vn vn (fun i => (i : Int)) cf A n c k (min vn n) bn bl qs W ts (hQ.keep (bx_call B0 b)) kn kl (Nat.min_le_right _ _) hk)
  have ES : sumN (fun j => (cf j : Rat) * atQ (min vn n) qs (j : Int)) vn = sumN (fun j => (cf j : Rat) * atQ n qs (j : Int)) vn := sumN_congr fun j hj => by
    show (cf j : Rat) * atQ (min vn n) qs (j : Int) = (cf j : Rat) * atQ n qs (j : Int)
    congr 1
    unfold atQ
    by_cases h : j < n
    · rw [if_pos (by omega), if_pos (by omega)]
    · rw [if_neg (by omega), if_neg (by omega)]
  rw [ES] at SM
  obtain ⟨S, hS⟩ : ∃ S, S = sumN (fun j => (cf j : Rat) * atQ n qs (j : Int)) vn := ⟨_, rfl⟩
  rw [← hS] at SM ⊢
  obtain ⟨m, hm⟩ : ∃ m, m = min vn n := ⟨_, rfl⟩
  rw [← hm] at SM EL
  have BB := hid B0
  have KKP := hid KP
  have KKR := hid KR
  have z0 := (blk_two KP).1
  clear hT hQ B0 KP KR hS ES hm hcf
  go_enter Tryz.func21, Tryz.ntmps21
  go_upto_region 1 with fail
  rw [← hW]
  clear hW
  go_wp2_with fail
  refine (LI.out).mono ?_
  rintro e w1 ⟨tb, rfl, ts, _, b⟩
  have TS := hid ts
  have B1 := hid b
  have P1 := hid (KKP.out.keep b)
  have R1 := hid (KKR.out.keep b)
  have z1 := (blk_two P1.out).1
  clear ts b KKP KKR z0 LI
  go_wp2_with fail
  refine (EL.out w1).mono ?_
  rintro e w2 ⟨bn, bl, rfl, kn, kl, _, _, b⟩
  have SC := hid (SM.out w2 (bx_call B1.out b) tb bn bl (TS.out.keep b) kn kl)
  have B2 := hid (bx_call BB.out (bx_call B1.out b))
  have R2 := hid (R1.out.keep b)
  clear kn kl b SM EL BB TS B1 P1 R1 z1
  unfold El
  unfold El at SC
  go_wp2_with fail
  refine (SC.out).mono ?_
  rintro e w3 ⟨g1, A1, n1, c1, D1, m1, d1, rfl, r, b⟩
  have K2 := R2.out.keep b
  have EE := hid (retw_end r K2 (bx_call B2.out b) (Nat.le_succ _))
  obtain ⟨x0, x1, x2⟩ := blk_three K2
  have f0 := Blk.free K2 0
  have f1 := Blk.free K2 1
  have f2 := Blk.free K2 2
  clear r b SC K2 R2 B2
  go_wp2_with fail
  exact bodyPost_ret (v := .agg #[.bool g1, .slice A1 n1 c1, .slice D1 m1 d1]) (by simp [results, Tryz.results21, go_sem, x0, x1, x2]) rfl EE.out
end Go.Proofs.YtdbccidlnhjfhaaGreatDoor
