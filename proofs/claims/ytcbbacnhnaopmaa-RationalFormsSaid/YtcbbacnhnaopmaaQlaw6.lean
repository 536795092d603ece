/- Laws of layer 3, walked by contracts. -/
import Derived.Test.YtcbbacnhnaopmaaQval
import Derived.Test.YtcbbacnhnaopmaaQsgn
import Derived.Deep.DeepCutAuto
namespace Go.Proofs.Ytcbbacnhnaopmaa
open Go.RowKit

/-- A fraction is stored in its block. -/
theorem rat_made {w W : World} {p k : Nat} {q : Rat} {b0 : Bool} {A A0 D D0 : Option Addr} {n c n0 c0 m d m0 d0 : Nat} (hB : Below w.heap.size w W) (hp : w.heap.size ≤ p)
    (bp : Blk W p [.bool b0, .slice A0 n0 c0, .slice D0 m0 d0] 50) (r : FrL W A n c D m d k q) :
    Blk (((W.setCell ⟨p, 0, none⟩ (.bool (sg q.num))).setCell ⟨p, 1, none⟩ (.slice A n c)).setCell ⟨p, 2, none⟩ (.slice D m d)) p [.bool (sg q.num), .slice A n c, .slice D m d] 50 ∧ FrL (((W.setCell ⟨p, 0, none⟩ (.bool (sg q.num))).setCell ⟨p, 1, none⟩ (.slice A n c)).setCell ⟨p, 2, none⟩ (.slice D m d)) A n c D m d k q ∧
    Below w.heap.size w (((W.setCell ⟨p, 0, none⟩ (.bool (sg q.num))).setCell ⟨p, 1, none⟩ (.slice A n c)).setCell ⟨p, 2, none⟩ (.slice D m d)) :=
  ⟨((bp.set_ 0 _).set_ 1 _).set_ 2 _, ⟨rd_cell_far3 r.1 bp _ _ _, r.2.1, rd_cell_far3 r.2.2.1 bp _ _ _, r.2.2.2⟩, bx_set (bx_set (bx_set hB hp) hp) hp⟩
theorem far_rat {W : World} {p t o q B : Nat} (bp : Blk W p [.bool false, .slice none 0 0, .slice none 0 0] t) (hp : B ≤ p) (ho : o < B) (hq : q < B) :
    (W.cell? ⟨p, 0, none⟩ = some (.bool false) ∧ W.cell? ⟨p, 1, none⟩ = some (.slice none 0 0) ∧ W.cell? ⟨p, 2, none⟩ = some (.slice none 0 0) ∧ W.frozen? ⟨p, 0, none⟩ = false ∧ W.frozen? ⟨p, 1, none⟩ = false ∧ W.frozen? ⟨p, 2, none⟩ = false) ∧ Hid (o ≠ p ∧ q ≠ p) :=
  ⟨⟨Blk.cell bp 0, Blk.cell bp 1, Blk.cell bp 2, Blk.free bp 0, Blk.free bp 1, Blk.free bp 2⟩, hid ⟨by omega, by omega⟩⟩

theorem rd_len0 {w : World} {A : Option Addr} {n c k : Nat} {xs : List Nat} (h : Rd w A n c xs) (hz : xs.length ≤ k) : n ≤ k := by rw [← h.1]; exact hz

set_option maxRecDepth 100000 in
set_option maxHeartbeats 8000000 in
theorem rationalForms_any (ga : Bool) (Aa : Option Addr) (na ca : Nat) (xsa : List Nat) (Da : Option Addr) (ma da : Nat) (dsa : List Nat) (zm zn : Int) (w : World) (ha : Rd w Aa na ca xsa) (ea : Rd w Da ma da dsa) (hm0 : -9223372036854775808 ≤ zm ∧ zm ≤ 9223372036854775807) (hn0 : -9223372036854775808 ≤ zn ∧ zn ≤ 9223372036854775807) :
    Calls Try.prog 10 #[.agg #[.bool ga, .slice Aa na ca, .slice Da ma da], .int .i64 zm, .int .i64 zn] w (RetB w true) := by
  have j1a := ha.2.1
  have j2a := ha.2.2.1
  have j3a := ea.2.1
  have j4a := ea.2.2.1
  have X := hid (bx_alloc (bx_refl w) (.cells #[.bool ga, .slice Aa na ca, .slice Da ma da] 50))
  have Ka : Hid (Blk (w.alloc (.cells #[.bool ga, .slice Aa na ca, .slice Da ma da] 50)) (w.heap.size) [.bool ga, .slice Aa na ca, .slice Da ma da] 50) := hid (by have t := (Blk.new w [.bool ga, .slice Aa na ca, .slice Da ma da] 50); (try simp only [World.size_alloc] at t); exact t)
  have Ra := hid (ha.keep X.out)
  have Sa := hid (ea.keep X.out)
  clear ha ea
  obtain ⟨um1, um2⟩ := hm0
  obtain ⟨un1, un2⟩ := hn0
  by_cases hf : na ≤ 6 ∧ ma ≤ 6
  · obtain ⟨qa, ua⟩ := hf
    go_enter Try.func10, Try.ntmps10
    go_wp2_with fail
    refine (qawake_any _).mono ?_
    rintro e w1 ⟨rfl, b⟩
    have Ra_1 := hid (Ra.out.keep b)
    have Sa_1 := hid (Sa.out.keep b)
    have Ka_1 := hid (Ka.out.keep b)
    have X_1 := hid (bx_call X.out b)
    clear b X Ra Sa Ka
    obtain ⟨ka0, ka1, ka2⟩ := blk_three Ka_1.out
    have cc := qfew1 (k := 6) (by omega) (Blk.new w1 [.bool ga, .slice Aa na ca, .slice Da ma da] 50) (by omega) (by omega)
    rw [decide_eq_true ⟨qa, ua⟩] at cc
    have CC := hid cc
    clear cc
    go_wp2_with fail
    refine (CC.out).mono ?_
    rintro e w2 ⟨rfl, b0⟩
    have b := bx_call (bx_alloc (bx_refl w1) (.cells #[.bool ga, .slice Aa na ca, .slice Da ma da] 50)) b0
    have Ka_2 := hid (Ka_1.out.keep b)
    obtain ⟨za, hza⟩ : ∃ z, z = mkRat (iv ga xsa) (dv1 dsa) := ⟨_, rfl⟩
    have Va_2 := hid (show FrV w2 ga Aa na ca Da ma da 6 za from ⟨xsa, dsa, Ra_1.out.keep b, qa, Sa_1.out.keep b, ua, by omega, hza.symm⟩)
    have Na_2 := hid (Ra_1.out.keep b)
    have Ea_2 := hid (Sa_1.out.keep b)
    have X_2 := hid (bx_call X_1.out b)
    clear CC b b0 X_1 Ra_1 Sa_1 Ka_1 hza ka0 ka1 ka2
    obtain ⟨zc, h0⟩ : ∃ z : Int, z = if zn = 0 then 2 else 0 := ⟨_, rfl⟩
    have HC := hid h0
    clear h0
    obtain ⟨qf, h0⟩ : ∃ q, q = pv zm zn := ⟨_, rfl⟩
    have HF := hid h0
    clear h0
    obtain ⟨qm, h0⟩ : ∃ q, q = pv (iv ga xsa) zn := ⟨_, rfl⟩
    have HM := hid h0
    clear h0
    obtain ⟨ok, h0⟩ : ∃ b, b = vB ga xsa dsa := ⟨_, rfl⟩
    have HV := hid h0
    clear h0
    obtain ⟨tt, h0⟩ : ∃ t, t = txQ za := ⟨_, rfl⟩
    have HT := hid h0
    clear h0
    obtain ⟨sa, h0⟩ : ∃ s, s = sgnQ za := ⟨_, rfl⟩
    have HS := hid h0
    clear h0
    obtain ⟨iv0, h0⟩ : ∃ s, s = (if za.den = 1 then i64V za.num else 0) := ⟨_, rfl⟩
    have HI := hid h0
    clear h0
    obtain ⟨ib0, h0⟩ : ∃ s, s = (decide (za.den = 1) && i64B za.num) := ⟨_, rfl⟩
    have HB := hid h0
    clear h0
    obtain ⟨ka0, ka1, ka2⟩ := blk_three Ka_2.out
    have cc := vfrac zm zn w2 um1 um2 un1 un2
    rw [← HC.out, ← HF.out] at cc
    have CC := hid cc
    clear cc
    go_wp2_with fail
    refine (CC.out).mono ?_
    rintro e w3 ⟨Ap, np, cp, Dp, mp, dp, rfl, r, b0⟩
    have jp1p := r.1.2.1
    have jp2p := r.1.2.2.1
    have jp3p := r.2.2.1.2.1
    have jp4p := r.2.2.1.2.2.1
    have o := bx_alloc (bx_refl w3) (.cells #[.bool (sg (qf).num), .slice Ap np cp, .slice Dp mp dp] 50)
    have b := bx_call b0 o
    have Lp := hid (r.keep o)
    have Kp := hid (Blk.new w3 [.bool (sg (qf).num), .slice Ap np cp, .slice Dp mp dp] 50)
    clear r b0 o
    have Va_3 := hid (Va_2.out.keep b)
    have Ka_3 := hid (Ka_2.out.keep b)
    have Na_3 := hid (Na_2.out.keep b)
    have Ea_3 := hid (Ea_2.out.keep b)
    have X_3 := hid (bx_call X_2.out b)
    clear CC b ka0 ka1 ka2 Va_2 Ka_2 Na_2 Ea_2 X_2
    obtain ⟨v3, hv⟩ : ∃ W, W = w3.alloc (.cells #[.bool (sg (qf).num), .slice Ap np cp, .slice Dp mp dp] 50) := ⟨_, rfl⟩
    obtain ⟨bp, hbp⟩ : ∃ i, i = w3.heap.size := ⟨_, rfl⟩
    rw [← hv] at Va_3 Ka_3 Na_3 Ea_3 Lp Kp X_3
    rw [← hbp] at Kp
    go_upto_region 4 with fail
    rw [← hv, ← hbp]
    clear hv hbp
    obtain ⟨ka0, ka1, ka2⟩ := blk_three Ka_3.out
    obtain ⟨kp0, kp1, kp2⟩ := blk_three Kp.out
    have cc := vrfrac zm zn v3 um1 um2 un1 un2
    rw [← HC.out, ← HF.out] at cc
    have CC := hid cc
    clear cc
    go_wp2_with fail
    refine (CC.out).mono ?_
    rintro e w4 ⟨Aq, nq, cq, Dq, mq, dq, rfl, r, b0⟩
    have jp1q := r.1.2.1
    have jp2q := r.1.2.2.1
    have jp3q := r.2.2.1.2.1
    have jp4q := r.2.2.1.2.2.1
    have o := bx_alloc (bx_refl w4) (.cells #[.bool (sg (qf).num), .slice Aq nq cq, .slice Dq mq dq] 50)
    have b := bx_call b0 o
    have Lq := hid (r.keep o)
    have Kq := hid (Blk.new w4 [.bool (sg (qf).num), .slice Aq nq cq, .slice Dq mq dq] 50)
    clear r b0 o
    have Va_4 := hid (Va_3.out.keep b)
    have Ka_4 := hid (Ka_3.out.keep b)
    have Na_4 := hid (Na_3.out.keep b)
    have Ea_4 := hid (Ea_3.out.keep b)
    have Lp_4 := hid (Lp.out.keep b)
    have Kp_4 := hid (Kp.out.keep b)
    have X_4 := hid (bx_call X_3.out b)
    clear CC b ka0 ka1 ka2 kp0 kp1 kp2 Va_3 Ka_3 Na_3 Ea_3 Lp Kp X_3
    obtain ⟨v4, hv⟩ : ∃ W, W = w4.alloc (.cells #[.bool (sg (qf).num), .slice Aq nq cq, .slice Dq mq dq] 50) := ⟨_, rfl⟩
    obtain ⟨bq, hbp⟩ : ∃ i, i = w4.heap.size := ⟨_, rfl⟩
    rw [← hv] at Va_4 Ka_4 Na_4 Ea_4 Lp_4 Kp_4 Lq Kq X_4
    rw [← hbp] at Kq
    go_upto_region 5 with fail
    rw [← hv, ← hbp]
    clear hv hbp
    have FR := hid (fun (W : World) => rifrom_any zn W un1 un2)
    have MK := hid (fun (W : World) A5 n5 c5 (hw : Below v4.heap.size v4 W) (r : Rd W A5 n5 c5 (dg zn.natAbs)) => vmake ga Aa na ca xsa (sg zn) A5 n5 c5 _ 6 W (Na_4.out.keep hw) qa r (Nat.le_trans (rd_len0 r (len_i64 un1 un2)) (by omega)) (by omega) (by omega))
    simp only [iv_sg, ← HC.out, ← HM.out] at MK
    have nw := hid (show w.heap.size < v4.heap.size from Ka_4.out.lt)
    go_cut [11, 12] (fun sx sy wx => ∃ (p : Nat) (A6 : Option Addr) (n6 c6 : Nat) (D6 : Option Addr) (m6 d6 : Nat), sx = .pointer (some ⟨p, 0, none⟩) ∧ sy = .int .i64 zc ∧ Hid (Blk wx p [.bool (sg (qm).num), .slice A6 n6 c6, .slice D6 m6 d6] 50 ∧ FrL wx A6 n6 c6 D6 m6 d6 6 qm ∧ Below v4.heap.size v4 wx))
    case first =>
       refine wp_region_noPanic ?_
       refine wp_region_held_drew (S := (fun W => W.cell? ⟨w.heap.size, 0, none⟩ = some (.bool ga) ∧ W.cell? ⟨w.heap.size, 1, none⟩ = some (.slice Aa na ca) ∧ W.cell? ⟨w.heap.size, 2, none⟩ = some (.slice Da ma da))) (by kernel_rfl) ?_ (fun hH => ?_)
       exact blk_three Ka_4.out
       refine wpAnyH_take (i := 0) (v := ?_) (by simp only [gx0, gx2]; rfl) (by kernel_rfl) (by kernel_rfl) (by kernel_rfl) (fun _ _ _ h => h) (.inl ⟨by rfl, ?_⟩) hH ?_
       rotate_left
       · intro w hSw; (try dsimp only at hSw); first | (go_simp; done) | (go_simp; with_reducible rfl)
       (try simp only [Act.put, gy0, gy1, gy2])
       refine wpAnyH_take (i := 1) (v := ?_) (by simp only [gx0, gx1, gx2]; rfl) (by kernel_rfl) (by kernel_rfl) (by kernel_rfl) (fun _ _ _ h => h) (.inl ⟨by rfl, ?_⟩) hH ?_
       rotate_left
       · intro w hSw; (try dsimp only at hSw); first | (go_simp; done) | (go_simp; with_reducible rfl)
       (try simp only [Act.put, gy0, gy1, gy2])
       refine wpAnyH_take (i := 2) (v := ?_) (by simp only [gx0, gx1, gx2]; rfl) (by kernel_rfl) (by kernel_rfl) (by kernel_rfl) (fun _ _ _ h => h) (.inl ⟨by rfl, ?_⟩) hH ?_
       rotate_left
       · intro w hSw; (try dsimp only at hSw); first | (go_simp; done) | (go_simp; with_reducible rfl)
       (try simp only [Act.put, gy0, gy1, gy2])
       have bd := bx_drew (bx_refl v4)
       obtain ⟨W0, hW0⟩ : ∃ W, W = v4.drew := ⟨_, rfl⟩
       rw [← hW0] at bd hH ⊢
       clear hW0
       have BW_0 := hid bd
       clear bd
       refine wpAnyH_ready (rs := [3, 8]) (by kernel_rfl) (by simp) ?_
       refine AllReadyH.cons (by simp only [gx0, gx1, gx2]; rfl) (fun K hK => ?_) ?_
       go_simp
       refine (FR.out _).mono ?_
       rintro e W1 ⟨A5, n5, c5, rfl, r, b⟩
       have RM := hid r
       clear r
       have BW_1 := hid (bx_call BW_0.out b)
       clear BW_0
       have H2 := (And.intro (cell_bx hH.1 b) (And.intro (cell_bx hH.2.1 b) (cell_bx hH.2.2 b)))
       clear hH b
       (try go_wp2_with fail)
       refine hK.out _ _ ?_ (fun hH => ?_)
       exact H2
       clear hK K H2
       (try simp only [Act.put, gy0, gy1, gy2])
       refine wpAnyH_ready (rs := [4, 8]) (by kernel_rfl) (by simp) ?_
       refine AllReadyH.cons (by simp only [gx0, gx1, gx2]; rfl) (fun K hK => ?_) ?_
       go_simp
       refine (MK.out _ A5 n5 c5 BW_1.out RM.out).mono ?_
       rintro e W2 ⟨A6, n6, c6, D6, m6, d6, rfl, r, b⟩
       have RZ := hid r
       clear r
       have RM_2 := hid (RM.out.keep b)
       have BW_2 := hid (bx_call BW_1.out b)
       clear RM BW_1
       have H2 := (And.intro (cell_bx hH.1 b) (And.intro (cell_bx hH.2.1 b) (cell_bx hH.2.2 b)))
       clear hH b
       (try go_wp2_with fail)
       refine hK.out _ _ ?_ (fun hH => ?_)
       exact H2
       clear hK K H2
       (try simp only [Act.put, gy0, gy1, gy2])
       clear RM_2
       refine wpAnyH_take (i := 5) (v := ?_) (by simp only [gx0, gx1, gx2]; rfl) (by kernel_rfl) (by kernel_rfl) (by kernel_rfl) (fun _ _ _ h => h) (.inl ⟨by rfl, ?_⟩) hH ?_
       rotate_left
       · intro w hSw; (try dsimp only at hSw); first | (go_simp; done) | (go_simp; with_reducible rfl)
       (try simp only [Act.put, gy0, gy1, gy2])
       refine wpAnyH_take (i := 6) (v := ?_) (by simp only [gx0, gx1, gx2]; rfl) (by kernel_rfl) (by kernel_rfl) (by kernel_rfl) (fun _ _ _ h => h) (.inl ⟨by rfl, ?_⟩) hH ?_
       rotate_left
       · intro w hSw; (try dsimp only at hSw); first | (go_simp; done) | (go_simp; with_reducible rfl)
       (try simp only [Act.put, gy0, gy1, gy2])
       refine wpAnyH_take (i := 7) (v := ?_) (by simp only [gx0, gx1, gx2]; rfl) (by kernel_rfl) (by kernel_rfl) (by kernel_rfl) (fun _ _ _ h => h) (.inl ⟨by rfl, ?_⟩) hH ?_
       rotate_left
       · intro w hSw; (try dsimp only at hSw); first | (go_simp; done) | (go_simp; with_reducible rfl)
       (try simp only [Act.put, gy0, gy1, gy2])
       refine wpAnyH_ready (rs := [8]) (by kernel_rfl) (by simp) ?_
       refine AllReadyH.cons (by simp only [gx0, gx1, gx2]; rfl) (fun K hK => ?_) ?_
       go_simp
       obtain ⟨W3, p, hW, hp, b, kk⟩ := mk_cells W2 [.bool false, .slice none 0 0, .slice none 0 0] 50
       have gp : v4.heap.size ≤ p := by rw [hp]; exact BW_2.out.size
       rw [← hW, ← hp]
       clear hW hp
       have Kp := hid kk
       clear kk
       have RZ_3 := hid (RZ.out.keep b)
       have BW_3 := hid (bx_call BW_2.out b)
       clear RZ BW_2
       have H2 := (And.intro (cell_bx hH.1 b) (And.intro (cell_bx hH.2.1 b) (cell_bx hH.2.2 b)))
       clear hH b
       refine hK.out _ _ ?_ (fun hH => ?_)
       exact H2
       clear hK K H2
       (try simp only [Act.put, gy0, gy1, gy2])
       have TM := hid (rat_made (q := qm) BW_3.out gp Kp.out RZ_3.out)
       obtain ⟨⟨a1, a2, a3, a4, a5, a6⟩, O⟩ := far_rat Kp.out gp nw.out nw.out
       refine wpAnyH_ready (rs := [9]) (by kernel_rfl) (by simp) ?_
       refine AllReadyH.cons (by simp only [gx0, gx1, gx2]; rfl) (fun K hK => ?_) AllReadyH.nil
       go_simp
       refine hK.out _ _ (And.intro (cell_fr (cell_fr (cell_fr hH.1 O.out.1) O.out.1) O.out.1) (And.intro (cell_fr (cell_fr (cell_fr hH.2.1 O.out.1) O.out.1) O.out.1) (cell_fr (cell_fr (cell_fr hH.2.2 O.out.1) O.out.1) O.out.1))) (fun hH2 => ?_)
       clear hK K hH a1 a2 a3 a4 a5 a6
       (try simp only [Act.put, gy0, gy1, gy2])
       refine wpAnyH_take (i := 10) (v := ?_) (by simp only [gx0, gx1, gx2]; rfl) (by kernel_rfl) (by kernel_rfl) (by kernel_rfl) (fun _ _ _ h => h) (.inl ⟨by rfl, ?_⟩) hH2 ?_
       rotate_left
       · intro w hSw; (try dsimp only at hSw); first | (go_simp; done) | (go_simp; with_reducible rfl)
       (try simp only [Act.put, gy0, gy1, gy2])
       refine wpAnyH_done (by kernel_rfl) ?_ _
       refine NoPanic.normal ?_
       go_wp2_with fail
       go_meet
       exact ⟨p, A6, n6, c6, D6, m6, d6, rfl, rfl, hid ⟨TM.out.1, TM.out.2.1, TM.out.2.2⟩⟩
       exact AllReadyH.nil
       refine AllReadyH.cons (by simp only [gx0, gx1, gx2]; rfl) (fun K hK => ?_) ?_
       go_simp
       obtain ⟨W2, p, hW, hp, b, kk⟩ := mk_cells W1 [.bool false, .slice none 0 0, .slice none 0 0] 50
       have gp : v4.heap.size ≤ p := by rw [hp]; exact BW_1.out.size
       rw [← hW, ← hp]
       clear hW hp
       have Kp := hid kk
       clear kk
       have RM_2 := hid (RM.out.keep b)
       have BW_2 := hid (bx_call BW_1.out b)
       clear RM BW_1
       have H2 := (And.intro (cell_bx hH.1 b) (And.intro (cell_bx hH.2.1 b) (cell_bx hH.2.2 b)))
       clear hH b
       refine hK.out _ _ ?_ (fun hH => ?_)
       exact H2
       clear hK K H2
       (try simp only [Act.put, gy0, gy1, gy2])
       refine wpAnyH_ready (rs := [4]) (by kernel_rfl) (by simp) ?_
       refine AllReadyH.cons (by simp only [gx0, gx1, gx2]; rfl) (fun K hK => ?_) ?_
       go_simp
       refine (MK.out _ A5 n5 c5 BW_2.out RM_2.out).mono ?_
       rintro e W3 ⟨A6, n6, c6, D6, m6, d6, rfl, r, b⟩
       have RZ := hid r
       clear r
       have RM_3 := hid (RM_2.out.keep b)
       have Kp_3 := hid (Kp.out.keep b)
       have BW_3 := hid (bx_call BW_2.out b)
       clear RM_2 Kp BW_2
       have H2 := (And.intro (cell_bx hH.1 b) (And.intro (cell_bx hH.2.1 b) (cell_bx hH.2.2 b)))
       clear hH b
       (try go_wp2_with fail)
       refine hK.out _ _ ?_ (fun hH => ?_)
       exact H2
       clear hK K H2
       (try simp only [Act.put, gy0, gy1, gy2])
       clear RM_3
       refine wpAnyH_take (i := 5) (v := ?_) (by simp only [gx0, gx1, gx2]; rfl) (by kernel_rfl) (by kernel_rfl) (by kernel_rfl) (fun _ _ _ h => h) (.inl ⟨by rfl, ?_⟩) hH ?_
       rotate_left
       · intro w hSw; (try dsimp only at hSw); first | (go_simp; done) | (go_simp; with_reducible rfl)
       (try simp only [Act.put, gy0, gy1, gy2])
       refine wpAnyH_take (i := 6) (v := ?_) (by simp only [gx0, gx1, gx2]; rfl) (by kernel_rfl) (by kernel_rfl) (by kernel_rfl) (fun _ _ _ h => h) (.inl ⟨by rfl, ?_⟩) hH ?_
       rotate_left
       · intro w hSw; (try dsimp only at hSw); first | (go_simp; done) | (go_simp; with_reducible rfl)
       (try simp only [Act.put, gy0, gy1, gy2])
       refine wpAnyH_take (i := 7) (v := ?_) (by simp only [gx0, gx1, gx2]; rfl) (by kernel_rfl) (by kernel_rfl) (by kernel_rfl) (fun _ _ _ h => h) (.inl ⟨by rfl, ?_⟩) hH ?_
       rotate_left
       · intro w hSw; (try dsimp only at hSw); first | (go_simp; done) | (go_simp; with_reducible rfl)
       (try simp only [Act.put, gy0, gy1, gy2])
       have TM := hid (rat_made (q := qm) BW_3.out gp Kp_3.out RZ.out)
       obtain ⟨⟨a1, a2, a3, a4, a5, a6⟩, O⟩ := far_rat Kp_3.out gp nw.out nw.out
       refine wpAnyH_ready (rs := [9]) (by kernel_rfl) (by simp) ?_
       refine AllReadyH.cons (by simp only [gx0, gx1, gx2]; rfl) (fun K hK => ?_) AllReadyH.nil
       go_simp
       refine hK.out _ _ (And.intro (cell_fr (cell_fr (cell_fr hH.1 O.out.1) O.out.1) O.out.1) (And.intro (cell_fr (cell_fr (cell_fr hH.2.1 O.out.1) O.out.1) O.out.1) (cell_fr (cell_fr (cell_fr hH.2.2 O.out.1) O.out.1) O.out.1))) (fun hH2 => ?_)
       clear hK K hH a1 a2 a3 a4 a5 a6
       (try simp only [Act.put, gy0, gy1, gy2])
       refine wpAnyH_take (i := 10) (v := ?_) (by simp only [gx0, gx1, gx2]; rfl) (by kernel_rfl) (by kernel_rfl) (by kernel_rfl) (fun _ _ _ h => h) (.inl ⟨by rfl, ?_⟩) hH2 ?_
       rotate_left
       · intro w hSw; (try dsimp only at hSw); first | (go_simp; done) | (go_simp; with_reducible rfl)
       (try simp only [Act.put, gy0, gy1, gy2])
       refine wpAnyH_done (by kernel_rfl) ?_ _
       refine NoPanic.normal ?_
       go_wp2_with fail
       go_meet
       exact ⟨p, A6, n6, c6, D6, m6, d6, rfl, rfl, hid ⟨TM.out.1, TM.out.2.1, TM.out.2.2⟩⟩
       exact AllReadyH.nil
       exact AllReadyH.nil
       refine AllReadyH.cons (by simp only [gx0, gx1, gx2]; rfl) (fun K hK => ?_) ?_
       go_simp
       obtain ⟨W1, p, hW, hp, b, kk⟩ := mk_cells W0 [.bool false, .slice none 0 0, .slice none 0 0] 50
       have gp : v4.heap.size ≤ p := by rw [hp]; exact BW_0.out.size
       rw [← hW, ← hp]
       clear hW hp
       have Kp := hid kk
       clear kk
       have BW_1 := hid (bx_call BW_0.out b)
       clear BW_0
       have H2 := (And.intro (cell_bx hH.1 b) (And.intro (cell_bx hH.2.1 b) (cell_bx hH.2.2 b)))
       clear hH b
       refine hK.out _ _ ?_ (fun hH => ?_)
       exact H2
       clear hK K H2
       (try simp only [Act.put, gy0, gy1, gy2])
       refine wpAnyH_ready (rs := [3]) (by kernel_rfl) (by simp) ?_
       refine AllReadyH.cons (by simp only [gx0, gx1, gx2]; rfl) (fun K hK => ?_) ?_
       go_simp
       refine (FR.out _).mono ?_
       rintro e W2 ⟨A5, n5, c5, rfl, r, b⟩
       have RM := hid r
       clear r
       have Kp_2 := hid (Kp.out.keep b)
       have BW_2 := hid (bx_call BW_1.out b)
       clear Kp BW_1
       have H2 := (And.intro (cell_bx hH.1 b) (And.intro (cell_bx hH.2.1 b) (cell_bx hH.2.2 b)))
       clear hH b
       (try go_wp2_with fail)
       refine hK.out _ _ ?_ (fun hH => ?_)
       exact H2
       clear hK K H2
       (try simp only [Act.put, gy0, gy1, gy2])
       refine wpAnyH_ready (rs := [4]) (by kernel_rfl) (by simp) ?_
       refine AllReadyH.cons (by simp only [gx0, gx1, gx2]; rfl) (fun K hK => ?_) ?_
       go_simp
       refine (MK.out _ A5 n5 c5 BW_2.out RM.out).mono ?_
       rintro e W3 ⟨A6, n6, c6, D6, m6, d6, rfl, r, b⟩
       have RZ := hid r
       clear r
       have Kp_3 := hid (Kp_2.out.keep b)
       have RM_3 := hid (RM.out.keep b)
       have BW_3 := hid (bx_call BW_2.out b)
       clear Kp_2 RM BW_2
       have H2 := (And.intro (cell_bx hH.1 b) (And.intro (cell_bx hH.2.1 b) (cell_bx hH.2.2 b)))
       clear hH b
       (try go_wp2_with fail)
       refine hK.out _ _ ?_ (fun hH => ?_)
       exact H2
       clear hK K H2
       (try simp only [Act.put, gy0, gy1, gy2])
       clear RM_3
       refine wpAnyH_take (i := 5) (v := ?_) (by simp only [gx0, gx1, gx2]; rfl) (by kernel_rfl) (by kernel_rfl) (by kernel_rfl) (fun _ _ _ h => h) (.inl ⟨by rfl, ?_⟩) hH ?_
       rotate_left
       · intro w hSw; (try dsimp only at hSw); first | (go_simp; done) | (go_simp; with_reducible rfl)
       (try simp only [Act.put, gy0, gy1, gy2])
       refine wpAnyH_take (i := 6) (v := ?_) (by simp only [gx0, gx1, gx2]; rfl) (by kernel_rfl) (by kernel_rfl) (by kernel_rfl) (fun _ _ _ h => h) (.inl ⟨by rfl, ?_⟩) hH ?_
       rotate_left
       · intro w hSw; (try dsimp only at hSw); first | (go_simp; done) | (go_simp; with_reducible rfl)
       (try simp only [Act.put, gy0, gy1, gy2])
       refine wpAnyH_take (i := 7) (v := ?_) (by simp only [gx0, gx1, gx2]; rfl) (by kernel_rfl) (by kernel_rfl) (by kernel_rfl) (fun _ _ _ h => h) (.inl ⟨by rfl, ?_⟩) hH ?_
       rotate_left
       · intro w hSw; (try dsimp only at hSw); first | (go_simp; done) | (go_simp; with_reducible rfl)
       (try simp only [Act.put, gy0, gy1, gy2])
       have TM := hid (rat_made (q := qm) BW_3.out gp Kp_3.out RZ.out)
       obtain ⟨⟨a1, a2, a3, a4, a5, a6⟩, O⟩ := far_rat Kp_3.out gp nw.out nw.out
       refine wpAnyH_ready (rs := [9]) (by kernel_rfl) (by simp) ?_
       refine AllReadyH.cons (by simp only [gx0, gx1, gx2]; rfl) (fun K hK => ?_) AllReadyH.nil
       go_simp
       refine hK.out _ _ (And.intro (cell_fr (cell_fr (cell_fr hH.1 O.out.1) O.out.1) O.out.1) (And.intro (cell_fr (cell_fr (cell_fr hH.2.1 O.out.1) O.out.1) O.out.1) (cell_fr (cell_fr (cell_fr hH.2.2 O.out.1) O.out.1) O.out.1))) (fun hH2 => ?_)
       clear hK K hH a1 a2 a3 a4 a5 a6
       (try simp only [Act.put, gy0, gy1, gy2])
       refine wpAnyH_take (i := 10) (v := ?_) (by simp only [gx0, gx1, gx2]; rfl) (by kernel_rfl) (by kernel_rfl) (by kernel_rfl) (fun _ _ _ h => h) (.inl ⟨by rfl, ?_⟩) hH2 ?_
       rotate_left
       · intro w hSw; (try dsimp only at hSw); first | (go_simp; done) | (go_simp; with_reducible rfl)
       (try simp only [Act.put, gy0, gy1, gy2])
       refine wpAnyH_done (by kernel_rfl) ?_ _
       refine NoPanic.normal ?_
       go_wp2_with fail
       go_meet
       exact ⟨p, A6, n6, c6, D6, m6, d6, rfl, rfl, hid ⟨TM.out.1, TM.out.2.1, TM.out.2.2⟩⟩
       exact AllReadyH.nil
       exact AllReadyH.nil
       exact AllReadyH.nil
    case rest =>
    obtain ⟨bi, Ai, ni, ci, Di, mi, di, rfl, rfl, hT⟩ := hcut
    obtain ⟨vi, rfl⟩ : ∃ W : World, W = wc := ⟨_, rfl⟩
    have Va_i := hid (Va_4.out.keep hT.out.2.2)
    have Ka_i := hid (Ka_4.out.keep hT.out.2.2)
    have Na_i := hid (Na_4.out.keep hT.out.2.2)
    have Ea_i := hid (Ea_4.out.keep hT.out.2.2)
    have Lp_i := hid (Lp_4.out.keep hT.out.2.2)
    have Kp_i := hid (Kp_4.out.keep hT.out.2.2)
    have Lq_i := hid (Lq.out.keep hT.out.2.2)
    have Kq_i := hid (Kq.out.keep hT.out.2.2)
    have X_i := hid (bx_call X_4.out hT.out.2.2)
    have Ki := hid hT.out.1
    have Li := hid hT.out.2.1
    clear hT nw FR MK Va_4 Ka_4 Na_4 Ea_4 Lp_4 Kp_4 Lq Kq X_4
    go_upto_region 6 with fail
    have FR := hid (fun (W : World) => rifrom_any zn W un1 un2)
    have MK := hid (fun (W : World) A5 n5 c5 (hw : Below vi.heap.size vi W) (r : Rd W A5 n5 c5 (dg zn.natAbs)) => vrmake ga Aa na ca xsa (sg zn) A5 n5 c5 _ 6 W (Na_i.out.keep hw) qa r (Nat.le_trans (rd_len0 r (len_i64 un1 un2)) (by omega)) (by omega) (by omega))
    simp only [iv_sg, ← HC.out, ← HM.out] at MK
    have nw := hid (show w.heap.size < vi.heap.size from Ka_i.out.lt)
    go_cut [13, 14] (fun sx sy wx => ∃ (p : Nat) (A6 : Option Addr) (n6 c6 : Nat) (D6 : Option Addr) (m6 d6 : Nat), sx = .pointer (some ⟨p, 0, none⟩) ∧ sy = .int .i64 zc ∧ Hid (Blk wx p [.bool (sg (qm).num), .slice A6 n6 c6, .slice D6 m6 d6] 50 ∧ FrL wx A6 n6 c6 D6 m6 d6 6 qm ∧ Below vi.heap.size vi wx))
    case first =>
       refine wp_region_noPanic ?_
       refine wp_region_held_drew (S := (fun W => W.cell? ⟨w.heap.size, 0, none⟩ = some (.bool ga) ∧ W.cell? ⟨w.heap.size, 1, none⟩ = some (.slice Aa na ca) ∧ W.cell? ⟨w.heap.size, 2, none⟩ = some (.slice Da ma da))) (by kernel_rfl) ?_ (fun hH => ?_)
       exact blk_three Ka_i.out
       refine wpAnyH_take (i := 0) (v := ?_) (by simp only [gx0, gx2]; rfl) (by kernel_rfl) (by kernel_rfl) (by kernel_rfl) (fun _ _ _ h => h) (.inl ⟨by rfl, ?_⟩) hH ?_
       rotate_left
       · intro w hSw; (try dsimp only at hSw); first | (go_simp; done) | (go_simp; with_reducible rfl)
       (try simp only [Act.put, gy0, gy1, gy2])
       refine wpAnyH_take (i := 1) (v := ?_) (by simp only [gx0, gx1, gx2]; rfl) (by kernel_rfl) (by kernel_rfl) (by kernel_rfl) (fun _ _ _ h => h) (.inl ⟨by rfl, ?_⟩) hH ?_
       rotate_left
       · intro w hSw; (try dsimp only at hSw); first | (go_simp; done) | (go_simp; with_reducible rfl)
       (try simp only [Act.put, gy0, gy1, gy2])
       refine wpAnyH_take (i := 2) (v := ?_) (by simp only [gx0, gx1, gx2]; rfl) (by kernel_rfl) (by kernel_rfl) (by kernel_rfl) (fun _ _ _ h => h) (.inl ⟨by rfl, ?_⟩) hH ?_
       rotate_left
       · intro w hSw; (try dsimp only at hSw); first | (go_simp; done) | (go_simp; with_reducible rfl)
       (try simp only [Act.put, gy0, gy1, gy2])
       have bd := bx_drew (bx_refl vi)
       obtain ⟨W0, hW0⟩ : ∃ W, W = vi.drew := ⟨_, rfl⟩
       rw [← hW0] at bd hH ⊢
       clear hW0
       have BW_0 := hid bd
       clear bd
       refine wpAnyH_ready (rs := [3, 8]) (by kernel_rfl) (by simp) ?_
       refine AllReadyH.cons (by simp only [gx0, gx1, gx2]; rfl) (fun K hK => ?_) ?_
       go_simp
       refine (FR.out _).mono ?_
       rintro e W1 ⟨A5, n5, c5, rfl, r, b⟩
       have RM := hid r
       clear r
       have BW_1 := hid (bx_call BW_0.out b)
       clear BW_0
       have H2 := (And.intro (cell_bx hH.1 b) (And.intro (cell_bx hH.2.1 b) (cell_bx hH.2.2 b)))
       clear hH b
       (try go_wp2_with fail)
       refine hK.out _ _ ?_ (fun hH => ?_)
       exact H2
       clear hK K H2
       (try simp only [Act.put, gy0, gy1, gy2])
       refine wpAnyH_ready (rs := [4, 8]) (by kernel_rfl) (by simp) ?_
       refine AllReadyH.cons (by simp only [gx0, gx1, gx2]; rfl) (fun K hK => ?_) ?_
       go_simp
       refine (MK.out _ A5 n5 c5 BW_1.out RM.out).mono ?_
       rintro e W2 ⟨A6, n6, c6, D6, m6, d6, rfl, r, b⟩
       have RZ := hid r
       clear r
       have RM_2 := hid (RM.out.keep b)
       have BW_2 := hid (bx_call BW_1.out b)
       clear RM BW_1
       have H2 := (And.intro (cell_bx hH.1 b) (And.intro (cell_bx hH.2.1 b) (cell_bx hH.2.2 b)))
       clear hH b
       (try go_wp2_with fail)
       refine hK.out _ _ ?_ (fun hH => ?_)
       exact H2
       clear hK K H2
       (try simp only [Act.put, gy0, gy1, gy2])
       clear RM_2
       refine wpAnyH_take (i := 5) (v := ?_) (by simp only [gx0, gx1, gx2]; rfl) (by kernel_rfl) (by kernel_rfl) (by kernel_rfl) (fun _ _ _ h => h) (.inl ⟨by rfl, ?_⟩) hH ?_
       rotate_left
       · intro w hSw; (try dsimp only at hSw); first | (go_simp; done) | (go_simp; with_reducible rfl)
       (try simp only [Act.put, gy0, gy1, gy2])
       refine wpAnyH_take (i := 6) (v := ?_) (by simp only [gx0, gx1, gx2]; rfl) (by kernel_rfl) (by kernel_rfl) (by kernel_rfl) (fun _ _ _ h => h) (.inl ⟨by rfl, ?_⟩) hH ?_
       rotate_left
       · intro w hSw; (try dsimp only at hSw); first | (go_simp; done) | (go_simp; with_reducible rfl)
       (try simp only [Act.put, gy0, gy1, gy2])
       refine wpAnyH_take (i := 7) (v := ?_) (by simp only [gx0, gx1, gx2]; rfl) (by kernel_rfl) (by kernel_rfl) (by kernel_rfl) (fun _ _ _ h => h) (.inl ⟨by rfl, ?_⟩) hH ?_
       rotate_left
       · intro w hSw; (try dsimp only at hSw); first | (go_simp; done) | (go_simp; with_reducible rfl)
       (try simp only [Act.put, gy0, gy1, gy2])
       refine wpAnyH_ready (rs := [8]) (by kernel_rfl) (by simp) ?_
       refine AllReadyH.cons (by simp only [gx0, gx1, gx2]; rfl) (fun K hK => ?_) ?_
       go_simp
       obtain ⟨W3, p, hW, hp, b, kk⟩ := mk_cells W2 [.bool false, .slice none 0 0, .slice none 0 0] 50
       have gp : vi.heap.size ≤ p := by rw [hp]; exact BW_2.out.size
       rw [← hW, ← hp]
       clear hW hp
       have Kp := hid kk
       clear kk
       have RZ_3 := hid (RZ.out.keep b)
       have BW_3 := hid (bx_call BW_2.out b)
       clear RZ BW_2
       have H2 := (And.intro (cell_bx hH.1 b) (And.intro (cell_bx hH.2.1 b) (cell_bx hH.2.2 b)))
       clear hH b
       refine hK.out _ _ ?_ (fun hH => ?_)
       exact H2
       clear hK K H2
       (try simp only [Act.put, gy0, gy1, gy2])
       have TM := hid (rat_made (q := qm) BW_3.out gp Kp.out RZ_3.out)
       obtain ⟨⟨a1, a2, a3, a4, a5, a6⟩, O⟩ := far_rat Kp.out gp nw.out nw.out
       refine wpAnyH_ready (rs := [9]) (by kernel_rfl) (by simp) ?_
       refine AllReadyH.cons (by simp only [gx0, gx1, gx2]; rfl) (fun K hK => ?_) AllReadyH.nil
       go_simp
       refine hK.out _ _ (And.intro (cell_fr (cell_fr (cell_fr hH.1 O.out.1) O.out.1) O.out.1) (And.intro (cell_fr (cell_fr (cell_fr hH.2.1 O.out.1) O.out.1) O.out.1) (cell_fr (cell_fr (cell_fr hH.2.2 O.out.1) O.out.1) O.out.1))) (fun hH2 => ?_)
       clear hK K hH a1 a2 a3 a4 a5 a6
       (try simp only [Act.put, gy0, gy1, gy2])
       refine wpAnyH_take (i := 10) (v := ?_) (by simp only [gx0, gx1, gx2]; rfl) (by kernel_rfl) (by kernel_rfl) (by kernel_rfl) (fun _ _ _ h => h) (.inl ⟨by rfl, ?_⟩) hH2 ?_
       rotate_left
       · intro w hSw; (try dsimp only at hSw); first | (go_simp; done) | (go_simp; with_reducible rfl)
       (try simp only [Act.put, gy0, gy1, gy2])
       refine wpAnyH_done (by kernel_rfl) ?_ _
       refine NoPanic.normal ?_
       go_wp2_with fail
       go_meet
       exact ⟨p, A6, n6, c6, D6, m6, d6, rfl, rfl, hid ⟨TM.out.1, TM.out.2.1, TM.out.2.2⟩⟩
       exact AllReadyH.nil
       refine AllReadyH.cons (by simp only [gx0, gx1, gx2]; rfl) (fun K hK => ?_) ?_
       go_simp
       obtain ⟨W2, p, hW, hp, b, kk⟩ := mk_cells W1 [.bool false, .slice none 0 0, .slice none 0 0] 50
       have gp : vi.heap.size ≤ p := by rw [hp]; exact BW_1.out.size
       rw [← hW, ← hp]
       clear hW hp
       have Kp := hid kk
       clear kk
       have RM_2 := hid (RM.out.keep b)
       have BW_2 := hid (bx_call BW_1.out b)
       clear RM BW_1
       have H2 := (And.intro (cell_bx hH.1 b) (And.intro (cell_bx hH.2.1 b) (cell_bx hH.2.2 b)))
       clear hH b
       refine hK.out _ _ ?_ (fun hH => ?_)
       exact H2
       clear hK K H2
       (try simp only [Act.put, gy0, gy1, gy2])
       refine wpAnyH_ready (rs := [4]) (by kernel_rfl) (by simp) ?_
       refine AllReadyH.cons (by simp only [gx0, gx1, gx2]; rfl) (fun K hK => ?_) ?_
       go_simp
       refine (MK.out _ A5 n5 c5 BW_2.out RM_2.out).mono ?_
       rintro e W3 ⟨A6, n6, c6, D6, m6, d6, rfl, r, b⟩
       have RZ := hid r
       clear r
       have RM_3 := hid (RM_2.out.keep b)
       have Kp_3 := hid (Kp.out.keep b)
       have BW_3 := hid (bx_call BW_2.out b)
       clear RM_2 Kp BW_2
       have H2 := (And.intro (cell_bx hH.1 b) (And.intro (cell_bx hH.2.1 b) (cell_bx hH.2.2 b)))
       clear hH b
       (try go_wp2_with fail)
       refine hK.out _ _ ?_ (fun hH => ?_)
       exact H2
       clear hK K H2
       (try simp only [Act.put, gy0, gy1, gy2])
       clear RM_3
       refine wpAnyH_take (i := 5) (v := ?_) (by simp only [gx0, gx1, gx2]; rfl) (by kernel_rfl) (by kernel_rfl) (by kernel_rfl) (fun _ _ _ h => h) (.inl ⟨by rfl, ?_⟩) hH ?_
       rotate_left
       · intro w hSw; (try dsimp only at hSw); first | (go_simp; done) | (go_simp; with_reducible rfl)
       (try simp only [Act.put, gy0, gy1, gy2])
       refine wpAnyH_take (i := 6) (v := ?_) (by simp only [gx0, gx1, gx2]; rfl) (by kernel_rfl) (by kernel_rfl) (by kernel_rfl) (fun _ _ _ h => h) (.inl ⟨by rfl, ?_⟩) hH ?_
       rotate_left
       · intro w hSw; (try dsimp only at hSw); first | (go_simp; done) | (go_simp; with_reducible rfl)
       (try simp only [Act.put, gy0, gy1, gy2])
       refine wpAnyH_take (i := 7) (v := ?_) (by simp only [gx0, gx1, gx2]; rfl) (by kernel_rfl) (by kernel_rfl) (by kernel_rfl) (fun _ _ _ h => h) (.inl ⟨by rfl, ?_⟩) hH ?_
       rotate_left
       · intro w hSw; (try dsimp only at hSw); first | (go_simp; done) | (go_simp; with_reducible rfl)
       (try simp only [Act.put, gy0, gy1, gy2])
       have TM := hid (rat_made (q := qm) BW_3.out gp Kp_3.out RZ.out)
       obtain ⟨⟨a1, a2, a3, a4, a5, a6⟩, O⟩ := far_rat Kp_3.out gp nw.out nw.out
       refine wpAnyH_ready (rs := [9]) (by kernel_rfl) (by simp) ?_
       refine AllReadyH.cons (by simp only [gx0, gx1, gx2]; rfl) (fun K hK => ?_) AllReadyH.nil
       go_simp
       refine hK.out _ _ (And.intro (cell_fr (cell_fr (cell_fr hH.1 O.out.1) O.out.1) O.out.1) (And.intro (cell_fr (cell_fr (cell_fr hH.2.1 O.out.1) O.out.1) O.out.1) (cell_fr (cell_fr (cell_fr hH.2.2 O.out.1) O.out.1) O.out.1))) (fun hH2 => ?_)
       clear hK K hH a1 a2 a3 a4 a5 a6
       (try simp only [Act.put, gy0, gy1, gy2])
       refine wpAnyH_take (i := 10) (v := ?_) (by simp only [gx0, gx1, gx2]; rfl) (by kernel_rfl) (by kernel_rfl) (by kernel_rfl) (fun _ _ _ h => h) (.inl ⟨by rfl, ?_⟩) hH2 ?_
       rotate_left
       · intro w hSw; (try dsimp only at hSw); first | (go_simp; done) | (go_simp; with_reducible rfl)
       (try simp only [Act.put, gy0, gy1, gy2])
       refine wpAnyH_done (by kernel_rfl) ?_ _
       refine NoPanic.normal ?_
       go_wp2_with fail
       go_meet
       exact ⟨p, A6, n6, c6, D6, m6, d6, rfl, rfl, hid ⟨TM.out.1, TM.out.2.1, TM.out.2.2⟩⟩
       exact AllReadyH.nil
       exact AllReadyH.nil
       refine AllReadyH.cons (by simp only [gx0, gx1, gx2]; rfl) (fun K hK => ?_) ?_
       go_simp
       obtain ⟨W1, p, hW, hp, b, kk⟩ := mk_cells W0 [.bool false, .slice none 0 0, .slice none 0 0] 50
       have gp : vi.heap.size ≤ p := by rw [hp]; exact BW_0.out.size
       rw [← hW, ← hp]
       clear hW hp
       have Kp := hid kk
       clear kk
       have BW_1 := hid (bx_call BW_0.out b)
       clear BW_0
       have H2 := (And.intro (cell_bx hH.1 b) (And.intro (cell_bx hH.2.1 b) (cell_bx hH.2.2 b)))
       clear hH b
       refine hK.out _ _ ?_ (fun hH => ?_)
       exact H2
       clear hK K H2
       (try simp only [Act.put, gy0, gy1, gy2])
       refine wpAnyH_ready (rs := [3]) (by kernel_rfl) (by simp) ?_
       refine AllReadyH.cons (by simp only [gx0, gx1, gx2]; rfl) (fun K hK => ?_) ?_
       go_simp
       refine (FR.out _).mono ?_
       rintro e W2 ⟨A5, n5, c5, rfl, r, b⟩
       have RM := hid r
       clear r
       have Kp_2 := hid (Kp.out.keep b)
       have BW_2 := hid (bx_call BW_1.out b)
       clear Kp BW_1
       have H2 := (And.intro (cell_bx hH.1 b) (And.intro (cell_bx hH.2.1 b) (cell_bx hH.2.2 b)))
       clear hH b
       (try go_wp2_with fail)
       refine hK.out _ _ ?_ (fun hH => ?_)
       exact H2
       clear hK K H2
       (try simp only [Act.put, gy0, gy1, gy2])
       refine wpAnyH_ready (rs := [4]) (by kernel_rfl) (by simp) ?_
       refine AllReadyH.cons (by simp only [gx0, gx1, gx2]; rfl) (fun K hK => ?_) ?_
       go_simp
       refine (MK.out _ A5 n5 c5 BW_2.out RM.out).mono ?_
       rintro e W3 ⟨A6, n6, c6, D6, m6, d6, rfl, r, b⟩
       have RZ := hid r
       clear r
       have Kp_3 := hid (Kp_2.out.keep b)
       have RM_3 := hid (RM.out.keep b)
       have BW_3 := hid (bx_call BW_2.out b)
       clear Kp_2 RM BW_2
       have H2 := (And.intro (cell_bx hH.1 b) (And.intro (cell_bx hH.2.1 b) (cell_bx hH.2.2 b)))
       clear hH b
       (try go_wp2_with fail)
       refine hK.out _ _ ?_ (fun hH => ?_)
       exact H2
       clear hK K H2
       (try simp only [Act.put, gy0, gy1, gy2])
       clear RM_3
       refine wpAnyH_take (i := 5) (v := ?_) (by simp only [gx0, gx1, gx2]; rfl) (by kernel_rfl) (by kernel_rfl) (by kernel_rfl) (fun _ _ _ h => h) (.inl ⟨by rfl, ?_⟩) hH ?_
       rotate_left
       · intro w hSw; (try dsimp only at hSw); first | (go_simp; done) | (go_simp; with_reducible rfl)
       (try simp only [Act.put, gy0, gy1, gy2])
       refine wpAnyH_take (i := 6) (v := ?_) (by simp only [gx0, gx1, gx2]; rfl) (by kernel_rfl) (by kernel_rfl) (by kernel_rfl) (fun _ _ _ h => h) (.inl ⟨by rfl, ?_⟩) hH ?_
       rotate_left
       · intro w hSw; (try dsimp only at hSw); first | (go_simp; done) | (go_simp; with_reducible rfl)
       (try simp only [Act.put, gy0, gy1, gy2])
       refine wpAnyH_take (i := 7) (v := ?_) (by simp only [gx0, gx1, gx2]; rfl) (by kernel_rfl) (by kernel_rfl) (by kernel_rfl) (fun _ _ _ h => h) (.inl ⟨by rfl, ?_⟩) hH ?_
       rotate_left
       · intro w hSw; (try dsimp only at hSw); first | (go_simp; done) | (go_simp; with_reducible rfl)
       (try simp only [Act.put, gy0, gy1, gy2])
       have TM := hid (rat_made (q := qm) BW_3.out gp Kp_3.out RZ.out)
       obtain ⟨⟨a1, a2, a3, a4, a5, a6⟩, O⟩ := far_rat Kp_3.out gp nw.out nw.out
       refine wpAnyH_ready (rs := [9]) (by kernel_rfl) (by simp) ?_
       refine AllReadyH.cons (by simp only [gx0, gx1, gx2]; rfl) (fun K hK => ?_) AllReadyH.nil
       go_simp
       refine hK.out _ _ (And.intro (cell_fr (cell_fr (cell_fr hH.1 O.out.1) O.out.1) O.out.1) (And.intro (cell_fr (cell_fr (cell_fr hH.2.1 O.out.1) O.out.1) O.out.1) (cell_fr (cell_fr (cell_fr hH.2.2 O.out.1) O.out.1) O.out.1))) (fun hH2 => ?_)
       clear hK K hH a1 a2 a3 a4 a5 a6
       (try simp only [Act.put, gy0, gy1, gy2])
       refine wpAnyH_take (i := 10) (v := ?_) (by simp only [gx0, gx1, gx2]; rfl) (by kernel_rfl) (by kernel_rfl) (by kernel_rfl) (fun _ _ _ h => h) (.inl ⟨by rfl, ?_⟩) hH2 ?_
       rotate_left
       · intro w hSw; (try dsimp only at hSw); first | (go_simp; done) | (go_simp; with_reducible rfl)
       (try simp only [Act.put, gy0, gy1, gy2])
       refine wpAnyH_done (by kernel_rfl) ?_ _
       refine NoPanic.normal ?_
       go_wp2_with fail
       go_meet
       exact ⟨p, A6, n6, c6, D6, m6, d6, rfl, rfl, hid ⟨TM.out.1, TM.out.2.1, TM.out.2.2⟩⟩
       exact AllReadyH.nil
       exact AllReadyH.nil
       exact AllReadyH.nil
    case rest =>
    obtain ⟨bj, Aj, nj, cj, Dj, mj, dj, rfl, rfl, hT⟩ := hcut
    obtain ⟨vj, rfl⟩ : ∃ W : World, W = wc := ⟨_, rfl⟩
    have Va_j := hid (Va_i.out.keep hT.out.2.2)
    have Ka_j := hid (Ka_i.out.keep hT.out.2.2)
    have Na_j := hid (Na_i.out.keep hT.out.2.2)
    have Ea_j := hid (Ea_i.out.keep hT.out.2.2)
    have Lp_j := hid (Lp_i.out.keep hT.out.2.2)
    have Kp_j := hid (Kp_i.out.keep hT.out.2.2)
    have Lq_j := hid (Lq_i.out.keep hT.out.2.2)
    have Kq_j := hid (Kq_i.out.keep hT.out.2.2)
    have Ki_j := hid (Ki.out.keep hT.out.2.2)
    have Li_j := hid (Li.out.keep hT.out.2.2)
    have X_j := hid (bx_call X_i.out hT.out.2.2)
    have Kj := hid hT.out.1
    have Lj := hid hT.out.2.1
    clear hT nw FR MK Va_i Ka_i Na_i Ea_i Lp_i Kp_i Lq_i Kq_i Ki Li X_i
    go_upto_region 7 with fail
    obtain ⟨ka0, ka1, ka2⟩ := blk_three Ka_j.out
    obtain ⟨kp0, kp1, kp2⟩ := blk_three Kp_j.out
    obtain ⟨kq0, kq1, kq2⟩ := blk_three Kq_j.out
    obtain ⟨ki0, ki1, ki2⟩ := blk_three Ki_j.out
    obtain ⟨kj0, kj1, kj2⟩ := blk_three Kj.out
    have cc := vint64 ga Aa na ca Da ma da 6 za vj (Va_j.out) (by omega)
    unfold RetQI at cc
    rw [← HI.out, ← HB.out] at cc
    have CC := hid cc
    clear cc
    go_wp2_with fail
    refine (CC.out).mono ?_
    rintro e w5 ⟨rfl, b⟩
    have Va_5 := hid (Va_j.out.keep b)
    have Ka_5 := hid (Ka_j.out.keep b)
    have Na_5 := hid (Na_j.out.keep b)
    have Ea_5 := hid (Ea_j.out.keep b)
    have Lp_5 := hid (Lp_j.out.keep b)
    have Kp_5 := hid (Kp_j.out.keep b)
    have Lq_5 := hid (Lq_j.out.keep b)
    have Kq_5 := hid (Kq_j.out.keep b)
    have Ki_5 := hid (Ki_j.out.keep b)
    have Li_5 := hid (Li_j.out.keep b)
    have Kj_5 := hid (Kj.out.keep b)
    have Lj_5 := hid (Lj.out.keep b)
    have X_5 := hid (bx_call X_j.out b)
    clear CC b ka0 ka1 ka2 kp0 kp1 kp2 kq0 kq1 kq2 ki0 ki1 ki2 kj0 kj1 kj2 Va_j Ka_j Na_j Ea_j Lp_j Kp_j Lq_j Kq_j Ki_j Li_j Kj Lj X_j
    obtain ⟨ka0, ka1, ka2⟩ := blk_three Ka_5.out
    obtain ⟨kp0, kp1, kp2⟩ := blk_three Kp_5.out
    obtain ⟨kq0, kq1, kq2⟩ := blk_three Kq_5.out
    obtain ⟨ki0, ki1, ki2⟩ := blk_three Ki_5.out
    obtain ⟨kj0, kj1, kj2⟩ := blk_three Kj_5.out
    have cc := vrint64 ga Aa na ca Da ma da 6 za w5 (Va_5.out) (by omega)
    unfold RetQI at cc
    rw [← HI.out, ← HB.out] at cc
    have CC := hid cc
    clear cc
    go_wp2_with fail
    refine (CC.out).mono ?_
    rintro e w6 ⟨rfl, b⟩
    have Va_6 := hid (Va_5.out.keep b)
    have Ka_6 := hid (Ka_5.out.keep b)
    have Na_6 := hid (Na_5.out.keep b)
    have Ea_6 := hid (Ea_5.out.keep b)
    have Lp_6 := hid (Lp_5.out.keep b)
    have Kp_6 := hid (Kp_5.out.keep b)
    have Lq_6 := hid (Lq_5.out.keep b)
    have Kq_6 := hid (Kq_5.out.keep b)
    have Ki_6 := hid (Ki_5.out.keep b)
    have Li_6 := hid (Li_5.out.keep b)
    have Kj_6 := hid (Kj_5.out.keep b)
    have Lj_6 := hid (Lj_5.out.keep b)
    have X_6 := hid (bx_call X_5.out b)
    clear CC b ka0 ka1 ka2 kp0 kp1 kp2 kq0 kq1 kq2 ki0 ki1 ki2 kj0 kj1 kj2 Va_5 Ka_5 Na_5 Ea_5 Lp_5 Kp_5 Lq_5 Kq_5 Ki_5 Li_5 Kj_5 Lj_5 X_5
    go_upto_region 9 with fail
    (try simp only [List.append_eq, List.cons_append, List.nil_append])
    refine wp_region_noPanic ?_
    refine wp_region_held_drew (S := (fun W => (W.cell? ⟨w.heap.size, 0, none⟩ = some (.bool ga) ∧ W.cell? ⟨w.heap.size, 1, none⟩ = some (.slice Aa na ca) ∧ W.cell? ⟨w.heap.size, 2, none⟩ = some (.slice Da ma da)) ∧ (W.cell? ⟨bp, 0, none⟩ = some (.bool (sg (qf).num)) ∧ W.cell? ⟨bp, 1, none⟩ = some (.slice Ap np cp) ∧ W.cell? ⟨bp, 2, none⟩ = some (.slice Dp mp dp)) ∧ (W.cell? ⟨bq, 0, none⟩ = some (.bool (sg (qf).num)) ∧ W.cell? ⟨bq, 1, none⟩ = some (.slice Aq nq cq) ∧ W.cell? ⟨bq, 2, none⟩ = some (.slice Dq mq dq)) ∧ (W.cell? ⟨bi, 0, none⟩ = some (.bool (sg (qm).num)) ∧ W.cell? ⟨bi, 1, none⟩ = some (.slice Ai ni ci) ∧ W.cell? ⟨bi, 2, none⟩ = some (.slice Di mi di)) ∧ (W.cell? ⟨bj, 0, none⟩ = some (.bool (sg (qm).num)) ∧ W.cell? ⟨bj, 1, none⟩ = some (.slice Aj nj cj) ∧ W.cell? ⟨bj, 2, none⟩ = some (.slice Dj mj dj)))) (by kernel_rfl) ?_ (fun hH => ?_)
    exact (And.intro (blk_three Ka_6.out) (And.intro (blk_three Kp_6.out) (And.intro (blk_three Kq_6.out) (And.intro (blk_three Ki_6.out) (blk_three Kj_6.out)))))
    have bd := bx_drew (bx_refl w6)
    obtain ⟨w7, hW0⟩ : ∃ W, W = w6.drew := ⟨_, rfl⟩
    rw [← hW0] at bd hH ⊢
    clear hW0
    have Va_7 := hid (Va_6.out.keep bd)
    have Ka_7 := hid (Ka_6.out.keep bd)
    have Na_7 := hid (Na_6.out.keep bd)
    have Ea_7 := hid (Ea_6.out.keep bd)
    have Lp_7 := hid (Lp_6.out.keep bd)
    have Kp_7 := hid (Kp_6.out.keep bd)
    have Lq_7 := hid (Lq_6.out.keep bd)
    have Kq_7 := hid (Kq_6.out.keep bd)
    have Ki_7 := hid (Ki_6.out.keep bd)
    have Li_7 := hid (Li_6.out.keep bd)
    have Kj_7 := hid (Kj_6.out.keep bd)
    have Lj_7 := hid (Lj_6.out.keep bd)
    have X_7 := hid (bx_call X_6.out bd)
    clear bd Va_6 Ka_6 Na_6 Ea_6 Lp_6 Kp_6 Lq_6 Kq_6 Ki_6 Li_6 Kj_6 Lj_6 X_6 
    refine wpAnyH_take (i := 0) (v := ?_) (by simp only [gx0, gx2]; rfl) (by kernel_rfl) (by kernel_rfl) (by kernel_rfl) (fun _ _ _ h => h) (.inl ⟨by rfl, ?_⟩) hH ?_
    rotate_left
    · intro w hSw; (try dsimp only at hSw); first | (go_simp; done) | (go_simp; with_reducible rfl) | (go_simp; decide)
    (try simp only [Act.put, gy0, gy1, gy2])
    refine wpAnyH_take (i := 2) (v := ?_) (by simp only [gx0, gx1, gx2]; rfl) (by kernel_rfl) (by kernel_rfl) (by kernel_rfl) (fun _ _ _ h => h) (.inl ⟨by rfl, ?_⟩) hH ?_
    rotate_left
    · intro w hSw; (try dsimp only at hSw); first | (go_simp; done) | (go_simp; with_reducible rfl) | (go_simp; decide)
    (try simp only [Act.put, gy0, gy1, gy2])
    refine wpAnyH_ready (rs := [1]) (by kernel_rfl) (by simp) ?_
    refine AllReadyH.cons (by simp only [gx0, gx1, gx2]; rfl) (fun K hK => ?_) AllReadyH.nil
    go_simp
    have cc := vvalid ga Aa na ca xsa Da ma da dsa w7 Na_7.out (by omega) Ea_7.out (by omega)
    rw [← HV.out] at cc
    refine cc.mono ?_
    rintro e w8 ⟨rfl, b⟩
    clear cc hH
    have Va_8 := hid (Va_7.out.keep b)
    have Ka_8 := hid (Ka_7.out.keep b)
    have Na_8 := hid (Na_7.out.keep b)
    have Ea_8 := hid (Ea_7.out.keep b)
    have Lp_8 := hid (Lp_7.out.keep b)
    have Kp_8 := hid (Kp_7.out.keep b)
    have Lq_8 := hid (Lq_7.out.keep b)
    have Kq_8 := hid (Kq_7.out.keep b)
    have Ki_8 := hid (Ki_7.out.keep b)
    have Li_8 := hid (Li_7.out.keep b)
    have Kj_8 := hid (Kj_7.out.keep b)
    have Lj_8 := hid (Lj_7.out.keep b)
    have X_8 := hid (bx_call X_7.out b)
    clear b Va_7 Ka_7 Na_7 Ea_7 Lp_7 Kp_7 Lq_7 Kq_7 Ki_7 Li_7 Kj_7 Lj_7 X_7
    (try go_wp2_with fail)
    refine hK.out _ _ ?_ (fun hH => ?_)
    exact (And.intro (blk_three Ka_8.out) (And.intro (blk_three Kp_8.out) (And.intro (blk_three Kq_8.out) (And.intro (blk_three Ki_8.out) (blk_three Kj_8.out)))))
    clear hK K
    (try simp only [Act.put, gy0, gy1, gy2])
    refine wpAnyH_ready (rs := [3]) (by kernel_rfl) (by simp) ?_
    refine AllReadyH.cons (by simp only [gx0, gx1, gx2]; rfl) (fun K hK => ?_) AllReadyH.nil
    go_simp
    have cc := vrvalid ga Aa na ca xsa Da ma da dsa 6 w8 Na_8.out (by omega) Ea_8.out (by omega) (by omega) (by omega)
    rw [← HV.out] at cc
    refine cc.mono ?_
    rintro e w9 ⟨rfl, b⟩
    clear cc hH
    have Va_9 := hid (Va_8.out.keep b)
    have Ka_9 := hid (Ka_8.out.keep b)
    have Na_9 := hid (Na_8.out.keep b)
    have Ea_9 := hid (Ea_8.out.keep b)
    have Lp_9 := hid (Lp_8.out.keep b)
    have Kp_9 := hid (Kp_8.out.keep b)
    have Lq_9 := hid (Lq_8.out.keep b)
    have Kq_9 := hid (Kq_8.out.keep b)
    have Ki_9 := hid (Ki_8.out.keep b)
    have Li_9 := hid (Li_8.out.keep b)
    have Kj_9 := hid (Kj_8.out.keep b)
    have Lj_9 := hid (Lj_8.out.keep b)
    have X_9 := hid (bx_call X_8.out b)
    clear b Va_8 Ka_8 Na_8 Ea_8 Lp_8 Kp_8 Lq_8 Kq_8 Ki_8 Li_8 Kj_8 Lj_8 X_8
    (try go_wp2_with fail)
    refine hK.out _ _ ?_ (fun hH => ?_)
    exact (And.intro (blk_three Ka_9.out) (And.intro (blk_three Kp_9.out) (And.intro (blk_three Kq_9.out) (And.intro (blk_three Ki_9.out) (blk_three Kj_9.out)))))
    clear hK K
    (try simp only [Act.put, gy0, gy1, gy2])
    refine wpAnyH_take (i := 4) (v := ?_) (by simp only [gx0, gx1, gx2]; rfl) (by kernel_rfl) (by kernel_rfl) (by kernel_rfl) (fun _ _ _ h => h) (.inl ⟨by rfl, ?_⟩) hH ?_
    rotate_left
    · intro w hSw; (try dsimp only at hSw); first | (go_simp; done) | (go_simp; with_reducible rfl) | (go_simp; decide)
    (try simp only [Act.put, gy0, gy1, gy2])
    refine wpAnyH_take (i := 5) (v := ?_) (by simp only [gx0, gx1, gx2]; rfl) (by kernel_rfl) (by kernel_rfl) (by kernel_rfl) (fun _ _ _ h => h) (.inl ⟨by rfl, ?_⟩) hH ?_
    rotate_left
    · intro w hSw; (try dsimp only at hSw); first | (go_simp; done) | (go_simp; with_reducible rfl) | (go_simp; decide)
    (try simp only [Act.put, gy0, gy1, gy2])
    refine wpAnyH_take (i := 6) (v := ?_) (by simp only [gx0, gx1, gx2]; rfl) (by kernel_rfl) (by kernel_rfl) (by kernel_rfl) (fun _ _ _ h => h) (.inl ⟨by rfl, ?_⟩) hH ?_
    rotate_left
    · intro w hSw; (try dsimp only at hSw); first | (go_simp; done) | (go_simp; with_reducible rfl) | (go_simp; decide)
    (try simp only [Act.put, gy0, gy1, gy2])
    refine wpAnyH_take (i := 7) (v := ?_) (by simp only [gx0, gx1, gx2]; rfl) (by kernel_rfl) (by kernel_rfl) (by kernel_rfl) (fun _ _ _ h => h) (.inl ⟨by rfl, ?_⟩) hH ?_
    rotate_left
    · intro w hSw; (try dsimp only at hSw); first | (go_simp; done) | (go_simp; with_reducible rfl) | (go_simp; decide)
    (try simp only [Act.put, gy0, gy1, gy2])
    refine wpAnyH_ready (rs := [8]) (by kernel_rfl) (by simp) ?_
    refine AllReadyH.cons (by simp only [gx0, gx1, gx2]; rfl) (fun K hK => ?_) AllReadyH.nil
    go_simp
    have cc := vsame (Lp_9.out) (Lq_9.out)
    rw [decide_eq_true (show qf = qf from rfl)] at cc
    refine cc.mono ?_
    rintro e w10 ⟨rfl, b⟩
    clear cc hH
    have Va_10 := hid (Va_9.out.keep b)
    have Ka_10 := hid (Ka_9.out.keep b)
    have Na_10 := hid (Na_9.out.keep b)
    have Ea_10 := hid (Ea_9.out.keep b)
    have Lp_10 := hid (Lp_9.out.keep b)
    have Kp_10 := hid (Kp_9.out.keep b)
    have Lq_10 := hid (Lq_9.out.keep b)
    have Kq_10 := hid (Kq_9.out.keep b)
    have Ki_10 := hid (Ki_9.out.keep b)
    have Li_10 := hid (Li_9.out.keep b)
    have Kj_10 := hid (Kj_9.out.keep b)
    have Lj_10 := hid (Lj_9.out.keep b)
    have X_10 := hid (bx_call X_9.out b)
    clear b Va_9 Ka_9 Na_9 Ea_9 Lp_9 Kp_9 Lq_9 Kq_9 Ki_9 Li_9 Kj_9 Lj_9 X_9
    (try go_wp2_with fail)
    refine hK.out _ _ ?_ (fun hH => ?_)
    exact (And.intro (blk_three Ka_10.out) (And.intro (blk_three Kp_10.out) (And.intro (blk_three Kq_10.out) (And.intro (blk_three Ki_10.out) (blk_three Kj_10.out)))))
    clear hK K
    (try simp only [Act.put, gy0, gy1, gy2])
    refine wpAnyH_take (i := 9) (v := ?_) (by simp only [gx0, gx1, gx2]; rfl) (by kernel_rfl) (by kernel_rfl) (by kernel_rfl) (fun _ _ _ h => h) (.inl ⟨by rfl, ?_⟩) hH ?_
    rotate_left
    · intro w hSw; (try dsimp only at hSw); first | (go_simp; done) | (go_simp; with_reducible rfl) | (go_simp; decide)
    (try simp only [Act.put, gy0, gy1, gy2])
    refine wpAnyH_take (i := 10) (v := ?_) (by simp only [gx0, gx1, gx2]; rfl) (by kernel_rfl) (by kernel_rfl) (by kernel_rfl) (fun _ _ _ h => h) (.inl ⟨by rfl, ?_⟩) hH ?_
    rotate_left
    · intro w hSw; (try dsimp only at hSw); first | (go_simp; done) | (go_simp; with_reducible rfl) | (go_simp; decide)
    (try simp only [Act.put, gy0, gy1, gy2])
    refine wpAnyH_take (i := 11) (v := ?_) (by simp only [gx0, gx1, gx2]; rfl) (by kernel_rfl) (by kernel_rfl) (by kernel_rfl) (fun _ _ _ h => h) (.inl ⟨by rfl, ?_⟩) hH ?_
    rotate_left
    · intro w hSw; (try dsimp only at hSw); first | (go_simp; done) | (go_simp; with_reducible rfl) | (go_simp; decide)
    (try simp only [Act.put, gy0, gy1, gy2])
    refine wpAnyH_take (i := 12) (v := ?_) (by simp only [gx0, gx1, gx2]; rfl) (by kernel_rfl) (by kernel_rfl) (by kernel_rfl) (fun _ _ _ h => h) (.inl ⟨by rfl, ?_⟩) hH ?_
    rotate_left
    · intro w hSw; (try dsimp only at hSw); first | (go_simp; done) | (go_simp; with_reducible rfl) | (go_simp; decide)
    (try simp only [Act.put, gy0, gy1, gy2])
    refine wpAnyH_take (i := 13) (v := ?_) (by simp only [gx0, gx1, gx2]; rfl) (by kernel_rfl) (by kernel_rfl) (by kernel_rfl) (fun _ _ _ h => h) (.inl ⟨by rfl, ?_⟩) hH ?_
    rotate_left
    · intro w hSw; (try dsimp only at hSw); first | (go_simp; done) | (go_simp; with_reducible rfl) | (go_simp; decide)
    (try simp only [Act.put, gy0, gy1, gy2])
    refine wpAnyH_take (i := 14) (v := ?_) (by simp only [gx0, gx1, gx2]; rfl) (by kernel_rfl) (by kernel_rfl) (by kernel_rfl) (fun _ _ _ h => h) (.inl ⟨by rfl, ?_⟩) hH ?_
    rotate_left
    · intro w hSw; (try dsimp only at hSw); first | (go_simp; done) | (go_simp; with_reducible rfl) | (go_simp; decide)
    (try simp only [Act.put, gy0, gy1, gy2])
    refine wpAnyH_take (i := 15) (v := ?_) (by simp only [gx0, gx1, gx2]; rfl) (by kernel_rfl) (by kernel_rfl) (by kernel_rfl) (fun _ _ _ h => h) (.inl ⟨by rfl, ?_⟩) hH ?_
    rotate_left
    · intro w hSw; (try dsimp only at hSw); first | (go_simp; done) | (go_simp; with_reducible rfl) | (go_simp; decide)
    (try simp only [Act.put, gy0, gy1, gy2])
    refine wpAnyH_take (i := 16) (v := ?_) (by simp only [gx0, gx1, gx2]; rfl) (by kernel_rfl) (by kernel_rfl) (by kernel_rfl) (fun _ _ _ h => h) (.inl ⟨by rfl, ?_⟩) hH ?_
    rotate_left
    · intro w hSw; (try dsimp only at hSw); first | (go_simp; done) | (go_simp; with_reducible rfl) | (go_simp; decide)
    (try simp only [Act.put, gy0, gy1, gy2])
    refine wpAnyH_take (i := 17) (v := ?_) (by simp only [gx0, gx1, gx2]; rfl) (by kernel_rfl) (by kernel_rfl) (by kernel_rfl) (fun _ _ _ h => h) (.inl ⟨by rfl, ?_⟩) hH ?_
    rotate_left
    · intro w hSw; (try dsimp only at hSw); first | (go_simp; done) | (go_simp; with_reducible rfl) | (go_simp; decide)
    (try simp only [Act.put, gy0, gy1, gy2])
    refine wpAnyH_ready (rs := [18]) (by kernel_rfl) (by simp) ?_
    refine AllReadyH.cons (by simp only [gx0, gx1, gx2]; rfl) (fun K hK => ?_) AllReadyH.nil
    go_simp
    have cc := vsame (Li_10.out) (Lj_10.out)
    rw [decide_eq_true (show qm = qm from rfl)] at cc
    refine cc.mono ?_
    rintro e w11 ⟨rfl, b⟩
    clear cc hH
    have Va_11 := hid (Va_10.out.keep b)
    have Ka_11 := hid (Ka_10.out.keep b)
    have Na_11 := hid (Na_10.out.keep b)
    have Ea_11 := hid (Ea_10.out.keep b)
    have Lp_11 := hid (Lp_10.out.keep b)
    have Kp_11 := hid (Kp_10.out.keep b)
    have Lq_11 := hid (Lq_10.out.keep b)
    have Kq_11 := hid (Kq_10.out.keep b)
    have Ki_11 := hid (Ki_10.out.keep b)
    have Li_11 := hid (Li_10.out.keep b)
    have Kj_11 := hid (Kj_10.out.keep b)
    have Lj_11 := hid (Lj_10.out.keep b)
    have X_11 := hid (bx_call X_10.out b)
    clear b Va_10 Ka_10 Na_10 Ea_10 Lp_10 Kp_10 Lq_10 Kq_10 Ki_10 Li_10 Kj_10 Lj_10 X_10
    (try go_wp2_with fail)
    refine hK.out _ _ ?_ (fun hH => ?_)
    exact (And.intro (blk_three Ka_11.out) (And.intro (blk_three Kp_11.out) (And.intro (blk_three Kq_11.out) (And.intro (blk_three Ki_11.out) (blk_three Kj_11.out)))))
    clear hK K
    (try simp only [Act.put, gy0, gy1, gy2])
    refine wpAnyH_take (i := 19) (v := ?_) (by simp only [gx0, gx1, gx2]; rfl) (by kernel_rfl) (by kernel_rfl) (by kernel_rfl) (fun _ _ _ h => h) (.inl ⟨by rfl, ?_⟩) hH ?_
    rotate_left
    · intro w hSw; (try dsimp only at hSw); first | (go_simp; done) | (go_simp; with_reducible rfl) | (go_simp; decide)
    (try simp only [Act.put, gy0, gy1, gy2])
    refine wpAnyH_take (i := 20) (v := ?_) (by simp only [gx0, gx1, gx2]; rfl) (by kernel_rfl) (by kernel_rfl) (by kernel_rfl) (fun _ _ _ h => h) (.inl ⟨by rfl, ?_⟩) hH ?_
    rotate_left
    · intro w hSw; (try dsimp only at hSw); first | (go_simp; done) | (go_simp; with_reducible rfl) | (go_simp; decide)
    (try simp only [Act.put, gy0, gy1, gy2])
    refine wpAnyH_take (i := 21) (v := ?_) (by simp only [gx0, gx1, gx2]; rfl) (by kernel_rfl) (by kernel_rfl) (by kernel_rfl) (fun _ _ _ h => h) (.inl ⟨by rfl, ?_⟩) hH ?_
    rotate_left
    · intro w hSw; (try dsimp only at hSw); first | (go_simp; done) | (go_simp; with_reducible rfl) | (go_simp; decide)
    (try simp only [Act.put, gy0, gy1, gy2])
    refine wpAnyH_take (i := 22) (v := ?_) (by simp only [gx0, gx1, gx2]; rfl) (by kernel_rfl) (by kernel_rfl) (by kernel_rfl) (fun _ _ _ h => h) (.inl ⟨by rfl, ?_⟩) hH ?_
    rotate_left
    · intro w hSw; (try dsimp only at hSw); first | (go_simp; done) | (go_simp; with_reducible rfl) | (go_simp; decide)
    (try simp only [Act.put, gy0, gy1, gy2])
    refine wpAnyH_take (i := 23) (v := ?_) (by simp only [gx0, gx1, gx2]; rfl) (by kernel_rfl) (by kernel_rfl) (by kernel_rfl) (fun _ _ _ h => h) (.inl ⟨by rfl, ?_⟩) hH ?_
    rotate_left
    · intro w hSw; (try dsimp only at hSw); first | (go_simp; done) | (go_simp; with_reducible rfl) | (go_simp; decide)
    (try simp only [Act.put, gy0, gy1, gy2])
    refine wpAnyH_take (i := 24) (v := ?_) (by simp only [gx0, gx1, gx2]; rfl) (by kernel_rfl) (by kernel_rfl) (by kernel_rfl) (fun _ _ _ h => h) (.inl ⟨by rfl, ?_⟩) hH ?_
    rotate_left
    · intro w hSw; (try dsimp only at hSw); first | (go_simp; done) | (go_simp; with_reducible rfl) | (go_simp; decide)
    (try simp only [Act.put, gy0, gy1, gy2])
    refine wpAnyH_take (i := 25) (v := ?_) (by simp only [gx0, gx1, gx2]; rfl) (by kernel_rfl) (by kernel_rfl) (by kernel_rfl) (fun _ _ _ h => h) (.inl ⟨by rfl, ?_⟩) hH ?_
    rotate_left
    · intro w hSw; (try dsimp only at hSw); first | (go_simp; done) | (go_simp; with_reducible rfl) | (go_simp; decide)
    (try simp only [Act.put, gy0, gy1, gy2])
    refine wpAnyH_take (i := 26) (v := ?_) (by simp only [gx0, gx1, gx2]; rfl) (by kernel_rfl) (by kernel_rfl) (by kernel_rfl) (fun _ _ _ h => h) (.inl ⟨by rfl, ?_⟩) hH ?_
    rotate_left
    · intro w hSw; (try dsimp only at hSw); first | (go_simp; done) | (go_simp; with_reducible rfl) | (go_simp; decide)
    (try simp only [Act.put, gy0, gy1, gy2])
    refine wpAnyH_take (i := 28) (v := ?_) (by simp only [gx0, gx1, gx2]; rfl) (by kernel_rfl) (by kernel_rfl) (by kernel_rfl) (fun _ _ _ h => h) (.inl ⟨by rfl, ?_⟩) hH ?_
    rotate_left
    · intro w hSw; (try dsimp only at hSw); first | (go_simp; done) | (go_simp; with_reducible rfl) | (go_simp; decide)
    (try simp only [Act.put, gy0, gy1, gy2])
    refine wpAnyH_ready (rs := [27]) (by kernel_rfl) (by simp) ?_
    refine AllReadyH.cons (by simp only [gx0, gx1, gx2]; rfl) (fun K hK => ?_) AllReadyH.nil
    go_simp
    have cc := vfrom zn w11 un1 un2
    refine cc.mono ?_
    rintro e w12 ⟨Af1, nf1, cf1, Df1, mf1, df1, rfl, r, b⟩
    clear cc hH
    have Lf1 := hid r
    clear r
    have Va_12 := hid (Va_11.out.keep b)
    have Ka_12 := hid (Ka_11.out.keep b)
    have Na_12 := hid (Na_11.out.keep b)
    have Ea_12 := hid (Ea_11.out.keep b)
    have Lp_12 := hid (Lp_11.out.keep b)
    have Kp_12 := hid (Kp_11.out.keep b)
    have Lq_12 := hid (Lq_11.out.keep b)
    have Kq_12 := hid (Kq_11.out.keep b)
    have Ki_12 := hid (Ki_11.out.keep b)
    have Li_12 := hid (Li_11.out.keep b)
    have Kj_12 := hid (Kj_11.out.keep b)
    have Lj_12 := hid (Lj_11.out.keep b)
    have X_12 := hid (bx_call X_11.out b)
    clear b Va_11 Ka_11 Na_11 Ea_11 Lp_11 Kp_11 Lq_11 Kq_11 Ki_11 Li_11 Kj_11 Lj_11 X_11
    (try go_wp2_with fail)
    refine hK.out _ _ ?_ (fun hH => ?_)
    exact (And.intro (blk_three Ka_12.out) (And.intro (blk_three Kp_12.out) (And.intro (blk_three Kq_12.out) (And.intro (blk_three Ki_12.out) (blk_three Kj_12.out)))))
    clear hK K
    (try simp only [Act.put, gy0, gy1, gy2])
    refine wpAnyH_ready (rs := [29]) (by kernel_rfl) (by simp) ?_
    refine AllReadyH.cons (by simp only [gx0, gx1, gx2]; rfl) (fun K hK => ?_) AllReadyH.nil
    go_simp
    have cc := vrfrom zn w12 un1 un2
    refine cc.mono ?_
    rintro e w13 ⟨Af2, nf2, cf2, Df2, mf2, df2, rfl, r, b⟩
    clear cc hH
    have Lf2 := hid r
    clear r
    have Va_13 := hid (Va_12.out.keep b)
    have Ka_13 := hid (Ka_12.out.keep b)
    have Na_13 := hid (Na_12.out.keep b)
    have Ea_13 := hid (Ea_12.out.keep b)
    have Lp_13 := hid (Lp_12.out.keep b)
    have Kp_13 := hid (Kp_12.out.keep b)
    have Lq_13 := hid (Lq_12.out.keep b)
    have Kq_13 := hid (Kq_12.out.keep b)
    have Ki_13 := hid (Ki_12.out.keep b)
    have Li_13 := hid (Li_12.out.keep b)
    have Kj_13 := hid (Kj_12.out.keep b)
    have Lj_13 := hid (Lj_12.out.keep b)
    have Lf1_13 := hid (Lf1.out.keep b)
    have X_13 := hid (bx_call X_12.out b)
    clear b Va_12 Ka_12 Na_12 Ea_12 Lp_12 Kp_12 Lq_12 Kq_12 Ki_12 Li_12 Kj_12 Lj_12 Lf1 X_12
    (try go_wp2_with fail)
    refine hK.out _ _ ?_ (fun hH => ?_)
    exact (And.intro (blk_three Ka_13.out) (And.intro (blk_three Kp_13.out) (And.intro (blk_three Kq_13.out) (And.intro (blk_three Ki_13.out) (blk_three Kj_13.out)))))
    clear hK K
    (try simp only [Act.put, gy0, gy1, gy2])
    refine wpAnyH_ready (rs := [30]) (by kernel_rfl) (by simp) ?_
    refine AllReadyH.cons (by simp only [gx0, gx1, gx2]; rfl) (fun K hK => ?_) AllReadyH.nil
    go_simp
    have cc := vsame (Lf1_13.out) (Lf2.out)
    rw [decide_eq_true (show (zn : Rat) = (zn : Rat) from rfl)] at cc
    refine cc.mono ?_
    rintro e w14 ⟨rfl, b⟩
    clear cc hH
    have Va_14 := hid (Va_13.out.keep b)
    have Ka_14 := hid (Ka_13.out.keep b)
    have Na_14 := hid (Na_13.out.keep b)
    have Ea_14 := hid (Ea_13.out.keep b)
    have Lp_14 := hid (Lp_13.out.keep b)
    have Kp_14 := hid (Kp_13.out.keep b)
    have Lq_14 := hid (Lq_13.out.keep b)
    have Kq_14 := hid (Kq_13.out.keep b)
    have Ki_14 := hid (Ki_13.out.keep b)
    have Li_14 := hid (Li_13.out.keep b)
    have Kj_14 := hid (Kj_13.out.keep b)
    have Lj_14 := hid (Lj_13.out.keep b)
    have Lf1_14 := hid (Lf1_13.out.keep b)
    have Lf2_14 := hid (Lf2.out.keep b)
    have X_14 := hid (bx_call X_13.out b)
    clear b Va_13 Ka_13 Na_13 Ea_13 Lp_13 Kp_13 Lq_13 Kq_13 Ki_13 Li_13 Kj_13 Lj_13 Lf1_13 Lf2 X_13
    (try go_wp2_with fail)
    refine hK.out _ _ ?_ (fun hH => ?_)
    exact (And.intro (blk_three Ka_14.out) (And.intro (blk_three Kp_14.out) (And.intro (blk_three Kq_14.out) (And.intro (blk_three Ki_14.out) (blk_three Kj_14.out)))))
    clear hK K
    (try simp only [Act.put, gy0, gy1, gy2])
    refine wpAnyH_take (i := 31) (v := ?_) (by simp only [gx0, gx1, gx2]; rfl) (by kernel_rfl) (by kernel_rfl) (by kernel_rfl) (fun _ _ _ h => h) (.inl ⟨by rfl, ?_⟩) hH ?_
    rotate_left
    · intro w hSw; (try dsimp only at hSw); first | (go_simp; done) | (go_simp; with_reducible rfl) | (go_simp; decide)
    (try simp only [Act.put, gy0, gy1, gy2])
    refine wpAnyH_take (i := 32) (v := ?_) (by simp only [gx0, gx1, gx2]; rfl) (by kernel_rfl) (by kernel_rfl) (by kernel_rfl) (fun _ _ _ h => h) (.inl ⟨by rfl, ?_⟩) hH ?_
    rotate_left
    · intro w hSw; (try dsimp only at hSw); first | (go_simp; done) | (go_simp; with_reducible rfl) | (go_simp; decide)
    (try simp only [Act.put, gy0, gy1, gy2])
    refine wpAnyH_take (i := 33) (v := ?_) (by simp only [gx0, gx1, gx2]; rfl) (by kernel_rfl) (by kernel_rfl) (by kernel_rfl) (fun _ _ _ h => h) (.inl ⟨by rfl, ?_⟩) hH ?_
    rotate_left
    · intro w hSw; (try dsimp only at hSw); first | (go_simp; done) | (go_simp; with_reducible rfl) | (go_simp; decide)
    (try simp only [Act.put, gy0, gy1, gy2])
    refine wpAnyH_take (i := 35) (v := ?_) (by simp only [gx0, gx1, gx2]; rfl) (by kernel_rfl) (by kernel_rfl) (by kernel_rfl) (fun _ _ _ h => h) (.inl ⟨by rfl, ?_⟩) hH ?_
    rotate_left
    · intro w hSw; (try dsimp only at hSw); first | (go_simp; done) | (go_simp; with_reducible rfl) | (go_simp; decide)
    (try simp only [Act.put, gy0, gy1, gy2])
    refine wpAnyH_ready (rs := [34]) (by kernel_rfl) (by simp) ?_
    refine AllReadyH.cons (by simp only [gx0, gx1, gx2]; rfl) (fun K hK => ?_) AllReadyH.nil
    go_simp
    have cc := vsign ga Aa na ca Da ma da 6 (za) w14 (Va_14.out)
    rw [← HS.out] at cc
    refine cc.mono ?_
    rintro e w15 ⟨rfl, b⟩
    clear cc hH
    have Va_15 := hid (Va_14.out.keep b)
    have Ka_15 := hid (Ka_14.out.keep b)
    have Na_15 := hid (Na_14.out.keep b)
    have Ea_15 := hid (Ea_14.out.keep b)
    have Lp_15 := hid (Lp_14.out.keep b)
    have Kp_15 := hid (Kp_14.out.keep b)
    have Lq_15 := hid (Lq_14.out.keep b)
    have Kq_15 := hid (Kq_14.out.keep b)
    have Ki_15 := hid (Ki_14.out.keep b)
    have Li_15 := hid (Li_14.out.keep b)
    have Kj_15 := hid (Kj_14.out.keep b)
    have Lj_15 := hid (Lj_14.out.keep b)
    have Lf1_15 := hid (Lf1_14.out.keep b)
    have Lf2_15 := hid (Lf2_14.out.keep b)
    have X_15 := hid (bx_call X_14.out b)
    clear b Va_14 Ka_14 Na_14 Ea_14 Lp_14 Kp_14 Lq_14 Kq_14 Ki_14 Li_14 Kj_14 Lj_14 Lf1_14 Lf2_14 X_14
    (try go_wp2_with fail)
    refine hK.out _ _ ?_ (fun hH => ?_)
    exact (And.intro (blk_three Ka_15.out) (And.intro (blk_three Kp_15.out) (And.intro (blk_three Kq_15.out) (And.intro (blk_three Ki_15.out) (blk_three Kj_15.out)))))
    clear hK K
    (try simp only [Act.put, gy0, gy1, gy2])
    refine wpAnyH_ready (rs := [36]) (by kernel_rfl) (by simp) ?_
    refine AllReadyH.cons (by simp only [gx0, gx1, gx2]; rfl) (fun K hK => ?_) AllReadyH.nil
    go_simp
    have cc := vrsign ga Aa na ca Da ma da 6 (za) w15 (Va_15.out) (by omega)
    rw [← HS.out] at cc
    refine cc.mono ?_
    rintro e w16 ⟨rfl, b⟩
    clear cc hH
    have Va_16 := hid (Va_15.out.keep b)
    have Ka_16 := hid (Ka_15.out.keep b)
    have Na_16 := hid (Na_15.out.keep b)
    have Ea_16 := hid (Ea_15.out.keep b)
    have Lp_16 := hid (Lp_15.out.keep b)
    have Kp_16 := hid (Kp_15.out.keep b)
    have Lq_16 := hid (Lq_15.out.keep b)
    have Kq_16 := hid (Kq_15.out.keep b)
    have Ki_16 := hid (Ki_15.out.keep b)
    have Li_16 := hid (Li_15.out.keep b)
    have Kj_16 := hid (Kj_15.out.keep b)
    have Lj_16 := hid (Lj_15.out.keep b)
    have Lf1_16 := hid (Lf1_15.out.keep b)
    have Lf2_16 := hid (Lf2_15.out.keep b)
    have X_16 := hid (bx_call X_15.out b)
    clear b Va_15 Ka_15 Na_15 Ea_15 Lp_15 Kp_15 Lq_15 Kq_15 Ki_15 Li_15 Kj_15 Lj_15 Lf1_15 Lf2_15 X_15
    (try go_wp2_with fail)
    refine hK.out _ _ ?_ (fun hH => ?_)
    exact (And.intro (blk_three Ka_16.out) (And.intro (blk_three Kp_16.out) (And.intro (blk_three Kq_16.out) (And.intro (blk_three Ki_16.out) (blk_three Kj_16.out)))))
    clear hK K
    (try simp only [Act.put, gy0, gy1, gy2])
    refine wpAnyH_take (i := 37) (v := ?_) (by simp only [gx0, gx1, gx2]; rfl) (by kernel_rfl) (by kernel_rfl) (by kernel_rfl) (fun _ _ _ h => h) (.inl ⟨by rfl, ?_⟩) hH ?_
    rotate_left
    · intro w hSw; (try dsimp only at hSw); first | (go_simp; done) | (go_simp; with_reducible rfl) | (go_simp; decide)
    (try simp only [Act.put, gy0, gy1, gy2])
    refine wpAnyH_take (i := 38) (v := ?_) (by simp only [gx0, gx1, gx2]; rfl) (by kernel_rfl) (by kernel_rfl) (by kernel_rfl) (fun _ _ _ h => h) (.inl ⟨by rfl, ?_⟩) hH ?_
    rotate_left
    · intro w hSw; (try dsimp only at hSw); first | (go_simp; done) | (go_simp; with_reducible rfl) | (go_simp; decide)
    (try simp only [Act.put, gy0, gy1, gy2])
    refine wpAnyH_take (i := 39) (v := ?_) (by simp only [gx0, gx1, gx2]; rfl) (by kernel_rfl) (by kernel_rfl) (by kernel_rfl) (fun _ _ _ h => h) (.inl ⟨by rfl, ?_⟩) hH ?_
    rotate_left
    · intro w hSw; (try dsimp only at hSw); first | (go_simp; done) | (go_simp; with_reducible rfl) | (go_simp; decide)
    (try simp only [Act.put, gy0, gy1, gy2])
    refine wpAnyH_take (i := 40) (v := ?_) (by simp only [gx0, gx1, gx2]; rfl) (by kernel_rfl) (by kernel_rfl) (by kernel_rfl) (fun _ _ _ h => h) (.inl ⟨by rfl, ?_⟩) hH ?_
    rotate_left
    · intro w hSw; (try dsimp only at hSw); first | (go_simp; done) | (go_simp; with_reducible rfl) | (go_simp; decide)
    (try simp only [Act.put, gy0, gy1, gy2])
    refine wpAnyH_take (i := 41) (v := ?_) (by simp only [gx0, gx1, gx2]; rfl) (by kernel_rfl) (by kernel_rfl) (by kernel_rfl) (fun _ _ _ h => h) (.inl ⟨by rfl, ?_⟩) hH ?_
    rotate_left
    · intro w hSw; (try dsimp only at hSw); first | (go_simp; done) | (go_simp; with_reducible rfl) | (go_simp; decide)
    (try simp only [Act.put, gy0, gy1, gy2])
    refine wpAnyH_take (i := 42) (v := ?_) (by simp only [gx0, gx1, gx2]; rfl) (by kernel_rfl) (by kernel_rfl) (by kernel_rfl) (fun _ _ _ h => h) (.inl ⟨by rfl, ?_⟩) hH ?_
    rotate_left
    · intro w hSw; (try dsimp only at hSw); first | (go_simp; done) | (go_simp; with_reducible rfl) | (go_simp; decide)
    (try simp only [Act.put, gy0, gy1, gy2])
    refine wpAnyH_take (i := 43) (v := ?_) (by simp only [gx0, gx1, gx2]; rfl) (by kernel_rfl) (by kernel_rfl) (by kernel_rfl) (fun _ _ _ h => h) (.inl ⟨by rfl, ?_⟩) hH ?_
    rotate_left
    · intro w hSw; (try dsimp only at hSw); first | (go_simp; done) | (go_simp; with_reducible rfl) | (go_simp; decide)
    (try simp only [Act.put, gy0, gy1, gy2])
    refine wpAnyH_take (i := 44) (v := ?_) (by simp only [gx0, gx1, gx2]; rfl) (by kernel_rfl) (by kernel_rfl) (by kernel_rfl) (fun _ _ _ h => h) (.inl ⟨by rfl, ?_⟩) hH ?_
    rotate_left
    · intro w hSw; (try dsimp only at hSw); first | (go_simp; done) | (go_simp; with_reducible rfl) | (go_simp; decide)
    (try simp only [Act.put, gy0, gy1, gy2])
    refine wpAnyH_take (i := 45) (v := ?_) (by simp only [gx0, gx1, gx2]; rfl) (by kernel_rfl) (by kernel_rfl) (by kernel_rfl) (fun _ _ _ h => h) (.inl ⟨by rfl, ?_⟩) hH ?_
    rotate_left
    · intro w hSw; (try dsimp only at hSw); first | (go_simp; done) | (go_simp; with_reducible rfl) | (go_simp; decide)
    (try simp only [Act.put, gy0, gy1, gy2])
    refine wpAnyH_take (i := 46) (v := ?_) (by simp only [gx0, gx1, gx2]; rfl) (by kernel_rfl) (by kernel_rfl) (by kernel_rfl) (fun _ _ _ h => h) (.inl ⟨by rfl, ?_⟩) hH ?_
    rotate_left
    · intro w hSw; (try dsimp only at hSw); first | (go_simp; done) | (go_simp; with_reducible rfl) | (go_simp; decide)
    (try simp only [Act.put, gy0, gy1, gy2])
    refine wpAnyH_take (i := 47) (v := ?_) (by simp only [gx0, gx1, gx2]; rfl) (by kernel_rfl) (by kernel_rfl) (by kernel_rfl) (fun _ _ _ h => h) (.inl ⟨by rfl, ?_⟩) hH ?_
    rotate_left
    · intro w hSw; (try dsimp only at hSw); first | (go_simp; done) | (go_simp; with_reducible rfl) | (go_simp; decide)
    (try simp only [Act.put, gy0, gy1, gy2])
    refine wpAnyH_take (i := 48) (v := ?_) (by simp only [gx0, gx1, gx2]; rfl) (by kernel_rfl) (by kernel_rfl) (by kernel_rfl) (fun _ _ _ h => h) (.inl ⟨by rfl, ?_⟩) hH ?_
    rotate_left
    · intro w hSw; (try dsimp only at hSw); first | (go_simp; done) | (go_simp; with_reducible rfl) | (go_simp; decide)
    (try simp only [Act.put, gy0, gy1, gy2])
    refine wpAnyH_take (i := 49) (v := ?_) (by simp only [gx0, gx1, gx2]; rfl) (by kernel_rfl) (by kernel_rfl) (by kernel_rfl) (fun _ _ _ h => h) (.inl ⟨by rfl, ?_⟩) hH ?_
    rotate_left
    · intro w hSw; (try dsimp only at hSw); first | (go_simp; done) | (go_simp; with_reducible rfl) | (go_simp; decide)
    (try simp only [Act.put, gy0, gy1, gy2])
    refine wpAnyH_take (i := 50) (v := ?_) (by simp only [gx0, gx1, gx2]; rfl) (by kernel_rfl) (by kernel_rfl) (by kernel_rfl) (fun _ _ _ h => h) (.inl ⟨by rfl, ?_⟩) hH ?_
    rotate_left
    · intro w hSw; (try dsimp only at hSw); first | (go_simp; done) | (go_simp; with_reducible rfl) | (go_simp; decide)
    (try simp only [Act.put, gy0, gy1, gy2])
    refine wpAnyH_take (i := 52) (v := ?_) (by simp only [gx0, gx1, gx2]; rfl) (by kernel_rfl) (by kernel_rfl) (by kernel_rfl) (fun _ _ _ h => h) (.inl ⟨by rfl, ?_⟩) hH ?_
    rotate_left
    · intro w hSw; (try dsimp only at hSw); first | (go_simp; done) | (go_simp; with_reducible rfl) | (go_simp; decide)
    (try simp only [Act.put, gy0, gy1, gy2])
    refine wpAnyH_ready (rs := [51]) (by kernel_rfl) (by simp) ?_
    refine AllReadyH.cons (by simp only [gx0, gx1, gx2]; rfl) (fun K hK => ?_) AllReadyH.nil
    go_simp
    have cc := vtext ga Aa na ca Da ma da 6 za w16 (Va_16.out) (by omega)
    rw [← HT.out] at cc
    refine cc.mono ?_
    rintro e w17 ⟨rfl, b⟩
    clear cc hH
    have Va_17 := hid (Va_16.out.keep b)
    have Ka_17 := hid (Ka_16.out.keep b)
    have Na_17 := hid (Na_16.out.keep b)
    have Ea_17 := hid (Ea_16.out.keep b)
    have Lp_17 := hid (Lp_16.out.keep b)
    have Kp_17 := hid (Kp_16.out.keep b)
    have Lq_17 := hid (Lq_16.out.keep b)
    have Kq_17 := hid (Kq_16.out.keep b)
    have Ki_17 := hid (Ki_16.out.keep b)
    have Li_17 := hid (Li_16.out.keep b)
    have Kj_17 := hid (Kj_16.out.keep b)
    have Lj_17 := hid (Lj_16.out.keep b)
    have Lf1_17 := hid (Lf1_16.out.keep b)
    have Lf2_17 := hid (Lf2_16.out.keep b)
    have X_17 := hid (bx_call X_16.out b)
    clear b Va_16 Ka_16 Na_16 Ea_16 Lp_16 Kp_16 Lq_16 Kq_16 Ki_16 Li_16 Kj_16 Lj_16 Lf1_16 Lf2_16 X_16
    (try go_wp2_with fail)
    refine hK.out _ _ ?_ (fun hH => ?_)
    exact (And.intro (blk_three Ka_17.out) (And.intro (blk_three Kp_17.out) (And.intro (blk_three Kq_17.out) (And.intro (blk_three Ki_17.out) (blk_three Kj_17.out)))))
    clear hK K
    (try simp only [Act.put, gy0, gy1, gy2])
    refine wpAnyH_ready (rs := [53]) (by kernel_rfl) (by simp) ?_
    refine AllReadyH.cons (by simp only [gx0, gx1, gx2]; rfl) (fun K hK => ?_) AllReadyH.nil
    go_simp
    have cc := vrtext ga Aa na ca Da ma da 6 za w17 (Va_17.out) (by omega)
    rw [← HT.out] at cc
    refine cc.mono ?_
    rintro e w18 ⟨rfl, b⟩
    clear cc hH
    have Va_18 := hid (Va_17.out.keep b)
    have Ka_18 := hid (Ka_17.out.keep b)
    have Na_18 := hid (Na_17.out.keep b)
    have Ea_18 := hid (Ea_17.out.keep b)
    have Lp_18 := hid (Lp_17.out.keep b)
    have Kp_18 := hid (Kp_17.out.keep b)
    have Lq_18 := hid (Lq_17.out.keep b)
    have Kq_18 := hid (Kq_17.out.keep b)
    have Ki_18 := hid (Ki_17.out.keep b)
    have Li_18 := hid (Li_17.out.keep b)
    have Kj_18 := hid (Kj_17.out.keep b)
    have Lj_18 := hid (Lj_17.out.keep b)
    have Lf1_18 := hid (Lf1_17.out.keep b)
    have Lf2_18 := hid (Lf2_17.out.keep b)
    have X_18 := hid (bx_call X_17.out b)
    clear b Va_17 Ka_17 Na_17 Ea_17 Lp_17 Kp_17 Lq_17 Kq_17 Ki_17 Li_17 Kj_17 Lj_17 Lf1_17 Lf2_17 X_17
    (try go_wp2_with fail)
    refine hK.out _ _ ?_ (fun hH => ?_)
    exact (And.intro (blk_three Ka_18.out) (And.intro (blk_three Kp_18.out) (And.intro (blk_three Kq_18.out) (And.intro (blk_three Ki_18.out) (blk_three Kj_18.out)))))
    clear hK K
    (try simp only [Act.put, gy0, gy1, gy2])
    refine wpAnyH_take (i := 54) (v := ?_) (by simp only [gx0, gx1, gx2]; rfl) (by kernel_rfl) (by kernel_rfl) (by kernel_rfl) (fun _ _ _ h => h) (.inl ⟨by rfl, ?_⟩) hH ?_
    rotate_left
    · intro w hSw; (try dsimp only at hSw); first | (go_simp; done) | (go_simp; with_reducible rfl) | (go_simp; decide)
    (try simp only [Act.put, gy0, gy1, gy2])
    refine wpAnyH_take (i := 55) (v := ?_) (by simp only [gx0, gx1, gx2]; rfl) (by kernel_rfl) (by kernel_rfl) (by kernel_rfl) (fun _ _ _ h => h) (.inl ⟨by rfl, ?_⟩) hH ?_
    rotate_left
    · intro w hSw; (try dsimp only at hSw); first | (go_simp; done) | (go_simp; with_reducible rfl) | (go_simp; decide)
    (try simp only [Act.put, gy0, gy1, gy2])
    refine wpAnyH_take (i := 56) (v := ?_) (by simp only [gx0, gx1, gx2]; rfl) (by kernel_rfl) (by kernel_rfl) (by kernel_rfl) (fun _ _ _ h => h) (.inl ⟨by rfl, ?_⟩) hH ?_
    rotate_left
    · intro w hSw; (try dsimp only at hSw); first | (go_simp; done) | (go_simp; with_reducible rfl) | (go_simp; decide)
    (try simp only [Act.put, gy0, gy1, gy2])
    refine wpAnyH_done (by kernel_rfl) ?_ _
    refine NoPanic.normal ?_
    clear hH
    go_wp2_with fail
    go_ret
    exact ⟨rfl, X_18.out⟩
  · have hF := decide_eq_false hf
    clear hf
    go_enter Try.func10, Try.ntmps10
    go_wp2_with fail
    refine (qawake_any _).mono ?_
    rintro e w1 ⟨rfl, b⟩
    have Ra_1 := hid (Ra.out.keep b)
    have Sa_1 := hid (Sa.out.keep b)
    have Ka_1 := hid (Ka.out.keep b)
    have X_1 := hid (bx_call X.out b)
    clear b X Ra Sa Ka
    obtain ⟨ka0, ka1, ka2⟩ := blk_three Ka_1.out
    have cc := qfew1 (k := 6) (by omega) (Blk.new w1 [.bool ga, .slice Aa na ca, .slice Da ma da] 50) (by omega) (by omega)
    rw [hF] at cc
    have CC := hid cc
    clear cc hF
    go_wp2_with fail
    refine (CC.out).mono ?_
    rintro e w2 ⟨rfl, b0⟩
    have X_2 := hid (bx_call X_1.out (bx_call (bx_alloc (bx_refl w1) (.cells #[.bool ga, .slice Aa na ca, .slice Da ma da] 50)) b0))
    clear CC b0 X_1
    go_wp2_with fail
    refine (qawake_any _).mono ?_
    rintro e w3 ⟨rfl, b⟩
    have X_3 := hid (bx_call X_2.out b)
    clear X_2 b
    go_wp2_with fail
    go_ret
    exact ⟨rfl, X_3.out⟩

end Go.Proofs.Ytcbbacnhnaopmaa
