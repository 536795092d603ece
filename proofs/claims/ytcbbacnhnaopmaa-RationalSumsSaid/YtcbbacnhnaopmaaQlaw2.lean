/- Laws of layer 3, walked by contracts. -/
import Derived.Test.YtcbbacnhnaopmaaQaw
namespace Go.Proofs.Ytcbbacnhnaopmaa
open Go.RowKit

set_option maxRecDepth 100000 in
set_option maxHeartbeats 8000000 in
theorem rationalSums_any (ga : Bool) (Aa : Option Addr) (na ca : Nat) (xsa : List Nat) (Da : Option Addr) (ma da : Nat) (dsa : List Nat) (gb : Bool) (Ab : Option Addr) (nb cb : Nat) (xsb : List Nat) (Db : Option Addr) (mb db : Nat) (dsb : List Nat) (w : World) (ha : Rd w Aa na ca xsa) (ea : Rd w Da ma da dsa) (hb : Rd w Ab nb cb xsb) (eb : Rd w Db mb db dsb) :
    Calls Try.prog 11 #[.agg #[.bool ga, .slice Aa na ca, .slice Da ma da], .agg #[.bool gb, .slice Ab nb cb, .slice Db mb db]] w (RetB w true) := by
  have j1a := ha.2.1
  have j2a := ha.2.2.1
  have j3a := ea.2.1
  have j4a := ea.2.2.1
  have j1b := hb.2.1
  have j2b := hb.2.2.1
  have j3b := eb.2.1
  have j4b := eb.2.2.1
  have X := hid (bx_alloc (bx_alloc (bx_refl w) (.cells #[.bool ga, .slice Aa na ca, .slice Da ma da] 50)) (.cells #[.bool gb, .slice Ab nb cb, .slice Db mb db] 50))
  have Ka : Hid (Blk ((w.alloc (.cells #[.bool ga, .slice Aa na ca, .slice Da ma da] 50)).alloc (.cells #[.bool gb, .slice Ab nb cb, .slice Db mb db] 50)) (w.heap.size) [.bool ga, .slice Aa na ca, .slice Da ma da] 50) := hid (by have t := ((Blk.new w [.bool ga, .slice Aa na ca, .slice Da ma da] 50).alloc (.cells #[.bool gb, .slice Ab nb cb, .slice Db mb db] 50)); (try simp only [World.size_alloc] at t); exact t)
  have Kb : Hid (Blk ((w.alloc (.cells #[.bool ga, .slice Aa na ca, .slice Da ma da] 50)).alloc (.cells #[.bool gb, .slice Ab nb cb, .slice Db mb db] 50)) (w.heap.size + 1) [.bool gb, .slice Ab nb cb, .slice Db mb db] 50) := hid (by have t := (Blk.new (w.alloc (.cells #[.bool ga, .slice Aa na ca, .slice Da ma da] 50)) [.bool gb, .slice Ab nb cb, .slice Db mb db] 50); (try simp only [World.size_alloc] at t); exact t)
  have Ra := hid (ha.keep X.out)
  have Sa := hid (ea.keep X.out)
  have Rb := hid (hb.keep X.out)
  have Sb := hid (eb.keep X.out)
  clear ha ea hb eb
  by_cases hf : (na ≤ 6 ∧ ma ≤ 6) ∧ (nb ≤ 6 ∧ mb ≤ 6)
  · obtain ⟨⟨qa, ua⟩, ⟨qb, ub⟩⟩ := hf
    go_enter Try.func11, Try.ntmps11
    go_wp2_with fail
    refine (qawake_any _).mono ?_
    rintro e w1 ⟨rfl, b⟩
    have Ra_1 := hid (Ra.out.keep b)
    have Sa_1 := hid (Sa.out.keep b)
    have Ka_1 := hid (Ka.out.keep b)
    have Rb_1 := hid (Rb.out.keep b)
    have Sb_1 := hid (Sb.out.keep b)
    have Kb_1 := hid (Kb.out.keep b)
    have X_1 := hid (bx_call X.out b)
    clear b X Ra Sa Ka Rb Sb Kb
    obtain ⟨ka0, ka1, ka2⟩ := blk_three Ka_1.out
    obtain ⟨kb0, kb1, kb2⟩ := blk_three Kb_1.out
    have cc := qfew2 (k := 6) (by omega) (Blk.new w1 [.bool ga, .slice Aa na ca, .slice Da ma da, .bool gb, .slice Ab nb cb, .slice Db mb db] 50) (by omega) (by omega) (by omega) (by omega)
    rw [decide_eq_true ⟨⟨qa, ua⟩, ⟨qb, ub⟩⟩] at cc
    have CC := hid cc
    clear cc
    go_wp2_with fail
    refine (CC.out).mono ?_
    rintro e w2 ⟨rfl, b0⟩
    have b := bx_call (bx_alloc (bx_refl w1) (.cells #[.bool ga, .slice Aa na ca, .slice Da ma da, .bool gb, .slice Ab nb cb, .slice Db mb db] 50)) b0
    have Ka_2 := hid (Ka_1.out.keep b)
    obtain ⟨za, hza⟩ : ∃ z, z = mkRat (iv ga xsa) (dv1 dsa) := ⟨_, rfl⟩
    have Va_2 := hid (show FrV w2 ga Aa na ca Da ma da 6 za from ⟨xsa, dsa, Ra_1.out.keep b, qa, Sa_1.out.keep b, ua, by omega, hza.symm⟩)
    have Kb_2 := hid (Kb_1.out.keep b)
    obtain ⟨zb, hzb⟩ : ∃ z, z = mkRat (iv gb xsb) (dv1 dsb) := ⟨_, rfl⟩
    have Vb_2 := hid (show FrV w2 gb Ab nb cb Db mb db 6 zb from ⟨xsb, dsb, Rb_1.out.keep b, qb, Sb_1.out.keep b, ub, by omega, hzb.symm⟩)
    have X_2 := hid (bx_call X_1.out b)
    clear CC b b0 X_1 Ra_1 Sa_1 Ka_1 hza ka0 ka1 ka2 Rb_1 Sb_1 Kb_1 hzb kb0 kb1 kb2
    obtain ⟨zd, hz0⟩ : ∃ z : Int, z = if zb = 0 then 2 else 0 := ⟨_, rfl⟩
    have hzd := hid hz0
    clear hz0
    obtain ⟨qd, hq0⟩ : ∃ q, q = za / zb := ⟨_, rfl⟩
    have hqd := hid hq0
    clear hq0
    obtain ⟨ka0, ka1, ka2⟩ := blk_three Ka_2.out
    obtain ⟨kb0, kb1, kb2⟩ := blk_three Kb_2.out
    have cc := vdiv ga Aa na ca Da ma da gb Ab nb cb Db mb db 6 (za) (zb) w2 (Va_2.out) (Vb_2.out) (by omega)
    rw [← hzd.out, ← hqd.out] at cc
    have CC := hid cc
    clear cc
    go_wp2_with fail
    refine (CC.out).mono ?_
    rintro e w3 ⟨Ap, np, cp, Dp, mp, dp, rfl, r, b0⟩
    have jp1p := r.1.2.1
    have jp2p := r.1.2.2.1
    have jp3p := r.2.2.1.2.1
    have jp4p := r.2.2.1.2.2.1
    have o := bx_alloc (bx_refl w3) (.cells #[.bool (sg (qd).num), .slice Ap np cp, .slice Dp mp dp] 50)
    have b := bx_call b0 o
    have Lp := hid (r.keep o)
    have Kp := hid (Blk.new w3 [.bool (sg (qd).num), .slice Ap np cp, .slice Dp mp dp] 50)
    clear r b0 o
    have Va_3 := hid (Va_2.out.keep b)
    have Ka_3 := hid (Ka_2.out.keep b)
    have Vb_3 := hid (Vb_2.out.keep b)
    have Kb_3 := hid (Kb_2.out.keep b)
    have X_3 := hid (bx_call X_2.out b)
    clear CC b ka0 ka1 ka2 kb0 kb1 kb2 Va_2 Ka_2 Vb_2 Kb_2 X_2
    obtain ⟨v3, hv⟩ : ∃ W, W = w3.alloc (.cells #[.bool (sg (qd).num), .slice Ap np cp, .slice Dp mp dp] 50) := ⟨_, rfl⟩
    obtain ⟨bp, hbp⟩ : ∃ i, i = w3.heap.size := ⟨_, rfl⟩
    rw [← hv] at Va_3 Ka_3 Vb_3 Kb_3 Lp Kp X_3
    rw [← hbp] at Kp
    go_upto_region 4 with fail
    rw [← hv, ← hbp]
    clear hv hbp
    obtain ⟨ka0, ka1, ka2⟩ := blk_three Ka_3.out
    obtain ⟨kb0, kb1, kb2⟩ := blk_three Kb_3.out
    obtain ⟨kp0, kp1, kp2⟩ := blk_three Kp.out
    have cc := vrdiv ga Aa na ca Da ma da gb Ab nb cb Db mb db 6 (za) (zb) v3 (Va_3.out) (Vb_3.out) (by omega)
    rw [← hzd.out, ← hqd.out] at cc
    have CC := hid cc
    clear cc
    go_wp2_with fail
    refine (CC.out).mono ?_
    rintro e w4 ⟨Aq, nq, cq, Dq, mq, dq, rfl, r, b0⟩
    have jp1q := r.1.2.1
    have jp2q := r.1.2.2.1
    have jp3q := r.2.2.1.2.1
    have jp4q := r.2.2.1.2.2.1
    have o := bx_alloc (bx_refl w4) (.cells #[.bool (sg (qd).num), .slice Aq nq cq, .slice Dq mq dq] 50)
    have b := bx_call b0 o
    have Lq := hid (r.keep o)
    have Kq := hid (Blk.new w4 [.bool (sg (qd).num), .slice Aq nq cq, .slice Dq mq dq] 50)
    clear r b0 o
    have Va_4 := hid (Va_3.out.keep b)
    have Ka_4 := hid (Ka_3.out.keep b)
    have Vb_4 := hid (Vb_3.out.keep b)
    have Kb_4 := hid (Kb_3.out.keep b)
    have Lp_4 := hid (Lp.out.keep b)
    have Kp_4 := hid (Kp.out.keep b)
    have X_4 := hid (bx_call X_3.out b)
    clear CC b ka0 ka1 ka2 kb0 kb1 kb2 kp0 kp1 kp2 Va_3 Ka_3 Vb_3 Kb_3 Lp Kp X_3
    obtain ⟨v4, hv⟩ : ∃ W, W = w4.alloc (.cells #[.bool (sg (qd).num), .slice Aq nq cq, .slice Dq mq dq] 50) := ⟨_, rfl⟩
    obtain ⟨bq, hbp⟩ : ∃ i, i = w4.heap.size := ⟨_, rfl⟩
    rw [← hv] at Va_4 Ka_4 Vb_4 Kb_4 Lp_4 Kp_4 Lq Kq X_4
    rw [← hbp] at Kq
    go_upto_region 5 with fail
    rw [← hv, ← hbp]
    clear hv hbp
    obtain ⟨sc, hsc⟩ : ∃ s, s = sgnQ (za - zb) := ⟨_, rfl⟩
    (try simp only [List.append_eq, List.cons_append, List.nil_append])
    refine wp_region_noPanic ?_
    refine wp_region_held_drew (S := (fun W => (W.cell? ⟨w.heap.size, 0, none⟩ = some (.bool ga) ∧ W.cell? ⟨w.heap.size, 1, none⟩ = some (.slice Aa na ca) ∧ W.cell? ⟨w.heap.size, 2, none⟩ = some (.slice Da ma da)) ∧ (W.cell? ⟨w.heap.size + 1, 0, none⟩ = some (.bool gb) ∧ W.cell? ⟨w.heap.size + 1, 1, none⟩ = some (.slice Ab nb cb) ∧ W.cell? ⟨w.heap.size + 1, 2, none⟩ = some (.slice Db mb db)) ∧ (W.cell? ⟨bp, 0, none⟩ = some (.bool (sg (qd).num)) ∧ W.cell? ⟨bp, 1, none⟩ = some (.slice Ap np cp) ∧ W.cell? ⟨bp, 2, none⟩ = some (.slice Dp mp dp)) ∧ (W.cell? ⟨bq, 0, none⟩ = some (.bool (sg (qd).num)) ∧ W.cell? ⟨bq, 1, none⟩ = some (.slice Aq nq cq) ∧ W.cell? ⟨bq, 2, none⟩ = some (.slice Dq mq dq)))) (by kernel_rfl) ?_ (fun hH => ?_)
    exact (And.intro (blk_three Ka_4.out) (And.intro (blk_three Kb_4.out) (And.intro (blk_three Kp_4.out) (blk_three Kq.out))))
    have bd := bx_drew (bx_refl v4)
    obtain ⟨w5, hW0⟩ : ∃ W, W = v4.drew := ⟨_, rfl⟩
    rw [← hW0] at bd hH ⊢
    clear hW0
    have Va_5 := hid (Va_4.out.keep bd)
    have Ka_5 := hid (Ka_4.out.keep bd)
    have Vb_5 := hid (Vb_4.out.keep bd)
    have Kb_5 := hid (Kb_4.out.keep bd)
    have Lp_5 := hid (Lp_4.out.keep bd)
    have Kp_5 := hid (Kp_4.out.keep bd)
    have Lq_5 := hid (Lq.out.keep bd)
    have Kq_5 := hid (Kq.out.keep bd)
    have X_5 := hid (bx_call X_4.out bd)
    clear bd Va_4 Ka_4 Vb_4 Kb_4 Lp_4 Kp_4 Lq Kq X_4
    refine wpAnyH_take (i := 0) (v := ?_) (by simp only [gx0, gx2]; rfl) (by kernel_rfl) (by kernel_rfl) (by kernel_rfl) (fun _ _ _ h => h) (.inl ⟨by rfl, ?_⟩) hH ?_
    rotate_left
    · intro w hSw; (try dsimp only at hSw); first | (go_simp; done) | (go_simp; with_reducible rfl)
    (try simp only [Act.put, gy0, gy1, gy2])
    refine wpAnyH_take (i := 1) (v := ?_) (by simp only [gx0, gx1, gx2]; rfl) (by kernel_rfl) (by kernel_rfl) (by kernel_rfl) (fun _ _ _ h => h) (.inl ⟨by rfl, ?_⟩) hH ?_
    rotate_left
    · intro w hSw; (try dsimp only at hSw); first | (go_simp; done) | (go_simp; with_reducible rfl)
    (try simp only [Act.put, gy0, gy1, gy2])
    refine wpAnyH_take (i := 3) (v := ?_) (by simp only [gx0, gx1, gx2]; rfl) (by kernel_rfl) (by kernel_rfl) (by kernel_rfl) (fun _ _ _ h => h) (.inl ⟨by rfl, ?_⟩) hH ?_
    rotate_left
    · intro w hSw; (try dsimp only at hSw); first | (go_simp; done) | (go_simp; with_reducible rfl)
    (try simp only [Act.put, gy0, gy1, gy2])
    refine wpAnyH_take (i := 4) (v := ?_) (by simp only [gx0, gx1, gx2]; rfl) (by kernel_rfl) (by kernel_rfl) (by kernel_rfl) (fun _ _ _ h => h) (.inl ⟨by rfl, ?_⟩) hH ?_
    rotate_left
    · intro w hSw; (try dsimp only at hSw); first | (go_simp; done) | (go_simp; with_reducible rfl)
    (try simp only [Act.put, gy0, gy1, gy2])
    refine wpAnyH_ready (rs := [2]) (by kernel_rfl) (by simp) ?_
    refine AllReadyH.cons (by simp only [gx0, gx1, gx2]; rfl) (fun K hK => ?_) AllReadyH.nil
    go_simp
    have cc := vcmp ga Aa na ca Da ma da gb Ab nb cb Db mb db 6 (za) (zb) w5 (Va_5.out) (Vb_5.out) (by omega)
    rw [← hsc] at cc
    refine cc.mono ?_
    rintro e w6 ⟨rfl, b⟩
    clear cc hH
    have Va_6 := hid (Va_5.out.keep b)
    have Ka_6 := hid (Ka_5.out.keep b)
    have Vb_6 := hid (Vb_5.out.keep b)
    have Kb_6 := hid (Kb_5.out.keep b)
    have Lp_6 := hid (Lp_5.out.keep b)
    have Kp_6 := hid (Kp_5.out.keep b)
    have Lq_6 := hid (Lq_5.out.keep b)
    have Kq_6 := hid (Kq_5.out.keep b)
    have X_6 := hid (bx_call X_5.out b)
    clear b Va_5 Ka_5 Vb_5 Kb_5 Lp_5 Kp_5 Lq_5 Kq_5 X_5
    (try go_wp2_with fail)
    refine hK.out _ _ ?_ (fun hH => ?_)
    exact (And.intro (blk_three Ka_6.out) (And.intro (blk_three Kb_6.out) (And.intro (blk_three Kp_6.out) (blk_three Kq_6.out))))
    clear hK K
    (try simp only [Act.put, gy0, gy1, gy2])
    refine wpAnyH_ready (rs := [5]) (by kernel_rfl) (by simp) ?_
    refine AllReadyH.cons (by simp only [gx0, gx1, gx2]; rfl) (fun K hK => ?_) AllReadyH.nil
    go_simp
    have cc := vrcmp ga Aa na ca Da ma da gb Ab nb cb Db mb db 6 (za) (zb) w6 (Va_6.out) (Vb_6.out) (by omega)
    rw [← hsc] at cc
    refine cc.mono ?_
    rintro e w7 ⟨rfl, b⟩
    clear cc hH
    have Va_7 := hid (Va_6.out.keep b)
    have Ka_7 := hid (Ka_6.out.keep b)
    have Vb_7 := hid (Vb_6.out.keep b)
    have Kb_7 := hid (Kb_6.out.keep b)
    have Lp_7 := hid (Lp_6.out.keep b)
    have Kp_7 := hid (Kp_6.out.keep b)
    have Lq_7 := hid (Lq_6.out.keep b)
    have Kq_7 := hid (Kq_6.out.keep b)
    have X_7 := hid (bx_call X_6.out b)
    clear b Va_6 Ka_6 Vb_6 Kb_6 Lp_6 Kp_6 Lq_6 Kq_6 X_6
    (try go_wp2_with fail)
    refine hK.out _ _ ?_ (fun hH => ?_)
    exact (And.intro (blk_three Ka_7.out) (And.intro (blk_three Kb_7.out) (And.intro (blk_three Kp_7.out) (blk_three Kq_7.out))))
    clear hK K
    (try simp only [Act.put, gy0, gy1, gy2])
    refine wpAnyH_take (i := 6) (v := ?_) (by simp only [gx0, gx1, gx2]; rfl) (by kernel_rfl) (by kernel_rfl) (by kernel_rfl) (fun _ _ _ h => h) (.inl ⟨by rfl, ?_⟩) hH ?_
    rotate_left
    · intro w hSw; (try dsimp only at hSw); first | (go_simp; done) | (go_simp; with_reducible rfl)
    (try simp only [Act.put, gy0, gy1, gy2])
    refine wpAnyH_take (i := 7) (v := ?_) (by simp only [gx0, gx1, gx2]; rfl) (by kernel_rfl) (by kernel_rfl) (by kernel_rfl) (fun _ _ _ h => h) (.inl ⟨by rfl, ?_⟩) hH ?_
    rotate_left
    · intro w hSw; (try dsimp only at hSw); first | (go_simp; done) | (go_simp; with_reducible rfl)
    (try simp only [Act.put, gy0, gy1, gy2])
    refine wpAnyH_take (i := 8) (v := ?_) (by simp only [gx0, gx1, gx2]; rfl) (by kernel_rfl) (by kernel_rfl) (by kernel_rfl) (fun _ _ _ h => h) (.inl ⟨by rfl, ?_⟩) hH ?_
    rotate_left
    · intro w hSw; (try dsimp only at hSw); first | (go_simp; done) | (go_simp; with_reducible rfl)
    (try simp only [Act.put, gy0, gy1, gy2])
    refine wpAnyH_take (i := 10) (v := ?_) (by simp only [gx0, gx1, gx2]; rfl) (by kernel_rfl) (by kernel_rfl) (by kernel_rfl) (fun _ _ _ h => h) (.inl ⟨by rfl, ?_⟩) hH ?_
    rotate_left
    · intro w hSw; (try dsimp only at hSw); first | (go_simp; done) | (go_simp; with_reducible rfl)
    (try simp only [Act.put, gy0, gy1, gy2])
    refine wpAnyH_ready (rs := [9]) (by kernel_rfl) (by simp) ?_
    refine AllReadyH.cons (by simp only [gx0, gx1, gx2]; rfl) (fun K hK => ?_) AllReadyH.nil
    go_simp
    have cc := vneg ga Aa na ca Da ma da 6 (za) w7 (Va_7.out) (by omega)
    refine cc.mono ?_
    rintro e w8 ⟨Ar1, nr1, cr1, Dr1, mr1, dr1, rfl, r, b⟩
    clear cc hH
    have Lr1 := hid r
    clear r
    have Va_8 := hid (Va_7.out.keep b)
    have Ka_8 := hid (Ka_7.out.keep b)
    have Vb_8 := hid (Vb_7.out.keep b)
    have Kb_8 := hid (Kb_7.out.keep b)
    have Lp_8 := hid (Lp_7.out.keep b)
    have Kp_8 := hid (Kp_7.out.keep b)
    have Lq_8 := hid (Lq_7.out.keep b)
    have Kq_8 := hid (Kq_7.out.keep b)
    have X_8 := hid (bx_call X_7.out b)
    clear b Va_7 Ka_7 Vb_7 Kb_7 Lp_7 Kp_7 Lq_7 Kq_7 X_7
    (try go_wp2_with fail)
    refine hK.out _ _ ?_ (fun hH => ?_)
    exact (And.intro (blk_three Ka_8.out) (And.intro (blk_three Kb_8.out) (And.intro (blk_three Kp_8.out) (blk_three Kq_8.out))))
    clear hK K
    (try simp only [Act.put, gy0, gy1, gy2])
    refine wpAnyH_ready (rs := [11]) (by kernel_rfl) (by simp) ?_
    refine AllReadyH.cons (by simp only [gx0, gx1, gx2]; rfl) (fun K hK => ?_) AllReadyH.nil
    go_simp
    have cc := vrneg ga Aa na ca Da ma da 6 (za) w8 (Va_8.out) (by omega)
    refine cc.mono ?_
    rintro e w9 ⟨Ar2, nr2, cr2, Dr2, mr2, dr2, rfl, r, b⟩
    clear cc hH
    have Lr2 := hid r
    clear r
    have Va_9 := hid (Va_8.out.keep b)
    have Ka_9 := hid (Ka_8.out.keep b)
    have Vb_9 := hid (Vb_8.out.keep b)
    have Kb_9 := hid (Kb_8.out.keep b)
    have Lp_9 := hid (Lp_8.out.keep b)
    have Kp_9 := hid (Kp_8.out.keep b)
    have Lq_9 := hid (Lq_8.out.keep b)
    have Kq_9 := hid (Kq_8.out.keep b)
    have Lr1_9 := hid (Lr1.out.keep b)
    have X_9 := hid (bx_call X_8.out b)
    clear b Va_8 Ka_8 Vb_8 Kb_8 Lp_8 Kp_8 Lq_8 Kq_8 Lr1 X_8
    (try go_wp2_with fail)
    refine hK.out _ _ ?_ (fun hH => ?_)
    exact (And.intro (blk_three Ka_9.out) (And.intro (blk_three Kb_9.out) (And.intro (blk_three Kp_9.out) (blk_three Kq_9.out))))
    clear hK K
    (try simp only [Act.put, gy0, gy1, gy2])
    refine wpAnyH_ready (rs := [12]) (by kernel_rfl) (by simp) ?_
    refine AllReadyH.cons (by simp only [gx0, gx1, gx2]; rfl) (fun K hK => ?_) AllReadyH.nil
    go_simp
    have cc := vsame (Lr1_9.out) (Lr2.out)
    rw [decide_eq_true (show -(za) = -(za) from rfl)] at cc
    refine cc.mono ?_
    rintro e w10 ⟨rfl, b⟩
    clear cc hH
    have Va_10 := hid (Va_9.out.keep b)
    have Ka_10 := hid (Ka_9.out.keep b)
    have Vb_10 := hid (Vb_9.out.keep b)
    have Kb_10 := hid (Kb_9.out.keep b)
    have Lp_10 := hid (Lp_9.out.keep b)
    have Kp_10 := hid (Kp_9.out.keep b)
    have Lq_10 := hid (Lq_9.out.keep b)
    have Kq_10 := hid (Kq_9.out.keep b)
    have Lr1_10 := hid (Lr1_9.out.keep b)
    have Lr2_10 := hid (Lr2.out.keep b)
    have X_10 := hid (bx_call X_9.out b)
    clear b Va_9 Ka_9 Vb_9 Kb_9 Lp_9 Kp_9 Lq_9 Kq_9 Lr1_9 Lr2 X_9
    (try go_wp2_with fail)
    refine hK.out _ _ ?_ (fun hH => ?_)
    exact (And.intro (blk_three Ka_10.out) (And.intro (blk_three Kb_10.out) (And.intro (blk_three Kp_10.out) (blk_three Kq_10.out))))
    clear hK K
    (try simp only [Act.put, gy0, gy1, gy2])
    refine wpAnyH_take (i := 13) (v := ?_) (by simp only [gx0, gx1, gx2]; rfl) (by kernel_rfl) (by kernel_rfl) (by kernel_rfl) (fun _ _ _ h => h) (.inl ⟨by rfl, ?_⟩) hH ?_
    rotate_left
    · intro w hSw; (try dsimp only at hSw); first | (go_simp; done) | (go_simp; with_reducible rfl)
    (try simp only [Act.put, gy0, gy1, gy2])
    refine wpAnyH_take (i := 14) (v := ?_) (by simp only [gx0, gx1, gx2]; rfl) (by kernel_rfl) (by kernel_rfl) (by kernel_rfl) (fun _ _ _ h => h) (.inl ⟨by rfl, ?_⟩) hH ?_
    rotate_left
    · intro w hSw; (try dsimp only at hSw); first | (go_simp; done) | (go_simp; with_reducible rfl)
    (try simp only [Act.put, gy0, gy1, gy2])
    refine wpAnyH_take (i := 15) (v := ?_) (by simp only [gx0, gx1, gx2]; rfl) (by kernel_rfl) (by kernel_rfl) (by kernel_rfl) (fun _ _ _ h => h) (.inl ⟨by rfl, ?_⟩) hH ?_
    rotate_left
    · intro w hSw; (try dsimp only at hSw); first | (go_simp; done) | (go_simp; with_reducible rfl)
    (try simp only [Act.put, gy0, gy1, gy2])
    refine wpAnyH_take (i := 16) (v := ?_) (by simp only [gx0, gx1, gx2]; rfl) (by kernel_rfl) (by kernel_rfl) (by kernel_rfl) (fun _ _ _ h => h) (.inl ⟨by rfl, ?_⟩) hH ?_
    rotate_left
    · intro w hSw; (try dsimp only at hSw); first | (go_simp; done) | (go_simp; with_reducible rfl)
    (try simp only [Act.put, gy0, gy1, gy2])
    refine wpAnyH_take (i := 18) (v := ?_) (by simp only [gx0, gx1, gx2]; rfl) (by kernel_rfl) (by kernel_rfl) (by kernel_rfl) (fun _ _ _ h => h) (.inl ⟨by rfl, ?_⟩) hH ?_
    rotate_left
    · intro w hSw; (try dsimp only at hSw); first | (go_simp; done) | (go_simp; with_reducible rfl)
    (try simp only [Act.put, gy0, gy1, gy2])
    refine wpAnyH_take (i := 19) (v := ?_) (by simp only [gx0, gx1, gx2]; rfl) (by kernel_rfl) (by kernel_rfl) (by kernel_rfl) (fun _ _ _ h => h) (.inl ⟨by rfl, ?_⟩) hH ?_
    rotate_left
    · intro w hSw; (try dsimp only at hSw); first | (go_simp; done) | (go_simp; with_reducible rfl)
    (try simp only [Act.put, gy0, gy1, gy2])
    refine wpAnyH_ready (rs := [17]) (by kernel_rfl) (by simp) ?_
    refine AllReadyH.cons (by simp only [gx0, gx1, gx2]; rfl) (fun K hK => ?_) AllReadyH.nil
    go_simp
    have cc := vadd ga Aa na ca Da ma da gb Ab nb cb Db mb db 6 (za) (zb) w10 (Va_10.out) (Vb_10.out) (by omega)
    refine cc.mono ?_
    rintro e w11 ⟨Ar3, nr3, cr3, Dr3, mr3, dr3, rfl, r, b⟩
    clear cc hH
    have Lr3 := hid r
    clear r
    have Va_11 := hid (Va_10.out.keep b)
    have Ka_11 := hid (Ka_10.out.keep b)
    have Vb_11 := hid (Vb_10.out.keep b)
    have Kb_11 := hid (Kb_10.out.keep b)
    have Lp_11 := hid (Lp_10.out.keep b)
    have Kp_11 := hid (Kp_10.out.keep b)
    have Lq_11 := hid (Lq_10.out.keep b)
    have Kq_11 := hid (Kq_10.out.keep b)
    have Lr1_11 := hid (Lr1_10.out.keep b)
    have Lr2_11 := hid (Lr2_10.out.keep b)
    have X_11 := hid (bx_call X_10.out b)
    clear b Va_10 Ka_10 Vb_10 Kb_10 Lp_10 Kp_10 Lq_10 Kq_10 Lr1_10 Lr2_10 X_10
    (try go_wp2_with fail)
    refine hK.out _ _ ?_ (fun hH => ?_)
    exact (And.intro (blk_three Ka_11.out) (And.intro (blk_three Kb_11.out) (And.intro (blk_three Kp_11.out) (blk_three Kq_11.out))))
    clear hK K
    (try simp only [Act.put, gy0, gy1, gy2])
    refine wpAnyH_ready (rs := [20]) (by kernel_rfl) (by simp) ?_
    refine AllReadyH.cons (by simp only [gx0, gx1, gx2]; rfl) (fun K hK => ?_) AllReadyH.nil
    go_simp
    have cc := vradd ga Aa na ca Da ma da gb Ab nb cb Db mb db 6 (za) (zb) w11 (Va_11.out) (Vb_11.out) (by omega)
    refine cc.mono ?_
    rintro e w12 ⟨Ar4, nr4, cr4, Dr4, mr4, dr4, rfl, r, b⟩
    clear cc hH
    have Lr4 := hid r
    clear r
    have Va_12 := hid (Va_11.out.keep b)
    have Ka_12 := hid (Ka_11.out.keep b)
    have Vb_12 := hid (Vb_11.out.keep b)
    have Kb_12 := hid (Kb_11.out.keep b)
    have Lp_12 := hid (Lp_11.out.keep b)
    have Kp_12 := hid (Kp_11.out.keep b)
    have Lq_12 := hid (Lq_11.out.keep b)
    have Kq_12 := hid (Kq_11.out.keep b)
    have Lr1_12 := hid (Lr1_11.out.keep b)
    have Lr2_12 := hid (Lr2_11.out.keep b)
    have Lr3_12 := hid (Lr3.out.keep b)
    have X_12 := hid (bx_call X_11.out b)
    clear b Va_11 Ka_11 Vb_11 Kb_11 Lp_11 Kp_11 Lq_11 Kq_11 Lr1_11 Lr2_11 Lr3 X_11
    (try go_wp2_with fail)
    refine hK.out _ _ ?_ (fun hH => ?_)
    exact (And.intro (blk_three Ka_12.out) (And.intro (blk_three Kb_12.out) (And.intro (blk_three Kp_12.out) (blk_three Kq_12.out))))
    clear hK K
    (try simp only [Act.put, gy0, gy1, gy2])
    refine wpAnyH_ready (rs := [21]) (by kernel_rfl) (by simp) ?_
    refine AllReadyH.cons (by simp only [gx0, gx1, gx2]; rfl) (fun K hK => ?_) AllReadyH.nil
    go_simp
    have cc := vsame (Lr3_12.out) (Lr4.out)
    rw [decide_eq_true (show za + zb = za + zb from rfl)] at cc
    refine cc.mono ?_
    rintro e w13 ⟨rfl, b⟩
    clear cc hH
    have Va_13 := hid (Va_12.out.keep b)
    have Ka_13 := hid (Ka_12.out.keep b)
    have Vb_13 := hid (Vb_12.out.keep b)
    have Kb_13 := hid (Kb_12.out.keep b)
    have Lp_13 := hid (Lp_12.out.keep b)
    have Kp_13 := hid (Kp_12.out.keep b)
    have Lq_13 := hid (Lq_12.out.keep b)
    have Kq_13 := hid (Kq_12.out.keep b)
    have Lr1_13 := hid (Lr1_12.out.keep b)
    have Lr2_13 := hid (Lr2_12.out.keep b)
    have Lr3_13 := hid (Lr3_12.out.keep b)
    have Lr4_13 := hid (Lr4.out.keep b)
    have X_13 := hid (bx_call X_12.out b)
    clear b Va_12 Ka_12 Vb_12 Kb_12 Lp_12 Kp_12 Lq_12 Kq_12 Lr1_12 Lr2_12 Lr3_12 Lr4 X_12
    (try go_wp2_with fail)
    refine hK.out _ _ ?_ (fun hH => ?_)
    exact (And.intro (blk_three Ka_13.out) (And.intro (blk_three Kb_13.out) (And.intro (blk_three Kp_13.out) (blk_three Kq_13.out))))
    clear hK K
    (try simp only [Act.put, gy0, gy1, gy2])
    refine wpAnyH_take (i := 22) (v := ?_) (by simp only [gx0, gx1, gx2]; rfl) (by kernel_rfl) (by kernel_rfl) (by kernel_rfl) (fun _ _ _ h => h) (.inl ⟨by rfl, ?_⟩) hH ?_
    rotate_left
    · intro w hSw; (try dsimp only at hSw); first | (go_simp; done) | (go_simp; with_reducible rfl)
    (try simp only [Act.put, gy0, gy1, gy2])
    refine wpAnyH_take (i := 23) (v := ?_) (by simp only [gx0, gx1, gx2]; rfl) (by kernel_rfl) (by kernel_rfl) (by kernel_rfl) (fun _ _ _ h => h) (.inl ⟨by rfl, ?_⟩) hH ?_
    rotate_left
    · intro w hSw; (try dsimp only at hSw); first | (go_simp; done) | (go_simp; with_reducible rfl)
    (try simp only [Act.put, gy0, gy1, gy2])
    refine wpAnyH_take (i := 24) (v := ?_) (by simp only [gx0, gx1, gx2]; rfl) (by kernel_rfl) (by kernel_rfl) (by kernel_rfl) (fun _ _ _ h => h) (.inl ⟨by rfl, ?_⟩) hH ?_
    rotate_left
    · intro w hSw; (try dsimp only at hSw); first | (go_simp; done) | (go_simp; with_reducible rfl)
    (try simp only [Act.put, gy0, gy1, gy2])
    refine wpAnyH_take (i := 25) (v := ?_) (by simp only [gx0, gx1, gx2]; rfl) (by kernel_rfl) (by kernel_rfl) (by kernel_rfl) (fun _ _ _ h => h) (.inl ⟨by rfl, ?_⟩) hH ?_
    rotate_left
    · intro w hSw; (try dsimp only at hSw); first | (go_simp; done) | (go_simp; with_reducible rfl)
    (try simp only [Act.put, gy0, gy1, gy2])
    refine wpAnyH_take (i := 27) (v := ?_) (by simp only [gx0, gx1, gx2]; rfl) (by kernel_rfl) (by kernel_rfl) (by kernel_rfl) (fun _ _ _ h => h) (.inl ⟨by rfl, ?_⟩) hH ?_
    rotate_left
    · intro w hSw; (try dsimp only at hSw); first | (go_simp; done) | (go_simp; with_reducible rfl)
    (try simp only [Act.put, gy0, gy1, gy2])
    refine wpAnyH_take (i := 28) (v := ?_) (by simp only [gx0, gx1, gx2]; rfl) (by kernel_rfl) (by kernel_rfl) (by kernel_rfl) (fun _ _ _ h => h) (.inl ⟨by rfl, ?_⟩) hH ?_
    rotate_left
    · intro w hSw; (try dsimp only at hSw); first | (go_simp; done) | (go_simp; with_reducible rfl)
    (try simp only [Act.put, gy0, gy1, gy2])
    refine wpAnyH_ready (rs := [26]) (by kernel_rfl) (by simp) ?_
    refine AllReadyH.cons (by simp only [gx0, gx1, gx2]; rfl) (fun K hK => ?_) AllReadyH.nil
    go_simp
    have cc := vsub ga Aa na ca Da ma da gb Ab nb cb Db mb db 6 (za) (zb) w13 (Va_13.out) (Vb_13.out) (by omega)
    refine cc.mono ?_
    rintro e w14 ⟨Ar5, nr5, cr5, Dr5, mr5, dr5, rfl, r, b⟩
    clear cc hH
    have Lr5 := hid r
    clear r
    have Va_14 := hid (Va_13.out.keep b)
    have Ka_14 := hid (Ka_13.out.keep b)
    have Vb_14 := hid (Vb_13.out.keep b)
    have Kb_14 := hid (Kb_13.out.keep b)
    have Lp_14 := hid (Lp_13.out.keep b)
    have Kp_14 := hid (Kp_13.out.keep b)
    have Lq_14 := hid (Lq_13.out.keep b)
    have Kq_14 := hid (Kq_13.out.keep b)
    have Lr1_14 := hid (Lr1_13.out.keep b)
    have Lr2_14 := hid (Lr2_13.out.keep b)
    have Lr3_14 := hid (Lr3_13.out.keep b)
    have Lr4_14 := hid (Lr4_13.out.keep b)
    have X_14 := hid (bx_call X_13.out b)
    clear b Va_13 Ka_13 Vb_13 Kb_13 Lp_13 Kp_13 Lq_13 Kq_13 Lr1_13 Lr2_13 Lr3_13 Lr4_13 X_13
    (try go_wp2_with fail)
    refine hK.out _ _ ?_ (fun hH => ?_)
    exact (And.intro (blk_three Ka_14.out) (And.intro (blk_three Kb_14.out) (And.intro (blk_three Kp_14.out) (blk_three Kq_14.out))))
    clear hK K
    (try simp only [Act.put, gy0, gy1, gy2])
    refine wpAnyH_ready (rs := [29]) (by kernel_rfl) (by simp) ?_
    refine AllReadyH.cons (by simp only [gx0, gx1, gx2]; rfl) (fun K hK => ?_) AllReadyH.nil
    go_simp
    have cc := vrsub ga Aa na ca Da ma da gb Ab nb cb Db mb db 6 (za) (zb) w14 (Va_14.out) (Vb_14.out) (by omega)
    refine cc.mono ?_
    rintro e w15 ⟨Ar6, nr6, cr6, Dr6, mr6, dr6, rfl, r, b⟩
    clear cc hH
    have Lr6 := hid r
    clear r
    have Va_15 := hid (Va_14.out.keep b)
    have Ka_15 := hid (Ka_14.out.keep b)
    have Vb_15 := hid (Vb_14.out.keep b)
    have Kb_15 := hid (Kb_14.out.keep b)
    have Lp_15 := hid (Lp_14.out.keep b)
    have Kp_15 := hid (Kp_14.out.keep b)
    have Lq_15 := hid (Lq_14.out.keep b)
    have Kq_15 := hid (Kq_14.out.keep b)
    have Lr1_15 := hid (Lr1_14.out.keep b)
    have Lr2_15 := hid (Lr2_14.out.keep b)
    have Lr3_15 := hid (Lr3_14.out.keep b)
    have Lr4_15 := hid (Lr4_14.out.keep b)
    have Lr5_15 := hid (Lr5.out.keep b)
    have X_15 := hid (bx_call X_14.out b)
    clear b Va_14 Ka_14 Vb_14 Kb_14 Lp_14 Kp_14 Lq_14 Kq_14 Lr1_14 Lr2_14 Lr3_14 Lr4_14 Lr5 X_14
    (try go_wp2_with fail)
    refine hK.out _ _ ?_ (fun hH => ?_)
    exact (And.intro (blk_three Ka_15.out) (And.intro (blk_three Kb_15.out) (And.intro (blk_three Kp_15.out) (blk_three Kq_15.out))))
    clear hK K
    (try simp only [Act.put, gy0, gy1, gy2])
    refine wpAnyH_ready (rs := [30]) (by kernel_rfl) (by simp) ?_
    refine AllReadyH.cons (by simp only [gx0, gx1, gx2]; rfl) (fun K hK => ?_) AllReadyH.nil
    go_simp
    have cc := vsame (Lr5_15.out) (Lr6.out)
    rw [decide_eq_true (show za - (zb) = za - (zb) from rfl)] at cc
    refine cc.mono ?_
    rintro e w16 ⟨rfl, b⟩
    clear cc hH
    have Va_16 := hid (Va_15.out.keep b)
    have Ka_16 := hid (Ka_15.out.keep b)
    have Vb_16 := hid (Vb_15.out.keep b)
    have Kb_16 := hid (Kb_15.out.keep b)
    have Lp_16 := hid (Lp_15.out.keep b)
    have Kp_16 := hid (Kp_15.out.keep b)
    have Lq_16 := hid (Lq_15.out.keep b)
    have Kq_16 := hid (Kq_15.out.keep b)
    have Lr1_16 := hid (Lr1_15.out.keep b)
    have Lr2_16 := hid (Lr2_15.out.keep b)
    have Lr3_16 := hid (Lr3_15.out.keep b)
    have Lr4_16 := hid (Lr4_15.out.keep b)
    have Lr5_16 := hid (Lr5_15.out.keep b)
    have Lr6_16 := hid (Lr6.out.keep b)
    have X_16 := hid (bx_call X_15.out b)
    clear b Va_15 Ka_15 Vb_15 Kb_15 Lp_15 Kp_15 Lq_15 Kq_15 Lr1_15 Lr2_15 Lr3_15 Lr4_15 Lr5_15 Lr6 X_15
    (try go_wp2_with fail)
    refine hK.out _ _ ?_ (fun hH => ?_)
    exact (And.intro (blk_three Ka_16.out) (And.intro (blk_three Kb_16.out) (And.intro (blk_three Kp_16.out) (blk_three Kq_16.out))))
    clear hK K
    (try simp only [Act.put, gy0, gy1, gy2])
    refine wpAnyH_take (i := 31) (v := ?_) (by simp only [gx0, gx1, gx2]; rfl) (by kernel_rfl) (by kernel_rfl) (by kernel_rfl) (fun _ _ _ h => h) (.inl ⟨by rfl, ?_⟩) hH ?_
    rotate_left
    · intro w hSw; (try dsimp only at hSw); first | (go_simp; done) | (go_simp; with_reducible rfl)
    (try simp only [Act.put, gy0, gy1, gy2])
    refine wpAnyH_take (i := 32) (v := ?_) (by simp only [gx0, gx1, gx2]; rfl) (by kernel_rfl) (by kernel_rfl) (by kernel_rfl) (fun _ _ _ h => h) (.inl ⟨by rfl, ?_⟩) hH ?_
    rotate_left
    · intro w hSw; (try dsimp only at hSw); first | (go_simp; done) | (go_simp; with_reducible rfl)
    (try simp only [Act.put, gy0, gy1, gy2])
    refine wpAnyH_take (i := 33) (v := ?_) (by simp only [gx0, gx1, gx2]; rfl) (by kernel_rfl) (by kernel_rfl) (by kernel_rfl) (fun _ _ _ h => h) (.inl ⟨by rfl, ?_⟩) hH ?_
    rotate_left
    · intro w hSw; (try dsimp only at hSw); first | (go_simp; done) | (go_simp; with_reducible rfl)
    (try simp only [Act.put, gy0, gy1, gy2])
    refine wpAnyH_take (i := 34) (v := ?_) (by simp only [gx0, gx1, gx2]; rfl) (by kernel_rfl) (by kernel_rfl) (by kernel_rfl) (fun _ _ _ h => h) (.inl ⟨by rfl, ?_⟩) hH ?_
    rotate_left
    · intro w hSw; (try dsimp only at hSw); first | (go_simp; done) | (go_simp; with_reducible rfl)
    (try simp only [Act.put, gy0, gy1, gy2])
    refine wpAnyH_take (i := 36) (v := ?_) (by simp only [gx0, gx1, gx2]; rfl) (by kernel_rfl) (by kernel_rfl) (by kernel_rfl) (fun _ _ _ h => h) (.inl ⟨by rfl, ?_⟩) hH ?_
    rotate_left
    · intro w hSw; (try dsimp only at hSw); first | (go_simp; done) | (go_simp; with_reducible rfl)
    (try simp only [Act.put, gy0, gy1, gy2])
    refine wpAnyH_take (i := 37) (v := ?_) (by simp only [gx0, gx1, gx2]; rfl) (by kernel_rfl) (by kernel_rfl) (by kernel_rfl) (fun _ _ _ h => h) (.inl ⟨by rfl, ?_⟩) hH ?_
    rotate_left
    · intro w hSw; (try dsimp only at hSw); first | (go_simp; done) | (go_simp; with_reducible rfl)
    (try simp only [Act.put, gy0, gy1, gy2])
    refine wpAnyH_ready (rs := [35]) (by kernel_rfl) (by simp) ?_
    refine AllReadyH.cons (by simp only [gx0, gx1, gx2]; rfl) (fun K hK => ?_) AllReadyH.nil
    go_simp
    have cc := vmul ga Aa na ca Da ma da gb Ab nb cb Db mb db 6 (za) (zb) w16 (Va_16.out) (Vb_16.out) (by omega)
    refine cc.mono ?_
    rintro e w17 ⟨Ar7, nr7, cr7, Dr7, mr7, dr7, rfl, r, b⟩
    clear cc hH
    have Lr7 := hid r
    clear r
    have Va_17 := hid (Va_16.out.keep b)
    have Ka_17 := hid (Ka_16.out.keep b)
    have Vb_17 := hid (Vb_16.out.keep b)
    have Kb_17 := hid (Kb_16.out.keep b)
    have Lp_17 := hid (Lp_16.out.keep b)
    have Kp_17 := hid (Kp_16.out.keep b)
    have Lq_17 := hid (Lq_16.out.keep b)
    have Kq_17 := hid (Kq_16.out.keep b)
    have Lr1_17 := hid (Lr1_16.out.keep b)
    have Lr2_17 := hid (Lr2_16.out.keep b)
    have Lr3_17 := hid (Lr3_16.out.keep b)
    have Lr4_17 := hid (Lr4_16.out.keep b)
    have Lr5_17 := hid (Lr5_16.out.keep b)
    have Lr6_17 := hid (Lr6_16.out.keep b)
    have X_17 := hid (bx_call X_16.out b)
    clear b Va_16 Ka_16 Vb_16 Kb_16 Lp_16 Kp_16 Lq_16 Kq_16 Lr1_16 Lr2_16 Lr3_16 Lr4_16 Lr5_16 Lr6_16 X_16
    (try go_wp2_with fail)
    refine hK.out _ _ ?_ (fun hH => ?_)
    exact (And.intro (blk_three Ka_17.out) (And.intro (blk_three Kb_17.out) (And.intro (blk_three Kp_17.out) (blk_three Kq_17.out))))
    clear hK K
    (try simp only [Act.put, gy0, gy1, gy2])
    refine wpAnyH_ready (rs := [38]) (by kernel_rfl) (by simp) ?_
    refine AllReadyH.cons (by simp only [gx0, gx1, gx2]; rfl) (fun K hK => ?_) AllReadyH.nil
    go_simp
    have cc := vrmul ga Aa na ca Da ma da gb Ab nb cb Db mb db 6 (za) (zb) w17 (Va_17.out) (Vb_17.out) (by omega)
    refine cc.mono ?_
    rintro e w18 ⟨Ar8, nr8, cr8, Dr8, mr8, dr8, rfl, r, b⟩
    clear cc hH
    have Lr8 := hid r
    clear r
    have Va_18 := hid (Va_17.out.keep b)
    have Ka_18 := hid (Ka_17.out.keep b)
    have Vb_18 := hid (Vb_17.out.keep b)
    have Kb_18 := hid (Kb_17.out.keep b)
    have Lp_18 := hid (Lp_17.out.keep b)
    have Kp_18 := hid (Kp_17.out.keep b)
    have Lq_18 := hid (Lq_17.out.keep b)
    have Kq_18 := hid (Kq_17.out.keep b)
    have Lr1_18 := hid (Lr1_17.out.keep b)
    have Lr2_18 := hid (Lr2_17.out.keep b)
    have Lr3_18 := hid (Lr3_17.out.keep b)
    have Lr4_18 := hid (Lr4_17.out.keep b)
    have Lr5_18 := hid (Lr5_17.out.keep b)
    have Lr6_18 := hid (Lr6_17.out.keep b)
    have Lr7_18 := hid (Lr7.out.keep b)
    have X_18 := hid (bx_call X_17.out b)
    clear b Va_17 Ka_17 Vb_17 Kb_17 Lp_17 Kp_17 Lq_17 Kq_17 Lr1_17 Lr2_17 Lr3_17 Lr4_17 Lr5_17 Lr6_17 Lr7 X_17
    (try go_wp2_with fail)
    refine hK.out _ _ ?_ (fun hH => ?_)
    exact (And.intro (blk_three Ka_18.out) (And.intro (blk_three Kb_18.out) (And.intro (blk_three Kp_18.out) (blk_three Kq_18.out))))
    clear hK K
    (try simp only [Act.put, gy0, gy1, gy2])
    refine wpAnyH_ready (rs := [39]) (by kernel_rfl) (by simp) ?_
    refine AllReadyH.cons (by simp only [gx0, gx1, gx2]; rfl) (fun K hK => ?_) AllReadyH.nil
    go_simp
    have cc := vsame (Lr7_18.out) (Lr8.out)
    rw [decide_eq_true (show za * zb = za * zb from rfl)] at cc
    refine cc.mono ?_
    rintro e w19 ⟨rfl, b⟩
    clear cc hH
    have Va_19 := hid (Va_18.out.keep b)
    have Ka_19 := hid (Ka_18.out.keep b)
    have Vb_19 := hid (Vb_18.out.keep b)
    have Kb_19 := hid (Kb_18.out.keep b)
    have Lp_19 := hid (Lp_18.out.keep b)
    have Kp_19 := hid (Kp_18.out.keep b)
    have Lq_19 := hid (Lq_18.out.keep b)
    have Kq_19 := hid (Kq_18.out.keep b)
    have Lr1_19 := hid (Lr1_18.out.keep b)
    have Lr2_19 := hid (Lr2_18.out.keep b)
    have Lr3_19 := hid (Lr3_18.out.keep b)
    have Lr4_19 := hid (Lr4_18.out.keep b)
    have Lr5_19 := hid (Lr5_18.out.keep b)
    have Lr6_19 := hid (Lr6_18.out.keep b)
    have Lr7_19 := hid (Lr7_18.out.keep b)
    have Lr8_19 := hid (Lr8.out.keep b)
    have X_19 := hid (bx_call X_18.out b)
    clear b Va_18 Ka_18 Vb_18 Kb_18 Lp_18 Kp_18 Lq_18 Kq_18 Lr1_18 Lr2_18 Lr3_18 Lr4_18 Lr5_18 Lr6_18 Lr7_18 Lr8 X_18
    (try go_wp2_with fail)
    refine hK.out _ _ ?_ (fun hH => ?_)
    exact (And.intro (blk_three Ka_19.out) (And.intro (blk_three Kb_19.out) (And.intro (blk_three Kp_19.out) (blk_three Kq_19.out))))
    clear hK K
    (try simp only [Act.put, gy0, gy1, gy2])
    refine wpAnyH_take (i := 40) (v := ?_) (by simp only [gx0, gx1, gx2]; rfl) (by kernel_rfl) (by kernel_rfl) (by kernel_rfl) (fun _ _ _ h => h) (.inl ⟨by rfl, ?_⟩) hH ?_
    rotate_left
    · intro w hSw; (try dsimp only at hSw); first | (go_simp; done) | (go_simp; with_reducible rfl)
    (try simp only [Act.put, gy0, gy1, gy2])
    refine wpAnyH_take (i := 41) (v := ?_) (by simp only [gx0, gx1, gx2]; rfl) (by kernel_rfl) (by kernel_rfl) (by kernel_rfl) (fun _ _ _ h => h) (.inl ⟨by rfl, ?_⟩) hH ?_
    rotate_left
    · intro w hSw; (try dsimp only at hSw); first | (go_simp; done) | (go_simp; with_reducible rfl)
    (try simp only [Act.put, gy0, gy1, gy2])
    refine wpAnyH_take (i := 42) (v := ?_) (by simp only [gx0, gx1, gx2]; rfl) (by kernel_rfl) (by kernel_rfl) (by kernel_rfl) (fun _ _ _ h => h) (.inl ⟨by rfl, ?_⟩) hH ?_
    rotate_left
    · intro w hSw; (try dsimp only at hSw); first | (go_simp; done) | (go_simp; with_reducible rfl)
    (try simp only [Act.put, gy0, gy1, gy2])
    refine wpAnyH_take (i := 43) (v := ?_) (by simp only [gx0, gx1, gx2]; rfl) (by kernel_rfl) (by kernel_rfl) (by kernel_rfl) (fun _ _ _ h => h) (.inl ⟨by rfl, ?_⟩) hH ?_
    rotate_left
    · intro w hSw; (try dsimp only at hSw); first | (go_simp; done) | (go_simp; with_reducible rfl)
    (try simp only [Act.put, gy0, gy1, gy2])
    refine wpAnyH_ready (rs := [44]) (by kernel_rfl) (by simp) ?_
    refine AllReadyH.cons (by simp only [gx0, gx1, gx2]; rfl) (fun K hK => ?_) AllReadyH.nil
    go_simp
    have cc := vsame (Lp_19.out) (Lq_19.out)
    rw [decide_eq_true (show qd = qd from rfl)] at cc
    refine cc.mono ?_
    rintro e w20 ⟨rfl, b⟩
    clear cc hH
    have Va_20 := hid (Va_19.out.keep b)
    have Ka_20 := hid (Ka_19.out.keep b)
    have Vb_20 := hid (Vb_19.out.keep b)
    have Kb_20 := hid (Kb_19.out.keep b)
    have Lp_20 := hid (Lp_19.out.keep b)
    have Kp_20 := hid (Kp_19.out.keep b)
    have Lq_20 := hid (Lq_19.out.keep b)
    have Kq_20 := hid (Kq_19.out.keep b)
    have Lr1_20 := hid (Lr1_19.out.keep b)
    have Lr2_20 := hid (Lr2_19.out.keep b)
    have Lr3_20 := hid (Lr3_19.out.keep b)
    have Lr4_20 := hid (Lr4_19.out.keep b)
    have Lr5_20 := hid (Lr5_19.out.keep b)
    have Lr6_20 := hid (Lr6_19.out.keep b)
    have Lr7_20 := hid (Lr7_19.out.keep b)
    have Lr8_20 := hid (Lr8_19.out.keep b)
    have X_20 := hid (bx_call X_19.out b)
    clear b Va_19 Ka_19 Vb_19 Kb_19 Lp_19 Kp_19 Lq_19 Kq_19 Lr1_19 Lr2_19 Lr3_19 Lr4_19 Lr5_19 Lr6_19 Lr7_19 Lr8_19 X_19
    (try go_wp2_with fail)
    refine hK.out _ _ ?_ (fun hH => ?_)
    exact (And.intro (blk_three Ka_20.out) (And.intro (blk_three Kb_20.out) (And.intro (blk_three Kp_20.out) (blk_three Kq_20.out))))
    clear hK K
    (try simp only [Act.put, gy0, gy1, gy2])
    refine wpAnyH_take (i := 45) (v := ?_) (by simp only [gx0, gx1, gx2]; rfl) (by kernel_rfl) (by kernel_rfl) (by kernel_rfl) (fun _ _ _ h => h) (.inl ⟨by rfl, ?_⟩) hH ?_
    rotate_left
    · intro w hSw; (try dsimp only at hSw); first | (go_simp; done) | (go_simp; with_reducible rfl)
    (try simp only [Act.put, gy0, gy1, gy2])
    refine wpAnyH_take (i := 46) (v := ?_) (by simp only [gx0, gx1, gx2]; rfl) (by kernel_rfl) (by kernel_rfl) (by kernel_rfl) (fun _ _ _ h => h) (.inl ⟨by rfl, ?_⟩) hH ?_
    rotate_left
    · intro w hSw; (try dsimp only at hSw); first | (go_simp; done) | (go_simp; with_reducible rfl)
    (try simp only [Act.put, gy0, gy1, gy2])
    refine wpAnyH_take (i := 47) (v := ?_) (by simp only [gx0, gx1, gx2]; rfl) (by kernel_rfl) (by kernel_rfl) (by kernel_rfl) (fun _ _ _ h => h) (.inl ⟨by rfl, ?_⟩) hH ?_
    rotate_left
    · intro w hSw; (try dsimp only at hSw); first | (go_simp; done) | (go_simp; with_reducible rfl)
    (try simp only [Act.put, gy0, gy1, gy2])
    refine wpAnyH_take (i := 48) (v := ?_) (by simp only [gx0, gx1, gx2]; rfl) (by kernel_rfl) (by kernel_rfl) (by kernel_rfl) (fun _ _ _ h => h) (.inl ⟨by rfl, ?_⟩) hH ?_
    rotate_left
    · intro w hSw; (try dsimp only at hSw); first | (go_simp; done) | (go_simp; with_reducible rfl)
    (try simp only [Act.put, gy0, gy1, gy2])
    refine wpAnyH_take (i := 49) (v := ?_) (by simp only [gx0, gx1, gx2]; rfl) (by kernel_rfl) (by kernel_rfl) (by kernel_rfl) (fun _ _ _ h => h) (.inl ⟨by rfl, ?_⟩) hH ?_
    rotate_left
    · intro w hSw; (try dsimp only at hSw); first | (go_simp; done) | (go_simp; with_reducible rfl)
    (try simp only [Act.put, gy0, gy1, gy2])
    refine wpAnyH_take (i := 50) (v := ?_) (by simp only [gx0, gx1, gx2]; rfl) (by kernel_rfl) (by kernel_rfl) (by kernel_rfl) (fun _ _ _ h => h) (.inl ⟨by rfl, ?_⟩) hH ?_
    rotate_left
    · intro w hSw; (try dsimp only at hSw); first | (go_simp; done) | (go_simp; with_reducible rfl)
    (try simp only [Act.put, gy0, gy1, gy2])
    refine wpAnyH_take (i := 51) (v := ?_) (by simp only [gx0, gx1, gx2]; rfl) (by kernel_rfl) (by kernel_rfl) (by kernel_rfl) (fun _ _ _ h => h) (.inl ⟨by rfl, ?_⟩) hH ?_
    rotate_left
    · intro w hSw; (try dsimp only at hSw); first | (go_simp; done) | (go_simp; with_reducible rfl)
    (try simp only [Act.put, gy0, gy1, gy2])
    refine wpAnyH_done (by kernel_rfl) ?_ _
    refine NoPanic.normal ?_
    clear hH
    go_wp2_with fail
    go_ret
    exact ⟨rfl, X_20.out⟩
  · have hF := decide_eq_false hf
    clear hf
    go_enter Try.func11, Try.ntmps11
    go_wp2_with fail
    refine (qawake_any _).mono ?_
    rintro e w1 ⟨rfl, b⟩
    have Ra_1 := hid (Ra.out.keep b)
    have Sa_1 := hid (Sa.out.keep b)
    have Ka_1 := hid (Ka.out.keep b)
    have Rb_1 := hid (Rb.out.keep b)
    have Sb_1 := hid (Sb.out.keep b)
    have Kb_1 := hid (Kb.out.keep b)
    have X_1 := hid (bx_call X.out b)
    clear b X Ra Sa Ka Rb Sb Kb
    obtain ⟨ka0, ka1, ka2⟩ := blk_three Ka_1.out
    obtain ⟨kb0, kb1, kb2⟩ := blk_three Kb_1.out
    have cc := qfew2 (k := 6) (by omega) (Blk.new w1 [.bool ga, .slice Aa na ca, .slice Da ma da, .bool gb, .slice Ab nb cb, .slice Db mb db] 50) (by omega) (by omega) (by omega) (by omega)
    rw [hF] at cc
    have CC := hid cc
    clear cc hF
    go_wp2_with fail
    refine (CC.out).mono ?_
    rintro e w2 ⟨rfl, b0⟩
    have X_2 := hid (bx_call X_1.out (bx_call (bx_alloc (bx_refl w1) (.cells #[.bool ga, .slice Aa na ca, .slice Da ma da, .bool gb, .slice Ab nb cb, .slice Db mb db] 50)) b0))
    clear CC b0 X_1
    go_wp2_with fail
    refine (qawake_any _).mono ?_
    rintro e w3 ⟨rfl, b⟩
    have X_3 := hid (bx_call X_2.out b)
    clear X_2 b
    go_wp2_with fail
    go_ret
    exact ⟨rfl, X_3.out⟩

end Go.Proofs.Ytcbbacnhnaopmaa
