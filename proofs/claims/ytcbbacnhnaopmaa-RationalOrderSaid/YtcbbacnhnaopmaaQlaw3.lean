/- Laws of layer 3, walked by contracts. -/
import Derived.Test.YtcbbacnhnaopmaaQaw
import Derived.Test.YtcbbacnhnaopmaaQsgn
import Derived.Deep.DeepCutAuto
namespace Go.Proofs.Ytcbbacnhnaopmaa
open Go.RowKit

set_option maxRecDepth 100000 in
set_option maxHeartbeats 8000000 in
theorem rationalOrder_any (ga : Bool) (Aa : Option Addr) (na ca : Nat) (xsa : List Nat) (Da : Option Addr) (ma da : Nat) (dsa : List Nat) (gb : Bool) (Ab : Option Addr) (nb cb : Nat) (xsb : List Nat) (Db : Option Addr) (mb db : Nat) (dsb : List Nat) (gc : Bool) (Ac : Option Addr) (nc cc : Nat) (xsc : List Nat) (Dc : Option Addr) (mc dc : Nat) (dsc : List Nat) (w : World) (ha : Rd w Aa na ca xsa) (ea : Rd w Da ma da dsa) (hb : Rd w Ab nb cb xsb) (eb : Rd w Db mb db dsb) (hc : Rd w Ac nc cc xsc) (ec : Rd w Dc mc dc dsc) :
    Calls Try.prog 13 #[.agg #[.bool ga, .slice Aa na ca, .slice Da ma da], .agg #[.bool gb, .slice Ab nb cb, .slice Db mb db], .agg #[.bool gc, .slice Ac nc cc, .slice Dc mc dc]] w (RetB w true) := by
  have j1a := ha.2.1
  have j2a := ha.2.2.1
  have j3a := ea.2.1
  have j4a := ea.2.2.1
  have j1b := hb.2.1
  have j2b := hb.2.2.1
  have j3b := eb.2.1
  have j4b := eb.2.2.1
  have j1c := hc.2.1
  have j2c := hc.2.2.1
  have j3c := ec.2.1
  have j4c := ec.2.2.1
  have X := hid (bx_alloc (bx_alloc (bx_alloc (bx_refl w) (.cells #[.bool ga, .slice Aa na ca, .slice Da ma da] 50)) (.cells #[.bool gb, .slice Ab nb cb, .slice Db mb db] 50)) (.cells #[.bool gc, .slice Ac nc cc, .slice Dc mc dc] 50))
  have Ka : Hid (Blk (((w.alloc (.cells #[.bool ga, .slice Aa na ca, .slice Da ma da] 50)).alloc (.cells #[.bool gb, .slice Ab nb cb, .slice Db mb db] 50)).alloc (.cells #[.bool gc, .slice Ac nc cc, .slice Dc mc dc] 50)) (w.heap.size) [.bool ga, .slice Aa na ca, .slice Da ma da] 50) := hid (by have t := (((Blk.new w [.bool ga, .slice Aa na ca, .slice Da ma da] 50).alloc (.cells #[.bool gb, .slice Ab nb cb, .slice Db mb db] 50)).alloc (.cells #[.bool gc, .slice Ac nc cc, .slice Dc mc dc] 50)); (try simp only [World.size_alloc] at t); exact t)
  have Kb : Hid (Blk (((w.alloc (.cells #[.bool ga, .slice Aa na ca, .slice Da ma da] 50)).alloc (.cells #[.bool gb, .slice Ab nb cb, .slice Db mb db] 50)).alloc (.cells #[.bool gc, .slice Ac nc cc, .slice Dc mc dc] 50)) (w.heap.size + 1) [.bool gb, .slice Ab nb cb, .slice Db mb db] 50) := hid (by have t := ((Blk.new (w.alloc (.cells #[.bool ga, .slice Aa na ca, .slice Da ma da] 50)) [.bool gb, .slice Ab nb cb, .slice Db mb db] 50).alloc (.cells #[.bool gc, .slice Ac nc cc, .slice Dc mc dc] 50)); (try simp only [World.size_alloc] at t); exact t)
  have Kc : Hid (Blk (((w.alloc (.cells #[.bool ga, .slice Aa na ca, .slice Da ma da] 50)).alloc (.cells #[.bool gb, .slice Ab nb cb, .slice Db mb db] 50)).alloc (.cells #[.bool gc, .slice Ac nc cc, .slice Dc mc dc] 50)) (w.heap.size + 1 + 1) [.bool gc, .slice Ac nc cc, .slice Dc mc dc] 50) := hid (by have t := (Blk.new ((w.alloc (.cells #[.bool ga, .slice Aa na ca, .slice Da ma da] 50)).alloc (.cells #[.bool gb, .slice Ab nb cb, .slice Db mb db] 50)) [.bool gc, .slice Ac nc cc, .slice Dc mc dc] 50); (try simp only [World.size_alloc] at t); exact t)
  have Ra := hid (ha.keep X.out)
  have Sa := hid (ea.keep X.out)
  have Rb := hid (hb.keep X.out)
  have Sb := hid (eb.keep X.out)
  have Rc := hid (hc.keep X.out)
  have Sc := hid (ec.keep X.out)
  clear ha ea hb eb hc ec
  by_cases hf : (na ≤ 4 ∧ ma ≤ 4) ∧ (nb ≤ 4 ∧ mb ≤ 4) ∧ (nc ≤ 4 ∧ mc ≤ 4)
  · obtain ⟨⟨qa, ua⟩, ⟨qb, ub⟩, ⟨qc, uc⟩⟩ := hf
    go_enter Try.func13, Try.ntmps13
    go_wp2_with fail
    refine (qawake_any _).mono ?_
    rintro e w1 ⟨rfl, b⟩
    have Ra_1 := hid (Ra.out.keep b)
    have Sa_1 := hid (Sa.out.keep b)
    have Ka_1 := hid (Ka.out.keep b)
    have Rb_1 := hid (Rb.out.keep b)
    have Sb_1 := hid (Sb.out.keep b)
    have Kb_1 := hid (Kb.out.keep b)
    have Rc_1 := hid (Rc.out.keep b)
    have Sc_1 := hid (Sc.out.keep b)
    have Kc_1 := hid (Kc.out.keep b)
    have X_1 := hid (bx_call X.out b)
    clear b X Ra Sa Ka Rb Sb Kb Rc Sc Kc
    obtain ⟨ka0, ka1, ka2⟩ := blk_three Ka_1.out
    obtain ⟨kb0, kb1, kb2⟩ := blk_three Kb_1.out
    obtain ⟨kc0, kc1, kc2⟩ := blk_three Kc_1.out
    have cc := qfew3 (k := 4) (by omega) (Blk.new w1 [.bool ga, .slice Aa na ca, .slice Da ma da, .bool gb, .slice Ab nb cb, .slice Db mb db, .bool gc, .slice Ac nc cc, .slice Dc mc dc] 50) (by omega) (by omega) (by omega) (by omega) (by omega) (by omega)
    rw [decide_eq_true ⟨⟨qa, ua⟩, ⟨qb, ub⟩, ⟨qc, uc⟩⟩] at cc
    have CC := hid cc
    clear cc
    go_wp2_with fail
    refine (CC.out).mono ?_
    rintro e w2 ⟨rfl, b0⟩
    have b := bx_call (bx_alloc (bx_refl w1) (.cells #[.bool ga, .slice Aa na ca, .slice Da ma da, .bool gb, .slice Ab nb cb, .slice Db mb db, .bool gc, .slice Ac nc cc, .slice Dc mc dc] 50)) b0
    have Ka_2 := hid (Ka_1.out.keep b)
    obtain ⟨za, hza⟩ : ∃ z, z = mkRat (iv ga xsa) (dv1 dsa) := ⟨_, rfl⟩
    have Va_2 := hid (show FrV w2 ga Aa na ca Da ma da 4 za from ⟨xsa, dsa, Ra_1.out.keep b, qa, Sa_1.out.keep b, ua, by omega, hza.symm⟩)
    have Kb_2 := hid (Kb_1.out.keep b)
    obtain ⟨zb, hzb⟩ : ∃ z, z = mkRat (iv gb xsb) (dv1 dsb) := ⟨_, rfl⟩
    have Vb_2 := hid (show FrV w2 gb Ab nb cb Db mb db 4 zb from ⟨xsb, dsb, Rb_1.out.keep b, qb, Sb_1.out.keep b, ub, by omega, hzb.symm⟩)
    have Kc_2 := hid (Kc_1.out.keep b)
    obtain ⟨zc, hzc⟩ : ∃ z, z = mkRat (iv gc xsc) (dv1 dsc) := ⟨_, rfl⟩
    have Vc_2 := hid (show FrV w2 gc Ac nc cc Dc mc dc 4 zc from ⟨xsc, dsc, Rc_1.out.keep b, qc, Sc_1.out.keep b, uc, by omega, hzc.symm⟩)
    have X_2 := hid (bx_call X_1.out b)
    clear CC b b0 X_1 Ra_1 Sa_1 Ka_1 hza ka0 ka1 ka2 Rb_1 Sb_1 Kb_1 hzb kb0 kb1 kb2 Rc_1 Sc_1 Kc_1 hzc kc0 kc1 kc2
    obtain ⟨x, hx0⟩ : ∃ s, s = sgnQ (za - zb) := ⟨_, rfl⟩
    obtain ⟨y, hy0⟩ : ∃ s, s = sgnQ (zb - zc) := ⟨_, rfl⟩
    obtain ⟨z, hz0⟩ : ∃ s, s = sgnQ (za - zc) := ⟨_, rfl⟩
    have e1 : sgnQ (zb - za) = -x := by rw [hx0, ← sgnQ_neg]; congr 1; grind
    have e2 : sgnQ ((za + zc) - (zb + zc)) = x := by rw [hx0]; congr 1; grind
    have e3 : sgnQ ((za * zc) - (zb * zc)) = x * sgnQ zc := by rw [hx0, ← sgnQ_mul]; congr 1; grind
    have r1 := sgnQ_range (za - zb)
    rw [← hx0] at r1
    have r2 := sgnQ_range (zc)
    have t1 : x ≤ 0 → y ≤ 0 → z ≤ 0 := by rw [hx0, hy0, hz0]; exact sgnQ_trans
    have t2 : x = 0 → z = y ∧ za = zb := fun h => by rw [hx0] at h; have t := sgnQ_same h; rw [hy0, hz0, t]; exact ⟨rfl, rfl⟩
    have E1 := hid e1
    have E2 := hid e2
    have E3 := hid e3
    have T1 := hid t1
    have T2 := hid t2
    have RG1 := hid r1
    have RG2 := hid r2
    have HX := hid hx0
    have HY := hid hy0
    have HZ := hid hz0
    clear e1 e2 e3 t1 t2 r1 r2 hx0 hy0 hz0
    go_upto_region 3 with fail
    (try simp only [List.append_eq, List.cons_append, List.nil_append])
    refine wp_region_noPanic ?_
    refine wp_region_held_drew (S := (fun W => (W.cell? ⟨w.heap.size, 0, none⟩ = some (.bool ga) ∧ W.cell? ⟨w.heap.size, 1, none⟩ = some (.slice Aa na ca) ∧ W.cell? ⟨w.heap.size, 2, none⟩ = some (.slice Da ma da)) ∧ (W.cell? ⟨w.heap.size + 1, 0, none⟩ = some (.bool gb) ∧ W.cell? ⟨w.heap.size + 1, 1, none⟩ = some (.slice Ab nb cb) ∧ W.cell? ⟨w.heap.size + 1, 2, none⟩ = some (.slice Db mb db)) ∧ (W.cell? ⟨w.heap.size + 1 + 1, 0, none⟩ = some (.bool gc) ∧ W.cell? ⟨w.heap.size + 1 + 1, 1, none⟩ = some (.slice Ac nc cc) ∧ W.cell? ⟨w.heap.size + 1 + 1, 2, none⟩ = some (.slice Dc mc dc)))) (by kernel_rfl) ?_ (fun hH => ?_)
    exact (And.intro (blk_three Ka_2.out) (And.intro (blk_three Kb_2.out) (blk_three Kc_2.out)))
    have bd := bx_drew (bx_refl w2)
    obtain ⟨w3, hW0⟩ : ∃ W, W = w2.drew := ⟨_, rfl⟩
    rw [← hW0] at bd hH ⊢
    clear hW0
    have Va_3 := hid (Va_2.out.keep bd)
    have Ka_3 := hid (Ka_2.out.keep bd)
    have Vb_3 := hid (Vb_2.out.keep bd)
    have Kb_3 := hid (Kb_2.out.keep bd)
    have Vc_3 := hid (Vc_2.out.keep bd)
    have Kc_3 := hid (Kc_2.out.keep bd)
    have X_3 := hid (bx_call X_2.out bd)
    clear bd Va_2 Ka_2 Vb_2 Kb_2 Vc_2 Kc_2 X_2 
    refine wpAnyH_take (i := 0) (v := ?_) (by simp only [gx0, gx2]; rfl) (by kernel_rfl) (by kernel_rfl) (by kernel_rfl) (fun _ _ _ h => h) (.inl ⟨by rfl, ?_⟩) hH ?_
    rotate_left
    · intro w hSw; (try dsimp only at hSw); first | (go_simp; done) | (go_simp; with_reducible rfl) | (go_simp; decide)
    (try simp only [Act.put, gy0, gy1, gy2])
    refine wpAnyH_take (i := 1) (v := ?_) (by simp only [gx0, gx1, gx2]; rfl) (by kernel_rfl) (by kernel_rfl) (by kernel_rfl) (fun _ _ _ h => h) (.inl ⟨by rfl, ?_⟩) hH ?_
    rotate_left
    · intro w hSw; (try dsimp only at hSw); first | (go_simp; done) | (go_simp; with_reducible rfl) | (go_simp; decide)
    (try simp only [Act.put, gy0, gy1, gy2])
    refine wpAnyH_take (i := 3) (v := ?_) (by simp only [gx0, gx1, gx2]; rfl) (by kernel_rfl) (by kernel_rfl) (by kernel_rfl) (fun _ _ _ h => h) (.inl ⟨by rfl, ?_⟩) hH ?_
    rotate_left
    · intro w hSw; (try dsimp only at hSw); first | (go_simp; done) | (go_simp; with_reducible rfl) | (go_simp; decide)
    (try simp only [Act.put, gy0, gy1, gy2])
    refine wpAnyH_take (i := 4) (v := ?_) (by simp only [gx0, gx1, gx2]; rfl) (by kernel_rfl) (by kernel_rfl) (by kernel_rfl) (fun _ _ _ h => h) (.inl ⟨by rfl, ?_⟩) hH ?_
    rotate_left
    · intro w hSw; (try dsimp only at hSw); first | (go_simp; done) | (go_simp; with_reducible rfl) | (go_simp; decide)
    (try simp only [Act.put, gy0, gy1, gy2])
    refine wpAnyH_take (i := 6) (v := ?_) (by simp only [gx0, gx1, gx2]; rfl) (by kernel_rfl) (by kernel_rfl) (by kernel_rfl) (fun _ _ _ h => h) (.inl ⟨by rfl, ?_⟩) hH ?_
    rotate_left
    · intro w hSw; (try dsimp only at hSw); first | (go_simp; done) | (go_simp; with_reducible rfl) | (go_simp; decide)
    (try simp only [Act.put, gy0, gy1, gy2])
    refine wpAnyH_take (i := 7) (v := ?_) (by simp only [gx0, gx1, gx2]; rfl) (by kernel_rfl) (by kernel_rfl) (by kernel_rfl) (fun _ _ _ h => h) (.inl ⟨by rfl, ?_⟩) hH ?_
    rotate_left
    · intro w hSw; (try dsimp only at hSw); first | (go_simp; done) | (go_simp; with_reducible rfl) | (go_simp; decide)
    (try simp only [Act.put, gy0, gy1, gy2])
    refine wpAnyH_ready (rs := [2]) (by kernel_rfl) (by simp) ?_
    refine AllReadyH.cons (by simp only [gx0, gx1, gx2]; rfl) (fun K hK => ?_) AllReadyH.nil
    go_simp
    have cc := vcmp ga Aa na ca Da ma da gb Ab nb cb Db mb db 4 (za) (zb) w3 (Va_3.out) (Vb_3.out) (by omega)
    rw [← HX.out] at cc
    refine cc.mono ?_
    rintro e w4 ⟨rfl, b⟩
    clear cc hH
    have Va_4 := hid (Va_3.out.keep b)
    have Ka_4 := hid (Ka_3.out.keep b)
    have Vb_4 := hid (Vb_3.out.keep b)
    have Kb_4 := hid (Kb_3.out.keep b)
    have Vc_4 := hid (Vc_3.out.keep b)
    have Kc_4 := hid (Kc_3.out.keep b)
    have X_4 := hid (bx_call X_3.out b)
    clear b Va_3 Ka_3 Vb_3 Kb_3 Vc_3 Kc_3 X_3
    (try go_wp2_with fail)
    refine hK.out _ _ ?_ (fun hH => ?_)
    exact (And.intro (blk_three Ka_4.out) (And.intro (blk_three Kb_4.out) (blk_three Kc_4.out)))
    clear hK K
    (try simp only [Act.put, gy0, gy1, gy2])
    refine wpAnyH_ready (rs := [5]) (by kernel_rfl) (by simp) ?_
    refine AllReadyH.cons (by simp only [gx0, gx1, gx2]; rfl) (fun K hK => ?_) AllReadyH.nil
    go_simp
    have cc := vcmp gb Ab nb cb Db mb db gc Ac nc cc Dc mc dc 4 (zb) (zc) w4 (Vb_4.out) (Vc_4.out) (by omega)
    rw [← HY.out] at cc
    refine cc.mono ?_
    rintro e w5 ⟨rfl, b⟩
    clear cc hH
    have Va_5 := hid (Va_4.out.keep b)
    have Ka_5 := hid (Ka_4.out.keep b)
    have Vb_5 := hid (Vb_4.out.keep b)
    have Kb_5 := hid (Kb_4.out.keep b)
    have Vc_5 := hid (Vc_4.out.keep b)
    have Kc_5 := hid (Kc_4.out.keep b)
    have X_5 := hid (bx_call X_4.out b)
    clear b Va_4 Ka_4 Vb_4 Kb_4 Vc_4 Kc_4 X_4
    (try go_wp2_with fail)
    refine hK.out _ _ ?_ (fun hH => ?_)
    exact (And.intro (blk_three Ka_5.out) (And.intro (blk_three Kb_5.out) (blk_three Kc_5.out)))
    clear hK K
    (try simp only [Act.put, gy0, gy1, gy2])
    refine wpAnyH_ready (rs := [8]) (by kernel_rfl) (by simp) ?_
    refine AllReadyH.cons (by simp only [gx0, gx1, gx2]; rfl) (fun K hK => ?_) AllReadyH.nil
    go_simp
    have cc := vcmp ga Aa na ca Da ma da gc Ac nc cc Dc mc dc 4 (za) (zc) w5 (Va_5.out) (Vc_5.out) (by omega)
    rw [← HZ.out] at cc
    refine cc.mono ?_
    rintro e w6 ⟨rfl, b⟩
    clear cc hH
    have Va_6 := hid (Va_5.out.keep b)
    have Ka_6 := hid (Ka_5.out.keep b)
    have Vb_6 := hid (Vb_5.out.keep b)
    have Kb_6 := hid (Kb_5.out.keep b)
    have Vc_6 := hid (Vc_5.out.keep b)
    have Kc_6 := hid (Kc_5.out.keep b)
    have X_6 := hid (bx_call X_5.out b)
    clear b Va_5 Ka_5 Vb_5 Kb_5 Vc_5 Kc_5 X_5
    (try go_wp2_with fail)
    refine hK.out _ _ ?_ (fun hH => ?_)
    exact (And.intro (blk_three Ka_6.out) (And.intro (blk_three Kb_6.out) (blk_three Kc_6.out)))
    clear hK K
    (try simp only [Act.put, gy0, gy1, gy2])
    refine wpAnyH_take (i := 9) (v := ?_) (by simp only [gx0, gx1, gx2]; rfl) (by kernel_rfl) (by kernel_rfl) (by kernel_rfl) (fun _ _ _ h => h) (.inl ⟨by rfl, ?_⟩) hH ?_
    rotate_left
    · intro w hSw; (try dsimp only at hSw); first | (go_simp; done) | (go_simp; with_reducible rfl) | (go_simp; decide)
    (try simp only [Act.put, gy0, gy1, gy2])
    refine wpAnyH_take (i := 10) (v := ?_) (by simp only [gx0, gx1, gx2]; rfl) (by kernel_rfl) (by kernel_rfl) (by kernel_rfl) (fun _ _ _ h => h) (.inl ⟨by rfl, ?_⟩) hH ?_
    rotate_left
    · intro w hSw; (try dsimp only at hSw); first | (go_simp; done) | (go_simp; with_reducible rfl) | (go_simp; decide)
    (try simp only [Act.put, gy0, gy1, gy2])
    refine wpAnyH_take (i := 11) (v := ?_) (by simp only [gx0, gx1, gx2]; rfl) (by kernel_rfl) (by kernel_rfl) (by kernel_rfl) (fun _ _ _ h => h) (.inl ⟨by rfl, ?_⟩) hH ?_
    rotate_left
    · intro w hSw; (try dsimp only at hSw); first | (go_simp; done) | (go_simp; with_reducible rfl) | (go_simp; decide)
    (try simp only [Act.put, gy0, gy1, gy2])
    refine wpAnyH_done (by kernel_rfl) ?_ _
    refine NoPanic.normal ?_
    clear hH
    clear HX HY HZ
    go_upto_region 4 with fail
    go_cut [66] (fun s66 wx => s66 = .bool false ∧ Hid (Below w6.heap.size w6 wx))
    case first =>
      rcases RG1.out with rfl | rfl | rfl
      · rcases Int.lt_or_le 0 y with hy | hy
        · skip
          have G1 := hid (show sgnQ (zb - za) = 1 from E1.out)
          have ty : decide (y ≤ 0) = false := decide_eq_false (by omega)
          clear E1 E2 E3 T1 T2 RG2
          have BW := hid (bx_refl w6)
          (try simp only [List.append_eq, List.cons_append, List.nil_append])
          refine wp_region_noPanic ?_
          refine wp_region_held_drew (S := (fun W => (W.cell? ⟨w.heap.size, 0, none⟩ = some (.bool ga) ∧ W.cell? ⟨w.heap.size, 1, none⟩ = some (.slice Aa na ca) ∧ W.cell? ⟨w.heap.size, 2, none⟩ = some (.slice Da ma da)) ∧ (W.cell? ⟨w.heap.size + 1, 0, none⟩ = some (.bool gb) ∧ W.cell? ⟨w.heap.size + 1, 1, none⟩ = some (.slice Ab nb cb) ∧ W.cell? ⟨w.heap.size + 1, 2, none⟩ = some (.slice Db mb db)) ∧ (W.cell? ⟨w.heap.size + 1 + 1, 0, none⟩ = some (.bool gc) ∧ W.cell? ⟨w.heap.size + 1 + 1, 1, none⟩ = some (.slice Ac nc cc) ∧ W.cell? ⟨w.heap.size + 1 + 1, 2, none⟩ = some (.slice Dc mc dc)))) (by kernel_rfl) ?_ (fun hH => ?_)
          exact (And.intro (blk_three Ka_6.out) (And.intro (blk_three Kb_6.out) (blk_three Kc_6.out)))
          have bd := bx_drew (bx_refl w6)
          obtain ⟨w7, hW0⟩ : ∃ W, W = w6.drew := ⟨_, rfl⟩
          rw [← hW0] at bd hH ⊢
          clear hW0
          have Va_7 := hid (Va_6.out.keep bd)
          have Ka_7 := hid (Ka_6.out.keep bd)
          have Vb_7 := hid (Vb_6.out.keep bd)
          have Kb_7 := hid (Kb_6.out.keep bd)
          have Vc_7 := hid (Vc_6.out.keep bd)
          have Kc_7 := hid (Kc_6.out.keep bd)
          have X_7 := hid (bx_call X_6.out bd)
          have BW_7 := hid (bx_call BW.out bd)
          clear bd Va_6 Ka_6 Vb_6 Kb_6 Vc_6 Kc_6 X_6 BW
          refine wpAnyH_take (i := 0) (v := ?_) (by simp only [gx0, gx2]; rfl) (by kernel_rfl) (by kernel_rfl) (by kernel_rfl) (fun _ _ _ h => h) (.inl ⟨by rfl, ?_⟩) hH ?_
          rotate_left
          · intro w hSw; (try dsimp only at hSw); first | (go_simp; done) | (go_simp; with_reducible rfl) | (go_simp; decide)
          (try simp only [Act.put, gy0, gy1, gy2])
          refine wpAnyH_take (i := 1) (v := ?_) (by simp only [gx0, gx1, gx2]; rfl) (by kernel_rfl) (by kernel_rfl) (by kernel_rfl) (fun _ _ _ h => h) (.inl ⟨by rfl, ?_⟩) hH ?_
          rotate_left
          · intro w hSw; (try dsimp only at hSw); first | (go_simp; done) | (go_simp; with_reducible rfl) | (go_simp; decide)
          (try simp only [Act.put, gy0, gy1, gy2])
          refine wpAnyH_take (i := 2) (v := ?_) (by simp only [gx0, gx1, gx2]; rfl) (by kernel_rfl) (by kernel_rfl) (by kernel_rfl) (fun _ _ _ h => h) (.inl ⟨by rfl, ?_⟩) hH ?_
          rotate_left
          · intro w hSw; (try dsimp only at hSw); first | (go_simp; done) | (go_simp; with_reducible rfl) | (go_simp; decide)
          (try simp only [Act.put, gy0, gy1, gy2])
          refine wpAnyH_ready (rs := [3]) (by kernel_rfl) (by simp) ?_
          refine AllReadyH.cons (by simp only [gx0, gx1, gx2]; rfl) (fun K hK => ?_) AllReadyH.nil
          go_simp
          have cc := vcmp gb Ab nb cb Db mb db ga Aa na ca Da ma da 4 (zb) (za) w7 (Vb_7.out) (Va_7.out) (by omega)
          rw [G1.out] at cc
          refine cc.mono ?_
          rintro e w8 ⟨rfl, b⟩
          clear cc hH
          have Va_8 := hid (Va_7.out.keep b)
          have Ka_8 := hid (Ka_7.out.keep b)
          have Vb_8 := hid (Vb_7.out.keep b)
          have Kb_8 := hid (Kb_7.out.keep b)
          have Vc_8 := hid (Vc_7.out.keep b)
          have Kc_8 := hid (Kc_7.out.keep b)
          have X_8 := hid (bx_call X_7.out b)
          have BW_8 := hid (bx_call BW_7.out b)
          clear b Va_7 Ka_7 Vb_7 Kb_7 Vc_7 Kc_7 X_7 BW_7
          (try go_wp2_with fail)
          refine hK.out _ _ ?_ (fun hH => ?_)
          exact (And.intro (blk_three Ka_8.out) (And.intro (blk_three Kb_8.out) (blk_three Kc_8.out)))
          clear hK K
          (try simp only [Act.put, gy0, gy1, gy2])
          refine wpAnyH_take (i := 4) (v := .int .i64 (-1)) (by simp only [gx0, gx1, gx2]; rfl) (by kernel_rfl) (by kernel_rfl) (by kernel_rfl) (fun _ _ _ h => h) (.inl ⟨by rfl, ?_⟩) hH ?_
          · intro w hSw; (try dsimp only at hSw); first | (go_simp; done) | (go_simp; with_reducible rfl) | (go_simp; decide)
          (try simp only [Act.put, gy0, gy1, gy2])
          refine wpAnyH_take (i := 5) (v := .bool false) (by simp only [gx0, gx1, gx2]; rfl) (by kernel_rfl) (by kernel_rfl) (by kernel_rfl) (fun _ _ _ h => h) (.inl ⟨by rfl, ?_⟩) hH ?_
          · intro w hSw; (try dsimp only at hSw); first | (go_simp; done) | (go_simp; with_reducible rfl) | (go_simp; decide)
          (try simp only [Act.put, gy0, gy1, gy2])
          refine wpAnyH_take (i := 6) (v := .bool false) (by simp only [gx0, gx1, gx2]; rfl) (by kernel_rfl) (by kernel_rfl) (by kernel_rfl) (fun _ _ _ h => h) (.inl ⟨by rfl, ?_⟩) hH ?_
          · intro w hSw; (try dsimp only at hSw); first | (go_simp; done) | (go_simp; with_reducible rfl) | (go_simp; decide)
          (try simp only [Act.put, gy0, gy1, gy2])
          refine wpAnyH_take (i := 7) (v := ?_) (by simp only [gx0, gx1, gx2]; rfl) (by kernel_rfl) (by kernel_rfl) (by kernel_rfl) (fun _ _ _ h => h) (.inl ⟨by rfl, ?_⟩) hH ?_
          rotate_left
          · intro w hSw; (try dsimp only at hSw); first | (go_simp; done) | (go_simp; with_reducible rfl) | (go_simp; decide)
          (try simp only [Act.put, gy0, gy1, gy2])
          refine wpAnyH_take (i := 8) (v := ?_) (by simp only [gx0, gx1, gx2]; rfl) (by kernel_rfl) (by kernel_rfl) (by kernel_rfl) (fun _ _ _ h => h) (.inl ⟨by rfl, ?_⟩) hH ?_
          rotate_left
          · intro w hSw; (try dsimp only at hSw); first | (go_simp; done) | (go_simp; with_reducible rfl) | (go_simp; decide)
          (try simp only [Act.put, gy0, gy1, gy2])
          refine wpAnyH_take (i := 9) (v := ?_) (by simp only [gx0, gx1, gx2]; rfl) (by kernel_rfl) (by kernel_rfl) (by kernel_rfl) (fun _ _ _ h => h) (.inl ⟨by rfl, ?_⟩) hH ?_
          rotate_left
          · intro w hSw; (try dsimp only at hSw); first | (go_simp; done) | (go_simp; with_reducible rfl) | (go_simp; decide)
          (try simp only [Act.put, gy0, gy1, gy2])
          refine wpAnyH_take (i := 10) (v := ?_) (by simp only [gx0, gx1, gx2]; rfl) (by kernel_rfl) (by kernel_rfl) (by kernel_rfl) (fun _ _ _ h => h) (.inl ⟨by rfl, ?_⟩) hH ?_
          rotate_left
          · intro w hSw; (try dsimp only at hSw); first | (go_simp; done) | (go_simp; with_reducible rfl) | (go_simp; decide)
          (try simp only [Act.put, gy0, gy1, gy2])
          refine wpAnyH_take (i := 11) (v := ?_) (by simp only [gx0, gx1, gx2]; rfl) (by kernel_rfl) (by kernel_rfl) (by kernel_rfl) (fun _ _ _ h => h) (.inl ⟨by rfl, ?_⟩) hH ?_
          rotate_left
          · intro w hSw; (try dsimp only at hSw); first | (go_simp; done) | (go_simp; with_reducible rfl) | (go_simp; decide)
          (try simp only [Act.put, gy0, gy1, gy2])
          refine wpAnyH_take (i := 12) (v := ?_) (by simp only [gx0, gx1, gx2]; rfl) (by kernel_rfl) (by kernel_rfl) (by kernel_rfl) (fun _ _ _ h => h) (.inl ⟨by rfl, ?_⟩) hH ?_
          rotate_left
          · intro w hSw; (try dsimp only at hSw); first | (go_simp; done) | (go_simp; with_reducible rfl) | (go_simp; decide)
          (try simp only [Act.put, gy0, gy1, gy2])
          refine wpAnyH_take (i := 13) (v := ?_) (by simp only [gx0, gx1, gx2]; rfl) (by kernel_rfl) (by kernel_rfl) (by kernel_rfl) (fun _ _ _ h => h) (.inl ⟨by rfl, ?_⟩) hH ?_
          rotate_left
          · intro w hSw; (try dsimp only at hSw); first | (go_simp; done) | (go_simp; with_reducible rfl) | (go_simp; decide)
          (try simp only [Act.put, gy0, gy1, gy2])
          refine wpAnyH_take (i := 14) (v := undef) (by simp only [gx0, gx1, gx2]; rfl) (by kernel_rfl) (by kernel_rfl) (by kernel_rfl) (fun _ _ _ h => h) (.inr ⟨by rfl, by rfl⟩) hH ?_
          (try simp only [Act.put, gy0, gy1, gy2])
          refine wpAnyH_take (i := 15) (v := undef) (by simp only [gx0, gx1, gx2]; rfl) (by kernel_rfl) (by kernel_rfl) (by kernel_rfl) (fun _ _ _ h => h) (.inr ⟨by rfl, by rfl⟩) hH ?_
          (try simp only [Act.put, gy0, gy1, gy2])
          refine wpAnyH_take (i := 16) (v := ?_) (by simp only [gx0, gx1, gx2]; rfl) (by kernel_rfl) (by kernel_rfl) (by kernel_rfl) (fun _ _ _ h => h) (.inl ⟨by rfl, ?_⟩) hH ?_
          rotate_left
          · intro w hSw; (try dsimp only at hSw); first | (go_simp; done) | (go_simp; with_reducible rfl) | (go_simp; decide)
          (try simp only [Act.put, gy0, gy1, gy2])
          refine wpAnyH_take (i := 17) (v := ?_) (by simp only [gx0, gx1, gx2]; rfl) (by kernel_rfl) (by kernel_rfl) (by kernel_rfl) (fun _ _ _ h => h) (.inl ⟨by rfl, ?_⟩) hH ?_
          rotate_left
          · intro w hSw; (try dsimp only at hSw); first | (go_simp; done) | (go_simp; with_reducible rfl) | (go_simp; decide)
          (try simp only [Act.put, gy0, gy1, gy2])
          refine wpAnyH_take (i := 18) (v := ?_) (by simp only [gx0, gx1, gx2]; rfl) (by kernel_rfl) (by kernel_rfl) (by kernel_rfl) (fun _ _ _ h => h) (.inl ⟨by rfl, ?_⟩) hH ?_
          rotate_left
          · intro w hSw; (try dsimp only at hSw); first | (go_simp; done) | (go_simp; with_reducible rfl) | (go_simp; decide)
          (try simp only [Act.put, gy0, gy1, gy2])
          refine wpAnyH_take (i := 19) (v := ?_) (by simp only [gx0, gx1, gx2]; rfl) (by kernel_rfl) (by kernel_rfl) (by kernel_rfl) (fun _ _ _ h => h) (.inl ⟨by rfl, ?_⟩) hH ?_
          rotate_left
          · intro w hSw; (try dsimp only at hSw); first | (go_simp; done) | (go_simp; with_reducible rfl) | (go_simp; decide)
          (try simp only [Act.put, gy0, gy1, gy2])
          refine wpAnyH_take (i := 20) (v := ?_) (by simp only [gx0, gx1, gx2]; rfl) (by kernel_rfl) (by kernel_rfl) (by kernel_rfl) (fun _ _ _ h => h) (.inl ⟨by rfl, ?_⟩) hH ?_
          rotate_left
          · intro w hSw; (try dsimp only at hSw); first | (go_simp; done) | (go_simp; with_reducible rfl) | (go_simp; decide)
          (try simp only [Act.put, gy0, gy1, gy2])
          refine wpAnyH_take (i := 21) (v := ?_) (by simp only [gx0, gx1, gx2]; rfl) (by kernel_rfl) (by kernel_rfl) (by kernel_rfl) (fun _ _ _ h => h) (.inl ⟨by rfl, ?_⟩) hH ?_
          rotate_left
          · intro w hSw; (try dsimp only at hSw); first | (go_simp; done) | (go_simp; with_reducible rfl) | (go_simp; decide)
          (try simp only [Act.put, gy0, gy1, gy2])
          refine wpAnyH_take (i := 22) (v := undef) (by simp only [gx0, gx1, gx2]; rfl) (by kernel_rfl) (by kernel_rfl) (by kernel_rfl) (fun _ _ _ h => h) (.inr ⟨by rfl, by rfl⟩) hH ?_
          (try simp only [Act.put, gy0, gy1, gy2])
          refine wpAnyH_take (i := 23) (v := undef) (by simp only [gx0, gx1, gx2]; rfl) (by kernel_rfl) (by kernel_rfl) (by kernel_rfl) (fun _ _ _ h => h) (.inr ⟨by rfl, by rfl⟩) hH ?_
          (try simp only [Act.put, gy0, gy1, gy2])
          refine wpAnyH_take (i := 24) (v := undef) (by simp only [gx0, gx1, gx2]; rfl) (by kernel_rfl) (by kernel_rfl) (by kernel_rfl) (fun _ _ _ h => h) (.inr ⟨by rfl, by rfl⟩) hH ?_
          (try simp only [Act.put, gy0, gy1, gy2])
          refine wpAnyH_take (i := 25) (v := undef) (by simp only [gx0, gx1, gx2]; rfl) (by kernel_rfl) (by kernel_rfl) (by kernel_rfl) (fun _ _ _ h => h) (.inr ⟨by rfl, by rfl⟩) hH ?_
          (try simp only [Act.put, gy0, gy1, gy2])
          refine wpAnyH_take (i := 26) (v := undef) (by simp only [gx0, gx1, gx2]; rfl) (by kernel_rfl) (by kernel_rfl) (by kernel_rfl) (fun _ _ _ h => h) (.inr ⟨by rfl, by rfl⟩) hH ?_
          (try simp only [Act.put, gy0, gy1, gy2])
          refine wpAnyH_take (i := 27) (v := undef) (by simp only [gx0, gx1, gx2]; rfl) (by kernel_rfl) (by kernel_rfl) (by kernel_rfl) (fun _ _ _ h => h) (.inr ⟨by rfl, by rfl⟩) hH ?_
          (try simp only [Act.put, gy0, gy1, gy2])
          refine wpAnyH_take (i := 28) (v := undef) (by simp only [gx0, gx1, gx2]; rfl) (by kernel_rfl) (by kernel_rfl) (by kernel_rfl) (fun _ _ _ h => h) (.inr ⟨by rfl, by rfl⟩) hH ?_
          (try simp only [Act.put, gy0, gy1, gy2])
          refine wpAnyH_take (i := 29) (v := undef) (by simp only [gx0, gx1, gx2]; rfl) (by kernel_rfl) (by kernel_rfl) (by kernel_rfl) (fun _ _ _ h => h) (.inr ⟨by rfl, by rfl⟩) hH ?_
          (try simp only [Act.put, gy0, gy1, gy2])
          refine wpAnyH_take (i := 30) (v := undef) (by simp only [gx0, gx1, gx2]; rfl) (by kernel_rfl) (by kernel_rfl) (by kernel_rfl) (fun _ _ _ h => h) (.inr ⟨by rfl, by rfl⟩) hH ?_
          (try simp only [Act.put, gy0, gy1, gy2])
          refine wpAnyH_take (i := 31) (v := undef) (by simp only [gx0, gx1, gx2]; rfl) (by kernel_rfl) (by kernel_rfl) (by kernel_rfl) (fun _ _ _ h => h) (.inr ⟨by rfl, by rfl⟩) hH ?_
          (try simp only [Act.put, gy0, gy1, gy2])
          refine wpAnyH_take (i := 32) (v := undef) (by simp only [gx0, gx1, gx2]; rfl) (by kernel_rfl) (by kernel_rfl) (by kernel_rfl) (fun _ _ _ h => h) (.inr ⟨by rfl, by rfl⟩) hH ?_
          (try simp only [Act.put, gy0, gy1, gy2])
          refine wpAnyH_take (i := 33) (v := undef) (by simp only [gx0, gx1, gx2]; rfl) (by kernel_rfl) (by kernel_rfl) (by kernel_rfl) (fun _ _ _ h => h) (.inr ⟨by rfl, by rfl⟩) hH ?_
          (try simp only [Act.put, gy0, gy1, gy2])
          refine wpAnyH_take (i := 34) (v := undef) (by simp only [gx0, gx1, gx2]; rfl) (by kernel_rfl) (by kernel_rfl) (by kernel_rfl) (fun _ _ _ h => h) (.inr ⟨by rfl, by rfl⟩) hH ?_
          (try simp only [Act.put, gy0, gy1, gy2])
          refine wpAnyH_take (i := 35) (v := ?_) (by simp only [gx0, gx1, gx2]; rfl) (by kernel_rfl) (by kernel_rfl) (by kernel_rfl) (fun _ _ _ h => h) (.inl ⟨by rfl, ?_⟩) hH ?_
          rotate_left
          · intro w hSw; (try dsimp only at hSw); first | (go_simp; done) | (go_simp; with_reducible rfl) | (go_simp; decide)
          (try simp only [Act.put, gy0, gy1, gy2])
          refine wpAnyH_take (i := 36) (v := ?_) (by simp only [gx0, gx1, gx2]; rfl) (by kernel_rfl) (by kernel_rfl) (by kernel_rfl) (fun _ _ _ h => h) (.inl ⟨by rfl, ?_⟩) hH ?_
          rotate_left
          · intro w hSw; (try dsimp only at hSw); first | (go_simp; done) | (go_simp; with_reducible rfl) | (go_simp; decide)
          (try simp only [Act.put, gy0, gy1, gy2])
          refine wpAnyH_done (by kernel_rfl) ?_ _
          refine NoPanic.normal ?_
          clear hH
          go_wp2_with fail
          go_meet
          exact ⟨rfl, BW_8⟩
        · skip
          have G1 := hid (show sgnQ (zb - za) = 1 from E1.out)
          have ty : decide (y ≤ 0) = true := decide_eq_true hy
          have tz : decide (0 < z) = false := decide_eq_false (by have := T1.out (by omega) hy; omega)
          clear E1 E2 E3 T1 T2 RG2
          have BW := hid (bx_refl w6)
          (try simp only [List.append_eq, List.cons_append, List.nil_append])
          refine wp_region_noPanic ?_
          refine wp_region_held_drew (S := (fun W => (W.cell? ⟨w.heap.size, 0, none⟩ = some (.bool ga) ∧ W.cell? ⟨w.heap.size, 1, none⟩ = some (.slice Aa na ca) ∧ W.cell? ⟨w.heap.size, 2, none⟩ = some (.slice Da ma da)) ∧ (W.cell? ⟨w.heap.size + 1, 0, none⟩ = some (.bool gb) ∧ W.cell? ⟨w.heap.size + 1, 1, none⟩ = some (.slice Ab nb cb) ∧ W.cell? ⟨w.heap.size + 1, 2, none⟩ = some (.slice Db mb db)) ∧ (W.cell? ⟨w.heap.size + 1 + 1, 0, none⟩ = some (.bool gc) ∧ W.cell? ⟨w.heap.size + 1 + 1, 1, none⟩ = some (.slice Ac nc cc) ∧ W.cell? ⟨w.heap.size + 1 + 1, 2, none⟩ = some (.slice Dc mc dc)))) (by kernel_rfl) ?_ (fun hH => ?_)
          exact (And.intro (blk_three Ka_6.out) (And.intro (blk_three Kb_6.out) (blk_three Kc_6.out)))
          have bd := bx_drew (bx_refl w6)
          obtain ⟨w7, hW0⟩ : ∃ W, W = w6.drew := ⟨_, rfl⟩
          rw [← hW0] at bd hH ⊢
          clear hW0
          have Va_7 := hid (Va_6.out.keep bd)
          have Ka_7 := hid (Ka_6.out.keep bd)
          have Vb_7 := hid (Vb_6.out.keep bd)
          have Kb_7 := hid (Kb_6.out.keep bd)
          have Vc_7 := hid (Vc_6.out.keep bd)
          have Kc_7 := hid (Kc_6.out.keep bd)
          have X_7 := hid (bx_call X_6.out bd)
          have BW_7 := hid (bx_call BW.out bd)
          clear bd Va_6 Ka_6 Vb_6 Kb_6 Vc_6 Kc_6 X_6 BW
          refine wpAnyH_take (i := 0) (v := ?_) (by simp only [gx0, gx2]; rfl) (by kernel_rfl) (by kernel_rfl) (by kernel_rfl) (fun _ _ _ h => h) (.inl ⟨by rfl, ?_⟩) hH ?_
          rotate_left
          · intro w hSw; (try dsimp only at hSw); first | (go_simp; done) | (go_simp; with_reducible rfl) | (go_simp; decide)
          (try simp only [Act.put, gy0, gy1, gy2])
          refine wpAnyH_take (i := 1) (v := ?_) (by simp only [gx0, gx1, gx2]; rfl) (by kernel_rfl) (by kernel_rfl) (by kernel_rfl) (fun _ _ _ h => h) (.inl ⟨by rfl, ?_⟩) hH ?_
          rotate_left
          · intro w hSw; (try dsimp only at hSw); first | (go_simp; done) | (go_simp; with_reducible rfl) | (go_simp; decide)
          (try simp only [Act.put, gy0, gy1, gy2])
          refine wpAnyH_take (i := 2) (v := ?_) (by simp only [gx0, gx1, gx2]; rfl) (by kernel_rfl) (by kernel_rfl) (by kernel_rfl) (fun _ _ _ h => h) (.inl ⟨by rfl, ?_⟩) hH ?_
          rotate_left
          · intro w hSw; (try dsimp only at hSw); first | (go_simp; done) | (go_simp; with_reducible rfl) | (go_simp; decide)
          (try simp only [Act.put, gy0, gy1, gy2])
          refine wpAnyH_ready (rs := [3]) (by kernel_rfl) (by simp) ?_
          refine AllReadyH.cons (by simp only [gx0, gx1, gx2]; rfl) (fun K hK => ?_) AllReadyH.nil
          go_simp
          have cc := vcmp gb Ab nb cb Db mb db ga Aa na ca Da ma da 4 (zb) (za) w7 (Vb_7.out) (Va_7.out) (by omega)
          rw [G1.out] at cc
          refine cc.mono ?_
          rintro e w8 ⟨rfl, b⟩
          clear cc hH
          have Va_8 := hid (Va_7.out.keep b)
          have Ka_8 := hid (Ka_7.out.keep b)
          have Vb_8 := hid (Vb_7.out.keep b)
          have Kb_8 := hid (Kb_7.out.keep b)
          have Vc_8 := hid (Vc_7.out.keep b)
          have Kc_8 := hid (Kc_7.out.keep b)
          have X_8 := hid (bx_call X_7.out b)
          have BW_8 := hid (bx_call BW_7.out b)
          clear b Va_7 Ka_7 Vb_7 Kb_7 Vc_7 Kc_7 X_7 BW_7
          (try go_wp2_with fail)
          refine hK.out _ _ ?_ (fun hH => ?_)
          exact (And.intro (blk_three Ka_8.out) (And.intro (blk_three Kb_8.out) (blk_three Kc_8.out)))
          clear hK K
          (try simp only [Act.put, gy0, gy1, gy2])
          refine wpAnyH_take (i := 4) (v := .int .i64 (-1)) (by simp only [gx0, gx1, gx2]; rfl) (by kernel_rfl) (by kernel_rfl) (by kernel_rfl) (fun _ _ _ h => h) (.inl ⟨by rfl, ?_⟩) hH ?_
          · intro w hSw; (try dsimp only at hSw); first | (go_simp; done) | (go_simp; with_reducible rfl) | (go_simp; decide)
          (try simp only [Act.put, gy0, gy1, gy2])
          refine wpAnyH_take (i := 5) (v := .bool false) (by simp only [gx0, gx1, gx2]; rfl) (by kernel_rfl) (by kernel_rfl) (by kernel_rfl) (fun _ _ _ h => h) (.inl ⟨by rfl, ?_⟩) hH ?_
          · intro w hSw; (try dsimp only at hSw); first | (go_simp; done) | (go_simp; with_reducible rfl) | (go_simp; decide)
          (try simp only [Act.put, gy0, gy1, gy2])
          refine wpAnyH_take (i := 6) (v := .bool false) (by simp only [gx0, gx1, gx2]; rfl) (by kernel_rfl) (by kernel_rfl) (by kernel_rfl) (fun _ _ _ h => h) (.inl ⟨by rfl, ?_⟩) hH ?_
          · intro w hSw; (try dsimp only at hSw); first | (go_simp; done) | (go_simp; with_reducible rfl) | (go_simp; decide)
          (try simp only [Act.put, gy0, gy1, gy2])
          refine wpAnyH_take (i := 7) (v := ?_) (by simp only [gx0, gx1, gx2]; rfl) (by kernel_rfl) (by kernel_rfl) (by kernel_rfl) (fun _ _ _ h => h) (.inl ⟨by rfl, ?_⟩) hH ?_
          rotate_left
          · intro w hSw; (try dsimp only at hSw); first | (go_simp; done) | (go_simp; with_reducible rfl) | (go_simp; decide)
          (try simp only [Act.put, gy0, gy1, gy2])
          refine wpAnyH_take (i := 8) (v := ?_) (by simp only [gx0, gx1, gx2]; rfl) (by kernel_rfl) (by kernel_rfl) (by kernel_rfl) (fun _ _ _ h => h) (.inl ⟨by rfl, ?_⟩) hH ?_
          rotate_left
          · intro w hSw; (try dsimp only at hSw); first | (go_simp; done) | (go_simp; with_reducible rfl) | (go_simp; decide)
          (try simp only [Act.put, gy0, gy1, gy2])
          refine wpAnyH_take (i := 9) (v := ?_) (by simp only [gx0, gx1, gx2]; rfl) (by kernel_rfl) (by kernel_rfl) (by kernel_rfl) (fun _ _ _ h => h) (.inl ⟨by rfl, ?_⟩) hH ?_
          rotate_left
          · intro w hSw; (try dsimp only at hSw); first | (go_simp; done) | (go_simp; with_reducible rfl) | (go_simp; decide)
          (try simp only [Act.put, gy0, gy1, gy2])
          refine wpAnyH_take (i := 10) (v := ?_) (by simp only [gx0, gx1, gx2]; rfl) (by kernel_rfl) (by kernel_rfl) (by kernel_rfl) (fun _ _ _ h => h) (.inl ⟨by rfl, ?_⟩) hH ?_
          rotate_left
          · intro w hSw; (try dsimp only at hSw); first | (go_simp; done) | (go_simp; with_reducible rfl) | (go_simp; decide)
          (try simp only [Act.put, gy0, gy1, gy2])
          refine wpAnyH_take (i := 11) (v := ?_) (by simp only [gx0, gx1, gx2]; rfl) (by kernel_rfl) (by kernel_rfl) (by kernel_rfl) (fun _ _ _ h => h) (.inl ⟨by rfl, ?_⟩) hH ?_
          rotate_left
          · intro w hSw; (try dsimp only at hSw); first | (go_simp; done) | (go_simp; with_reducible rfl) | (go_simp; decide)
          (try simp only [Act.put, gy0, gy1, gy2])
          refine wpAnyH_take (i := 12) (v := ?_) (by simp only [gx0, gx1, gx2]; rfl) (by kernel_rfl) (by kernel_rfl) (by kernel_rfl) (fun _ _ _ h => h) (.inl ⟨by rfl, ?_⟩) hH ?_
          rotate_left
          · intro w hSw; (try dsimp only at hSw); first | (go_simp; done) | (go_simp; with_reducible rfl) | (go_simp; decide)
          (try simp only [Act.put, gy0, gy1, gy2])
          refine wpAnyH_take (i := 13) (v := ?_) (by simp only [gx0, gx1, gx2]; rfl) (by kernel_rfl) (by kernel_rfl) (by kernel_rfl) (fun _ _ _ h => h) (.inl ⟨by rfl, ?_⟩) hH ?_
          rotate_left
          · intro w hSw; (try dsimp only at hSw); first | (go_simp; done) | (go_simp; with_reducible rfl) | (go_simp; decide)
          (try simp only [Act.put, gy0, gy1, gy2])
          refine wpAnyH_take (i := 14) (v := ?_) (by simp only [gx0, gx1, gx2]; rfl) (by kernel_rfl) (by kernel_rfl) (by kernel_rfl) (fun _ _ _ h => h) (.inl ⟨by rfl, ?_⟩) hH ?_
          rotate_left
          · intro w hSw; (try dsimp only at hSw); first | (go_simp; done) | (go_simp; with_reducible rfl) | (go_simp; decide)
          (try simp only [Act.put, gy0, gy1, gy2])
          refine wpAnyH_take (i := 15) (v := ?_) (by simp only [gx0, gx1, gx2]; rfl) (by kernel_rfl) (by kernel_rfl) (by kernel_rfl) (fun _ _ _ h => h) (.inl ⟨by rfl, ?_⟩) hH ?_
          rotate_left
          · intro w hSw; (try dsimp only at hSw); first | (go_simp; done) | (go_simp; with_reducible rfl) | (go_simp; decide)
          (try simp only [Act.put, gy0, gy1, gy2])
          refine wpAnyH_take (i := 16) (v := ?_) (by simp only [gx0, gx1, gx2]; rfl) (by kernel_rfl) (by kernel_rfl) (by kernel_rfl) (fun _ _ _ h => h) (.inl ⟨by rfl, ?_⟩) hH ?_
          rotate_left
          · intro w hSw; (try dsimp only at hSw); first | (go_simp; done) | (go_simp; with_reducible rfl) | (go_simp; decide)
          (try simp only [Act.put, gy0, gy1, gy2])
          refine wpAnyH_take (i := 17) (v := ?_) (by simp only [gx0, gx1, gx2]; rfl) (by kernel_rfl) (by kernel_rfl) (by kernel_rfl) (fun _ _ _ h => h) (.inl ⟨by rfl, ?_⟩) hH ?_
          rotate_left
          · intro w hSw; (try dsimp only at hSw); first | (go_simp; done) | (go_simp; with_reducible rfl) | (go_simp; decide)
          (try simp only [Act.put, gy0, gy1, gy2])
          refine wpAnyH_take (i := 18) (v := ?_) (by simp only [gx0, gx1, gx2]; rfl) (by kernel_rfl) (by kernel_rfl) (by kernel_rfl) (fun _ _ _ h => h) (.inl ⟨by rfl, ?_⟩) hH ?_
          rotate_left
          · intro w hSw; (try dsimp only at hSw); first | (go_simp; done) | (go_simp; with_reducible rfl) | (go_simp; decide)
          (try simp only [Act.put, gy0, gy1, gy2])
          refine wpAnyH_take (i := 19) (v := ?_) (by simp only [gx0, gx1, gx2]; rfl) (by kernel_rfl) (by kernel_rfl) (by kernel_rfl) (fun _ _ _ h => h) (.inl ⟨by rfl, ?_⟩) hH ?_
          rotate_left
          · intro w hSw; (try dsimp only at hSw); first | (go_simp; done) | (go_simp; with_reducible rfl) | (go_simp; decide)
          (try simp only [Act.put, gy0, gy1, gy2])
          refine wpAnyH_take (i := 20) (v := ?_) (by simp only [gx0, gx1, gx2]; rfl) (by kernel_rfl) (by kernel_rfl) (by kernel_rfl) (fun _ _ _ h => h) (.inl ⟨by rfl, ?_⟩) hH ?_
          rotate_left
          · intro w hSw; (try dsimp only at hSw); first | (go_simp; done) | (go_simp; with_reducible rfl) | (go_simp; decide)
          (try simp only [Act.put, gy0, gy1, gy2])
          refine wpAnyH_take (i := 21) (v := ?_) (by simp only [gx0, gx1, gx2]; rfl) (by kernel_rfl) (by kernel_rfl) (by kernel_rfl) (fun _ _ _ h => h) (.inl ⟨by rfl, ?_⟩) hH ?_
          rotate_left
          · intro w hSw; (try dsimp only at hSw); first | (go_simp; done) | (go_simp; with_reducible rfl) | (go_simp; decide)
          (try simp only [Act.put, gy0, gy1, gy2])
          refine wpAnyH_take (i := 22) (v := undef) (by simp only [gx0, gx1, gx2]; rfl) (by kernel_rfl) (by kernel_rfl) (by kernel_rfl) (fun _ _ _ h => h) (.inr ⟨by rfl, by rfl⟩) hH ?_
          (try simp only [Act.put, gy0, gy1, gy2])
          refine wpAnyH_take (i := 23) (v := undef) (by simp only [gx0, gx1, gx2]; rfl) (by kernel_rfl) (by kernel_rfl) (by kernel_rfl) (fun _ _ _ h => h) (.inr ⟨by rfl, by rfl⟩) hH ?_
          (try simp only [Act.put, gy0, gy1, gy2])
          refine wpAnyH_take (i := 24) (v := undef) (by simp only [gx0, gx1, gx2]; rfl) (by kernel_rfl) (by kernel_rfl) (by kernel_rfl) (fun _ _ _ h => h) (.inr ⟨by rfl, by rfl⟩) hH ?_
          (try simp only [Act.put, gy0, gy1, gy2])
          refine wpAnyH_take (i := 25) (v := undef) (by simp only [gx0, gx1, gx2]; rfl) (by kernel_rfl) (by kernel_rfl) (by kernel_rfl) (fun _ _ _ h => h) (.inr ⟨by rfl, by rfl⟩) hH ?_
          (try simp only [Act.put, gy0, gy1, gy2])
          refine wpAnyH_take (i := 26) (v := undef) (by simp only [gx0, gx1, gx2]; rfl) (by kernel_rfl) (by kernel_rfl) (by kernel_rfl) (fun _ _ _ h => h) (.inr ⟨by rfl, by rfl⟩) hH ?_
          (try simp only [Act.put, gy0, gy1, gy2])
          refine wpAnyH_take (i := 27) (v := undef) (by simp only [gx0, gx1, gx2]; rfl) (by kernel_rfl) (by kernel_rfl) (by kernel_rfl) (fun _ _ _ h => h) (.inr ⟨by rfl, by rfl⟩) hH ?_
          (try simp only [Act.put, gy0, gy1, gy2])
          refine wpAnyH_take (i := 28) (v := undef) (by simp only [gx0, gx1, gx2]; rfl) (by kernel_rfl) (by kernel_rfl) (by kernel_rfl) (fun _ _ _ h => h) (.inr ⟨by rfl, by rfl⟩) hH ?_
          (try simp only [Act.put, gy0, gy1, gy2])
          refine wpAnyH_take (i := 29) (v := undef) (by simp only [gx0, gx1, gx2]; rfl) (by kernel_rfl) (by kernel_rfl) (by kernel_rfl) (fun _ _ _ h => h) (.inr ⟨by rfl, by rfl⟩) hH ?_
          (try simp only [Act.put, gy0, gy1, gy2])
          refine wpAnyH_take (i := 30) (v := undef) (by simp only [gx0, gx1, gx2]; rfl) (by kernel_rfl) (by kernel_rfl) (by kernel_rfl) (fun _ _ _ h => h) (.inr ⟨by rfl, by rfl⟩) hH ?_
          (try simp only [Act.put, gy0, gy1, gy2])
          refine wpAnyH_take (i := 31) (v := undef) (by simp only [gx0, gx1, gx2]; rfl) (by kernel_rfl) (by kernel_rfl) (by kernel_rfl) (fun _ _ _ h => h) (.inr ⟨by rfl, by rfl⟩) hH ?_
          (try simp only [Act.put, gy0, gy1, gy2])
          refine wpAnyH_take (i := 32) (v := undef) (by simp only [gx0, gx1, gx2]; rfl) (by kernel_rfl) (by kernel_rfl) (by kernel_rfl) (fun _ _ _ h => h) (.inr ⟨by rfl, by rfl⟩) hH ?_
          (try simp only [Act.put, gy0, gy1, gy2])
          refine wpAnyH_take (i := 33) (v := undef) (by simp only [gx0, gx1, gx2]; rfl) (by kernel_rfl) (by kernel_rfl) (by kernel_rfl) (fun _ _ _ h => h) (.inr ⟨by rfl, by rfl⟩) hH ?_
          (try simp only [Act.put, gy0, gy1, gy2])
          refine wpAnyH_take (i := 34) (v := undef) (by simp only [gx0, gx1, gx2]; rfl) (by kernel_rfl) (by kernel_rfl) (by kernel_rfl) (fun _ _ _ h => h) (.inr ⟨by rfl, by rfl⟩) hH ?_
          (try simp only [Act.put, gy0, gy1, gy2])
          refine wpAnyH_take (i := 35) (v := ?_) (by simp only [gx0, gx1, gx2]; rfl) (by kernel_rfl) (by kernel_rfl) (by kernel_rfl) (fun _ _ _ h => h) (.inl ⟨by rfl, ?_⟩) hH ?_
          rotate_left
          · intro w hSw; (try dsimp only at hSw); first | (go_simp; done) | (go_simp; with_reducible rfl) | (go_simp; decide)
          (try simp only [Act.put, gy0, gy1, gy2])
          refine wpAnyH_take (i := 36) (v := ?_) (by simp only [gx0, gx1, gx2]; rfl) (by kernel_rfl) (by kernel_rfl) (by kernel_rfl) (fun _ _ _ h => h) (.inl ⟨by rfl, ?_⟩) hH ?_
          rotate_left
          · intro w hSw; (try dsimp only at hSw); first | (go_simp; done) | (go_simp; with_reducible rfl) | (go_simp; decide)
          (try simp only [Act.put, gy0, gy1, gy2])
          refine wpAnyH_done (by kernel_rfl) ?_ _
          refine NoPanic.normal ?_
          clear hH
          go_wp2_with fail
          go_meet
          exact ⟨rfl, BW_8⟩
      · rcases Int.lt_or_le 0 y with hy | hy
        · skip
          have G1 := hid (show sgnQ (zb - za) = 0 from E1.out)
          have ty : decide (y ≤ 0) = false := decide_eq_false (by omega)
          obtain ⟨hzy, hab⟩ := T2.out rfl
          subst hzy
          have HAB := hid hab
          clear hab
          clear E1 E2 E3 T1 T2 RG2
          have BW := hid (bx_refl w6)
          have Lz := hid (frl_zero w6 (k := 4) (by omega))
          (try simp only [List.append_eq, List.cons_append, List.nil_append])
          refine wp_region_noPanic ?_
          refine wp_region_held_drew (S := (fun W => (W.cell? ⟨w.heap.size, 0, none⟩ = some (.bool ga) ∧ W.cell? ⟨w.heap.size, 1, none⟩ = some (.slice Aa na ca) ∧ W.cell? ⟨w.heap.size, 2, none⟩ = some (.slice Da ma da)) ∧ (W.cell? ⟨w.heap.size + 1, 0, none⟩ = some (.bool gb) ∧ W.cell? ⟨w.heap.size + 1, 1, none⟩ = some (.slice Ab nb cb) ∧ W.cell? ⟨w.heap.size + 1, 2, none⟩ = some (.slice Db mb db)) ∧ (W.cell? ⟨w.heap.size + 1 + 1, 0, none⟩ = some (.bool gc) ∧ W.cell? ⟨w.heap.size + 1 + 1, 1, none⟩ = some (.slice Ac nc cc) ∧ W.cell? ⟨w.heap.size + 1 + 1, 2, none⟩ = some (.slice Dc mc dc)))) (by kernel_rfl) ?_ (fun hH => ?_)
          exact (And.intro (blk_three Ka_6.out) (And.intro (blk_three Kb_6.out) (blk_three Kc_6.out)))
          have bd := bx_drew (bx_refl w6)
          obtain ⟨w7, hW0⟩ : ∃ W, W = w6.drew := ⟨_, rfl⟩
          rw [← hW0] at bd hH ⊢
          clear hW0
          have Va_7 := hid (Va_6.out.keep bd)
          have Ka_7 := hid (Ka_6.out.keep bd)
          have Vb_7 := hid (Vb_6.out.keep bd)
          have Kb_7 := hid (Kb_6.out.keep bd)
          have Vc_7 := hid (Vc_6.out.keep bd)
          have Kc_7 := hid (Kc_6.out.keep bd)
          have Lz_7 := hid (Lz.out.keep bd)
          have X_7 := hid (bx_call X_6.out bd)
          have BW_7 := hid (bx_call BW.out bd)
          clear bd Va_6 Ka_6 Vb_6 Kb_6 Vc_6 Kc_6 Lz X_6 BW
          refine wpAnyH_take (i := 0) (v := ?_) (by simp only [gx0, gx2]; rfl) (by kernel_rfl) (by kernel_rfl) (by kernel_rfl) (fun _ _ _ h => h) (.inl ⟨by rfl, ?_⟩) hH ?_
          rotate_left
          · intro w hSw; (try dsimp only at hSw); first | (go_simp; done) | (go_simp; with_reducible rfl) | (go_simp; decide)
          (try simp only [Act.put, gy0, gy1, gy2])
          refine wpAnyH_take (i := 1) (v := ?_) (by simp only [gx0, gx1, gx2]; rfl) (by kernel_rfl) (by kernel_rfl) (by kernel_rfl) (fun _ _ _ h => h) (.inl ⟨by rfl, ?_⟩) hH ?_
          rotate_left
          · intro w hSw; (try dsimp only at hSw); first | (go_simp; done) | (go_simp; with_reducible rfl) | (go_simp; decide)
          (try simp only [Act.put, gy0, gy1, gy2])
          refine wpAnyH_take (i := 2) (v := ?_) (by simp only [gx0, gx1, gx2]; rfl) (by kernel_rfl) (by kernel_rfl) (by kernel_rfl) (fun _ _ _ h => h) (.inl ⟨by rfl, ?_⟩) hH ?_
          rotate_left
          · intro w hSw; (try dsimp only at hSw); first | (go_simp; done) | (go_simp; with_reducible rfl) | (go_simp; decide)
          (try simp only [Act.put, gy0, gy1, gy2])
          refine wpAnyH_ready (rs := [3]) (by kernel_rfl) (by simp) ?_
          refine AllReadyH.cons (by simp only [gx0, gx1, gx2]; rfl) (fun K hK => ?_) AllReadyH.nil
          go_simp
          have cc := vcmp gb Ab nb cb Db mb db ga Aa na ca Da ma da 4 (zb) (za) w7 (Vb_7.out) (Va_7.out) (by omega)
          rw [G1.out] at cc
          refine cc.mono ?_
          rintro e w8 ⟨rfl, b⟩
          clear cc hH
          have Va_8 := hid (Va_7.out.keep b)
          have Ka_8 := hid (Ka_7.out.keep b)
          have Vb_8 := hid (Vb_7.out.keep b)
          have Kb_8 := hid (Kb_7.out.keep b)
          have Vc_8 := hid (Vc_7.out.keep b)
          have Kc_8 := hid (Kc_7.out.keep b)
          have Lz_8 := hid (Lz_7.out.keep b)
          have X_8 := hid (bx_call X_7.out b)
          have BW_8 := hid (bx_call BW_7.out b)
          clear b Va_7 Ka_7 Vb_7 Kb_7 Vc_7 Kc_7 Lz_7 X_7 BW_7
          (try go_wp2_with fail)
          refine hK.out _ _ ?_ (fun hH => ?_)
          exact (And.intro (blk_three Ka_8.out) (And.intro (blk_three Kb_8.out) (blk_three Kc_8.out)))
          clear hK K
          (try simp only [Act.put, gy0, gy1, gy2])
          refine wpAnyH_take (i := 4) (v := .int .i64 (0)) (by simp only [gx0, gx1, gx2]; rfl) (by kernel_rfl) (by kernel_rfl) (by kernel_rfl) (fun _ _ _ h => h) (.inl ⟨by rfl, ?_⟩) hH ?_
          · intro w hSw; (try dsimp only at hSw); first | (go_simp; done) | (go_simp; with_reducible rfl) | (go_simp; decide)
          (try simp only [Act.put, gy0, gy1, gy2])
          refine wpAnyH_take (i := 5) (v := .bool false) (by simp only [gx0, gx1, gx2]; rfl) (by kernel_rfl) (by kernel_rfl) (by kernel_rfl) (fun _ _ _ h => h) (.inl ⟨by rfl, ?_⟩) hH ?_
          · intro w hSw; (try dsimp only at hSw); first | (go_simp; done) | (go_simp; with_reducible rfl) | (go_simp; decide)
          (try simp only [Act.put, gy0, gy1, gy2])
          refine wpAnyH_take (i := 6) (v := .bool false) (by simp only [gx0, gx1, gx2]; rfl) (by kernel_rfl) (by kernel_rfl) (by kernel_rfl) (fun _ _ _ h => h) (.inl ⟨by rfl, ?_⟩) hH ?_
          · intro w hSw; (try dsimp only at hSw); first | (go_simp; done) | (go_simp; with_reducible rfl) | (go_simp; decide)
          (try simp only [Act.put, gy0, gy1, gy2])
          refine wpAnyH_take (i := 7) (v := ?_) (by simp only [gx0, gx1, gx2]; rfl) (by kernel_rfl) (by kernel_rfl) (by kernel_rfl) (fun _ _ _ h => h) (.inl ⟨by rfl, ?_⟩) hH ?_
          rotate_left
          · intro w hSw; (try dsimp only at hSw); first | (go_simp; done) | (go_simp; with_reducible rfl) | (go_simp; decide)
          (try simp only [Act.put, gy0, gy1, gy2])
          refine wpAnyH_take (i := 8) (v := ?_) (by simp only [gx0, gx1, gx2]; rfl) (by kernel_rfl) (by kernel_rfl) (by kernel_rfl) (fun _ _ _ h => h) (.inl ⟨by rfl, ?_⟩) hH ?_
          rotate_left
          · intro w hSw; (try dsimp only at hSw); first | (go_simp; done) | (go_simp; with_reducible rfl) | (go_simp; decide)
          (try simp only [Act.put, gy0, gy1, gy2])
          refine wpAnyH_take (i := 9) (v := ?_) (by simp only [gx0, gx1, gx2]; rfl) (by kernel_rfl) (by kernel_rfl) (by kernel_rfl) (fun _ _ _ h => h) (.inl ⟨by rfl, ?_⟩) hH ?_
          rotate_left
          · intro w hSw; (try dsimp only at hSw); first | (go_simp; done) | (go_simp; with_reducible rfl) | (go_simp; decide)
          (try simp only [Act.put, gy0, gy1, gy2])
          refine wpAnyH_take (i := 10) (v := ?_) (by simp only [gx0, gx1, gx2]; rfl) (by kernel_rfl) (by kernel_rfl) (by kernel_rfl) (fun _ _ _ h => h) (.inl ⟨by rfl, ?_⟩) hH ?_
          rotate_left
          · intro w hSw; (try dsimp only at hSw); first | (go_simp; done) | (go_simp; with_reducible rfl) | (go_simp; decide)
          (try simp only [Act.put, gy0, gy1, gy2])
          refine wpAnyH_take (i := 11) (v := ?_) (by simp only [gx0, gx1, gx2]; rfl) (by kernel_rfl) (by kernel_rfl) (by kernel_rfl) (fun _ _ _ h => h) (.inl ⟨by rfl, ?_⟩) hH ?_
          rotate_left
          · intro w hSw; (try dsimp only at hSw); first | (go_simp; done) | (go_simp; with_reducible rfl) | (go_simp; decide)
          (try simp only [Act.put, gy0, gy1, gy2])
          refine wpAnyH_take (i := 12) (v := ?_) (by simp only [gx0, gx1, gx2]; rfl) (by kernel_rfl) (by kernel_rfl) (by kernel_rfl) (fun _ _ _ h => h) (.inl ⟨by rfl, ?_⟩) hH ?_
          rotate_left
          · intro w hSw; (try dsimp only at hSw); first | (go_simp; done) | (go_simp; with_reducible rfl) | (go_simp; decide)
          (try simp only [Act.put, gy0, gy1, gy2])
          refine wpAnyH_take (i := 13) (v := ?_) (by simp only [gx0, gx1, gx2]; rfl) (by kernel_rfl) (by kernel_rfl) (by kernel_rfl) (fun _ _ _ h => h) (.inl ⟨by rfl, ?_⟩) hH ?_
          rotate_left
          · intro w hSw; (try dsimp only at hSw); first | (go_simp; done) | (go_simp; with_reducible rfl) | (go_simp; decide)
          (try simp only [Act.put, gy0, gy1, gy2])
          refine wpAnyH_take (i := 14) (v := undef) (by simp only [gx0, gx1, gx2]; rfl) (by kernel_rfl) (by kernel_rfl) (by kernel_rfl) (fun _ _ _ h => h) (.inr ⟨by rfl, by rfl⟩) hH ?_
          (try simp only [Act.put, gy0, gy1, gy2])
          refine wpAnyH_take (i := 15) (v := undef) (by simp only [gx0, gx1, gx2]; rfl) (by kernel_rfl) (by kernel_rfl) (by kernel_rfl) (fun _ _ _ h => h) (.inr ⟨by rfl, by rfl⟩) hH ?_
          (try simp only [Act.put, gy0, gy1, gy2])
          refine wpAnyH_take (i := 16) (v := ?_) (by simp only [gx0, gx1, gx2]; rfl) (by kernel_rfl) (by kernel_rfl) (by kernel_rfl) (fun _ _ _ h => h) (.inl ⟨by rfl, ?_⟩) hH ?_
          rotate_left
          · intro w hSw; (try dsimp only at hSw); first | (go_simp; done) | (go_simp; with_reducible rfl) | (go_simp; decide)
          (try simp only [Act.put, gy0, gy1, gy2])
          refine wpAnyH_take (i := 17) (v := ?_) (by simp only [gx0, gx1, gx2]; rfl) (by kernel_rfl) (by kernel_rfl) (by kernel_rfl) (fun _ _ _ h => h) (.inl ⟨by rfl, ?_⟩) hH ?_
          rotate_left
          · intro w hSw; (try dsimp only at hSw); first | (go_simp; done) | (go_simp; with_reducible rfl) | (go_simp; decide)
          (try simp only [Act.put, gy0, gy1, gy2])
          refine wpAnyH_take (i := 18) (v := ?_) (by simp only [gx0, gx1, gx2]; rfl) (by kernel_rfl) (by kernel_rfl) (by kernel_rfl) (fun _ _ _ h => h) (.inl ⟨by rfl, ?_⟩) hH ?_
          rotate_left
          · intro w hSw; (try dsimp only at hSw); first | (go_simp; done) | (go_simp; with_reducible rfl) | (go_simp; decide)
          (try simp only [Act.put, gy0, gy1, gy2])
          refine wpAnyH_take (i := 19) (v := ?_) (by simp only [gx0, gx1, gx2]; rfl) (by kernel_rfl) (by kernel_rfl) (by kernel_rfl) (fun _ _ _ h => h) (.inl ⟨by rfl, ?_⟩) hH ?_
          rotate_left
          · intro w hSw; (try dsimp only at hSw); first | (go_simp; done) | (go_simp; with_reducible rfl) | (go_simp; decide)
          (try simp only [Act.put, gy0, gy1, gy2])
          refine wpAnyH_take (i := 20) (v := ?_) (by simp only [gx0, gx1, gx2]; rfl) (by kernel_rfl) (by kernel_rfl) (by kernel_rfl) (fun _ _ _ h => h) (.inl ⟨by rfl, ?_⟩) hH ?_
          rotate_left
          · intro w hSw; (try dsimp only at hSw); first | (go_simp; done) | (go_simp; with_reducible rfl) | (go_simp; decide)
          (try simp only [Act.put, gy0, gy1, gy2])
          refine wpAnyH_take (i := 21) (v := ?_) (by simp only [gx0, gx1, gx2]; rfl) (by kernel_rfl) (by kernel_rfl) (by kernel_rfl) (fun _ _ _ h => h) (.inl ⟨by rfl, ?_⟩) hH ?_
          rotate_left
          · intro w hSw; (try dsimp only at hSw); first | (go_simp; done) | (go_simp; with_reducible rfl) | (go_simp; decide)
          (try simp only [Act.put, gy0, gy1, gy2])
          refine wpAnyH_take (i := 22) (v := ?_) (by simp only [gx0, gx1, gx2]; rfl) (by kernel_rfl) (by kernel_rfl) (by kernel_rfl) (fun _ _ _ h => h) (.inl ⟨by rfl, ?_⟩) hH ?_
          rotate_left
          · intro w hSw; (try dsimp only at hSw); first | (go_simp; done) | (go_simp; with_reducible rfl) | (go_simp; decide)
          (try simp only [Act.put, gy0, gy1, gy2])
          refine wpAnyH_take (i := 23) (v := ?_) (by simp only [gx0, gx1, gx2]; rfl) (by kernel_rfl) (by kernel_rfl) (by kernel_rfl) (fun _ _ _ h => h) (.inl ⟨by rfl, ?_⟩) hH ?_
          rotate_left
          · intro w hSw; (try dsimp only at hSw); first | (go_simp; done) | (go_simp; with_reducible rfl) | (go_simp; decide)
          (try simp only [Act.put, gy0, gy1, gy2])
          refine wpAnyH_take (i := 24) (v := ?_) (by simp only [gx0, gx1, gx2]; rfl) (by kernel_rfl) (by kernel_rfl) (by kernel_rfl) (fun _ _ _ h => h) (.inl ⟨by rfl, ?_⟩) hH ?_
          rotate_left
          · intro w hSw; (try dsimp only at hSw); first | (go_simp; done) | (go_simp; with_reducible rfl) | (go_simp; decide)
          (try simp only [Act.put, gy0, gy1, gy2])
          refine wpAnyH_take (i := 25) (v := ?_) (by simp only [gx0, gx1, gx2]; rfl) (by kernel_rfl) (by kernel_rfl) (by kernel_rfl) (fun _ _ _ h => h) (.inl ⟨by rfl, ?_⟩) hH ?_
          rotate_left
          · intro w hSw; (try dsimp only at hSw); first | (go_simp; done) | (go_simp; with_reducible rfl) | (go_simp; decide)
          (try simp only [Act.put, gy0, gy1, gy2])
          refine wpAnyH_take (i := 26) (v := ?_) (by simp only [gx0, gx1, gx2]; rfl) (by kernel_rfl) (by kernel_rfl) (by kernel_rfl) (fun _ _ _ h => h) (.inl ⟨by rfl, ?_⟩) hH ?_
          rotate_left
          · intro w hSw; (try dsimp only at hSw); first | (go_simp; done) | (go_simp; with_reducible rfl) | (go_simp; decide)
          (try simp only [Act.put, gy0, gy1, gy2])
          refine wpAnyH_take (i := 27) (v := ?_) (by simp only [gx0, gx1, gx2]; rfl) (by kernel_rfl) (by kernel_rfl) (by kernel_rfl) (fun _ _ _ h => h) (.inl ⟨by rfl, ?_⟩) hH ?_
          rotate_left
          · intro w hSw; (try dsimp only at hSw); first | (go_simp; done) | (go_simp; with_reducible rfl) | (go_simp; decide)
          (try simp only [Act.put, gy0, gy1, gy2])
          refine wpAnyH_take (i := 29) (v := ?_) (by simp only [gx0, gx1, gx2]; rfl) (by kernel_rfl) (by kernel_rfl) (by kernel_rfl) (fun _ _ _ h => h) (.inl ⟨by rfl, ?_⟩) hH ?_
          rotate_left
          · intro w hSw; (try dsimp only at hSw); first | (go_simp; done) | (go_simp; with_reducible rfl) | (go_simp; decide)
          (try simp only [Act.put, gy0, gy1, gy2])
          refine wpAnyH_take (i := 30) (v := ?_) (by simp only [gx0, gx1, gx2]; rfl) (by kernel_rfl) (by kernel_rfl) (by kernel_rfl) (fun _ _ _ h => h) (.inl ⟨by rfl, ?_⟩) hH ?_
          rotate_left
          · intro w hSw; (try dsimp only at hSw); first | (go_simp; done) | (go_simp; with_reducible rfl) | (go_simp; decide)
          (try simp only [Act.put, gy0, gy1, gy2])
          refine wpAnyH_ready (rs := [28]) (by kernel_rfl) (by simp) ?_
          refine AllReadyH.cons (by simp only [gx0, gx1, gx2]; rfl) (fun K hK => ?_) AllReadyH.nil
          go_simp
          have cc := vadd ga Aa na ca Da ma da false none 0 0 none 0 0 4 za 0 w8 (Va_8.out) ((Lz_8.out).v) (by omega)
          refine cc.mono ?_
          rintro e w9 ⟨Ar1, nr1, cr1, Dr1, mr1, dr1, rfl, r, b⟩
          clear cc hH
          have Lr1 := hid r
          clear r
          have Va_9 := hid (Va_8.out.keep b)
          have Ka_9 := hid (Ka_8.out.keep b)
          have Vb_9 := hid (Vb_8.out.keep b)
          have Kb_9 := hid (Kb_8.out.keep b)
          have Vc_9 := hid (Vc_8.out.keep b)
          have Kc_9 := hid (Kc_8.out.keep b)
          have Lz_9 := hid (Lz_8.out.keep b)
          have X_9 := hid (bx_call X_8.out b)
          have BW_9 := hid (bx_call BW_8.out b)
          clear b Va_8 Ka_8 Vb_8 Kb_8 Vc_8 Kc_8 Lz_8 X_8 BW_8
          (try go_wp2_with fail)
          refine hK.out _ _ ?_ (fun hH => ?_)
          exact (And.intro (blk_three Ka_9.out) (And.intro (blk_three Kb_9.out) (blk_three Kc_9.out)))
          clear hK K
          (try simp only [Act.put, gy0, gy1, gy2])
          refine wpAnyH_ready (rs := [31]) (by kernel_rfl) (by simp) ?_
          refine AllReadyH.cons (by simp only [gx0, gx1, gx2]; rfl) (fun K hK => ?_) AllReadyH.nil
          go_simp
          have cc := vadd gb Ab nb cb Db mb db false none 0 0 none 0 0 4 zb 0 w9 (Vb_9.out) ((Lz_9.out).v) (by omega)
          refine cc.mono ?_
          rintro e w10 ⟨Ar2, nr2, cr2, Dr2, mr2, dr2, rfl, r, b⟩
          clear cc hH
          have Lr2 := hid r
          clear r
          have Va_10 := hid (Va_9.out.keep b)
          have Ka_10 := hid (Ka_9.out.keep b)
          have Vb_10 := hid (Vb_9.out.keep b)
          have Kb_10 := hid (Kb_9.out.keep b)
          have Vc_10 := hid (Vc_9.out.keep b)
          have Kc_10 := hid (Kc_9.out.keep b)
          have Lz_10 := hid (Lz_9.out.keep b)
          have Lr1_10 := hid (Lr1.out.keep b)
          have X_10 := hid (bx_call X_9.out b)
          have BW_10 := hid (bx_call BW_9.out b)
          clear b Va_9 Ka_9 Vb_9 Kb_9 Vc_9 Kc_9 Lz_9 Lr1 X_9 BW_9
          (try go_wp2_with fail)
          refine hK.out _ _ ?_ (fun hH => ?_)
          exact (And.intro (blk_three Ka_10.out) (And.intro (blk_three Kb_10.out) (blk_three Kc_10.out)))
          clear hK K
          (try simp only [Act.put, gy0, gy1, gy2])
          refine wpAnyH_ready (rs := [32]) (by kernel_rfl) (by simp) ?_
          refine AllReadyH.cons (by simp only [gx0, gx1, gx2]; rfl) (fun K hK => ?_) AllReadyH.nil
          go_simp
          have cc := vsame (Lr1_10.out) (Lr2.out)
          rw [decide_eq_true (show za + 0 = zb + 0 from by rw [HAB.out])] at cc
          refine cc.mono ?_
          rintro e w11 ⟨rfl, b⟩
          clear cc hH
          have Va_11 := hid (Va_10.out.keep b)
          have Ka_11 := hid (Ka_10.out.keep b)
          have Vb_11 := hid (Vb_10.out.keep b)
          have Kb_11 := hid (Kb_10.out.keep b)
          have Vc_11 := hid (Vc_10.out.keep b)
          have Kc_11 := hid (Kc_10.out.keep b)
          have Lz_11 := hid (Lz_10.out.keep b)
          have Lr1_11 := hid (Lr1_10.out.keep b)
          have Lr2_11 := hid (Lr2.out.keep b)
          have X_11 := hid (bx_call X_10.out b)
          have BW_11 := hid (bx_call BW_10.out b)
          clear b Va_10 Ka_10 Vb_10 Kb_10 Vc_10 Kc_10 Lz_10 Lr1_10 Lr2 X_10 BW_10
          (try go_wp2_with fail)
          refine hK.out _ _ ?_ (fun hH => ?_)
          exact (And.intro (blk_three Ka_11.out) (And.intro (blk_three Kb_11.out) (blk_three Kc_11.out)))
          clear hK K
          (try simp only [Act.put, gy0, gy1, gy2])
          refine wpAnyH_take (i := 33) (v := ?_) (by simp only [gx0, gx1, gx2]; rfl) (by kernel_rfl) (by kernel_rfl) (by kernel_rfl) (fun _ _ _ h => h) (.inl ⟨by rfl, ?_⟩) hH ?_
          rotate_left
          · intro w hSw; (try dsimp only at hSw); first | (go_simp; done) | (go_simp; with_reducible rfl) | (go_simp; decide)
          (try simp only [Act.put, gy0, gy1, gy2])
          refine wpAnyH_take (i := 34) (v := ?_) (by simp only [gx0, gx1, gx2]; rfl) (by kernel_rfl) (by kernel_rfl) (by kernel_rfl) (fun _ _ _ h => h) (.inl ⟨by rfl, ?_⟩) hH ?_
          rotate_left
          · intro w hSw; (try dsimp only at hSw); first | (go_simp; done) | (go_simp; with_reducible rfl) | (go_simp; decide)
          (try simp only [Act.put, gy0, gy1, gy2])
          refine wpAnyH_take (i := 35) (v := ?_) (by simp only [gx0, gx1, gx2]; rfl) (by kernel_rfl) (by kernel_rfl) (by kernel_rfl) (fun _ _ _ h => h) (.inl ⟨by rfl, ?_⟩) hH ?_
          rotate_left
          · intro w hSw; (try dsimp only at hSw); first | (go_simp; done) | (go_simp; with_reducible rfl) | (go_simp; decide)
          (try simp only [Act.put, gy0, gy1, gy2])
          refine wpAnyH_take (i := 36) (v := ?_) (by simp only [gx0, gx1, gx2]; rfl) (by kernel_rfl) (by kernel_rfl) (by kernel_rfl) (fun _ _ _ h => h) (.inl ⟨by rfl, ?_⟩) hH ?_
          rotate_left
          · intro w hSw; (try dsimp only at hSw); first | (go_simp; done) | (go_simp; with_reducible rfl) | (go_simp; decide)
          (try simp only [Act.put, gy0, gy1, gy2])
          refine wpAnyH_done (by kernel_rfl) ?_ _
          refine NoPanic.normal ?_
          clear hH
          go_wp2_with fail
          go_meet
          exact ⟨rfl, BW_11⟩
        · skip
          have G1 := hid (show sgnQ (zb - za) = 0 from E1.out)
          have ty : decide (y ≤ 0) = true := decide_eq_true hy
          have tz : decide (0 < z) = false := decide_eq_false (by have := T1.out (by omega) hy; omega)
          obtain ⟨hzy, hab⟩ := T2.out rfl
          subst hzy
          have HAB := hid hab
          clear hab
          clear E1 E2 E3 T1 T2 RG2
          have BW := hid (bx_refl w6)
          have Lz := hid (frl_zero w6 (k := 4) (by omega))
          (try simp only [List.append_eq, List.cons_append, List.nil_append])
          refine wp_region_noPanic ?_
          refine wp_region_held_drew (S := (fun W => (W.cell? ⟨w.heap.size, 0, none⟩ = some (.bool ga) ∧ W.cell? ⟨w.heap.size, 1, none⟩ = some (.slice Aa na ca) ∧ W.cell? ⟨w.heap.size, 2, none⟩ = some (.slice Da ma da)) ∧ (W.cell? ⟨w.heap.size + 1, 0, none⟩ = some (.bool gb) ∧ W.cell? ⟨w.heap.size + 1, 1, none⟩ = some (.slice Ab nb cb) ∧ W.cell? ⟨w.heap.size + 1, 2, none⟩ = some (.slice Db mb db)) ∧ (W.cell? ⟨w.heap.size + 1 + 1, 0, none⟩ = some (.bool gc) ∧ W.cell? ⟨w.heap.size + 1 + 1, 1, none⟩ = some (.slice Ac nc cc) ∧ W.cell? ⟨w.heap.size + 1 + 1, 2, none⟩ = some (.slice Dc mc dc)))) (by kernel_rfl) ?_ (fun hH => ?_)
          exact (And.intro (blk_three Ka_6.out) (And.intro (blk_three Kb_6.out) (blk_three Kc_6.out)))
          have bd := bx_drew (bx_refl w6)
          obtain ⟨w7, hW0⟩ : ∃ W, W = w6.drew := ⟨_, rfl⟩
          rw [← hW0] at bd hH ⊢
          clear hW0
          have Va_7 := hid (Va_6.out.keep bd)
          have Ka_7 := hid (Ka_6.out.keep bd)
          have Vb_7 := hid (Vb_6.out.keep bd)
          have Kb_7 := hid (Kb_6.out.keep bd)
          have Vc_7 := hid (Vc_6.out.keep bd)
          have Kc_7 := hid (Kc_6.out.keep bd)
          have Lz_7 := hid (Lz.out.keep bd)
          have X_7 := hid (bx_call X_6.out bd)
          have BW_7 := hid (bx_call BW.out bd)
          clear bd Va_6 Ka_6 Vb_6 Kb_6 Vc_6 Kc_6 Lz X_6 BW
          refine wpAnyH_take (i := 0) (v := ?_) (by simp only [gx0, gx2]; rfl) (by kernel_rfl) (by kernel_rfl) (by kernel_rfl) (fun _ _ _ h => h) (.inl ⟨by rfl, ?_⟩) hH ?_
          rotate_left
          · intro w hSw; (try dsimp only at hSw); first | (go_simp; done) | (go_simp; with_reducible rfl) | (go_simp; decide)
          (try simp only [Act.put, gy0, gy1, gy2])
          refine wpAnyH_take (i := 1) (v := ?_) (by simp only [gx0, gx1, gx2]; rfl) (by kernel_rfl) (by kernel_rfl) (by kernel_rfl) (fun _ _ _ h => h) (.inl ⟨by rfl, ?_⟩) hH ?_
          rotate_left
          · intro w hSw; (try dsimp only at hSw); first | (go_simp; done) | (go_simp; with_reducible rfl) | (go_simp; decide)
          (try simp only [Act.put, gy0, gy1, gy2])
          refine wpAnyH_take (i := 2) (v := ?_) (by simp only [gx0, gx1, gx2]; rfl) (by kernel_rfl) (by kernel_rfl) (by kernel_rfl) (fun _ _ _ h => h) (.inl ⟨by rfl, ?_⟩) hH ?_
          rotate_left
          · intro w hSw; (try dsimp only at hSw); first | (go_simp; done) | (go_simp; with_reducible rfl) | (go_simp; decide)
          (try simp only [Act.put, gy0, gy1, gy2])
          refine wpAnyH_ready (rs := [3]) (by kernel_rfl) (by simp) ?_
          refine AllReadyH.cons (by simp only [gx0, gx1, gx2]; rfl) (fun K hK => ?_) AllReadyH.nil
          go_simp
          have cc := vcmp gb Ab nb cb Db mb db ga Aa na ca Da ma da 4 (zb) (za) w7 (Vb_7.out) (Va_7.out) (by omega)
          rw [G1.out] at cc
          refine cc.mono ?_
          rintro e w8 ⟨rfl, b⟩
          clear cc hH
          have Va_8 := hid (Va_7.out.keep b)
          have Ka_8 := hid (Ka_7.out.keep b)
          have Vb_8 := hid (Vb_7.out.keep b)
          have Kb_8 := hid (Kb_7.out.keep b)
          have Vc_8 := hid (Vc_7.out.keep b)
          have Kc_8 := hid (Kc_7.out.keep b)
          have Lz_8 := hid (Lz_7.out.keep b)
          have X_8 := hid (bx_call X_7.out b)
          have BW_8 := hid (bx_call BW_7.out b)
          clear b Va_7 Ka_7 Vb_7 Kb_7 Vc_7 Kc_7 Lz_7 X_7 BW_7
          (try go_wp2_with fail)
          refine hK.out _ _ ?_ (fun hH => ?_)
          exact (And.intro (blk_three Ka_8.out) (And.intro (blk_three Kb_8.out) (blk_three Kc_8.out)))
          clear hK K
          (try simp only [Act.put, gy0, gy1, gy2])
          refine wpAnyH_take (i := 4) (v := .int .i64 (0)) (by simp only [gx0, gx1, gx2]; rfl) (by kernel_rfl) (by kernel_rfl) (by kernel_rfl) (fun _ _ _ h => h) (.inl ⟨by rfl, ?_⟩) hH ?_
          · intro w hSw; (try dsimp only at hSw); first | (go_simp; done) | (go_simp; with_reducible rfl) | (go_simp; decide)
          (try simp only [Act.put, gy0, gy1, gy2])
          refine wpAnyH_take (i := 5) (v := .bool false) (by simp only [gx0, gx1, gx2]; rfl) (by kernel_rfl) (by kernel_rfl) (by kernel_rfl) (fun _ _ _ h => h) (.inl ⟨by rfl, ?_⟩) hH ?_
          · intro w hSw; (try dsimp only at hSw); first | (go_simp; done) | (go_simp; with_reducible rfl) | (go_simp; decide)
          (try simp only [Act.put, gy0, gy1, gy2])
          refine wpAnyH_take (i := 6) (v := .bool false) (by simp only [gx0, gx1, gx2]; rfl) (by kernel_rfl) (by kernel_rfl) (by kernel_rfl) (fun _ _ _ h => h) (.inl ⟨by rfl, ?_⟩) hH ?_
          · intro w hSw; (try dsimp only at hSw); first | (go_simp; done) | (go_simp; with_reducible rfl) | (go_simp; decide)
          (try simp only [Act.put, gy0, gy1, gy2])
          refine wpAnyH_take (i := 7) (v := ?_) (by simp only [gx0, gx1, gx2]; rfl) (by kernel_rfl) (by kernel_rfl) (by kernel_rfl) (fun _ _ _ h => h) (.inl ⟨by rfl, ?_⟩) hH ?_
          rotate_left
          · intro w hSw; (try dsimp only at hSw); first | (go_simp; done) | (go_simp; with_reducible rfl) | (go_simp; decide)
          (try simp only [Act.put, gy0, gy1, gy2])
          refine wpAnyH_take (i := 8) (v := ?_) (by simp only [gx0, gx1, gx2]; rfl) (by kernel_rfl) (by kernel_rfl) (by kernel_rfl) (fun _ _ _ h => h) (.inl ⟨by rfl, ?_⟩) hH ?_
          rotate_left
          · intro w hSw; (try dsimp only at hSw); first | (go_simp; done) | (go_simp; with_reducible rfl) | (go_simp; decide)
          (try simp only [Act.put, gy0, gy1, gy2])
          refine wpAnyH_take (i := 9) (v := ?_) (by simp only [gx0, gx1, gx2]; rfl) (by kernel_rfl) (by kernel_rfl) (by kernel_rfl) (fun _ _ _ h => h) (.inl ⟨by rfl, ?_⟩) hH ?_
          rotate_left
          · intro w hSw; (try dsimp only at hSw); first | (go_simp; done) | (go_simp; with_reducible rfl) | (go_simp; decide)
          (try simp only [Act.put, gy0, gy1, gy2])
          refine wpAnyH_take (i := 10) (v := ?_) (by simp only [gx0, gx1, gx2]; rfl) (by kernel_rfl) (by kernel_rfl) (by kernel_rfl) (fun _ _ _ h => h) (.inl ⟨by rfl, ?_⟩) hH ?_
          rotate_left
          · intro w hSw; (try dsimp only at hSw); first | (go_simp; done) | (go_simp; with_reducible rfl) | (go_simp; decide)
          (try simp only [Act.put, gy0, gy1, gy2])
          refine wpAnyH_take (i := 11) (v := ?_) (by simp only [gx0, gx1, gx2]; rfl) (by kernel_rfl) (by kernel_rfl) (by kernel_rfl) (fun _ _ _ h => h) (.inl ⟨by rfl, ?_⟩) hH ?_
          rotate_left
          · intro w hSw; (try dsimp only at hSw); first | (go_simp; done) | (go_simp; with_reducible rfl) | (go_simp; decide)
          (try simp only [Act.put, gy0, gy1, gy2])
          refine wpAnyH_take (i := 12) (v := ?_) (by simp only [gx0, gx1, gx2]; rfl) (by kernel_rfl) (by kernel_rfl) (by kernel_rfl) (fun _ _ _ h => h) (.inl ⟨by rfl, ?_⟩) hH ?_
          rotate_left
          · intro w hSw; (try dsimp only at hSw); first | (go_simp; done) | (go_simp; with_reducible rfl) | (go_simp; decide)
          (try simp only [Act.put, gy0, gy1, gy2])
          refine wpAnyH_take (i := 13) (v := ?_) (by simp only [gx0, gx1, gx2]; rfl) (by kernel_rfl) (by kernel_rfl) (by kernel_rfl) (fun _ _ _ h => h) (.inl ⟨by rfl, ?_⟩) hH ?_
          rotate_left
          · intro w hSw; (try dsimp only at hSw); first | (go_simp; done) | (go_simp; with_reducible rfl) | (go_simp; decide)
          (try simp only [Act.put, gy0, gy1, gy2])
          refine wpAnyH_take (i := 14) (v := ?_) (by simp only [gx0, gx1, gx2]; rfl) (by kernel_rfl) (by kernel_rfl) (by kernel_rfl) (fun _ _ _ h => h) (.inl ⟨by rfl, ?_⟩) hH ?_
          rotate_left
          · intro w hSw; (try dsimp only at hSw); first | (go_simp; done) | (go_simp; with_reducible rfl) | (go_simp; decide)
          (try simp only [Act.put, gy0, gy1, gy2])
          refine wpAnyH_take (i := 15) (v := ?_) (by simp only [gx0, gx1, gx2]; rfl) (by kernel_rfl) (by kernel_rfl) (by kernel_rfl) (fun _ _ _ h => h) (.inl ⟨by rfl, ?_⟩) hH ?_
          rotate_left
          · intro w hSw; (try dsimp only at hSw); first | (go_simp; done) | (go_simp; with_reducible rfl) | (go_simp; decide)
          (try simp only [Act.put, gy0, gy1, gy2])
          refine wpAnyH_take (i := 16) (v := ?_) (by simp only [gx0, gx1, gx2]; rfl) (by kernel_rfl) (by kernel_rfl) (by kernel_rfl) (fun _ _ _ h => h) (.inl ⟨by rfl, ?_⟩) hH ?_
          rotate_left
          · intro w hSw; (try dsimp only at hSw); first | (go_simp; done) | (go_simp; with_reducible rfl) | (go_simp; decide)
          (try simp only [Act.put, gy0, gy1, gy2])
          refine wpAnyH_take (i := 17) (v := ?_) (by simp only [gx0, gx1, gx2]; rfl) (by kernel_rfl) (by kernel_rfl) (by kernel_rfl) (fun _ _ _ h => h) (.inl ⟨by rfl, ?_⟩) hH ?_
          rotate_left
          · intro w hSw; (try dsimp only at hSw); first | (go_simp; done) | (go_simp; with_reducible rfl) | (go_simp; decide)
          (try simp only [Act.put, gy0, gy1, gy2])
          refine wpAnyH_take (i := 18) (v := ?_) (by simp only [gx0, gx1, gx2]; rfl) (by kernel_rfl) (by kernel_rfl) (by kernel_rfl) (fun _ _ _ h => h) (.inl ⟨by rfl, ?_⟩) hH ?_
          rotate_left
          · intro w hSw; (try dsimp only at hSw); first | (go_simp; done) | (go_simp; with_reducible rfl) | (go_simp; decide)
          (try simp only [Act.put, gy0, gy1, gy2])
          refine wpAnyH_take (i := 19) (v := ?_) (by simp only [gx0, gx1, gx2]; rfl) (by kernel_rfl) (by kernel_rfl) (by kernel_rfl) (fun _ _ _ h => h) (.inl ⟨by rfl, ?_⟩) hH ?_
          rotate_left
          · intro w hSw; (try dsimp only at hSw); first | (go_simp; done) | (go_simp; with_reducible rfl) | (go_simp; decide)
          (try simp only [Act.put, gy0, gy1, gy2])
          refine wpAnyH_take (i := 20) (v := ?_) (by simp only [gx0, gx1, gx2]; rfl) (by kernel_rfl) (by kernel_rfl) (by kernel_rfl) (fun _ _ _ h => h) (.inl ⟨by rfl, ?_⟩) hH ?_
          rotate_left
          · intro w hSw; (try dsimp only at hSw); first | (go_simp; done) | (go_simp; with_reducible rfl) | (go_simp; decide)
          (try simp only [Act.put, gy0, gy1, gy2])
          refine wpAnyH_take (i := 21) (v := ?_) (by simp only [gx0, gx1, gx2]; rfl) (by kernel_rfl) (by kernel_rfl) (by kernel_rfl) (fun _ _ _ h => h) (.inl ⟨by rfl, ?_⟩) hH ?_
          rotate_left
          · intro w hSw; (try dsimp only at hSw); first | (go_simp; done) | (go_simp; with_reducible rfl) | (go_simp; decide)
          (try simp only [Act.put, gy0, gy1, gy2])
          refine wpAnyH_take (i := 22) (v := ?_) (by simp only [gx0, gx1, gx2]; rfl) (by kernel_rfl) (by kernel_rfl) (by kernel_rfl) (fun _ _ _ h => h) (.inl ⟨by rfl, ?_⟩) hH ?_
          rotate_left
          · intro w hSw; (try dsimp only at hSw); first | (go_simp; done) | (go_simp; with_reducible rfl) | (go_simp; decide)
          (try simp only [Act.put, gy0, gy1, gy2])
          refine wpAnyH_take (i := 23) (v := ?_) (by simp only [gx0, gx1, gx2]; rfl) (by kernel_rfl) (by kernel_rfl) (by kernel_rfl) (fun _ _ _ h => h) (.inl ⟨by rfl, ?_⟩) hH ?_
          rotate_left
          · intro w hSw; (try dsimp only at hSw); first | (go_simp; done) | (go_simp; with_reducible rfl) | (go_simp; decide)
          (try simp only [Act.put, gy0, gy1, gy2])
          refine wpAnyH_take (i := 24) (v := ?_) (by simp only [gx0, gx1, gx2]; rfl) (by kernel_rfl) (by kernel_rfl) (by kernel_rfl) (fun _ _ _ h => h) (.inl ⟨by rfl, ?_⟩) hH ?_
          rotate_left
          · intro w hSw; (try dsimp only at hSw); first | (go_simp; done) | (go_simp; with_reducible rfl) | (go_simp; decide)
          (try simp only [Act.put, gy0, gy1, gy2])
          refine wpAnyH_take (i := 25) (v := ?_) (by simp only [gx0, gx1, gx2]; rfl) (by kernel_rfl) (by kernel_rfl) (by kernel_rfl) (fun _ _ _ h => h) (.inl ⟨by rfl, ?_⟩) hH ?_
          rotate_left
          · intro w hSw; (try dsimp only at hSw); first | (go_simp; done) | (go_simp; with_reducible rfl) | (go_simp; decide)
          (try simp only [Act.put, gy0, gy1, gy2])
          refine wpAnyH_take (i := 26) (v := ?_) (by simp only [gx0, gx1, gx2]; rfl) (by kernel_rfl) (by kernel_rfl) (by kernel_rfl) (fun _ _ _ h => h) (.inl ⟨by rfl, ?_⟩) hH ?_
          rotate_left
          · intro w hSw; (try dsimp only at hSw); first | (go_simp; done) | (go_simp; with_reducible rfl) | (go_simp; decide)
          (try simp only [Act.put, gy0, gy1, gy2])
          refine wpAnyH_take (i := 27) (v := ?_) (by simp only [gx0, gx1, gx2]; rfl) (by kernel_rfl) (by kernel_rfl) (by kernel_rfl) (fun _ _ _ h => h) (.inl ⟨by rfl, ?_⟩) hH ?_
          rotate_left
          · intro w hSw; (try dsimp only at hSw); first | (go_simp; done) | (go_simp; with_reducible rfl) | (go_simp; decide)
          (try simp only [Act.put, gy0, gy1, gy2])
          refine wpAnyH_take (i := 29) (v := ?_) (by simp only [gx0, gx1, gx2]; rfl) (by kernel_rfl) (by kernel_rfl) (by kernel_rfl) (fun _ _ _ h => h) (.inl ⟨by rfl, ?_⟩) hH ?_
          rotate_left
          · intro w hSw; (try dsimp only at hSw); first | (go_simp; done) | (go_simp; with_reducible rfl) | (go_simp; decide)
          (try simp only [Act.put, gy0, gy1, gy2])
          refine wpAnyH_take (i := 30) (v := ?_) (by simp only [gx0, gx1, gx2]; rfl) (by kernel_rfl) (by kernel_rfl) (by kernel_rfl) (fun _ _ _ h => h) (.inl ⟨by rfl, ?_⟩) hH ?_
          rotate_left
          · intro w hSw; (try dsimp only at hSw); first | (go_simp; done) | (go_simp; with_reducible rfl) | (go_simp; decide)
          (try simp only [Act.put, gy0, gy1, gy2])
          refine wpAnyH_ready (rs := [28]) (by kernel_rfl) (by simp) ?_
          refine AllReadyH.cons (by simp only [gx0, gx1, gx2]; rfl) (fun K hK => ?_) AllReadyH.nil
          go_simp
          have cc := vadd ga Aa na ca Da ma da false none 0 0 none 0 0 4 za 0 w8 (Va_8.out) ((Lz_8.out).v) (by omega)
          refine cc.mono ?_
          rintro e w9 ⟨Ar1, nr1, cr1, Dr1, mr1, dr1, rfl, r, b⟩
          clear cc hH
          have Lr1 := hid r
          clear r
          have Va_9 := hid (Va_8.out.keep b)
          have Ka_9 := hid (Ka_8.out.keep b)
          have Vb_9 := hid (Vb_8.out.keep b)
          have Kb_9 := hid (Kb_8.out.keep b)
          have Vc_9 := hid (Vc_8.out.keep b)
          have Kc_9 := hid (Kc_8.out.keep b)
          have Lz_9 := hid (Lz_8.out.keep b)
          have X_9 := hid (bx_call X_8.out b)
          have BW_9 := hid (bx_call BW_8.out b)
          clear b Va_8 Ka_8 Vb_8 Kb_8 Vc_8 Kc_8 Lz_8 X_8 BW_8
          (try go_wp2_with fail)
          refine hK.out _ _ ?_ (fun hH => ?_)
          exact (And.intro (blk_three Ka_9.out) (And.intro (blk_three Kb_9.out) (blk_three Kc_9.out)))
          clear hK K
          (try simp only [Act.put, gy0, gy1, gy2])
          refine wpAnyH_ready (rs := [31]) (by kernel_rfl) (by simp) ?_
          refine AllReadyH.cons (by simp only [gx0, gx1, gx2]; rfl) (fun K hK => ?_) AllReadyH.nil
          go_simp
          have cc := vadd gb Ab nb cb Db mb db false none 0 0 none 0 0 4 zb 0 w9 (Vb_9.out) ((Lz_9.out).v) (by omega)
          refine cc.mono ?_
          rintro e w10 ⟨Ar2, nr2, cr2, Dr2, mr2, dr2, rfl, r, b⟩
          clear cc hH
          have Lr2 := hid r
          clear r
          have Va_10 := hid (Va_9.out.keep b)
          have Ka_10 := hid (Ka_9.out.keep b)
          have Vb_10 := hid (Vb_9.out.keep b)
          have Kb_10 := hid (Kb_9.out.keep b)
          have Vc_10 := hid (Vc_9.out.keep b)
          have Kc_10 := hid (Kc_9.out.keep b)
          have Lz_10 := hid (Lz_9.out.keep b)
          have Lr1_10 := hid (Lr1.out.keep b)
          have X_10 := hid (bx_call X_9.out b)
          have BW_10 := hid (bx_call BW_9.out b)
          clear b Va_9 Ka_9 Vb_9 Kb_9 Vc_9 Kc_9 Lz_9 Lr1 X_9 BW_9
          (try go_wp2_with fail)
          refine hK.out _ _ ?_ (fun hH => ?_)
          exact (And.intro (blk_three Ka_10.out) (And.intro (blk_three Kb_10.out) (blk_three Kc_10.out)))
          clear hK K
          (try simp only [Act.put, gy0, gy1, gy2])
          refine wpAnyH_ready (rs := [32]) (by kernel_rfl) (by simp) ?_
          refine AllReadyH.cons (by simp only [gx0, gx1, gx2]; rfl) (fun K hK => ?_) AllReadyH.nil
          go_simp
          have cc := vsame (Lr1_10.out) (Lr2.out)
          rw [decide_eq_true (show za + 0 = zb + 0 from by rw [HAB.out])] at cc
          refine cc.mono ?_
          rintro e w11 ⟨rfl, b⟩
          clear cc hH
          have Va_11 := hid (Va_10.out.keep b)
          have Ka_11 := hid (Ka_10.out.keep b)
          have Vb_11 := hid (Vb_10.out.keep b)
          have Kb_11 := hid (Kb_10.out.keep b)
          have Vc_11 := hid (Vc_10.out.keep b)
          have Kc_11 := hid (Kc_10.out.keep b)
          have Lz_11 := hid (Lz_10.out.keep b)
          have Lr1_11 := hid (Lr1_10.out.keep b)
          have Lr2_11 := hid (Lr2.out.keep b)
          have X_11 := hid (bx_call X_10.out b)
          have BW_11 := hid (bx_call BW_10.out b)
          clear b Va_10 Ka_10 Vb_10 Kb_10 Vc_10 Kc_10 Lz_10 Lr1_10 Lr2 X_10 BW_10
          (try go_wp2_with fail)
          refine hK.out _ _ ?_ (fun hH => ?_)
          exact (And.intro (blk_three Ka_11.out) (And.intro (blk_three Kb_11.out) (blk_three Kc_11.out)))
          clear hK K
          (try simp only [Act.put, gy0, gy1, gy2])
          refine wpAnyH_take (i := 33) (v := ?_) (by simp only [gx0, gx1, gx2]; rfl) (by kernel_rfl) (by kernel_rfl) (by kernel_rfl) (fun _ _ _ h => h) (.inl ⟨by rfl, ?_⟩) hH ?_
          rotate_left
          · intro w hSw; (try dsimp only at hSw); first | (go_simp; done) | (go_simp; with_reducible rfl) | (go_simp; decide)
          (try simp only [Act.put, gy0, gy1, gy2])
          refine wpAnyH_take (i := 34) (v := ?_) (by simp only [gx0, gx1, gx2]; rfl) (by kernel_rfl) (by kernel_rfl) (by kernel_rfl) (fun _ _ _ h => h) (.inl ⟨by rfl, ?_⟩) hH ?_
          rotate_left
          · intro w hSw; (try dsimp only at hSw); first | (go_simp; done) | (go_simp; with_reducible rfl) | (go_simp; decide)
          (try simp only [Act.put, gy0, gy1, gy2])
          refine wpAnyH_take (i := 35) (v := ?_) (by simp only [gx0, gx1, gx2]; rfl) (by kernel_rfl) (by kernel_rfl) (by kernel_rfl) (fun _ _ _ h => h) (.inl ⟨by rfl, ?_⟩) hH ?_
          rotate_left
          · intro w hSw; (try dsimp only at hSw); first | (go_simp; done) | (go_simp; with_reducible rfl) | (go_simp; decide)
          (try simp only [Act.put, gy0, gy1, gy2])
          refine wpAnyH_take (i := 36) (v := ?_) (by simp only [gx0, gx1, gx2]; rfl) (by kernel_rfl) (by kernel_rfl) (by kernel_rfl) (fun _ _ _ h => h) (.inl ⟨by rfl, ?_⟩) hH ?_
          rotate_left
          · intro w hSw; (try dsimp only at hSw); first | (go_simp; done) | (go_simp; with_reducible rfl) | (go_simp; decide)
          (try simp only [Act.put, gy0, gy1, gy2])
          refine wpAnyH_done (by kernel_rfl) ?_ _
          refine NoPanic.normal ?_
          clear hH
          go_wp2_with fail
          go_meet
          exact ⟨rfl, BW_11⟩
      · skip
        have G1 := hid (show sgnQ (zb - za) = -1 from E1.out)
        clear E1 E2 E3 T1 T2 RG2
        have BW := hid (bx_refl w6)
        (try simp only [List.append_eq, List.cons_append, List.nil_append])
        refine wp_region_noPanic ?_
        refine wp_region_held_drew (S := (fun W => (W.cell? ⟨w.heap.size, 0, none⟩ = some (.bool ga) ∧ W.cell? ⟨w.heap.size, 1, none⟩ = some (.slice Aa na ca) ∧ W.cell? ⟨w.heap.size, 2, none⟩ = some (.slice Da ma da)) ∧ (W.cell? ⟨w.heap.size + 1, 0, none⟩ = some (.bool gb) ∧ W.cell? ⟨w.heap.size + 1, 1, none⟩ = some (.slice Ab nb cb) ∧ W.cell? ⟨w.heap.size + 1, 2, none⟩ = some (.slice Db mb db)) ∧ (W.cell? ⟨w.heap.size + 1 + 1, 0, none⟩ = some (.bool gc) ∧ W.cell? ⟨w.heap.size + 1 + 1, 1, none⟩ = some (.slice Ac nc cc) ∧ W.cell? ⟨w.heap.size + 1 + 1, 2, none⟩ = some (.slice Dc mc dc)))) (by kernel_rfl) ?_ (fun hH => ?_)
        exact (And.intro (blk_three Ka_6.out) (And.intro (blk_three Kb_6.out) (blk_three Kc_6.out)))
        have bd := bx_drew (bx_refl w6)
        obtain ⟨w7, hW0⟩ : ∃ W, W = w6.drew := ⟨_, rfl⟩
        rw [← hW0] at bd hH ⊢
        clear hW0
        have Va_7 := hid (Va_6.out.keep bd)
        have Ka_7 := hid (Ka_6.out.keep bd)
        have Vb_7 := hid (Vb_6.out.keep bd)
        have Kb_7 := hid (Kb_6.out.keep bd)
        have Vc_7 := hid (Vc_6.out.keep bd)
        have Kc_7 := hid (Kc_6.out.keep bd)
        have X_7 := hid (bx_call X_6.out bd)
        have BW_7 := hid (bx_call BW.out bd)
        clear bd Va_6 Ka_6 Vb_6 Kb_6 Vc_6 Kc_6 X_6 BW
        refine wpAnyH_take (i := 0) (v := ?_) (by simp only [gx0, gx2]; rfl) (by kernel_rfl) (by kernel_rfl) (by kernel_rfl) (fun _ _ _ h => h) (.inl ⟨by rfl, ?_⟩) hH ?_
        rotate_left
        · intro w hSw; (try dsimp only at hSw); first | (go_simp; done) | (go_simp; with_reducible rfl) | (go_simp; decide)
        (try simp only [Act.put, gy0, gy1, gy2])
        refine wpAnyH_take (i := 1) (v := ?_) (by simp only [gx0, gx1, gx2]; rfl) (by kernel_rfl) (by kernel_rfl) (by kernel_rfl) (fun _ _ _ h => h) (.inl ⟨by rfl, ?_⟩) hH ?_
        rotate_left
        · intro w hSw; (try dsimp only at hSw); first | (go_simp; done) | (go_simp; with_reducible rfl) | (go_simp; decide)
        (try simp only [Act.put, gy0, gy1, gy2])
        refine wpAnyH_take (i := 2) (v := ?_) (by simp only [gx0, gx1, gx2]; rfl) (by kernel_rfl) (by kernel_rfl) (by kernel_rfl) (fun _ _ _ h => h) (.inl ⟨by rfl, ?_⟩) hH ?_
        rotate_left
        · intro w hSw; (try dsimp only at hSw); first | (go_simp; done) | (go_simp; with_reducible rfl) | (go_simp; decide)
        (try simp only [Act.put, gy0, gy1, gy2])
        refine wpAnyH_ready (rs := [3]) (by kernel_rfl) (by simp) ?_
        refine AllReadyH.cons (by simp only [gx0, gx1, gx2]; rfl) (fun K hK => ?_) AllReadyH.nil
        go_simp
        have cc := vcmp gb Ab nb cb Db mb db ga Aa na ca Da ma da 4 (zb) (za) w7 (Vb_7.out) (Va_7.out) (by omega)
        rw [G1.out] at cc
        refine cc.mono ?_
        rintro e w8 ⟨rfl, b⟩
        clear cc hH
        have Va_8 := hid (Va_7.out.keep b)
        have Ka_8 := hid (Ka_7.out.keep b)
        have Vb_8 := hid (Vb_7.out.keep b)
        have Kb_8 := hid (Kb_7.out.keep b)
        have Vc_8 := hid (Vc_7.out.keep b)
        have Kc_8 := hid (Kc_7.out.keep b)
        have X_8 := hid (bx_call X_7.out b)
        have BW_8 := hid (bx_call BW_7.out b)
        clear b Va_7 Ka_7 Vb_7 Kb_7 Vc_7 Kc_7 X_7 BW_7
        (try go_wp2_with fail)
        refine hK.out _ _ ?_ (fun hH => ?_)
        exact (And.intro (blk_three Ka_8.out) (And.intro (blk_three Kb_8.out) (blk_three Kc_8.out)))
        clear hK K
        (try simp only [Act.put, gy0, gy1, gy2])
        refine wpAnyH_take (i := 4) (v := .int .i64 (1)) (by simp only [gx0, gx1, gx2]; rfl) (by kernel_rfl) (by kernel_rfl) (by kernel_rfl) (fun _ _ _ h => h) (.inl ⟨by rfl, ?_⟩) hH ?_
        · intro w hSw; (try dsimp only at hSw); first | (go_simp; done) | (go_simp; with_reducible rfl) | (go_simp; decide)
        (try simp only [Act.put, gy0, gy1, gy2])
        refine wpAnyH_take (i := 5) (v := .bool false) (by simp only [gx0, gx1, gx2]; rfl) (by kernel_rfl) (by kernel_rfl) (by kernel_rfl) (fun _ _ _ h => h) (.inl ⟨by rfl, ?_⟩) hH ?_
        · intro w hSw; (try dsimp only at hSw); first | (go_simp; done) | (go_simp; with_reducible rfl) | (go_simp; decide)
        (try simp only [Act.put, gy0, gy1, gy2])
        refine wpAnyH_take (i := 6) (v := .bool false) (by simp only [gx0, gx1, gx2]; rfl) (by kernel_rfl) (by kernel_rfl) (by kernel_rfl) (fun _ _ _ h => h) (.inl ⟨by rfl, ?_⟩) hH ?_
        · intro w hSw; (try dsimp only at hSw); first | (go_simp; done) | (go_simp; with_reducible rfl) | (go_simp; decide)
        (try simp only [Act.put, gy0, gy1, gy2])
        refine wpAnyH_take (i := 7) (v := ?_) (by simp only [gx0, gx1, gx2]; rfl) (by kernel_rfl) (by kernel_rfl) (by kernel_rfl) (fun _ _ _ h => h) (.inl ⟨by rfl, ?_⟩) hH ?_
        rotate_left
        · intro w hSw; (try dsimp only at hSw); first | (go_simp; done) | (go_simp; with_reducible rfl) | (go_simp; decide)
        (try simp only [Act.put, gy0, gy1, gy2])
        refine wpAnyH_take (i := 8) (v := ?_) (by simp only [gx0, gx1, gx2]; rfl) (by kernel_rfl) (by kernel_rfl) (by kernel_rfl) (fun _ _ _ h => h) (.inl ⟨by rfl, ?_⟩) hH ?_
        rotate_left
        · intro w hSw; (try dsimp only at hSw); first | (go_simp; done) | (go_simp; with_reducible rfl) | (go_simp; decide)
        (try simp only [Act.put, gy0, gy1, gy2])
        refine wpAnyH_take (i := 9) (v := ?_) (by simp only [gx0, gx1, gx2]; rfl) (by kernel_rfl) (by kernel_rfl) (by kernel_rfl) (fun _ _ _ h => h) (.inl ⟨by rfl, ?_⟩) hH ?_
        rotate_left
        · intro w hSw; (try dsimp only at hSw); first | (go_simp; done) | (go_simp; with_reducible rfl) | (go_simp; decide)
        (try simp only [Act.put, gy0, gy1, gy2])
        refine wpAnyH_take (i := 10) (v := undef) (by simp only [gx0, gx1, gx2]; rfl) (by kernel_rfl) (by kernel_rfl) (by kernel_rfl) (fun _ _ _ h => h) (.inr ⟨by rfl, by rfl⟩) hH ?_
        (try simp only [Act.put, gy0, gy1, gy2])
        refine wpAnyH_take (i := 11) (v := undef) (by simp only [gx0, gx1, gx2]; rfl) (by kernel_rfl) (by kernel_rfl) (by kernel_rfl) (fun _ _ _ h => h) (.inr ⟨by rfl, by rfl⟩) hH ?_
        (try simp only [Act.put, gy0, gy1, gy2])
        refine wpAnyH_take (i := 12) (v := ?_) (by simp only [gx0, gx1, gx2]; rfl) (by kernel_rfl) (by kernel_rfl) (by kernel_rfl) (fun _ _ _ h => h) (.inl ⟨by rfl, ?_⟩) hH ?_
        rotate_left
        · intro w hSw; (try dsimp only at hSw); first | (go_simp; done) | (go_simp; with_reducible rfl) | (go_simp; decide)
        (try simp only [Act.put, gy0, gy1, gy2])
        refine wpAnyH_take (i := 13) (v := ?_) (by simp only [gx0, gx1, gx2]; rfl) (by kernel_rfl) (by kernel_rfl) (by kernel_rfl) (fun _ _ _ h => h) (.inl ⟨by rfl, ?_⟩) hH ?_
        rotate_left
        · intro w hSw; (try dsimp only at hSw); first | (go_simp; done) | (go_simp; with_reducible rfl) | (go_simp; decide)
        (try simp only [Act.put, gy0, gy1, gy2])
        refine wpAnyH_take (i := 14) (v := undef) (by simp only [gx0, gx1, gx2]; rfl) (by kernel_rfl) (by kernel_rfl) (by kernel_rfl) (fun _ _ _ h => h) (.inr ⟨by rfl, by rfl⟩) hH ?_
        (try simp only [Act.put, gy0, gy1, gy2])
        refine wpAnyH_take (i := 15) (v := undef) (by simp only [gx0, gx1, gx2]; rfl) (by kernel_rfl) (by kernel_rfl) (by kernel_rfl) (fun _ _ _ h => h) (.inr ⟨by rfl, by rfl⟩) hH ?_
        (try simp only [Act.put, gy0, gy1, gy2])
        refine wpAnyH_take (i := 16) (v := ?_) (by simp only [gx0, gx1, gx2]; rfl) (by kernel_rfl) (by kernel_rfl) (by kernel_rfl) (fun _ _ _ h => h) (.inl ⟨by rfl, ?_⟩) hH ?_
        rotate_left
        · intro w hSw; (try dsimp only at hSw); first | (go_simp; done) | (go_simp; with_reducible rfl) | (go_simp; decide)
        (try simp only [Act.put, gy0, gy1, gy2])
        refine wpAnyH_take (i := 17) (v := ?_) (by simp only [gx0, gx1, gx2]; rfl) (by kernel_rfl) (by kernel_rfl) (by kernel_rfl) (fun _ _ _ h => h) (.inl ⟨by rfl, ?_⟩) hH ?_
        rotate_left
        · intro w hSw; (try dsimp only at hSw); first | (go_simp; done) | (go_simp; with_reducible rfl) | (go_simp; decide)
        (try simp only [Act.put, gy0, gy1, gy2])
        refine wpAnyH_take (i := 18) (v := ?_) (by simp only [gx0, gx1, gx2]; rfl) (by kernel_rfl) (by kernel_rfl) (by kernel_rfl) (fun _ _ _ h => h) (.inl ⟨by rfl, ?_⟩) hH ?_
        rotate_left
        · intro w hSw; (try dsimp only at hSw); first | (go_simp; done) | (go_simp; with_reducible rfl) | (go_simp; decide)
        (try simp only [Act.put, gy0, gy1, gy2])
        refine wpAnyH_take (i := 19) (v := ?_) (by simp only [gx0, gx1, gx2]; rfl) (by kernel_rfl) (by kernel_rfl) (by kernel_rfl) (fun _ _ _ h => h) (.inl ⟨by rfl, ?_⟩) hH ?_
        rotate_left
        · intro w hSw; (try dsimp only at hSw); first | (go_simp; done) | (go_simp; with_reducible rfl) | (go_simp; decide)
        (try simp only [Act.put, gy0, gy1, gy2])
        refine wpAnyH_take (i := 20) (v := ?_) (by simp only [gx0, gx1, gx2]; rfl) (by kernel_rfl) (by kernel_rfl) (by kernel_rfl) (fun _ _ _ h => h) (.inl ⟨by rfl, ?_⟩) hH ?_
        rotate_left
        · intro w hSw; (try dsimp only at hSw); first | (go_simp; done) | (go_simp; with_reducible rfl) | (go_simp; decide)
        (try simp only [Act.put, gy0, gy1, gy2])
        refine wpAnyH_take (i := 21) (v := ?_) (by simp only [gx0, gx1, gx2]; rfl) (by kernel_rfl) (by kernel_rfl) (by kernel_rfl) (fun _ _ _ h => h) (.inl ⟨by rfl, ?_⟩) hH ?_
        rotate_left
        · intro w hSw; (try dsimp only at hSw); first | (go_simp; done) | (go_simp; with_reducible rfl) | (go_simp; decide)
        (try simp only [Act.put, gy0, gy1, gy2])
        refine wpAnyH_take (i := 22) (v := undef) (by simp only [gx0, gx1, gx2]; rfl) (by kernel_rfl) (by kernel_rfl) (by kernel_rfl) (fun _ _ _ h => h) (.inr ⟨by rfl, by rfl⟩) hH ?_
        (try simp only [Act.put, gy0, gy1, gy2])
        refine wpAnyH_take (i := 23) (v := undef) (by simp only [gx0, gx1, gx2]; rfl) (by kernel_rfl) (by kernel_rfl) (by kernel_rfl) (fun _ _ _ h => h) (.inr ⟨by rfl, by rfl⟩) hH ?_
        (try simp only [Act.put, gy0, gy1, gy2])
        refine wpAnyH_take (i := 24) (v := undef) (by simp only [gx0, gx1, gx2]; rfl) (by kernel_rfl) (by kernel_rfl) (by kernel_rfl) (fun _ _ _ h => h) (.inr ⟨by rfl, by rfl⟩) hH ?_
        (try simp only [Act.put, gy0, gy1, gy2])
        refine wpAnyH_take (i := 25) (v := undef) (by simp only [gx0, gx1, gx2]; rfl) (by kernel_rfl) (by kernel_rfl) (by kernel_rfl) (fun _ _ _ h => h) (.inr ⟨by rfl, by rfl⟩) hH ?_
        (try simp only [Act.put, gy0, gy1, gy2])
        refine wpAnyH_take (i := 26) (v := undef) (by simp only [gx0, gx1, gx2]; rfl) (by kernel_rfl) (by kernel_rfl) (by kernel_rfl) (fun _ _ _ h => h) (.inr ⟨by rfl, by rfl⟩) hH ?_
        (try simp only [Act.put, gy0, gy1, gy2])
        refine wpAnyH_take (i := 27) (v := undef) (by simp only [gx0, gx1, gx2]; rfl) (by kernel_rfl) (by kernel_rfl) (by kernel_rfl) (fun _ _ _ h => h) (.inr ⟨by rfl, by rfl⟩) hH ?_
        (try simp only [Act.put, gy0, gy1, gy2])
        refine wpAnyH_take (i := 28) (v := undef) (by simp only [gx0, gx1, gx2]; rfl) (by kernel_rfl) (by kernel_rfl) (by kernel_rfl) (fun _ _ _ h => h) (.inr ⟨by rfl, by rfl⟩) hH ?_
        (try simp only [Act.put, gy0, gy1, gy2])
        refine wpAnyH_take (i := 29) (v := undef) (by simp only [gx0, gx1, gx2]; rfl) (by kernel_rfl) (by kernel_rfl) (by kernel_rfl) (fun _ _ _ h => h) (.inr ⟨by rfl, by rfl⟩) hH ?_
        (try simp only [Act.put, gy0, gy1, gy2])
        refine wpAnyH_take (i := 30) (v := undef) (by simp only [gx0, gx1, gx2]; rfl) (by kernel_rfl) (by kernel_rfl) (by kernel_rfl) (fun _ _ _ h => h) (.inr ⟨by rfl, by rfl⟩) hH ?_
        (try simp only [Act.put, gy0, gy1, gy2])
        refine wpAnyH_take (i := 31) (v := undef) (by simp only [gx0, gx1, gx2]; rfl) (by kernel_rfl) (by kernel_rfl) (by kernel_rfl) (fun _ _ _ h => h) (.inr ⟨by rfl, by rfl⟩) hH ?_
        (try simp only [Act.put, gy0, gy1, gy2])
        refine wpAnyH_take (i := 32) (v := undef) (by simp only [gx0, gx1, gx2]; rfl) (by kernel_rfl) (by kernel_rfl) (by kernel_rfl) (fun _ _ _ h => h) (.inr ⟨by rfl, by rfl⟩) hH ?_
        (try simp only [Act.put, gy0, gy1, gy2])
        refine wpAnyH_take (i := 33) (v := undef) (by simp only [gx0, gx1, gx2]; rfl) (by kernel_rfl) (by kernel_rfl) (by kernel_rfl) (fun _ _ _ h => h) (.inr ⟨by rfl, by rfl⟩) hH ?_
        (try simp only [Act.put, gy0, gy1, gy2])
        refine wpAnyH_take (i := 34) (v := undef) (by simp only [gx0, gx1, gx2]; rfl) (by kernel_rfl) (by kernel_rfl) (by kernel_rfl) (fun _ _ _ h => h) (.inr ⟨by rfl, by rfl⟩) hH ?_
        (try simp only [Act.put, gy0, gy1, gy2])
        refine wpAnyH_take (i := 35) (v := ?_) (by simp only [gx0, gx1, gx2]; rfl) (by kernel_rfl) (by kernel_rfl) (by kernel_rfl) (fun _ _ _ h => h) (.inl ⟨by rfl, ?_⟩) hH ?_
        rotate_left
        · intro w hSw; (try dsimp only at hSw); first | (go_simp; done) | (go_simp; with_reducible rfl) | (go_simp; decide)
        (try simp only [Act.put, gy0, gy1, gy2])
        refine wpAnyH_take (i := 36) (v := ?_) (by simp only [gx0, gx1, gx2]; rfl) (by kernel_rfl) (by kernel_rfl) (by kernel_rfl) (fun _ _ _ h => h) (.inl ⟨by rfl, ?_⟩) hH ?_
        rotate_left
        · intro w hSw; (try dsimp only at hSw); first | (go_simp; done) | (go_simp; with_reducible rfl) | (go_simp; decide)
        (try simp only [Act.put, gy0, gy1, gy2])
        refine wpAnyH_done (by kernel_rfl) ?_ _
        refine NoPanic.normal ?_
        clear hH
        go_wp2_with fail
        go_meet
        exact ⟨rfl, BW_8⟩
    case rest =>
    obtain ⟨rfl, hT⟩ := hcut
    obtain ⟨vr, rfl⟩ : ∃ W : World, W = wc := ⟨_, rfl⟩
    have Va_r := hid (Va_6.out.keep hT.out)
    have Ka_r := hid (Ka_6.out.keep hT.out)
    have Vb_r := hid (Vb_6.out.keep hT.out)
    have Kb_r := hid (Kb_6.out.keep hT.out)
    have Vc_r := hid (Vc_6.out.keep hT.out)
    have Kc_r := hid (Kc_6.out.keep hT.out)
    have X_r := hid (bx_call X_6.out hT.out)
    clear hT Va_6 Ka_6 Vb_6 Kb_6 Vc_6 Kc_6 X_6
    have e2 := E2.out
    have e3 := E3.out
    obtain ⟨sc, hsc⟩ : ∃ s, s = sgnQ zc := ⟨_, rfl⟩
    rw [← hsc] at e3
    have hw : IntKind.i64.wrap (x * sc) = x * sc := by have r2 := RG2.out; rw [← hsc] at r2; rcases RG1.out with rfl | rfl | rfl <;> rcases r2 with rfl | rfl | rfl <;> rfl
    have SC := hid hsc
    have F2 := hid e2
    have F3 := hid e3
    clear E1 E2 E3 T1 T2 RG1 RG2 hsc e2 e3
    go_upto_region 6 with fail
    (try simp only [List.append_eq, List.cons_append, List.nil_append])
    refine wp_region_noPanic ?_
    refine wp_region_held_drew (S := (fun W => (W.cell? ⟨w.heap.size, 0, none⟩ = some (.bool ga) ∧ W.cell? ⟨w.heap.size, 1, none⟩ = some (.slice Aa na ca) ∧ W.cell? ⟨w.heap.size, 2, none⟩ = some (.slice Da ma da)) ∧ (W.cell? ⟨w.heap.size + 1, 0, none⟩ = some (.bool gb) ∧ W.cell? ⟨w.heap.size + 1, 1, none⟩ = some (.slice Ab nb cb) ∧ W.cell? ⟨w.heap.size + 1, 2, none⟩ = some (.slice Db mb db)) ∧ (W.cell? ⟨w.heap.size + 1 + 1, 0, none⟩ = some (.bool gc) ∧ W.cell? ⟨w.heap.size + 1 + 1, 1, none⟩ = some (.slice Ac nc cc) ∧ W.cell? ⟨w.heap.size + 1 + 1, 2, none⟩ = some (.slice Dc mc dc)))) (by kernel_rfl) ?_ (fun hH => ?_)
    exact (And.intro (blk_three Ka_r.out) (And.intro (blk_three Kb_r.out) (blk_three Kc_r.out)))
    have bd := bx_drew (bx_refl vr)
    obtain ⟨w7, hW0⟩ : ∃ W, W = vr.drew := ⟨_, rfl⟩
    rw [← hW0] at bd hH ⊢
    clear hW0
    have Va_7 := hid (Va_r.out.keep bd)
    have Ka_7 := hid (Ka_r.out.keep bd)
    have Vb_7 := hid (Vb_r.out.keep bd)
    have Kb_7 := hid (Kb_r.out.keep bd)
    have Vc_7 := hid (Vc_r.out.keep bd)
    have Kc_7 := hid (Kc_r.out.keep bd)
    have X_7 := hid (bx_call X_r.out bd)
    clear bd Va_r Ka_r Vb_r Kb_r Vc_r Kc_r X_r 
    refine wpAnyH_take (i := 0) (v := ?_) (by simp only [gx0, gx2]; rfl) (by kernel_rfl) (by kernel_rfl) (by kernel_rfl) (fun _ _ _ h => h) (.inl ⟨by rfl, ?_⟩) hH ?_
    rotate_left
    · intro w hSw; (try dsimp only at hSw); first | (go_simp; done) | (go_simp; with_reducible rfl) | (go_simp; decide)
    (try simp only [Act.put, gy0, gy1, gy2])
    refine wpAnyH_take (i := 1) (v := ?_) (by simp only [gx0, gx1, gx2]; rfl) (by kernel_rfl) (by kernel_rfl) (by kernel_rfl) (fun _ _ _ h => h) (.inl ⟨by rfl, ?_⟩) hH ?_
    rotate_left
    · intro w hSw; (try dsimp only at hSw); first | (go_simp; done) | (go_simp; with_reducible rfl) | (go_simp; decide)
    (try simp only [Act.put, gy0, gy1, gy2])
    refine wpAnyH_take (i := 3) (v := ?_) (by simp only [gx0, gx1, gx2]; rfl) (by kernel_rfl) (by kernel_rfl) (by kernel_rfl) (fun _ _ _ h => h) (.inl ⟨by rfl, ?_⟩) hH ?_
    rotate_left
    · intro w hSw; (try dsimp only at hSw); first | (go_simp; done) | (go_simp; with_reducible rfl) | (go_simp; decide)
    (try simp only [Act.put, gy0, gy1, gy2])
    refine wpAnyH_take (i := 4) (v := ?_) (by simp only [gx0, gx1, gx2]; rfl) (by kernel_rfl) (by kernel_rfl) (by kernel_rfl) (fun _ _ _ h => h) (.inl ⟨by rfl, ?_⟩) hH ?_
    rotate_left
    · intro w hSw; (try dsimp only at hSw); first | (go_simp; done) | (go_simp; with_reducible rfl) | (go_simp; decide)
    (try simp only [Act.put, gy0, gy1, gy2])
    refine wpAnyH_take (i := 7) (v := ?_) (by simp only [gx0, gx1, gx2]; rfl) (by kernel_rfl) (by kernel_rfl) (by kernel_rfl) (fun _ _ _ h => h) (.inl ⟨by rfl, ?_⟩) hH ?_
    rotate_left
    · intro w hSw; (try dsimp only at hSw); first | (go_simp; done) | (go_simp; with_reducible rfl) | (go_simp; decide)
    (try simp only [Act.put, gy0, gy1, gy2])
    refine wpAnyH_ready (rs := [2]) (by kernel_rfl) (by simp) ?_
    refine AllReadyH.cons (by simp only [gx0, gx1, gx2]; rfl) (fun K hK => ?_) AllReadyH.nil
    go_simp
    have cc := vadd ga Aa na ca Da ma da gc Ac nc cc Dc mc dc 4 (za) (zc) w7 (Va_7.out) (Vc_7.out) (by omega)
    refine cc.mono ?_
    rintro e w8 ⟨As1, ns1, cs1, Ds1, ms1, ds1, rfl, r, b⟩
    clear cc hH
    have Ls1 := hid r
    clear r
    have Va_8 := hid (Va_7.out.keep b)
    have Ka_8 := hid (Ka_7.out.keep b)
    have Vb_8 := hid (Vb_7.out.keep b)
    have Kb_8 := hid (Kb_7.out.keep b)
    have Vc_8 := hid (Vc_7.out.keep b)
    have Kc_8 := hid (Kc_7.out.keep b)
    have X_8 := hid (bx_call X_7.out b)
    clear b Va_7 Ka_7 Vb_7 Kb_7 Vc_7 Kc_7 X_7
    (try go_wp2_with fail)
    refine hK.out _ _ ?_ (fun hH => ?_)
    exact (And.intro (blk_three Ka_8.out) (And.intro (blk_three Kb_8.out) (blk_three Kc_8.out)))
    clear hK K
    (try simp only [Act.put, gy0, gy1, gy2])
    refine wpAnyH_ready (rs := [5]) (by kernel_rfl) (by simp) ?_
    refine AllReadyH.cons (by simp only [gx0, gx1, gx2]; rfl) (fun K hK => ?_) AllReadyH.nil
    go_simp
    have cc := vadd gb Ab nb cb Db mb db gc Ac nc cc Dc mc dc 4 (zb) (zc) w8 (Vb_8.out) (Vc_8.out) (by omega)
    refine cc.mono ?_
    rintro e w9 ⟨As2, ns2, cs2, Ds2, ms2, ds2, rfl, r, b⟩
    clear cc hH
    have Ls2 := hid r
    clear r
    have Va_9 := hid (Va_8.out.keep b)
    have Ka_9 := hid (Ka_8.out.keep b)
    have Vb_9 := hid (Vb_8.out.keep b)
    have Kb_9 := hid (Kb_8.out.keep b)
    have Vc_9 := hid (Vc_8.out.keep b)
    have Kc_9 := hid (Kc_8.out.keep b)
    have Ls1_9 := hid (Ls1.out.keep b)
    have X_9 := hid (bx_call X_8.out b)
    clear b Va_8 Ka_8 Vb_8 Kb_8 Vc_8 Kc_8 Ls1 X_8
    (try go_wp2_with fail)
    refine hK.out _ _ ?_ (fun hH => ?_)
    exact (And.intro (blk_three Ka_9.out) (And.intro (blk_three Kb_9.out) (blk_three Kc_9.out)))
    clear hK K
    (try simp only [Act.put, gy0, gy1, gy2])
    refine wpAnyH_ready (rs := [6]) (by kernel_rfl) (by simp) ?_
    refine AllReadyH.cons (by simp only [gx0, gx1, gx2]; rfl) (fun K hK => ?_) AllReadyH.nil
    go_simp
    have cc := vcmp (sg (za + zc).num) As1 ns1 cs1 Ds1 ms1 ds1 (sg (zb + zc).num) As2 ns2 cs2 Ds2 ms2 ds2 9 (za + zc) (zb + zc) w9 ((Ls1_9.out).v) ((Ls2.out).v) (by omega)
    rw [F2.out] at cc
    refine cc.mono ?_
    rintro e w10 ⟨rfl, b⟩
    clear cc hH
    have Va_10 := hid (Va_9.out.keep b)
    have Ka_10 := hid (Ka_9.out.keep b)
    have Vb_10 := hid (Vb_9.out.keep b)
    have Kb_10 := hid (Kb_9.out.keep b)
    have Vc_10 := hid (Vc_9.out.keep b)
    have Kc_10 := hid (Kc_9.out.keep b)
    have Ls1_10 := hid (Ls1_9.out.keep b)
    have Ls2_10 := hid (Ls2.out.keep b)
    have X_10 := hid (bx_call X_9.out b)
    clear b Va_9 Ka_9 Vb_9 Kb_9 Vc_9 Kc_9 Ls1_9 Ls2 X_9
    (try go_wp2_with fail)
    refine hK.out _ _ ?_ (fun hH => ?_)
    exact (And.intro (blk_three Ka_10.out) (And.intro (blk_three Kb_10.out) (blk_three Kc_10.out)))
    clear hK K
    (try simp only [Act.put, gy0, gy1, gy2])
    refine wpAnyH_take (i := 8) (v := ?_) (by simp only [gx0, gx1, gx2]; rfl) (by kernel_rfl) (by kernel_rfl) (by kernel_rfl) (fun _ _ _ h => h) (.inl ⟨by rfl, ?_⟩) hH ?_
    rotate_left
    · intro w hSw; (try dsimp only at hSw); first | (go_simp; done) | (go_simp; with_reducible rfl) | (go_simp; decide)
    (try simp only [Act.put, gy0, gy1, gy2])
    refine wpAnyH_take (i := 9) (v := ?_) (by simp only [gx0, gx1, gx2]; rfl) (by kernel_rfl) (by kernel_rfl) (by kernel_rfl) (fun _ _ _ h => h) (.inl ⟨by rfl, ?_⟩) hH ?_
    rotate_left
    · intro w hSw; (try dsimp only at hSw); first | (go_simp; done) | (go_simp; with_reducible rfl) | (go_simp; decide)
    (try simp only [Act.put, gy0, gy1, gy2])
    refine wpAnyH_take (i := 10) (v := ?_) (by simp only [gx0, gx1, gx2]; rfl) (by kernel_rfl) (by kernel_rfl) (by kernel_rfl) (fun _ _ _ h => h) (.inl ⟨by rfl, ?_⟩) hH ?_
    rotate_left
    · intro w hSw; (try dsimp only at hSw); first | (go_simp; done) | (go_simp; with_reducible rfl) | (go_simp; decide)
    (try simp only [Act.put, gy0, gy1, gy2])
    refine wpAnyH_take (i := 11) (v := ?_) (by simp only [gx0, gx1, gx2]; rfl) (by kernel_rfl) (by kernel_rfl) (by kernel_rfl) (fun _ _ _ h => h) (.inl ⟨by rfl, ?_⟩) hH ?_
    rotate_left
    · intro w hSw; (try dsimp only at hSw); first | (go_simp; done) | (go_simp; with_reducible rfl) | (go_simp; decide)
    (try simp only [Act.put, gy0, gy1, gy2])
    refine wpAnyH_take (i := 13) (v := ?_) (by simp only [gx0, gx1, gx2]; rfl) (by kernel_rfl) (by kernel_rfl) (by kernel_rfl) (fun _ _ _ h => h) (.inl ⟨by rfl, ?_⟩) hH ?_
    rotate_left
    · intro w hSw; (try dsimp only at hSw); first | (go_simp; done) | (go_simp; with_reducible rfl) | (go_simp; decide)
    (try simp only [Act.put, gy0, gy1, gy2])
    refine wpAnyH_take (i := 14) (v := ?_) (by simp only [gx0, gx1, gx2]; rfl) (by kernel_rfl) (by kernel_rfl) (by kernel_rfl) (fun _ _ _ h => h) (.inl ⟨by rfl, ?_⟩) hH ?_
    rotate_left
    · intro w hSw; (try dsimp only at hSw); first | (go_simp; done) | (go_simp; with_reducible rfl) | (go_simp; decide)
    (try simp only [Act.put, gy0, gy1, gy2])
    refine wpAnyH_take (i := 17) (v := ?_) (by simp only [gx0, gx1, gx2]; rfl) (by kernel_rfl) (by kernel_rfl) (by kernel_rfl) (fun _ _ _ h => h) (.inl ⟨by rfl, ?_⟩) hH ?_
    rotate_left
    · intro w hSw; (try dsimp only at hSw); first | (go_simp; done) | (go_simp; with_reducible rfl) | (go_simp; decide)
    (try simp only [Act.put, gy0, gy1, gy2])
    refine wpAnyH_take (i := 18) (v := ?_) (by simp only [gx0, gx1, gx2]; rfl) (by kernel_rfl) (by kernel_rfl) (by kernel_rfl) (fun _ _ _ h => h) (.inl ⟨by rfl, ?_⟩) hH ?_
    rotate_left
    · intro w hSw; (try dsimp only at hSw); first | (go_simp; done) | (go_simp; with_reducible rfl) | (go_simp; decide)
    (try simp only [Act.put, gy0, gy1, gy2])
    refine wpAnyH_ready (rs := [12]) (by kernel_rfl) (by simp) ?_
    refine AllReadyH.cons (by simp only [gx0, gx1, gx2]; rfl) (fun K hK => ?_) AllReadyH.nil
    go_simp
    have cc := vmul ga Aa na ca Da ma da gc Ac nc cc Dc mc dc 4 (za) (zc) w10 (Va_10.out) (Vc_10.out) (by omega)
    refine cc.mono ?_
    rintro e w11 ⟨As3, ns3, cs3, Ds3, ms3, ds3, rfl, r, b⟩
    clear cc hH
    have Ls3 := hid r
    clear r
    have Va_11 := hid (Va_10.out.keep b)
    have Ka_11 := hid (Ka_10.out.keep b)
    have Vb_11 := hid (Vb_10.out.keep b)
    have Kb_11 := hid (Kb_10.out.keep b)
    have Vc_11 := hid (Vc_10.out.keep b)
    have Kc_11 := hid (Kc_10.out.keep b)
    have Ls1_11 := hid (Ls1_10.out.keep b)
    have Ls2_11 := hid (Ls2_10.out.keep b)
    have X_11 := hid (bx_call X_10.out b)
    clear b Va_10 Ka_10 Vb_10 Kb_10 Vc_10 Kc_10 Ls1_10 Ls2_10 X_10
    (try go_wp2_with fail)
    refine hK.out _ _ ?_ (fun hH => ?_)
    exact (And.intro (blk_three Ka_11.out) (And.intro (blk_three Kb_11.out) (blk_three Kc_11.out)))
    clear hK K
    (try simp only [Act.put, gy0, gy1, gy2])
    refine wpAnyH_ready (rs := [15]) (by kernel_rfl) (by simp) ?_
    refine AllReadyH.cons (by simp only [gx0, gx1, gx2]; rfl) (fun K hK => ?_) AllReadyH.nil
    go_simp
    have cc := vmul gb Ab nb cb Db mb db gc Ac nc cc Dc mc dc 4 (zb) (zc) w11 (Vb_11.out) (Vc_11.out) (by omega)
    refine cc.mono ?_
    rintro e w12 ⟨As4, ns4, cs4, Ds4, ms4, ds4, rfl, r, b⟩
    clear cc hH
    have Ls4 := hid r
    clear r
    have Va_12 := hid (Va_11.out.keep b)
    have Ka_12 := hid (Ka_11.out.keep b)
    have Vb_12 := hid (Vb_11.out.keep b)
    have Kb_12 := hid (Kb_11.out.keep b)
    have Vc_12 := hid (Vc_11.out.keep b)
    have Kc_12 := hid (Kc_11.out.keep b)
    have Ls1_12 := hid (Ls1_11.out.keep b)
    have Ls2_12 := hid (Ls2_11.out.keep b)
    have Ls3_12 := hid (Ls3.out.keep b)
    have X_12 := hid (bx_call X_11.out b)
    clear b Va_11 Ka_11 Vb_11 Kb_11 Vc_11 Kc_11 Ls1_11 Ls2_11 Ls3 X_11
    (try go_wp2_with fail)
    refine hK.out _ _ ?_ (fun hH => ?_)
    exact (And.intro (blk_three Ka_12.out) (And.intro (blk_three Kb_12.out) (blk_three Kc_12.out)))
    clear hK K
    (try simp only [Act.put, gy0, gy1, gy2])
    refine wpAnyH_ready (rs := [16]) (by kernel_rfl) (by simp) ?_
    refine AllReadyH.cons (by simp only [gx0, gx1, gx2]; rfl) (fun K hK => ?_) AllReadyH.nil
    go_simp
    have cc := vcmp (sg (za * zc).num) As3 ns3 cs3 Ds3 ms3 ds3 (sg (zb * zc).num) As4 ns4 cs4 Ds4 ms4 ds4 8 (za * zc) (zb * zc) w12 ((Ls3_12.out).v) ((Ls4.out).v) (by omega)
    rw [F3.out] at cc
    refine cc.mono ?_
    rintro e w13 ⟨rfl, b⟩
    clear cc hH
    have Va_13 := hid (Va_12.out.keep b)
    have Ka_13 := hid (Ka_12.out.keep b)
    have Vb_13 := hid (Vb_12.out.keep b)
    have Kb_13 := hid (Kb_12.out.keep b)
    have Vc_13 := hid (Vc_12.out.keep b)
    have Kc_13 := hid (Kc_12.out.keep b)
    have Ls1_13 := hid (Ls1_12.out.keep b)
    have Ls2_13 := hid (Ls2_12.out.keep b)
    have Ls3_13 := hid (Ls3_12.out.keep b)
    have Ls4_13 := hid (Ls4.out.keep b)
    have X_13 := hid (bx_call X_12.out b)
    clear b Va_12 Ka_12 Vb_12 Kb_12 Vc_12 Kc_12 Ls1_12 Ls2_12 Ls3_12 Ls4 X_12
    (try go_wp2_with fail)
    refine hK.out _ _ ?_ (fun hH => ?_)
    exact (And.intro (blk_three Ka_13.out) (And.intro (blk_three Kb_13.out) (blk_three Kc_13.out)))
    clear hK K
    (try simp only [Act.put, gy0, gy1, gy2])
    refine wpAnyH_ready (rs := [19]) (by kernel_rfl) (by simp) ?_
    refine AllReadyH.cons (by simp only [gx0, gx1, gx2]; rfl) (fun K hK => ?_) AllReadyH.nil
    go_simp
    have cc := vsign gc Ac nc cc Dc mc dc 4 (zc) w13 (Vc_13.out)
    rw [← SC.out] at cc
    refine cc.mono ?_
    rintro e w14 ⟨rfl, b⟩
    clear cc hH
    have Va_14 := hid (Va_13.out.keep b)
    have Ka_14 := hid (Ka_13.out.keep b)
    have Vb_14 := hid (Vb_13.out.keep b)
    have Kb_14 := hid (Kb_13.out.keep b)
    have Vc_14 := hid (Vc_13.out.keep b)
    have Kc_14 := hid (Kc_13.out.keep b)
    have Ls1_14 := hid (Ls1_13.out.keep b)
    have Ls2_14 := hid (Ls2_13.out.keep b)
    have Ls3_14 := hid (Ls3_13.out.keep b)
    have Ls4_14 := hid (Ls4_13.out.keep b)
    have X_14 := hid (bx_call X_13.out b)
    clear b Va_13 Ka_13 Vb_13 Kb_13 Vc_13 Kc_13 Ls1_13 Ls2_13 Ls3_13 Ls4_13 X_13
    (try go_wp2_with fail)
    refine hK.out _ _ ?_ (fun hH => ?_)
    exact (And.intro (blk_three Ka_14.out) (And.intro (blk_three Kb_14.out) (blk_three Kc_14.out)))
    clear hK K
    (try simp only [Act.put, gy0, gy1, gy2])
    refine wpAnyH_take (i := 20) (v := ?_) (by simp only [gx0, gx1, gx2]; rfl) (by kernel_rfl) (by kernel_rfl) (by kernel_rfl) (fun _ _ _ h => h) (.inl ⟨by rfl, ?_⟩) hH ?_
    rotate_left
    · intro w hSw; (try dsimp only at hSw); first | (go_simp; done) | (go_simp; with_reducible rfl) | (go_simp; decide)
    (try simp only [Act.put, gy0, gy1, gy2])
    refine wpAnyH_take (i := 21) (v := ?_) (by simp only [gx0, gx1, gx2]; rfl) (by kernel_rfl) (by kernel_rfl) (by kernel_rfl) (fun _ _ _ h => h) (.inl ⟨by rfl, ?_⟩) hH ?_
    rotate_left
    · intro w hSw; (try dsimp only at hSw); first | (go_simp; done) | (go_simp; with_reducible rfl) | (go_simp; decide)
    (try simp only [Act.put, gy0, gy1, gy2])
    refine wpAnyH_take (i := 22) (v := ?_) (by simp only [gx0, gx1, gx2]; rfl) (by kernel_rfl) (by kernel_rfl) (by kernel_rfl) (fun _ _ _ h => h) (.inl ⟨by rfl, ?_⟩) hH ?_
    rotate_left
    · intro w hSw; (try dsimp only at hSw); first | (go_simp; done) | (go_simp; with_reducible rfl) | (go_simp; decide)
    (try simp only [Act.put, gy0, gy1, gy2])
    refine wpAnyH_take (i := 23) (v := ?_) (by simp only [gx0, gx1, gx2]; rfl) (by kernel_rfl) (by kernel_rfl) (by kernel_rfl) (fun _ _ _ h => h) (.inl ⟨by rfl, ?_⟩) hH ?_
    rotate_left
    · intro w hSw; (try dsimp only at hSw); first | (go_simp; done) | (go_simp; with_reducible rfl) | (go_simp; decide)
    (try simp only [Act.put, gy0, gy1, gy2])
    refine wpAnyH_done (by kernel_rfl) ?_ _
    refine NoPanic.normal ?_
    clear hH
    go_wp2_with fail
    go_ret
    exact ⟨rfl, X_14.out⟩
  · have hF := decide_eq_false hf
    clear hf
    go_enter Try.func13, Try.ntmps13
    go_wp2_with fail
    refine (qawake_any _).mono ?_
    rintro e w1 ⟨rfl, b⟩
    have Ra_1 := hid (Ra.out.keep b)
    have Sa_1 := hid (Sa.out.keep b)
    have Ka_1 := hid (Ka.out.keep b)
    have Rb_1 := hid (Rb.out.keep b)
    have Sb_1 := hid (Sb.out.keep b)
    have Kb_1 := hid (Kb.out.keep b)
    have Rc_1 := hid (Rc.out.keep b)
    have Sc_1 := hid (Sc.out.keep b)
    have Kc_1 := hid (Kc.out.keep b)
    have X_1 := hid (bx_call X.out b)
    clear b X Ra Sa Ka Rb Sb Kb Rc Sc Kc
    obtain ⟨ka0, ka1, ka2⟩ := blk_three Ka_1.out
    obtain ⟨kb0, kb1, kb2⟩ := blk_three Kb_1.out
    obtain ⟨kc0, kc1, kc2⟩ := blk_three Kc_1.out
    have cc := qfew3 (k := 4) (by omega) (Blk.new w1 [.bool ga, .slice Aa na ca, .slice Da ma da, .bool gb, .slice Ab nb cb, .slice Db mb db, .bool gc, .slice Ac nc cc, .slice Dc mc dc] 50) (by omega) (by omega) (by omega) (by omega) (by omega) (by omega)
    rw [hF] at cc
    have CC := hid cc
    clear cc hF
    go_wp2_with fail
    refine (CC.out).mono ?_
    rintro e w2 ⟨rfl, b0⟩
    have X_2 := hid (bx_call X_1.out (bx_call (bx_alloc (bx_refl w1) (.cells #[.bool ga, .slice Aa na ca, .slice Da ma da, .bool gb, .slice Ab nb cb, .slice Db mb db, .bool gc, .slice Ac nc cc, .slice Dc mc dc] 50)) b0))
    clear CC b0 X_1
    go_wp2_with fail
    refine (qawake_any _).mono ?_
    rintro e w3 ⟨rfl, b⟩
    have X_3 := hid (bx_call X_2.out b)
    clear X_2 b
    go_wp2_with fail
    go_ret
    exact ⟨rfl, X_3.out⟩

end Go.Proofs.Ytcbbacnhnaopmaa
