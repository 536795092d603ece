/- Laws of layer 3, walked by contracts. -/
import Derived.Test.YtcbbacnhnaopmaaQaw
import Derived.Deep.DeepCutAuto
namespace Go.Proofs.Ytcbbacnhnaopmaa
open Go.RowKit

/-- A fraction is stored in its block. -/
theorem rat_made {w W : World} {p k : Nat} {q : Rat} {b0 : Bool} {A A0 D D0 : Option Addr} {n c n0 c0 m d m0 d0 : Nat} (hB : Below w.heap.size w W) (hp : w.heap.size ≤ p)
    (bp : Blk W p [.bool b0, .slice A0 n0 c0, .slice D0 m0 d0] 50) (r : FrL W A n c D m d k q) :
    Blk (((W.setCell ⟨p, 0, none⟩ (.bool (sg q.num))).setCell ⟨p, 1, none⟩ (.slice A n c)).setCell ⟨p, 2, none⟩ (.slice D m d)) p [.bool (sg q.num), .slice A n c, .slice D m d] 50 ∧ FrL (((W.setCell ⟨p, 0, none⟩ (.bool (sg q.num))).setCell ⟨p, 1, none⟩ (.slice A n c)).setCell ⟨p, 2, none⟩ (.slice D m d)) A n c D m d k q ∧
    Below w.heap.size w (((W.setCell ⟨p, 0, none⟩ (.bool (sg q.num))).setCell ⟨p, 1, none⟩ (.slice A n c)).setCell ⟨p, 2, none⟩ (.slice D m d)) :=
  ⟨((bp.set_ 0 _).set_ 1 _).set_ 2 _, ⟨rd_cell_far3 r.1 bp _ _ _, r.2.1, rd_cell_far3 r.2.2.1 bp _ _ _, r.2.2.2⟩, bx_set (bx_set (bx_set hB hp) hp) hp⟩
theorem far_rat {W : World} {p t o q B : Nat} (bp : Blk W p [.bool false, .slice none 0 0, .slice none 0 0] t) (hp : B ≤ p) (ho : o < B) (hq : q < B) :
    (W.cell? ⟨p, 0, none⟩ = some (.bool false) ∧ W.cell? ⟨p, 1, none⟩ = some (.slice none 0 0) ∧ W.cell? ⟨p, 2, none⟩ = some (.slice none 0 0) ∧ W.frozen? ⟨p, 0, none⟩ = false ∧ W.frozen? ⟨p, 1, none⟩ = false ∧ W.frozen? ⟨p, 2, none⟩ = false) ∧ Hid (o ≠ p ∧ q ≠ p) :=
  ⟨⟨Blk.cell bp 0, Blk.cell bp 1, Blk.cell bp 2, Blk.free bp 0, Blk.free bp 1, Blk.free bp 2⟩, hid ⟨by omega, by omega⟩⟩

set_option maxRecDepth 100000 in
set_option maxHeartbeats 8000000 in
theorem rationalField_any (ga : Bool) (Aa : Option Addr) (na ca : Nat) (xsa : List Nat) (Da : Option Addr) (ma da : Nat) (dsa : List Nat) (gb : Bool) (Ab : Option Addr) (nb cb : Nat) (xsb : List Nat) (Db : Option Addr) (mb db : Nat) (dsb : List Nat) (gc : Bool) (Ac : Option Addr) (nc cc : Nat) (xsc : List Nat) (Dc : Option Addr) (mc dc : Nat) (dsc : List Nat) (w : World) (ha : Rd w Aa na ca xsa) (ea : Rd w Da ma da dsa) (hb : Rd w Ab nb cb xsb) (eb : Rd w Db mb db dsb) (hc : Rd w Ac nc cc xsc) (ec : Rd w Dc mc dc dsc) :
    Calls Try.prog 12 #[.agg #[.bool ga, .slice Aa na ca, .slice Da ma da], .agg #[.bool gb, .slice Ab nb cb, .slice Db mb db], .agg #[.bool gc, .slice Ac nc cc, .slice Dc mc dc]] w (RetB w true) := by
  have j1a := ha.2.1
  have j2a := ha.2.2.1
  have j3a := ea.2.1
  have j4a := ea.2.2.1
  have j1b := hb.2.1
  have j2b := hb.2.2.1
  have j3b := eb.2.1
  have j4b := eb.2.2.1
  have j1c := hc.2.1
  have j2c := hc.2.2.1
  have j3c := ec.2.1
  have j4c := ec.2.2.1
  have X := hid (bx_alloc (bx_alloc (bx_alloc (bx_refl w) (.cells #[.bool ga, .slice Aa na ca, .slice Da ma da] 50)) (.cells #[.bool gb, .slice Ab nb cb, .slice Db mb db] 50)) (.cells #[.bool gc, .slice Ac nc cc, .slice Dc mc dc] 50))
  have Ka : Hid (Blk (((w.alloc (.cells #[.bool ga, .slice Aa na ca, .slice Da ma da] 50)).alloc (.cells #[.bool gb, .slice Ab nb cb, .slice Db mb db] 50)).alloc (.cells #[.bool gc, .slice Ac nc cc, .slice Dc mc dc] 50)) (w.heap.size) [.bool ga, .slice Aa na ca, .slice Da ma da] 50) := hid (by have t := (((Blk.new w [.bool ga, .slice Aa na ca, .slice Da ma da] 50).alloc (.cells #[.bool gb, .slice Ab nb cb, .slice Db mb db] 50)).alloc (.cells #[.bool gc, .slice Ac nc cc, .slice Dc mc dc] 50)); (try simp only [World.size_alloc] at t); exact t)
  have Kb : Hid (Blk (((w.alloc (.cells #[.bool ga, .slice Aa na ca, .slice Da ma da] 50)).alloc (.cells #[.bool gb, .slice Ab nb cb, .slice Db mb db] 50)).alloc (.cells #[.bool gc, .slice Ac nc cc, .slice Dc mc dc] 50)) (w.heap.size + 1) [.bool gb, .slice Ab nb cb, .slice Db mb db] 50) := hid (by have t := ((Blk.new (w.alloc (.cells #[.bool ga, .slice Aa na ca, .slice Da ma da] 50)) [.bool gb, .slice Ab nb cb, .slice Db mb db] 50).alloc (.cells #[.bool gc, .slice Ac nc cc, .slice Dc mc dc] 50)); (try simp only [World.size_alloc] at t); exact t)
  have Kc : Hid (Blk (((w.alloc (.cells #[.bool ga, .slice Aa na ca, .slice Da ma da] 50)).alloc (.cells #[.bool gb, .slice Ab nb cb, .slice Db mb db] 50)).alloc (.cells #[.bool gc, .slice Ac nc cc, .slice Dc mc dc] 50)) (w.heap.size + 1 + 1) [.bool gc, .slice Ac nc cc, .slice Dc mc dc] 50) := hid (by have t := (Blk.new ((w.alloc (.cells #[.bool ga, .slice Aa na ca, .slice Da ma da] 50)).alloc (.cells #[.bool gb, .slice Ab nb cb, .slice Db mb db] 50)) [.bool gc, .slice Ac nc cc, .slice Dc mc dc] 50); (try simp only [World.size_alloc] at t); exact t)
  have Ra := hid (ha.keep X.out)
  have Sa := hid (ea.keep X.out)
  have Rb := hid (hb.keep X.out)
  have Sb := hid (eb.keep X.out)
  have Rc := hid (hc.keep X.out)
  have Sc := hid (ec.keep X.out)
  clear ha ea hb eb hc ec
  by_cases hf : (na ≤ 4 ∧ ma ≤ 4) ∧ (nb ≤ 4 ∧ mb ≤ 4) ∧ (nc ≤ 4 ∧ mc ≤ 4)
  · obtain ⟨⟨qa, ua⟩, ⟨qb, ub⟩, ⟨qc, uc⟩⟩ := hf
    go_enter Try.func12, Try.ntmps12
    go_wp2_with fail
    refine (qawake_any _).mono ?_
    rintro e w1 ⟨rfl, b⟩
    have Ra_1 := hid (Ra.out.keep b)
    have Sa_1 := hid (Sa.out.keep b)
    have Ka_1 := hid (Ka.out.keep b)
    have Rb_1 := hid (Rb.out.keep b)
    have Sb_1 := hid (Sb.out.keep b)
    have Kb_1 := hid (Kb.out.keep b)
    have Rc_1 := hid (Rc.out.keep b)
    have Sc_1 := hid (Sc.out.keep b)
    have Kc_1 := hid (Kc.out.keep b)
    have X_1 := hid (bx_call X.out b)
    clear b X Ra Sa Ka Rb Sb Kb Rc Sc Kc
    obtain ⟨ka0, ka1, ka2⟩ := blk_three Ka_1.out
    obtain ⟨kb0, kb1, kb2⟩ := blk_three Kb_1.out
    obtain ⟨kc0, kc1, kc2⟩ := blk_three Kc_1.out
    have cc := qfew3 (k := 4) (by omega) (Blk.new w1 [.bool ga, .slice Aa na ca, .slice Da ma da, .bool gb, .slice Ab nb cb, .slice Db mb db, .bool gc, .slice Ac nc cc, .slice Dc mc dc] 50) (by omega) (by omega) (by omega) (by omega) (by omega) (by omega)
    rw [decide_eq_true ⟨⟨qa, ua⟩, ⟨qb, ub⟩, ⟨qc, uc⟩⟩] at cc
    have CC := hid cc
    clear cc
    go_wp2_with fail
    refine (CC.out).mono ?_
    rintro e w2 ⟨rfl, b0⟩
    have b := bx_call (bx_alloc (bx_refl w1) (.cells #[.bool ga, .slice Aa na ca, .slice Da ma da, .bool gb, .slice Ab nb cb, .slice Db mb db, .bool gc, .slice Ac nc cc, .slice Dc mc dc] 50)) b0
    have Ka_2 := hid (Ka_1.out.keep b)
    obtain ⟨za, hza⟩ : ∃ z, z = mkRat (iv ga xsa) (dv1 dsa) := ⟨_, rfl⟩
    have Va_2 := hid (show FrV w2 ga Aa na ca Da ma da 4 za from ⟨xsa, dsa, Ra_1.out.keep b, qa, Sa_1.out.keep b, ua, by omega, hza.symm⟩)
    have Kb_2 := hid (Kb_1.out.keep b)
    obtain ⟨zb, hzb⟩ : ∃ z, z = mkRat (iv gb xsb) (dv1 dsb) := ⟨_, rfl⟩
    have Vb_2 := hid (show FrV w2 gb Ab nb cb Db mb db 4 zb from ⟨xsb, dsb, Rb_1.out.keep b, qb, Sb_1.out.keep b, ub, by omega, hzb.symm⟩)
    have Kc_2 := hid (Kc_1.out.keep b)
    obtain ⟨zc, hzc⟩ : ∃ z, z = mkRat (iv gc xsc) (dv1 dsc) := ⟨_, rfl⟩
    have Vc_2 := hid (show FrV w2 gc Ac nc cc Dc mc dc 4 zc from ⟨xsc, dsc, Rc_1.out.keep b, qc, Sc_1.out.keep b, uc, by omega, hzc.symm⟩)
    have X_2 := hid (bx_call X_1.out b)
    clear CC b b0 X_1 Ra_1 Sa_1 Ka_1 hza ka0 ka1 ka2 Rb_1 Sb_1 Kb_1 hzb kb0 kb1 kb2 Rc_1 Sc_1 Kc_1 hzc kc0 kc1 kc2
    go_upto_region 4 with fail
    (try simp only [List.append_eq, List.cons_append, List.nil_append])
    refine wp_region_noPanic ?_
    refine wp_region_held_drew (S := (fun W => (W.cell? ⟨w.heap.size, 0, none⟩ = some (.bool ga) ∧ W.cell? ⟨w.heap.size, 1, none⟩ = some (.slice Aa na ca) ∧ W.cell? ⟨w.heap.size, 2, none⟩ = some (.slice Da ma da)) ∧ (W.cell? ⟨w.heap.size + 1, 0, none⟩ = some (.bool gb) ∧ W.cell? ⟨w.heap.size + 1, 1, none⟩ = some (.slice Ab nb cb) ∧ W.cell? ⟨w.heap.size + 1, 2, none⟩ = some (.slice Db mb db)) ∧ (W.cell? ⟨w.heap.size + 1 + 1, 0, none⟩ = some (.bool gc) ∧ W.cell? ⟨w.heap.size + 1 + 1, 1, none⟩ = some (.slice Ac nc cc) ∧ W.cell? ⟨w.heap.size + 1 + 1, 2, none⟩ = some (.slice Dc mc dc)))) (by kernel_rfl) ?_ (fun hH => ?_)
    exact (And.intro (blk_three Ka_2.out) (And.intro (blk_three Kb_2.out) (blk_three Kc_2.out)))
    have bd := bx_drew (bx_refl w2)
    obtain ⟨w3, hW0⟩ : ∃ W, W = w2.drew := ⟨_, rfl⟩
    rw [← hW0] at bd hH ⊢
    clear hW0
    have Va_3 := hid (Va_2.out.keep bd)
    have Ka_3 := hid (Ka_2.out.keep bd)
    have Vb_3 := hid (Vb_2.out.keep bd)
    have Kb_3 := hid (Kb_2.out.keep bd)
    have Vc_3 := hid (Vc_2.out.keep bd)
    have Kc_3 := hid (Kc_2.out.keep bd)
    have X_3 := hid (bx_call X_2.out bd)
    clear bd Va_2 Ka_2 Vb_2 Kb_2 Vc_2 Kc_2 X_2 
    refine wpAnyH_take (i := 0) (v := ?_) (by simp only [gx0, gx2]; rfl) (by kernel_rfl) (by kernel_rfl) (by kernel_rfl) (fun _ _ _ h => h) (.inl ⟨by rfl, ?_⟩) hH ?_
    rotate_left
    · intro w hSw; (try dsimp only at hSw); first | (go_simp; done) | (go_simp; with_reducible rfl) | (go_simp; decide)
    (try simp only [Act.put, gy0, gy1, gy2])
    refine wpAnyH_take (i := 1) (v := ?_) (by simp only [gx0, gx1, gx2]; rfl) (by kernel_rfl) (by kernel_rfl) (by kernel_rfl) (fun _ _ _ h => h) (.inl ⟨by rfl, ?_⟩) hH ?_
    rotate_left
    · intro w hSw; (try dsimp only at hSw); first | (go_simp; done) | (go_simp; with_reducible rfl) | (go_simp; decide)
    (try simp only [Act.put, gy0, gy1, gy2])
    refine wpAnyH_take (i := 2) (v := ?_) (by simp only [gx0, gx1, gx2]; rfl) (by kernel_rfl) (by kernel_rfl) (by kernel_rfl) (fun _ _ _ h => h) (.inl ⟨by rfl, ?_⟩) hH ?_
    rotate_left
    · intro w hSw; (try dsimp only at hSw); first | (go_simp; done) | (go_simp; with_reducible rfl) | (go_simp; decide)
    (try simp only [Act.put, gy0, gy1, gy2])
    refine wpAnyH_take (i := 4) (v := ?_) (by simp only [gx0, gx1, gx2]; rfl) (by kernel_rfl) (by kernel_rfl) (by kernel_rfl) (fun _ _ _ h => h) (.inl ⟨by rfl, ?_⟩) hH ?_
    rotate_left
    · intro w hSw; (try dsimp only at hSw); first | (go_simp; done) | (go_simp; with_reducible rfl) | (go_simp; decide)
    (try simp only [Act.put, gy0, gy1, gy2])
    refine wpAnyH_take (i := 5) (v := ?_) (by simp only [gx0, gx1, gx2]; rfl) (by kernel_rfl) (by kernel_rfl) (by kernel_rfl) (fun _ _ _ h => h) (.inl ⟨by rfl, ?_⟩) hH ?_
    rotate_left
    · intro w hSw; (try dsimp only at hSw); first | (go_simp; done) | (go_simp; with_reducible rfl) | (go_simp; decide)
    (try simp only [Act.put, gy0, gy1, gy2])
    refine wpAnyH_ready (rs := [3]) (by kernel_rfl) (by simp) ?_
    refine AllReadyH.cons (by simp only [gx0, gx1, gx2]; rfl) (fun K hK => ?_) AllReadyH.nil
    go_simp
    have cc := vadd ga Aa na ca Da ma da gb Ab nb cb Db mb db 4 (za) (zb) w3 (Va_3.out) (Vb_3.out) (by omega)
    refine cc.mono ?_
    rintro e w4 ⟨Ar1, nr1, cr1, Dr1, mr1, dr1, rfl, r, b⟩
    clear cc hH
    have Lr1 := hid r
    clear r
    have Va_4 := hid (Va_3.out.keep b)
    have Ka_4 := hid (Ka_3.out.keep b)
    have Vb_4 := hid (Vb_3.out.keep b)
    have Kb_4 := hid (Kb_3.out.keep b)
    have Vc_4 := hid (Vc_3.out.keep b)
    have Kc_4 := hid (Kc_3.out.keep b)
    have X_4 := hid (bx_call X_3.out b)
    clear b Va_3 Ka_3 Vb_3 Kb_3 Vc_3 Kc_3 X_3
    (try go_wp2_with fail)
    refine hK.out _ _ ?_ (fun hH => ?_)
    exact (And.intro (blk_three Ka_4.out) (And.intro (blk_three Kb_4.out) (blk_three Kc_4.out)))
    clear hK K
    (try simp only [Act.put, gy0, gy1, gy2])
    refine wpAnyH_ready (rs := [6]) (by kernel_rfl) (by simp) ?_
    refine AllReadyH.cons (by simp only [gx0, gx1, gx2]; rfl) (fun K hK => ?_) AllReadyH.nil
    go_simp
    have cc := vadd gb Ab nb cb Db mb db ga Aa na ca Da ma da 4 (zb) (za) w4 (Vb_4.out) (Va_4.out) (by omega)
    refine cc.mono ?_
    rintro e w5 ⟨Ar2, nr2, cr2, Dr2, mr2, dr2, rfl, r, b⟩
    clear cc hH
    have Lr2 := hid r
    clear r
    have Va_5 := hid (Va_4.out.keep b)
    have Ka_5 := hid (Ka_4.out.keep b)
    have Vb_5 := hid (Vb_4.out.keep b)
    have Kb_5 := hid (Kb_4.out.keep b)
    have Vc_5 := hid (Vc_4.out.keep b)
    have Kc_5 := hid (Kc_4.out.keep b)
    have Lr1_5 := hid (Lr1.out.keep b)
    have X_5 := hid (bx_call X_4.out b)
    clear b Va_4 Ka_4 Vb_4 Kb_4 Vc_4 Kc_4 Lr1 X_4
    (try go_wp2_with fail)
    refine hK.out _ _ ?_ (fun hH => ?_)
    exact (And.intro (blk_three Ka_5.out) (And.intro (blk_three Kb_5.out) (blk_three Kc_5.out)))
    clear hK K
    (try simp only [Act.put, gy0, gy1, gy2])
    refine wpAnyH_ready (rs := [7]) (by kernel_rfl) (by simp) ?_
    refine AllReadyH.cons (by simp only [gx0, gx1, gx2]; rfl) (fun K hK => ?_) AllReadyH.nil
    go_simp
    have cc := vsame (Lr1_5.out) (Lr2.out)
    rw [decide_eq_true (show za + zb = zb + za from by grind)] at cc
    refine cc.mono ?_
    rintro e w6 ⟨rfl, b⟩
    clear cc hH
    have Va_6 := hid (Va_5.out.keep b)
    have Ka_6 := hid (Ka_5.out.keep b)
    have Vb_6 := hid (Vb_5.out.keep b)
    have Kb_6 := hid (Kb_5.out.keep b)
    have Vc_6 := hid (Vc_5.out.keep b)
    have Kc_6 := hid (Kc_5.out.keep b)
    have Lr1_6 := hid (Lr1_5.out.keep b)
    have Lr2_6 := hid (Lr2.out.keep b)
    have X_6 := hid (bx_call X_5.out b)
    clear b Va_5 Ka_5 Vb_5 Kb_5 Vc_5 Kc_5 Lr1_5 Lr2 X_5
    (try go_wp2_with fail)
    refine hK.out _ _ ?_ (fun hH => ?_)
    exact (And.intro (blk_three Ka_6.out) (And.intro (blk_three Kb_6.out) (blk_three Kc_6.out)))
    clear hK K
    (try simp only [Act.put, gy0, gy1, gy2])
    refine wpAnyH_take (i := 8) (v := ?_) (by simp only [gx0, gx1, gx2]; rfl) (by kernel_rfl) (by kernel_rfl) (by kernel_rfl) (fun _ _ _ h => h) (.inl ⟨by rfl, ?_⟩) hH ?_
    rotate_left
    · intro w hSw; (try dsimp only at hSw); first | (go_simp; done) | (go_simp; with_reducible rfl) | (go_simp; decide)
    (try simp only [Act.put, gy0, gy1, gy2])
    refine wpAnyH_take (i := 9) (v := ?_) (by simp only [gx0, gx1, gx2]; rfl) (by kernel_rfl) (by kernel_rfl) (by kernel_rfl) (fun _ _ _ h => h) (.inl ⟨by rfl, ?_⟩) hH ?_
    rotate_left
    · intro w hSw; (try dsimp only at hSw); first | (go_simp; done) | (go_simp; with_reducible rfl) | (go_simp; decide)
    (try simp only [Act.put, gy0, gy1, gy2])
    refine wpAnyH_take (i := 10) (v := ?_) (by simp only [gx0, gx1, gx2]; rfl) (by kernel_rfl) (by kernel_rfl) (by kernel_rfl) (fun _ _ _ h => h) (.inl ⟨by rfl, ?_⟩) hH ?_
    rotate_left
    · intro w hSw; (try dsimp only at hSw); first | (go_simp; done) | (go_simp; with_reducible rfl) | (go_simp; decide)
    (try simp only [Act.put, gy0, gy1, gy2])
    refine wpAnyH_take (i := 11) (v := ?_) (by simp only [gx0, gx1, gx2]; rfl) (by kernel_rfl) (by kernel_rfl) (by kernel_rfl) (fun _ _ _ h => h) (.inl ⟨by rfl, ?_⟩) hH ?_
    rotate_left
    · intro w hSw; (try dsimp only at hSw); first | (go_simp; done) | (go_simp; with_reducible rfl) | (go_simp; decide)
    (try simp only [Act.put, gy0, gy1, gy2])
    refine wpAnyH_take (i := 12) (v := ?_) (by simp only [gx0, gx1, gx2]; rfl) (by kernel_rfl) (by kernel_rfl) (by kernel_rfl) (fun _ _ _ h => h) (.inl ⟨by rfl, ?_⟩) hH ?_
    rotate_left
    · intro w hSw; (try dsimp only at hSw); first | (go_simp; done) | (go_simp; with_reducible rfl) | (go_simp; decide)
    (try simp only [Act.put, gy0, gy1, gy2])
    refine wpAnyH_take (i := 14) (v := ?_) (by simp only [gx0, gx1, gx2]; rfl) (by kernel_rfl) (by kernel_rfl) (by kernel_rfl) (fun _ _ _ h => h) (.inl ⟨by rfl, ?_⟩) hH ?_
    rotate_left
    · intro w hSw; (try dsimp only at hSw); first | (go_simp; done) | (go_simp; with_reducible rfl) | (go_simp; decide)
    (try simp only [Act.put, gy0, gy1, gy2])
    refine wpAnyH_take (i := 15) (v := ?_) (by simp only [gx0, gx1, gx2]; rfl) (by kernel_rfl) (by kernel_rfl) (by kernel_rfl) (fun _ _ _ h => h) (.inl ⟨by rfl, ?_⟩) hH ?_
    rotate_left
    · intro w hSw; (try dsimp only at hSw); first | (go_simp; done) | (go_simp; with_reducible rfl) | (go_simp; decide)
    (try simp only [Act.put, gy0, gy1, gy2])
    refine wpAnyH_ready (rs := [13]) (by kernel_rfl) (by simp) ?_
    refine AllReadyH.cons (by simp only [gx0, gx1, gx2]; rfl) (fun K hK => ?_) AllReadyH.nil
    go_simp
    have cc := vmul ga Aa na ca Da ma da gb Ab nb cb Db mb db 4 (za) (zb) w6 (Va_6.out) (Vb_6.out) (by omega)
    refine cc.mono ?_
    rintro e w7 ⟨Ar3, nr3, cr3, Dr3, mr3, dr3, rfl, r, b⟩
    clear cc hH
    have Lr3 := hid r
    clear r
    have Va_7 := hid (Va_6.out.keep b)
    have Ka_7 := hid (Ka_6.out.keep b)
    have Vb_7 := hid (Vb_6.out.keep b)
    have Kb_7 := hid (Kb_6.out.keep b)
    have Vc_7 := hid (Vc_6.out.keep b)
    have Kc_7 := hid (Kc_6.out.keep b)
    have Lr1_7 := hid (Lr1_6.out.keep b)
    have Lr2_7 := hid (Lr2_6.out.keep b)
    have X_7 := hid (bx_call X_6.out b)
    clear b Va_6 Ka_6 Vb_6 Kb_6 Vc_6 Kc_6 Lr1_6 Lr2_6 X_6
    (try go_wp2_with fail)
    refine hK.out _ _ ?_ (fun hH => ?_)
    exact (And.intro (blk_three Ka_7.out) (And.intro (blk_three Kb_7.out) (blk_three Kc_7.out)))
    clear hK K
    (try simp only [Act.put, gy0, gy1, gy2])
    refine wpAnyH_ready (rs := [16]) (by kernel_rfl) (by simp) ?_
    refine AllReadyH.cons (by simp only [gx0, gx1, gx2]; rfl) (fun K hK => ?_) AllReadyH.nil
    go_simp
    have cc := vmul gb Ab nb cb Db mb db ga Aa na ca Da ma da 4 (zb) (za) w7 (Vb_7.out) (Va_7.out) (by omega)
    refine cc.mono ?_
    rintro e w8 ⟨Ar4, nr4, cr4, Dr4, mr4, dr4, rfl, r, b⟩
    clear cc hH
    have Lr4 := hid r
    clear r
    have Va_8 := hid (Va_7.out.keep b)
    have Ka_8 := hid (Ka_7.out.keep b)
    have Vb_8 := hid (Vb_7.out.keep b)
    have Kb_8 := hid (Kb_7.out.keep b)
    have Vc_8 := hid (Vc_7.out.keep b)
    have Kc_8 := hid (Kc_7.out.keep b)
    have Lr1_8 := hid (Lr1_7.out.keep b)
    have Lr2_8 := hid (Lr2_7.out.keep b)
    have Lr3_8 := hid (Lr3.out.keep b)
    have X_8 := hid (bx_call X_7.out b)
    clear b Va_7 Ka_7 Vb_7 Kb_7 Vc_7 Kc_7 Lr1_7 Lr2_7 Lr3 X_7
    (try go_wp2_with fail)
    refine hK.out _ _ ?_ (fun hH => ?_)
    exact (And.intro (blk_three Ka_8.out) (And.intro (blk_three Kb_8.out) (blk_three Kc_8.out)))
    clear hK K
    (try simp only [Act.put, gy0, gy1, gy2])
    refine wpAnyH_ready (rs := [17]) (by kernel_rfl) (by simp) ?_
    refine AllReadyH.cons (by simp only [gx0, gx1, gx2]; rfl) (fun K hK => ?_) AllReadyH.nil
    go_simp
    have cc := vsame (Lr3_8.out) (Lr4.out)
    rw [decide_eq_true (show za * zb = zb * za from by grind)] at cc
    refine cc.mono ?_
    rintro e w9 ⟨rfl, b⟩
    clear cc hH
    have Va_9 := hid (Va_8.out.keep b)
    have Ka_9 := hid (Ka_8.out.keep b)
    have Vb_9 := hid (Vb_8.out.keep b)
    have Kb_9 := hid (Kb_8.out.keep b)
    have Vc_9 := hid (Vc_8.out.keep b)
    have Kc_9 := hid (Kc_8.out.keep b)
    have Lr1_9 := hid (Lr1_8.out.keep b)
    have Lr2_9 := hid (Lr2_8.out.keep b)
    have Lr3_9 := hid (Lr3_8.out.keep b)
    have Lr4_9 := hid (Lr4.out.keep b)
    have X_9 := hid (bx_call X_8.out b)
    clear b Va_8 Ka_8 Vb_8 Kb_8 Vc_8 Kc_8 Lr1_8 Lr2_8 Lr3_8 Lr4 X_8
    (try go_wp2_with fail)
    refine hK.out _ _ ?_ (fun hH => ?_)
    exact (And.intro (blk_three Ka_9.out) (And.intro (blk_three Kb_9.out) (blk_three Kc_9.out)))
    clear hK K
    (try simp only [Act.put, gy0, gy1, gy2])
    refine wpAnyH_take (i := 18) (v := ?_) (by simp only [gx0, gx1, gx2]; rfl) (by kernel_rfl) (by kernel_rfl) (by kernel_rfl) (fun _ _ _ h => h) (.inl ⟨by rfl, ?_⟩) hH ?_
    rotate_left
    · intro w hSw; (try dsimp only at hSw); first | (go_simp; done) | (go_simp; with_reducible rfl) | (go_simp; decide)
    (try simp only [Act.put, gy0, gy1, gy2])
    refine wpAnyH_take (i := 19) (v := ?_) (by simp only [gx0, gx1, gx2]; rfl) (by kernel_rfl) (by kernel_rfl) (by kernel_rfl) (fun _ _ _ h => h) (.inl ⟨by rfl, ?_⟩) hH ?_
    rotate_left
    · intro w hSw; (try dsimp only at hSw); first | (go_simp; done) | (go_simp; with_reducible rfl) | (go_simp; decide)
    (try simp only [Act.put, gy0, gy1, gy2])
    refine wpAnyH_take (i := 20) (v := ?_) (by simp only [gx0, gx1, gx2]; rfl) (by kernel_rfl) (by kernel_rfl) (by kernel_rfl) (fun _ _ _ h => h) (.inl ⟨by rfl, ?_⟩) hH ?_
    rotate_left
    · intro w hSw; (try dsimp only at hSw); first | (go_simp; done) | (go_simp; with_reducible rfl) | (go_simp; decide)
    (try simp only [Act.put, gy0, gy1, gy2])
    refine wpAnyH_take (i := 21) (v := ?_) (by simp only [gx0, gx1, gx2]; rfl) (by kernel_rfl) (by kernel_rfl) (by kernel_rfl) (fun _ _ _ h => h) (.inl ⟨by rfl, ?_⟩) hH ?_
    rotate_left
    · intro w hSw; (try dsimp only at hSw); first | (go_simp; done) | (go_simp; with_reducible rfl) | (go_simp; decide)
    (try simp only [Act.put, gy0, gy1, gy2])
    refine wpAnyH_take (i := 22) (v := ?_) (by simp only [gx0, gx1, gx2]; rfl) (by kernel_rfl) (by kernel_rfl) (by kernel_rfl) (fun _ _ _ h => h) (.inl ⟨by rfl, ?_⟩) hH ?_
    rotate_left
    · intro w hSw; (try dsimp only at hSw); first | (go_simp; done) | (go_simp; with_reducible rfl) | (go_simp; decide)
    (try simp only [Act.put, gy0, gy1, gy2])
    refine wpAnyH_take (i := 23) (v := ?_) (by simp only [gx0, gx1, gx2]; rfl) (by kernel_rfl) (by kernel_rfl) (by kernel_rfl) (fun _ _ _ h => h) (.inl ⟨by rfl, ?_⟩) hH ?_
    rotate_left
    · intro w hSw; (try dsimp only at hSw); first | (go_simp; done) | (go_simp; with_reducible rfl) | (go_simp; decide)
    (try simp only [Act.put, gy0, gy1, gy2])
    refine wpAnyH_take (i := 25) (v := ?_) (by simp only [gx0, gx1, gx2]; rfl) (by kernel_rfl) (by kernel_rfl) (by kernel_rfl) (fun _ _ _ h => h) (.inl ⟨by rfl, ?_⟩) hH ?_
    rotate_left
    · intro w hSw; (try dsimp only at hSw); first | (go_simp; done) | (go_simp; with_reducible rfl) | (go_simp; decide)
    (try simp only [Act.put, gy0, gy1, gy2])
    refine wpAnyH_take (i := 27) (v := ?_) (by simp only [gx0, gx1, gx2]; rfl) (by kernel_rfl) (by kernel_rfl) (by kernel_rfl) (fun _ _ _ h => h) (.inl ⟨by rfl, ?_⟩) hH ?_
    rotate_left
    · intro w hSw; (try dsimp only at hSw); first | (go_simp; done) | (go_simp; with_reducible rfl) | (go_simp; decide)
    (try simp only [Act.put, gy0, gy1, gy2])
    refine wpAnyH_take (i := 28) (v := ?_) (by simp only [gx0, gx1, gx2]; rfl) (by kernel_rfl) (by kernel_rfl) (by kernel_rfl) (fun _ _ _ h => h) (.inl ⟨by rfl, ?_⟩) hH ?_
    rotate_left
    · intro w hSw; (try dsimp only at hSw); first | (go_simp; done) | (go_simp; with_reducible rfl) | (go_simp; decide)
    (try simp only [Act.put, gy0, gy1, gy2])
    refine wpAnyH_take (i := 29) (v := ?_) (by simp only [gx0, gx1, gx2]; rfl) (by kernel_rfl) (by kernel_rfl) (by kernel_rfl) (fun _ _ _ h => h) (.inl ⟨by rfl, ?_⟩) hH ?_
    rotate_left
    · intro w hSw; (try dsimp only at hSw); first | (go_simp; done) | (go_simp; with_reducible rfl) | (go_simp; decide)
    (try simp only [Act.put, gy0, gy1, gy2])
    refine wpAnyH_ready (rs := [24]) (by kernel_rfl) (by simp) ?_
    refine AllReadyH.cons (by simp only [gx0, gx1, gx2]; rfl) (fun K hK => ?_) AllReadyH.nil
    go_simp
    have cc := vadd ga Aa na ca Da ma da gb Ab nb cb Db mb db 4 (za) (zb) w9 (Va_9.out) (Vb_9.out) (by omega)
    refine cc.mono ?_
    rintro e w10 ⟨Ar5, nr5, cr5, Dr5, mr5, dr5, rfl, r, b⟩
    clear cc hH
    have Lr5 := hid r
    clear r
    have Va_10 := hid (Va_9.out.keep b)
    have Ka_10 := hid (Ka_9.out.keep b)
    have Vb_10 := hid (Vb_9.out.keep b)
    have Kb_10 := hid (Kb_9.out.keep b)
    have Vc_10 := hid (Vc_9.out.keep b)
    have Kc_10 := hid (Kc_9.out.keep b)
    have Lr1_10 := hid (Lr1_9.out.keep b)
    have Lr2_10 := hid (Lr2_9.out.keep b)
    have Lr3_10 := hid (Lr3_9.out.keep b)
    have Lr4_10 := hid (Lr4_9.out.keep b)
    have X_10 := hid (bx_call X_9.out b)
    clear b Va_9 Ka_9 Vb_9 Kb_9 Vc_9 Kc_9 Lr1_9 Lr2_9 Lr3_9 Lr4_9 X_9
    (try go_wp2_with fail)
    refine hK.out _ _ ?_ (fun hH => ?_)
    exact (And.intro (blk_three Ka_10.out) (And.intro (blk_three Kb_10.out) (blk_three Kc_10.out)))
    clear hK K
    (try simp only [Act.put, gy0, gy1, gy2])
    refine wpAnyH_ready (rs := [26]) (by kernel_rfl) (by simp) ?_
    refine AllReadyH.cons (by simp only [gx0, gx1, gx2]; rfl) (fun K hK => ?_) AllReadyH.nil
    go_simp
    have cc := vadd (sg (za + zb).num) Ar5 nr5 cr5 Dr5 mr5 dr5 gc Ac nc cc Dc mc dc 9 (za + zb) (zc) w10 ((Lr5.out).v) (FrV.up (Vc_10.out) (by omega)) (by omega)
    refine cc.mono ?_
    rintro e w11 ⟨Ar6, nr6, cr6, Dr6, mr6, dr6, rfl, r, b⟩
    clear cc hH
    have Lr6 := hid r
    clear r
    have Va_11 := hid (Va_10.out.keep b)
    have Ka_11 := hid (Ka_10.out.keep b)
    have Vb_11 := hid (Vb_10.out.keep b)
    have Kb_11 := hid (Kb_10.out.keep b)
    have Vc_11 := hid (Vc_10.out.keep b)
    have Kc_11 := hid (Kc_10.out.keep b)
    have Lr1_11 := hid (Lr1_10.out.keep b)
    have Lr2_11 := hid (Lr2_10.out.keep b)
    have Lr3_11 := hid (Lr3_10.out.keep b)
    have Lr4_11 := hid (Lr4_10.out.keep b)
    have Lr5_11 := hid (Lr5.out.keep b)
    have X_11 := hid (bx_call X_10.out b)
    clear b Va_10 Ka_10 Vb_10 Kb_10 Vc_10 Kc_10 Lr1_10 Lr2_10 Lr3_10 Lr4_10 Lr5 X_10
    (try go_wp2_with fail)
    refine hK.out _ _ ?_ (fun hH => ?_)
    exact (And.intro (blk_three Ka_11.out) (And.intro (blk_three Kb_11.out) (blk_three Kc_11.out)))
    clear hK K
    (try simp only [Act.put, gy0, gy1, gy2])
    refine wpAnyH_ready (rs := [30]) (by kernel_rfl) (by simp) ?_
    refine AllReadyH.cons (by simp only [gx0, gx1, gx2]; rfl) (fun K hK => ?_) AllReadyH.nil
    go_simp
    have cc := vadd gb Ab nb cb Db mb db gc Ac nc cc Dc mc dc 4 (zb) (zc) w11 (Vb_11.out) (Vc_11.out) (by omega)
    refine cc.mono ?_
    rintro e w12 ⟨Ar7, nr7, cr7, Dr7, mr7, dr7, rfl, r, b⟩
    clear cc hH
    have Lr7 := hid r
    clear r
    have Va_12 := hid (Va_11.out.keep b)
    have Ka_12 := hid (Ka_11.out.keep b)
    have Vb_12 := hid (Vb_11.out.keep b)
    have Kb_12 := hid (Kb_11.out.keep b)
    have Vc_12 := hid (Vc_11.out.keep b)
    have Kc_12 := hid (Kc_11.out.keep b)
    have Lr1_12 := hid (Lr1_11.out.keep b)
    have Lr2_12 := hid (Lr2_11.out.keep b)
    have Lr3_12 := hid (Lr3_11.out.keep b)
    have Lr4_12 := hid (Lr4_11.out.keep b)
    have Lr5_12 := hid (Lr5_11.out.keep b)
    have Lr6_12 := hid (Lr6.out.keep b)
    have X_12 := hid (bx_call X_11.out b)
    clear b Va_11 Ka_11 Vb_11 Kb_11 Vc_11 Kc_11 Lr1_11 Lr2_11 Lr3_11 Lr4_11 Lr5_11 Lr6 X_11
    (try go_wp2_with fail)
    refine hK.out _ _ ?_ (fun hH => ?_)
    exact (And.intro (blk_three Ka_12.out) (And.intro (blk_three Kb_12.out) (blk_three Kc_12.out)))
    clear hK K
    (try simp only [Act.put, gy0, gy1, gy2])
    refine wpAnyH_ready (rs := [31]) (by kernel_rfl) (by simp) ?_
    refine AllReadyH.cons (by simp only [gx0, gx1, gx2]; rfl) (fun K hK => ?_) AllReadyH.nil
    go_simp
    have cc := vadd ga Aa na ca Da ma da (sg (zb + zc).num) Ar7 nr7 cr7 Dr7 mr7 dr7 9 (za) (zb + zc) w12 (FrV.up (Va_12.out) (by omega)) ((Lr7.out).v) (by omega)
    refine cc.mono ?_
    rintro e w13 ⟨Ar8, nr8, cr8, Dr8, mr8, dr8, rfl, r, b⟩
    clear cc hH
    have Lr8 := hid r
    clear r
    have Va_13 := hid (Va_12.out.keep b)
    have Ka_13 := hid (Ka_12.out.keep b)
    have Vb_13 := hid (Vb_12.out.keep b)
    have Kb_13 := hid (Kb_12.out.keep b)
    have Vc_13 := hid (Vc_12.out.keep b)
    have Kc_13 := hid (Kc_12.out.keep b)
    have Lr1_13 := hid (Lr1_12.out.keep b)
    have Lr2_13 := hid (Lr2_12.out.keep b)
    have Lr3_13 := hid (Lr3_12.out.keep b)
    have Lr4_13 := hid (Lr4_12.out.keep b)
    have Lr5_13 := hid (Lr5_12.out.keep b)
    have Lr6_13 := hid (Lr6_12.out.keep b)
    have Lr7_13 := hid (Lr7.out.keep b)
    have X_13 := hid (bx_call X_12.out b)
    clear b Va_12 Ka_12 Vb_12 Kb_12 Vc_12 Kc_12 Lr1_12 Lr2_12 Lr3_12 Lr4_12 Lr5_12 Lr6_12 Lr7 X_12
    (try go_wp2_with fail)
    refine hK.out _ _ ?_ (fun hH => ?_)
    exact (And.intro (blk_three Ka_13.out) (And.intro (blk_three Kb_13.out) (blk_three Kc_13.out)))
    clear hK K
    (try simp only [Act.put, gy0, gy1, gy2])
    refine wpAnyH_ready (rs := [32]) (by kernel_rfl) (by simp) ?_
    refine AllReadyH.cons (by simp only [gx0, gx1, gx2]; rfl) (fun K hK => ?_) AllReadyH.nil
    go_simp
    have cc := vsame (Lr6_13.out) (Lr8.out)
    rw [decide_eq_true (show za + zb + zc = za + (zb + zc) from by grind)] at cc
    refine cc.mono ?_
    rintro e w14 ⟨rfl, b⟩
    clear cc hH
    have Va_14 := hid (Va_13.out.keep b)
    have Ka_14 := hid (Ka_13.out.keep b)
    have Vb_14 := hid (Vb_13.out.keep b)
    have Kb_14 := hid (Kb_13.out.keep b)
    have Vc_14 := hid (Vc_13.out.keep b)
    have Kc_14 := hid (Kc_13.out.keep b)
    have Lr1_14 := hid (Lr1_13.out.keep b)
    have Lr2_14 := hid (Lr2_13.out.keep b)
    have Lr3_14 := hid (Lr3_13.out.keep b)
    have Lr4_14 := hid (Lr4_13.out.keep b)
    have Lr5_14 := hid (Lr5_13.out.keep b)
    have Lr6_14 := hid (Lr6_13.out.keep b)
    have Lr7_14 := hid (Lr7_13.out.keep b)
    have Lr8_14 := hid (Lr8.out.keep b)
    have X_14 := hid (bx_call X_13.out b)
    clear b Va_13 Ka_13 Vb_13 Kb_13 Vc_13 Kc_13 Lr1_13 Lr2_13 Lr3_13 Lr4_13 Lr5_13 Lr6_13 Lr7_13 Lr8 X_13
    (try go_wp2_with fail)
    refine hK.out _ _ ?_ (fun hH => ?_)
    exact (And.intro (blk_three Ka_14.out) (And.intro (blk_three Kb_14.out) (blk_three Kc_14.out)))
    clear hK K
    (try simp only [Act.put, gy0, gy1, gy2])
    refine wpAnyH_take (i := 33) (v := ?_) (by simp only [gx0, gx1, gx2]; rfl) (by kernel_rfl) (by kernel_rfl) (by kernel_rfl) (fun _ _ _ h => h) (.inl ⟨by rfl, ?_⟩) hH ?_
    rotate_left
    · intro w hSw; (try dsimp only at hSw); first | (go_simp; done) | (go_simp; with_reducible rfl) | (go_simp; decide)
    (try simp only [Act.put, gy0, gy1, gy2])
    refine wpAnyH_take (i := 34) (v := ?_) (by simp only [gx0, gx1, gx2]; rfl) (by kernel_rfl) (by kernel_rfl) (by kernel_rfl) (fun _ _ _ h => h) (.inl ⟨by rfl, ?_⟩) hH ?_
    rotate_left
    · intro w hSw; (try dsimp only at hSw); first | (go_simp; done) | (go_simp; with_reducible rfl) | (go_simp; decide)
    (try simp only [Act.put, gy0, gy1, gy2])
    refine wpAnyH_take (i := 35) (v := ?_) (by simp only [gx0, gx1, gx2]; rfl) (by kernel_rfl) (by kernel_rfl) (by kernel_rfl) (fun _ _ _ h => h) (.inl ⟨by rfl, ?_⟩) hH ?_
    rotate_left
    · intro w hSw; (try dsimp only at hSw); first | (go_simp; done) | (go_simp; with_reducible rfl) | (go_simp; decide)
    (try simp only [Act.put, gy0, gy1, gy2])
    refine wpAnyH_take (i := 36) (v := ?_) (by simp only [gx0, gx1, gx2]; rfl) (by kernel_rfl) (by kernel_rfl) (by kernel_rfl) (fun _ _ _ h => h) (.inl ⟨by rfl, ?_⟩) hH ?_
    rotate_left
    · intro w hSw; (try dsimp only at hSw); first | (go_simp; done) | (go_simp; with_reducible rfl) | (go_simp; decide)
    (try simp only [Act.put, gy0, gy1, gy2])
    refine wpAnyH_take (i := 37) (v := ?_) (by simp only [gx0, gx1, gx2]; rfl) (by kernel_rfl) (by kernel_rfl) (by kernel_rfl) (fun _ _ _ h => h) (.inl ⟨by rfl, ?_⟩) hH ?_
    rotate_left
    · intro w hSw; (try dsimp only at hSw); first | (go_simp; done) | (go_simp; with_reducible rfl) | (go_simp; decide)
    (try simp only [Act.put, gy0, gy1, gy2])
    refine wpAnyH_take (i := 38) (v := ?_) (by simp only [gx0, gx1, gx2]; rfl) (by kernel_rfl) (by kernel_rfl) (by kernel_rfl) (fun _ _ _ h => h) (.inl ⟨by rfl, ?_⟩) hH ?_
    rotate_left
    · intro w hSw; (try dsimp only at hSw); first | (go_simp; done) | (go_simp; with_reducible rfl) | (go_simp; decide)
    (try simp only [Act.put, gy0, gy1, gy2])
    refine wpAnyH_take (i := 40) (v := ?_) (by simp only [gx0, gx1, gx2]; rfl) (by kernel_rfl) (by kernel_rfl) (by kernel_rfl) (fun _ _ _ h => h) (.inl ⟨by rfl, ?_⟩) hH ?_
    rotate_left
    · intro w hSw; (try dsimp only at hSw); first | (go_simp; done) | (go_simp; with_reducible rfl) | (go_simp; decide)
    (try simp only [Act.put, gy0, gy1, gy2])
    refine wpAnyH_take (i := 42) (v := ?_) (by simp only [gx0, gx1, gx2]; rfl) (by kernel_rfl) (by kernel_rfl) (by kernel_rfl) (fun _ _ _ h => h) (.inl ⟨by rfl, ?_⟩) hH ?_
    rotate_left
    · intro w hSw; (try dsimp only at hSw); first | (go_simp; done) | (go_simp; with_reducible rfl) | (go_simp; decide)
    (try simp only [Act.put, gy0, gy1, gy2])
    refine wpAnyH_take (i := 43) (v := ?_) (by simp only [gx0, gx1, gx2]; rfl) (by kernel_rfl) (by kernel_rfl) (by kernel_rfl) (fun _ _ _ h => h) (.inl ⟨by rfl, ?_⟩) hH ?_
    rotate_left
    · intro w hSw; (try dsimp only at hSw); first | (go_simp; done) | (go_simp; with_reducible rfl) | (go_simp; decide)
    (try simp only [Act.put, gy0, gy1, gy2])
    refine wpAnyH_take (i := 44) (v := ?_) (by simp only [gx0, gx1, gx2]; rfl) (by kernel_rfl) (by kernel_rfl) (by kernel_rfl) (fun _ _ _ h => h) (.inl ⟨by rfl, ?_⟩) hH ?_
    rotate_left
    · intro w hSw; (try dsimp only at hSw); first | (go_simp; done) | (go_simp; with_reducible rfl) | (go_simp; decide)
    (try simp only [Act.put, gy0, gy1, gy2])
    refine wpAnyH_ready (rs := [39]) (by kernel_rfl) (by simp) ?_
    refine AllReadyH.cons (by simp only [gx0, gx1, gx2]; rfl) (fun K hK => ?_) AllReadyH.nil
    go_simp
    have cc := vmul ga Aa na ca Da ma da gb Ab nb cb Db mb db 4 (za) (zb) w14 (Va_14.out) (Vb_14.out) (by omega)
    refine cc.mono ?_
    rintro e w15 ⟨As1, ns1, cs1, Ds1, ms1, ds1, rfl, r, b⟩
    clear cc hH
    have Ls1 := hid r
    clear r
    have Va_15 := hid (Va_14.out.keep b)
    have Ka_15 := hid (Ka_14.out.keep b)
    have Vb_15 := hid (Vb_14.out.keep b)
    have Kb_15 := hid (Kb_14.out.keep b)
    have Vc_15 := hid (Vc_14.out.keep b)
    have Kc_15 := hid (Kc_14.out.keep b)
    have Lr1_15 := hid (Lr1_14.out.keep b)
    have Lr2_15 := hid (Lr2_14.out.keep b)
    have Lr3_15 := hid (Lr3_14.out.keep b)
    have Lr4_15 := hid (Lr4_14.out.keep b)
    have Lr5_15 := hid (Lr5_14.out.keep b)
    have Lr6_15 := hid (Lr6_14.out.keep b)
    have Lr7_15 := hid (Lr7_14.out.keep b)
    have Lr8_15 := hid (Lr8_14.out.keep b)
    have X_15 := hid (bx_call X_14.out b)
    clear b Va_14 Ka_14 Vb_14 Kb_14 Vc_14 Kc_14 Lr1_14 Lr2_14 Lr3_14 Lr4_14 Lr5_14 Lr6_14 Lr7_14 Lr8_14 X_14
    (try go_wp2_with fail)
    refine hK.out _ _ ?_ (fun hH => ?_)
    exact (And.intro (blk_three Ka_15.out) (And.intro (blk_three Kb_15.out) (blk_three Kc_15.out)))
    clear hK K
    (try simp only [Act.put, gy0, gy1, gy2])
    refine wpAnyH_ready (rs := [41]) (by kernel_rfl) (by simp) ?_
    refine AllReadyH.cons (by simp only [gx0, gx1, gx2]; rfl) (fun K hK => ?_) AllReadyH.nil
    go_simp
    have cc := vmul (sg (za * zb).num) As1 ns1 cs1 Ds1 ms1 ds1 gc Ac nc cc Dc mc dc 8 (za * zb) (zc) w15 ((Ls1.out).v) (FrV.up (Vc_15.out) (by omega)) (by omega)
    refine cc.mono ?_
    rintro e w16 ⟨As2, ns2, cs2, Ds2, ms2, ds2, rfl, r, b⟩
    clear cc hH
    have Ls2 := hid r
    clear r
    have Va_16 := hid (Va_15.out.keep b)
    have Ka_16 := hid (Ka_15.out.keep b)
    have Vb_16 := hid (Vb_15.out.keep b)
    have Kb_16 := hid (Kb_15.out.keep b)
    have Vc_16 := hid (Vc_15.out.keep b)
    have Kc_16 := hid (Kc_15.out.keep b)
    have Lr1_16 := hid (Lr1_15.out.keep b)
    have Lr2_16 := hid (Lr2_15.out.keep b)
    have Lr3_16 := hid (Lr3_15.out.keep b)
    have Lr4_16 := hid (Lr4_15.out.keep b)
    have Lr5_16 := hid (Lr5_15.out.keep b)
    have Lr6_16 := hid (Lr6_15.out.keep b)
    have Lr7_16 := hid (Lr7_15.out.keep b)
    have Lr8_16 := hid (Lr8_15.out.keep b)
    have Ls1_16 := hid (Ls1.out.keep b)
    have X_16 := hid (bx_call X_15.out b)
    clear b Va_15 Ka_15 Vb_15 Kb_15 Vc_15 Kc_15 Lr1_15 Lr2_15 Lr3_15 Lr4_15 Lr5_15 Lr6_15 Lr7_15 Lr8_15 Ls1 X_15
    (try go_wp2_with fail)
    refine hK.out _ _ ?_ (fun hH => ?_)
    exact (And.intro (blk_three Ka_16.out) (And.intro (blk_three Kb_16.out) (blk_three Kc_16.out)))
    clear hK K
    (try simp only [Act.put, gy0, gy1, gy2])
    refine wpAnyH_ready (rs := [45]) (by kernel_rfl) (by simp) ?_
    refine AllReadyH.cons (by simp only [gx0, gx1, gx2]; rfl) (fun K hK => ?_) AllReadyH.nil
    go_simp
    have cc := vmul gb Ab nb cb Db mb db gc Ac nc cc Dc mc dc 4 (zb) (zc) w16 (Vb_16.out) (Vc_16.out) (by omega)
    refine cc.mono ?_
    rintro e w17 ⟨As3, ns3, cs3, Ds3, ms3, ds3, rfl, r, b⟩
    clear cc hH
    have Ls3 := hid r
    clear r
    have Va_17 := hid (Va_16.out.keep b)
    have Ka_17 := hid (Ka_16.out.keep b)
    have Vb_17 := hid (Vb_16.out.keep b)
    have Kb_17 := hid (Kb_16.out.keep b)
    have Vc_17 := hid (Vc_16.out.keep b)
    have Kc_17 := hid (Kc_16.out.keep b)
    have Lr1_17 := hid (Lr1_16.out.keep b)
    have Lr2_17 := hid (Lr2_16.out.keep b)
    have Lr3_17 := hid (Lr3_16.out.keep b)
    have Lr4_17 := hid (Lr4_16.out.keep b)
    have Lr5_17 := hid (Lr5_16.out.keep b)
    have Lr6_17 := hid (Lr6_16.out.keep b)
    have Lr7_17 := hid (Lr7_16.out.keep b)
    have Lr8_17 := hid (Lr8_16.out.keep b)
    have Ls1_17 := hid (Ls1_16.out.keep b)
    have Ls2_17 := hid (Ls2.out.keep b)
    have X_17 := hid (bx_call X_16.out b)
    clear b Va_16 Ka_16 Vb_16 Kb_16 Vc_16 Kc_16 Lr1_16 Lr2_16 Lr3_16 Lr4_16 Lr5_16 Lr6_16 Lr7_16 Lr8_16 Ls1_16 Ls2 X_16
    (try go_wp2_with fail)
    refine hK.out _ _ ?_ (fun hH => ?_)
    exact (And.intro (blk_three Ka_17.out) (And.intro (blk_three Kb_17.out) (blk_three Kc_17.out)))
    clear hK K
    (try simp only [Act.put, gy0, gy1, gy2])
    refine wpAnyH_ready (rs := [46]) (by kernel_rfl) (by simp) ?_
    refine AllReadyH.cons (by simp only [gx0, gx1, gx2]; rfl) (fun K hK => ?_) AllReadyH.nil
    go_simp
    have cc := vmul ga Aa na ca Da ma da (sg (zb * zc).num) As3 ns3 cs3 Ds3 ms3 ds3 8 (za) (zb * zc) w17 (FrV.up (Va_17.out) (by omega)) ((Ls3.out).v) (by omega)
    refine cc.mono ?_
    rintro e w18 ⟨As4, ns4, cs4, Ds4, ms4, ds4, rfl, r, b⟩
    clear cc hH
    have Ls4 := hid r
    clear r
    have Va_18 := hid (Va_17.out.keep b)
    have Ka_18 := hid (Ka_17.out.keep b)
    have Vb_18 := hid (Vb_17.out.keep b)
    have Kb_18 := hid (Kb_17.out.keep b)
    have Vc_18 := hid (Vc_17.out.keep b)
    have Kc_18 := hid (Kc_17.out.keep b)
    have Lr1_18 := hid (Lr1_17.out.keep b)
    have Lr2_18 := hid (Lr2_17.out.keep b)
    have Lr3_18 := hid (Lr3_17.out.keep b)
    have Lr4_18 := hid (Lr4_17.out.keep b)
    have Lr5_18 := hid (Lr5_17.out.keep b)
    have Lr6_18 := hid (Lr6_17.out.keep b)
    have Lr7_18 := hid (Lr7_17.out.keep b)
    have Lr8_18 := hid (Lr8_17.out.keep b)
    have Ls1_18 := hid (Ls1_17.out.keep b)
    have Ls2_18 := hid (Ls2_17.out.keep b)
    have Ls3_18 := hid (Ls3.out.keep b)
    have X_18 := hid (bx_call X_17.out b)
    clear b Va_17 Ka_17 Vb_17 Kb_17 Vc_17 Kc_17 Lr1_17 Lr2_17 Lr3_17 Lr4_17 Lr5_17 Lr6_17 Lr7_17 Lr8_17 Ls1_17 Ls2_17 Ls3 X_17
    (try go_wp2_with fail)
    refine hK.out _ _ ?_ (fun hH => ?_)
    exact (And.intro (blk_three Ka_18.out) (And.intro (blk_three Kb_18.out) (blk_three Kc_18.out)))
    clear hK K
    (try simp only [Act.put, gy0, gy1, gy2])
    refine wpAnyH_ready (rs := [47]) (by kernel_rfl) (by simp) ?_
    refine AllReadyH.cons (by simp only [gx0, gx1, gx2]; rfl) (fun K hK => ?_) AllReadyH.nil
    go_simp
    have cc := vsame (Ls2_18.out) (Ls4.out)
    rw [decide_eq_true (show (za * zb) * zc = za * (zb * zc) from by grind)] at cc
    refine cc.mono ?_
    rintro e w19 ⟨rfl, b⟩
    clear cc hH
    have Va_19 := hid (Va_18.out.keep b)
    have Ka_19 := hid (Ka_18.out.keep b)
    have Vb_19 := hid (Vb_18.out.keep b)
    have Kb_19 := hid (Kb_18.out.keep b)
    have Vc_19 := hid (Vc_18.out.keep b)
    have Kc_19 := hid (Kc_18.out.keep b)
    have Lr1_19 := hid (Lr1_18.out.keep b)
    have Lr2_19 := hid (Lr2_18.out.keep b)
    have Lr3_19 := hid (Lr3_18.out.keep b)
    have Lr4_19 := hid (Lr4_18.out.keep b)
    have Lr5_19 := hid (Lr5_18.out.keep b)
    have Lr6_19 := hid (Lr6_18.out.keep b)
    have Lr7_19 := hid (Lr7_18.out.keep b)
    have Lr8_19 := hid (Lr8_18.out.keep b)
    have Ls1_19 := hid (Ls1_18.out.keep b)
    have Ls2_19 := hid (Ls2_18.out.keep b)
    have Ls3_19 := hid (Ls3_18.out.keep b)
    have Ls4_19 := hid (Ls4.out.keep b)
    have X_19 := hid (bx_call X_18.out b)
    clear b Va_18 Ka_18 Vb_18 Kb_18 Vc_18 Kc_18 Lr1_18 Lr2_18 Lr3_18 Lr4_18 Lr5_18 Lr6_18 Lr7_18 Lr8_18 Ls1_18 Ls2_18 Ls3_18 Ls4 X_18
    (try go_wp2_with fail)
    refine hK.out _ _ ?_ (fun hH => ?_)
    exact (And.intro (blk_three Ka_19.out) (And.intro (blk_three Kb_19.out) (blk_three Kc_19.out)))
    clear hK K
    (try simp only [Act.put, gy0, gy1, gy2])
    refine wpAnyH_take (i := 48) (v := ?_) (by simp only [gx0, gx1, gx2]; rfl) (by kernel_rfl) (by kernel_rfl) (by kernel_rfl) (fun _ _ _ h => h) (.inl ⟨by rfl, ?_⟩) hH ?_
    rotate_left
    · intro w hSw; (try dsimp only at hSw); first | (go_simp; done) | (go_simp; with_reducible rfl) | (go_simp; decide)
    (try simp only [Act.put, gy0, gy1, gy2])
    refine wpAnyH_take (i := 49) (v := ?_) (by simp only [gx0, gx1, gx2]; rfl) (by kernel_rfl) (by kernel_rfl) (by kernel_rfl) (fun _ _ _ h => h) (.inl ⟨by rfl, ?_⟩) hH ?_
    rotate_left
    · intro w hSw; (try dsimp only at hSw); first | (go_simp; done) | (go_simp; with_reducible rfl) | (go_simp; decide)
    (try simp only [Act.put, gy0, gy1, gy2])
    refine wpAnyH_take (i := 50) (v := ?_) (by simp only [gx0, gx1, gx2]; rfl) (by kernel_rfl) (by kernel_rfl) (by kernel_rfl) (fun _ _ _ h => h) (.inl ⟨by rfl, ?_⟩) hH ?_
    rotate_left
    · intro w hSw; (try dsimp only at hSw); first | (go_simp; done) | (go_simp; with_reducible rfl) | (go_simp; decide)
    (try simp only [Act.put, gy0, gy1, gy2])
    refine wpAnyH_take (i := 51) (v := ?_) (by simp only [gx0, gx1, gx2]; rfl) (by kernel_rfl) (by kernel_rfl) (by kernel_rfl) (fun _ _ _ h => h) (.inl ⟨by rfl, ?_⟩) hH ?_
    rotate_left
    · intro w hSw; (try dsimp only at hSw); first | (go_simp; done) | (go_simp; with_reducible rfl) | (go_simp; decide)
    (try simp only [Act.put, gy0, gy1, gy2])
    refine wpAnyH_take (i := 52) (v := ?_) (by simp only [gx0, gx1, gx2]; rfl) (by kernel_rfl) (by kernel_rfl) (by kernel_rfl) (fun _ _ _ h => h) (.inl ⟨by rfl, ?_⟩) hH ?_
    rotate_left
    · intro w hSw; (try dsimp only at hSw); first | (go_simp; done) | (go_simp; with_reducible rfl) | (go_simp; decide)
    (try simp only [Act.put, gy0, gy1, gy2])
    refine wpAnyH_take (i := 53) (v := ?_) (by simp only [gx0, gx1, gx2]; rfl) (by kernel_rfl) (by kernel_rfl) (by kernel_rfl) (fun _ _ _ h => h) (.inl ⟨by rfl, ?_⟩) hH ?_
    rotate_left
    · intro w hSw; (try dsimp only at hSw); first | (go_simp; done) | (go_simp; with_reducible rfl) | (go_simp; decide)
    (try simp only [Act.put, gy0, gy1, gy2])
    refine wpAnyH_take (i := 54) (v := ?_) (by simp only [gx0, gx1, gx2]; rfl) (by kernel_rfl) (by kernel_rfl) (by kernel_rfl) (fun _ _ _ h => h) (.inl ⟨by rfl, ?_⟩) hH ?_
    rotate_left
    · intro w hSw; (try dsimp only at hSw); first | (go_simp; done) | (go_simp; with_reducible rfl) | (go_simp; decide)
    (try simp only [Act.put, gy0, gy1, gy2])
    refine wpAnyH_take (i := 57) (v := ?_) (by simp only [gx0, gx1, gx2]; rfl) (by kernel_rfl) (by kernel_rfl) (by kernel_rfl) (fun _ _ _ h => h) (.inl ⟨by rfl, ?_⟩) hH ?_
    rotate_left
    · intro w hSw; (try dsimp only at hSw); first | (go_simp; done) | (go_simp; with_reducible rfl) | (go_simp; decide)
    (try simp only [Act.put, gy0, gy1, gy2])
    refine wpAnyH_take (i := 58) (v := ?_) (by simp only [gx0, gx1, gx2]; rfl) (by kernel_rfl) (by kernel_rfl) (by kernel_rfl) (fun _ _ _ h => h) (.inl ⟨by rfl, ?_⟩) hH ?_
    rotate_left
    · intro w hSw; (try dsimp only at hSw); first | (go_simp; done) | (go_simp; with_reducible rfl) | (go_simp; decide)
    (try simp only [Act.put, gy0, gy1, gy2])
    refine wpAnyH_take (i := 60) (v := ?_) (by simp only [gx0, gx1, gx2]; rfl) (by kernel_rfl) (by kernel_rfl) (by kernel_rfl) (fun _ _ _ h => h) (.inl ⟨by rfl, ?_⟩) hH ?_
    rotate_left
    · intro w hSw; (try dsimp only at hSw); first | (go_simp; done) | (go_simp; with_reducible rfl) | (go_simp; decide)
    (try simp only [Act.put, gy0, gy1, gy2])
    refine wpAnyH_take (i := 61) (v := ?_) (by simp only [gx0, gx1, gx2]; rfl) (by kernel_rfl) (by kernel_rfl) (by kernel_rfl) (fun _ _ _ h => h) (.inl ⟨by rfl, ?_⟩) hH ?_
    rotate_left
    · intro w hSw; (try dsimp only at hSw); first | (go_simp; done) | (go_simp; with_reducible rfl) | (go_simp; decide)
    (try simp only [Act.put, gy0, gy1, gy2])
    refine wpAnyH_ready (rs := [55]) (by kernel_rfl) (by simp) ?_
    refine AllReadyH.cons (by simp only [gx0, gx1, gx2]; rfl) (fun K hK => ?_) AllReadyH.nil
    go_simp
    have cc := vadd gb Ab nb cb Db mb db gc Ac nc cc Dc mc dc 4 (zb) (zc) w19 (Vb_19.out) (Vc_19.out) (by omega)
    refine cc.mono ?_
    rintro e w20 ⟨As5, ns5, cs5, Ds5, ms5, ds5, rfl, r, b⟩
    clear cc hH
    have Ls5 := hid r
    clear r
    have Va_20 := hid (Va_19.out.keep b)
    have Ka_20 := hid (Ka_19.out.keep b)
    have Vb_20 := hid (Vb_19.out.keep b)
    have Kb_20 := hid (Kb_19.out.keep b)
    have Vc_20 := hid (Vc_19.out.keep b)
    have Kc_20 := hid (Kc_19.out.keep b)
    have Lr1_20 := hid (Lr1_19.out.keep b)
    have Lr2_20 := hid (Lr2_19.out.keep b)
    have Lr3_20 := hid (Lr3_19.out.keep b)
    have Lr4_20 := hid (Lr4_19.out.keep b)
    have Lr5_20 := hid (Lr5_19.out.keep b)
    have Lr6_20 := hid (Lr6_19.out.keep b)
    have Lr7_20 := hid (Lr7_19.out.keep b)
    have Lr8_20 := hid (Lr8_19.out.keep b)
    have Ls1_20 := hid (Ls1_19.out.keep b)
    have Ls2_20 := hid (Ls2_19.out.keep b)
    have Ls3_20 := hid (Ls3_19.out.keep b)
    have Ls4_20 := hid (Ls4_19.out.keep b)
    have X_20 := hid (bx_call X_19.out b)
    clear b Va_19 Ka_19 Vb_19 Kb_19 Vc_19 Kc_19 Lr1_19 Lr2_19 Lr3_19 Lr4_19 Lr5_19 Lr6_19 Lr7_19 Lr8_19 Ls1_19 Ls2_19 Ls3_19 Ls4_19 X_19
    (try go_wp2_with fail)
    refine hK.out _ _ ?_ (fun hH => ?_)
    exact (And.intro (blk_three Ka_20.out) (And.intro (blk_three Kb_20.out) (blk_three Kc_20.out)))
    clear hK K
    (try simp only [Act.put, gy0, gy1, gy2])
    refine wpAnyH_ready (rs := [56]) (by kernel_rfl) (by simp) ?_
    refine AllReadyH.cons (by simp only [gx0, gx1, gx2]; rfl) (fun K hK => ?_) AllReadyH.nil
    go_simp
    have cc := vmul ga Aa na ca Da ma da (sg (zb + zc).num) As5 ns5 cs5 Ds5 ms5 ds5 9 (za) (zb + zc) w20 (FrV.up (Va_20.out) (by omega)) ((Ls5.out).v) (by omega)
    refine cc.mono ?_
    rintro e w21 ⟨As6, ns6, cs6, Ds6, ms6, ds6, rfl, r, b⟩
    clear cc hH
    have Ls6 := hid r
    clear r
    have Va_21 := hid (Va_20.out.keep b)
    have Ka_21 := hid (Ka_20.out.keep b)
    have Vb_21 := hid (Vb_20.out.keep b)
    have Kb_21 := hid (Kb_20.out.keep b)
    have Vc_21 := hid (Vc_20.out.keep b)
    have Kc_21 := hid (Kc_20.out.keep b)
    have Lr1_21 := hid (Lr1_20.out.keep b)
    have Lr2_21 := hid (Lr2_20.out.keep b)
    have Lr3_21 := hid (Lr3_20.out.keep b)
    have Lr4_21 := hid (Lr4_20.out.keep b)
    have Lr5_21 := hid (Lr5_20.out.keep b)
    have Lr6_21 := hid (Lr6_20.out.keep b)
    have Lr7_21 := hid (Lr7_20.out.keep b)
    have Lr8_21 := hid (Lr8_20.out.keep b)
    have Ls1_21 := hid (Ls1_20.out.keep b)
    have Ls2_21 := hid (Ls2_20.out.keep b)
    have Ls3_21 := hid (Ls3_20.out.keep b)
    have Ls4_21 := hid (Ls4_20.out.keep b)
    have Ls5_21 := hid (Ls5.out.keep b)
    have X_21 := hid (bx_call X_20.out b)
    clear b Va_20 Ka_20 Vb_20 Kb_20 Vc_20 Kc_20 Lr1_20 Lr2_20 Lr3_20 Lr4_20 Lr5_20 Lr6_20 Lr7_20 Lr8_20 Ls1_20 Ls2_20 Ls3_20 Ls4_20 Ls5 X_20
    (try go_wp2_with fail)
    refine hK.out _ _ ?_ (fun hH => ?_)
    exact (And.intro (blk_three Ka_21.out) (And.intro (blk_three Kb_21.out) (blk_three Kc_21.out)))
    clear hK K
    (try simp only [Act.put, gy0, gy1, gy2])
    refine wpAnyH_ready (rs := [59]) (by kernel_rfl) (by simp) ?_
    refine AllReadyH.cons (by simp only [gx0, gx1, gx2]; rfl) (fun K hK => ?_) AllReadyH.nil
    go_simp
    have cc := vmul ga Aa na ca Da ma da gb Ab nb cb Db mb db 4 (za) (zb) w21 (Va_21.out) (Vb_21.out) (by omega)
    refine cc.mono ?_
    rintro e w22 ⟨As7, ns7, cs7, Ds7, ms7, ds7, rfl, r, b⟩
    clear cc hH
    have Ls7 := hid r
    clear r
    have Va_22 := hid (Va_21.out.keep b)
    have Ka_22 := hid (Ka_21.out.keep b)
    have Vb_22 := hid (Vb_21.out.keep b)
    have Kb_22 := hid (Kb_21.out.keep b)
    have Vc_22 := hid (Vc_21.out.keep b)
    have Kc_22 := hid (Kc_21.out.keep b)
    have Lr1_22 := hid (Lr1_21.out.keep b)
    have Lr2_22 := hid (Lr2_21.out.keep b)
    have Lr3_22 := hid (Lr3_21.out.keep b)
    have Lr4_22 := hid (Lr4_21.out.keep b)
    have Lr5_22 := hid (Lr5_21.out.keep b)
    have Lr6_22 := hid (Lr6_21.out.keep b)
    have Lr7_22 := hid (Lr7_21.out.keep b)
    have Lr8_22 := hid (Lr8_21.out.keep b)
    have Ls1_22 := hid (Ls1_21.out.keep b)
    have Ls2_22 := hid (Ls2_21.out.keep b)
    have Ls3_22 := hid (Ls3_21.out.keep b)
    have Ls4_22 := hid (Ls4_21.out.keep b)
    have Ls5_22 := hid (Ls5_21.out.keep b)
    have Ls6_22 := hid (Ls6.out.keep b)
    have X_22 := hid (bx_call X_21.out b)
    clear b Va_21 Ka_21 Vb_21 Kb_21 Vc_21 Kc_21 Lr1_21 Lr2_21 Lr3_21 Lr4_21 Lr5_21 Lr6_21 Lr7_21 Lr8_21 Ls1_21 Ls2_21 Ls3_21 Ls4_21 Ls5_21 Ls6 X_21
    (try go_wp2_with fail)
    refine hK.out _ _ ?_ (fun hH => ?_)
    exact (And.intro (blk_three Ka_22.out) (And.intro (blk_three Kb_22.out) (blk_three Kc_22.out)))
    clear hK K
    (try simp only [Act.put, gy0, gy1, gy2])
    refine wpAnyH_ready (rs := [62]) (by kernel_rfl) (by simp) ?_
    refine AllReadyH.cons (by simp only [gx0, gx1, gx2]; rfl) (fun K hK => ?_) AllReadyH.nil
    go_simp
    have cc := vmul ga Aa na ca Da ma da gc Ac nc cc Dc mc dc 4 (za) (zc) w22 (Va_22.out) (Vc_22.out) (by omega)
    refine cc.mono ?_
    rintro e w23 ⟨As8, ns8, cs8, Ds8, ms8, ds8, rfl, r, b⟩
    clear cc hH
    have Ls8 := hid r
    clear r
    have Va_23 := hid (Va_22.out.keep b)
    have Ka_23 := hid (Ka_22.out.keep b)
    have Vb_23 := hid (Vb_22.out.keep b)
    have Kb_23 := hid (Kb_22.out.keep b)
    have Vc_23 := hid (Vc_22.out.keep b)
    have Kc_23 := hid (Kc_22.out.keep b)
    have Lr1_23 := hid (Lr1_22.out.keep b)
    have Lr2_23 := hid (Lr2_22.out.keep b)
    have Lr3_23 := hid (Lr3_22.out.keep b)
    have Lr4_23 := hid (Lr4_22.out.keep b)
    have Lr5_23 := hid (Lr5_22.out.keep b)
    have Lr6_23 := hid (Lr6_22.out.keep b)
    have Lr7_23 := hid (Lr7_22.out.keep b)
    have Lr8_23 := hid (Lr8_22.out.keep b)
    have Ls1_23 := hid (Ls1_22.out.keep b)
    have Ls2_23 := hid (Ls2_22.out.keep b)
    have Ls3_23 := hid (Ls3_22.out.keep b)
    have Ls4_23 := hid (Ls4_22.out.keep b)
    have Ls5_23 := hid (Ls5_22.out.keep b)
    have Ls6_23 := hid (Ls6_22.out.keep b)
    have Ls7_23 := hid (Ls7.out.keep b)
    have X_23 := hid (bx_call X_22.out b)
    clear b Va_22 Ka_22 Vb_22 Kb_22 Vc_22 Kc_22 Lr1_22 Lr2_22 Lr3_22 Lr4_22 Lr5_22 Lr6_22 Lr7_22 Lr8_22 Ls1_22 Ls2_22 Ls3_22 Ls4_22 Ls5_22 Ls6_22 Ls7 X_22
    (try go_wp2_with fail)
    refine hK.out _ _ ?_ (fun hH => ?_)
    exact (And.intro (blk_three Ka_23.out) (And.intro (blk_three Kb_23.out) (blk_three Kc_23.out)))
    clear hK K
    (try simp only [Act.put, gy0, gy1, gy2])
    refine wpAnyH_ready (rs := [63]) (by kernel_rfl) (by simp) ?_
    refine AllReadyH.cons (by simp only [gx0, gx1, gx2]; rfl) (fun K hK => ?_) AllReadyH.nil
    go_simp
    have cc := vadd (sg (za * zb).num) As7 ns7 cs7 Ds7 ms7 ds7 (sg (za * zc).num) As8 ns8 cs8 Ds8 ms8 ds8 8 (za * zb) (za * zc) w23 ((Ls7_23.out).v) ((Ls8.out).v) (by omega)
    refine cc.mono ?_
    rintro e w24 ⟨As9, ns9, cs9, Ds9, ms9, ds9, rfl, r, b⟩
    clear cc hH
    have Ls9 := hid r
    clear r
    have Va_24 := hid (Va_23.out.keep b)
    have Ka_24 := hid (Ka_23.out.keep b)
    have Vb_24 := hid (Vb_23.out.keep b)
    have Kb_24 := hid (Kb_23.out.keep b)
    have Vc_24 := hid (Vc_23.out.keep b)
    have Kc_24 := hid (Kc_23.out.keep b)
    have Lr1_24 := hid (Lr1_23.out.keep b)
    have Lr2_24 := hid (Lr2_23.out.keep b)
    have Lr3_24 := hid (Lr3_23.out.keep b)
    have Lr4_24 := hid (Lr4_23.out.keep b)
    have Lr5_24 := hid (Lr5_23.out.keep b)
    have Lr6_24 := hid (Lr6_23.out.keep b)
    have Lr7_24 := hid (Lr7_23.out.keep b)
    have Lr8_24 := hid (Lr8_23.out.keep b)
    have Ls1_24 := hid (Ls1_23.out.keep b)
    have Ls2_24 := hid (Ls2_23.out.keep b)
    have Ls3_24 := hid (Ls3_23.out.keep b)
    have Ls4_24 := hid (Ls4_23.out.keep b)
    have Ls5_24 := hid (Ls5_23.out.keep b)
    have Ls6_24 := hid (Ls6_23.out.keep b)
    have Ls7_24 := hid (Ls7_23.out.keep b)
    have Ls8_24 := hid (Ls8.out.keep b)
    have X_24 := hid (bx_call X_23.out b)
    clear b Va_23 Ka_23 Vb_23 Kb_23 Vc_23 Kc_23 Lr1_23 Lr2_23 Lr3_23 Lr4_23 Lr5_23 Lr6_23 Lr7_23 Lr8_23 Ls1_23 Ls2_23 Ls3_23 Ls4_23 Ls5_23 Ls6_23 Ls7_23 Ls8 X_23
    (try go_wp2_with fail)
    refine hK.out _ _ ?_ (fun hH => ?_)
    exact (And.intro (blk_three Ka_24.out) (And.intro (blk_three Kb_24.out) (blk_three Kc_24.out)))
    clear hK K
    (try simp only [Act.put, gy0, gy1, gy2])
    refine wpAnyH_ready (rs := [64]) (by kernel_rfl) (by simp) ?_
    refine AllReadyH.cons (by simp only [gx0, gx1, gx2]; rfl) (fun K hK => ?_) AllReadyH.nil
    go_simp
    have cc := vsame (Ls6_24.out) (Ls9.out)
    rw [decide_eq_true (show za * (zb + zc) = za * zb + (za * zc) from by grind)] at cc
    refine cc.mono ?_
    rintro e w25 ⟨rfl, b⟩
    clear cc hH
    have Va_25 := hid (Va_24.out.keep b)
    have Ka_25 := hid (Ka_24.out.keep b)
    have Vb_25 := hid (Vb_24.out.keep b)
    have Kb_25 := hid (Kb_24.out.keep b)
    have Vc_25 := hid (Vc_24.out.keep b)
    have Kc_25 := hid (Kc_24.out.keep b)
    have Lr1_25 := hid (Lr1_24.out.keep b)
    have Lr2_25 := hid (Lr2_24.out.keep b)
    have Lr3_25 := hid (Lr3_24.out.keep b)
    have Lr4_25 := hid (Lr4_24.out.keep b)
    have Lr5_25 := hid (Lr5_24.out.keep b)
    have Lr6_25 := hid (Lr6_24.out.keep b)
    have Lr7_25 := hid (Lr7_24.out.keep b)
    have Lr8_25 := hid (Lr8_24.out.keep b)
    have Ls1_25 := hid (Ls1_24.out.keep b)
    have Ls2_25 := hid (Ls2_24.out.keep b)
    have Ls3_25 := hid (Ls3_24.out.keep b)
    have Ls4_25 := hid (Ls4_24.out.keep b)
    have Ls5_25 := hid (Ls5_24.out.keep b)
    have Ls6_25 := hid (Ls6_24.out.keep b)
    have Ls7_25 := hid (Ls7_24.out.keep b)
    have Ls8_25 := hid (Ls8_24.out.keep b)
    have Ls9_25 := hid (Ls9.out.keep b)
    have X_25 := hid (bx_call X_24.out b)
    clear b Va_24 Ka_24 Vb_24 Kb_24 Vc_24 Kc_24 Lr1_24 Lr2_24 Lr3_24 Lr4_24 Lr5_24 Lr6_24 Lr7_24 Lr8_24 Ls1_24 Ls2_24 Ls3_24 Ls4_24 Ls5_24 Ls6_24 Ls7_24 Ls8_24 Ls9 X_24
    (try go_wp2_with fail)
    refine hK.out _ _ ?_ (fun hH => ?_)
    exact (And.intro (blk_three Ka_25.out) (And.intro (blk_three Kb_25.out) (blk_three Kc_25.out)))
    clear hK K
    (try simp only [Act.put, gy0, gy1, gy2])
    refine wpAnyH_take (i := 65) (v := ?_) (by simp only [gx0, gx1, gx2]; rfl) (by kernel_rfl) (by kernel_rfl) (by kernel_rfl) (fun _ _ _ h => h) (.inl ⟨by rfl, ?_⟩) hH ?_
    rotate_left
    · intro w hSw; (try dsimp only at hSw); first | (go_simp; done) | (go_simp; with_reducible rfl) | (go_simp; decide)
    (try simp only [Act.put, gy0, gy1, gy2])
    refine wpAnyH_take (i := 66) (v := ?_) (by simp only [gx0, gx1, gx2]; rfl) (by kernel_rfl) (by kernel_rfl) (by kernel_rfl) (fun _ _ _ h => h) (.inl ⟨by rfl, ?_⟩) hH ?_
    rotate_left
    · intro w hSw; (try dsimp only at hSw); first | (go_simp; done) | (go_simp; with_reducible rfl) | (go_simp; decide)
    (try simp only [Act.put, gy0, gy1, gy2])
    refine wpAnyH_done (by kernel_rfl) ?_ _
    refine NoPanic.normal ?_
    clear hH
    clear Lr1_25
    clear Lr2_25
    clear Lr3_25
    clear Lr4_25
    clear Lr5_25
    clear Lr6_25
    clear Lr7_25
    clear Lr8_25
    clear Ls1_25
    clear Ls2_25
    clear Ls3_25
    clear Ls4_25
    clear Ls5_25
    clear Ls6_25
    clear Ls7_25
    clear Ls8_25
    clear Ls9_25
    have Lz := hid (frl_zero w25 (k := 4) (by omega))
    obtain ⟨ka0, ka1, ka2⟩ := blk_three Ka_25.out
    obtain ⟨kb0, kb1, kb2⟩ := blk_three Kb_25.out
    obtain ⟨kc0, kc1, kc2⟩ := blk_three Kc_25.out
    have cc := vadd ga Aa na ca Da ma da false none 0 0 none 0 0 4 za 0 w25 (Va_25.out) ((Lz.out).v) (by omega)
    have CC := hid cc
    clear cc
    go_wp2_with fail
    refine (CC.out).mono ?_
    rintro e w26 ⟨Apl, npl, cpl, Dpl, mpl, dpl, rfl, r, b0⟩
    have jp1 := r.1.2.1
    have jp2 := r.1.2.2.1
    have jp3 := r.2.2.1.2.1
    have jp4 := r.2.2.1.2.2.1
    have o := bx_alloc (bx_refl w26) (.cells #[.bool (sg (za + 0).num), .slice Apl npl cpl, .slice Dpl mpl dpl] 50)
    have b := bx_call b0 o
    have Lpl := hid (r.keep o)
    have Kpl := hid (Blk.new w26 [.bool (sg (za + 0).num), .slice Apl npl cpl, .slice Dpl mpl dpl] 50)
    clear r b0 o
    have Va_26 := hid (Va_25.out.keep b)
    have Ka_26 := hid (Ka_25.out.keep b)
    have Vb_26 := hid (Vb_25.out.keep b)
    have Kb_26 := hid (Kb_25.out.keep b)
    have Vc_26 := hid (Vc_25.out.keep b)
    have Kc_26 := hid (Kc_25.out.keep b)
    have X_26 := hid (bx_call X_25.out b)
    clear CC b ka0 ka1 ka2 kb0 kb1 kb2 kc0 kc1 kc2 Va_25 Ka_25 Vb_25 Kb_25 Vc_25 Kc_25 Lz X_25
    obtain ⟨v, hv⟩ : ∃ W, W = w26.alloc (.cells #[.bool (sg (za + 0).num), .slice Apl npl cpl, .slice Dpl mpl dpl] 50) := ⟨_, rfl⟩
    obtain ⟨bp, hbp⟩ : ∃ i, i = w26.heap.size := ⟨_, rfl⟩
    rw [← hv] at Va_26 Ka_26 Vb_26 Kb_26 Vc_26 Kc_26 Lpl Kpl X_26
    rw [← hbp] at Kpl
    go_upto_region 7 with fail
    rw [← hv, ← hbp]
    clear hv hbp
    (try simp only [List.append_eq, List.cons_append, List.nil_append])
    refine wp_region_noPanic ?_
    refine wp_region_held_drew (S := (fun W => (W.cell? ⟨w.heap.size, 0, none⟩ = some (.bool ga) ∧ W.cell? ⟨w.heap.size, 1, none⟩ = some (.slice Aa na ca) ∧ W.cell? ⟨w.heap.size, 2, none⟩ = some (.slice Da ma da)) ∧ (W.cell? ⟨w.heap.size + 1, 0, none⟩ = some (.bool gb) ∧ W.cell? ⟨w.heap.size + 1, 1, none⟩ = some (.slice Ab nb cb) ∧ W.cell? ⟨w.heap.size + 1, 2, none⟩ = some (.slice Db mb db)) ∧ (W.cell? ⟨w.heap.size + 1 + 1, 0, none⟩ = some (.bool gc) ∧ W.cell? ⟨w.heap.size + 1 + 1, 1, none⟩ = some (.slice Ac nc cc) ∧ W.cell? ⟨w.heap.size + 1 + 1, 2, none⟩ = some (.slice Dc mc dc)) ∧ (W.cell? ⟨bp, 0, none⟩ = some (.bool (sg (za + 0).num)) ∧ W.cell? ⟨bp, 1, none⟩ = some (.slice Apl npl cpl) ∧ W.cell? ⟨bp, 2, none⟩ = some (.slice Dpl mpl dpl)))) (by kernel_rfl) ?_ (fun hH => ?_)
    exact (And.intro (blk_three Ka_26.out) (And.intro (blk_three Kb_26.out) (And.intro (blk_three Kc_26.out) (blk_three Kpl.out))))
    have bd := bx_drew (bx_refl v)
    obtain ⟨w27, hW0⟩ : ∃ W, W = v.drew := ⟨_, rfl⟩
    rw [← hW0] at bd hH ⊢
    clear hW0
    have Va_27 := hid (Va_26.out.keep bd)
    have Ka_27 := hid (Ka_26.out.keep bd)
    have Vb_27 := hid (Vb_26.out.keep bd)
    have Kb_27 := hid (Kb_26.out.keep bd)
    have Vc_27 := hid (Vc_26.out.keep bd)
    have Kc_27 := hid (Kc_26.out.keep bd)
    have Lpl_27 := hid (Lpl.out.keep bd)
    have Kpl_27 := hid (Kpl.out.keep bd)
    have X_27 := hid (bx_call X_26.out bd)
    clear bd Va_26 Ka_26 Vb_26 Kb_26 Vc_26 Kc_26 Lpl Kpl X_26 
    refine wpAnyH_take (i := 0) (v := ?_) (by simp only [gx0, gx2]; rfl) (by kernel_rfl) (by kernel_rfl) (by kernel_rfl) (fun _ _ _ h => h) (.inl ⟨by rfl, ?_⟩) hH ?_
    rotate_left
    · intro w hSw; (try dsimp only at hSw); first | (go_simp; done) | (go_simp; with_reducible rfl) | (go_simp; decide)
    (try simp only [Act.put, gy0, gy1, gy2])
    refine wpAnyH_take (i := 1) (v := ?_) (by simp only [gx0, gx1, gx2]; rfl) (by kernel_rfl) (by kernel_rfl) (by kernel_rfl) (fun _ _ _ h => h) (.inl ⟨by rfl, ?_⟩) hH ?_
    rotate_left
    · intro w hSw; (try dsimp only at hSw); first | (go_simp; done) | (go_simp; with_reducible rfl) | (go_simp; decide)
    (try simp only [Act.put, gy0, gy1, gy2])
    refine wpAnyH_take (i := 2) (v := ?_) (by simp only [gx0, gx1, gx2]; rfl) (by kernel_rfl) (by kernel_rfl) (by kernel_rfl) (fun _ _ _ h => h) (.inl ⟨by rfl, ?_⟩) hH ?_
    rotate_left
    · intro w hSw; (try dsimp only at hSw); first | (go_simp; done) | (go_simp; with_reducible rfl) | (go_simp; decide)
    (try simp only [Act.put, gy0, gy1, gy2])
    refine wpAnyH_take (i := 4) (v := ?_) (by simp only [gx0, gx1, gx2]; rfl) (by kernel_rfl) (by kernel_rfl) (by kernel_rfl) (fun _ _ _ h => h) (.inl ⟨by rfl, ?_⟩) hH ?_
    rotate_left
    · intro w hSw; (try dsimp only at hSw); first | (go_simp; done) | (go_simp; with_reducible rfl) | (go_simp; decide)
    (try simp only [Act.put, gy0, gy1, gy2])
    refine wpAnyH_take (i := 6) (v := ?_) (by simp only [gx0, gx1, gx2]; rfl) (by kernel_rfl) (by kernel_rfl) (by kernel_rfl) (fun _ _ _ h => h) (.inl ⟨by rfl, ?_⟩) hH ?_
    rotate_left
    · intro w hSw; (try dsimp only at hSw); first | (go_simp; done) | (go_simp; with_reducible rfl) | (go_simp; decide)
    (try simp only [Act.put, gy0, gy1, gy2])
    refine wpAnyH_ready (rs := [3]) (by kernel_rfl) (by simp) ?_
    refine AllReadyH.cons (by simp only [gx0, gx1, gx2]; rfl) (fun K hK => ?_) AllReadyH.nil
    go_simp
    have cc := vadd ga Aa na ca Da ma da gb Ab nb cb Db mb db 4 (za) (zb) w27 (Va_27.out) (Vb_27.out) (by omega)
    refine cc.mono ?_
    rintro e w28 ⟨At1, nt1, ct1, Dt1, mt1, dt1, rfl, r, b⟩
    clear cc hH
    have Lt1 := hid r
    clear r
    have Va_28 := hid (Va_27.out.keep b)
    have Ka_28 := hid (Ka_27.out.keep b)
    have Vb_28 := hid (Vb_27.out.keep b)
    have Kb_28 := hid (Kb_27.out.keep b)
    have Vc_28 := hid (Vc_27.out.keep b)
    have Kc_28 := hid (Kc_27.out.keep b)
    have Lpl_28 := hid (Lpl_27.out.keep b)
    have Kpl_28 := hid (Kpl_27.out.keep b)
    have X_28 := hid (bx_call X_27.out b)
    clear b Va_27 Ka_27 Vb_27 Kb_27 Vc_27 Kc_27 Lpl_27 Kpl_27 X_27
    (try go_wp2_with fail)
    refine hK.out _ _ ?_ (fun hH => ?_)
    exact (And.intro (blk_three Ka_28.out) (And.intro (blk_three Kb_28.out) (And.intro (blk_three Kc_28.out) (blk_three Kpl_28.out))))
    clear hK K
    (try simp only [Act.put, gy0, gy1, gy2])
    refine wpAnyH_ready (rs := [5]) (by kernel_rfl) (by simp) ?_
    refine AllReadyH.cons (by simp only [gx0, gx1, gx2]; rfl) (fun K hK => ?_) AllReadyH.nil
    go_simp
    have cc := vsub (sg (za + zb).num) At1 nt1 ct1 Dt1 mt1 dt1 gb Ab nb cb Db mb db 9 (za + zb) (zb) w28 ((Lt1.out).v) (FrV.up (Vb_28.out) (by omega)) (by omega)
    refine cc.mono ?_
    rintro e w29 ⟨At2, nt2, ct2, Dt2, mt2, dt2, rfl, r, b⟩
    clear cc hH
    have Lt2 := hid r
    clear r
    have Va_29 := hid (Va_28.out.keep b)
    have Ka_29 := hid (Ka_28.out.keep b)
    have Vb_29 := hid (Vb_28.out.keep b)
    have Kb_29 := hid (Kb_28.out.keep b)
    have Vc_29 := hid (Vc_28.out.keep b)
    have Kc_29 := hid (Kc_28.out.keep b)
    have Lpl_29 := hid (Lpl_28.out.keep b)
    have Kpl_29 := hid (Kpl_28.out.keep b)
    have Lt1_29 := hid (Lt1.out.keep b)
    have X_29 := hid (bx_call X_28.out b)
    clear b Va_28 Ka_28 Vb_28 Kb_28 Vc_28 Kc_28 Lpl_28 Kpl_28 Lt1 X_28
    (try go_wp2_with fail)
    refine hK.out _ _ ?_ (fun hH => ?_)
    exact (And.intro (blk_three Ka_29.out) (And.intro (blk_three Kb_29.out) (And.intro (blk_three Kc_29.out) (blk_three Kpl_29.out))))
    clear hK K
    (try simp only [Act.put, gy0, gy1, gy2])
    refine wpAnyH_ready (rs := [7]) (by kernel_rfl) (by simp) ?_
    refine AllReadyH.cons (by simp only [gx0, gx1, gx2]; rfl) (fun K hK => ?_) AllReadyH.nil
    go_simp
    have cc := vsame (Lt2.out) (Lpl_29.out)
    rw [decide_eq_true (show za + zb - (zb) = za + 0 from by grind)] at cc
    refine cc.mono ?_
    rintro e w30 ⟨rfl, b⟩
    clear cc hH
    have Va_30 := hid (Va_29.out.keep b)
    have Ka_30 := hid (Ka_29.out.keep b)
    have Vb_30 := hid (Vb_29.out.keep b)
    have Kb_30 := hid (Kb_29.out.keep b)
    have Vc_30 := hid (Vc_29.out.keep b)
    have Kc_30 := hid (Kc_29.out.keep b)
    have Lpl_30 := hid (Lpl_29.out.keep b)
    have Kpl_30 := hid (Kpl_29.out.keep b)
    have Lt1_30 := hid (Lt1_29.out.keep b)
    have Lt2_30 := hid (Lt2.out.keep b)
    have X_30 := hid (bx_call X_29.out b)
    clear b Va_29 Ka_29 Vb_29 Kb_29 Vc_29 Kc_29 Lpl_29 Kpl_29 Lt1_29 Lt2 X_29
    (try go_wp2_with fail)
    refine hK.out _ _ ?_ (fun hH => ?_)
    exact (And.intro (blk_three Ka_30.out) (And.intro (blk_three Kb_30.out) (And.intro (blk_three Kc_30.out) (blk_three Kpl_30.out))))
    clear hK K
    (try simp only [Act.put, gy0, gy1, gy2])
    refine wpAnyH_take (i := 8) (v := ?_) (by simp only [gx0, gx1, gx2]; rfl) (by kernel_rfl) (by kernel_rfl) (by kernel_rfl) (fun _ _ _ h => h) (.inl ⟨by rfl, ?_⟩) hH ?_
    rotate_left
    · intro w hSw; (try dsimp only at hSw); first | (go_simp; done) | (go_simp; with_reducible rfl) | (go_simp; decide)
    (try simp only [Act.put, gy0, gy1, gy2])
    refine wpAnyH_take (i := 9) (v := ?_) (by simp only [gx0, gx1, gx2]; rfl) (by kernel_rfl) (by kernel_rfl) (by kernel_rfl) (fun _ _ _ h => h) (.inl ⟨by rfl, ?_⟩) hH ?_
    rotate_left
    · intro w hSw; (try dsimp only at hSw); first | (go_simp; done) | (go_simp; with_reducible rfl) | (go_simp; decide)
    (try simp only [Act.put, gy0, gy1, gy2])
    refine wpAnyH_take (i := 10) (v := ?_) (by simp only [gx0, gx1, gx2]; rfl) (by kernel_rfl) (by kernel_rfl) (by kernel_rfl) (fun _ _ _ h => h) (.inl ⟨by rfl, ?_⟩) hH ?_
    rotate_left
    · intro w hSw; (try dsimp only at hSw); first | (go_simp; done) | (go_simp; with_reducible rfl) | (go_simp; decide)
    (try simp only [Act.put, gy0, gy1, gy2])
    refine wpAnyH_take (i := 11) (v := ?_) (by simp only [gx0, gx1, gx2]; rfl) (by kernel_rfl) (by kernel_rfl) (by kernel_rfl) (fun _ _ _ h => h) (.inl ⟨by rfl, ?_⟩) hH ?_
    rotate_left
    · intro w hSw; (try dsimp only at hSw); first | (go_simp; done) | (go_simp; with_reducible rfl) | (go_simp; decide)
    (try simp only [Act.put, gy0, gy1, gy2])
    refine wpAnyH_ready (rs := [12]) (by kernel_rfl) (by simp) ?_
    refine AllReadyH.cons (by simp only [gx0, gx1, gx2]; rfl) (fun K hK => ?_) AllReadyH.nil
    go_simp
    have cc := vneg ga Aa na ca Da ma da 4 (za) w30 (Va_30.out) (by omega)
    refine cc.mono ?_
    rintro e w31 ⟨At3, nt3, ct3, Dt3, mt3, dt3, rfl, r, b⟩
    clear cc hH
    have Lt3 := hid r
    clear r
    have Va_31 := hid (Va_30.out.keep b)
    have Ka_31 := hid (Ka_30.out.keep b)
    have Vb_31 := hid (Vb_30.out.keep b)
    have Kb_31 := hid (Kb_30.out.keep b)
    have Vc_31 := hid (Vc_30.out.keep b)
    have Kc_31 := hid (Kc_30.out.keep b)
    have Lpl_31 := hid (Lpl_30.out.keep b)
    have Kpl_31 := hid (Kpl_30.out.keep b)
    have Lt1_31 := hid (Lt1_30.out.keep b)
    have Lt2_31 := hid (Lt2_30.out.keep b)
    have X_31 := hid (bx_call X_30.out b)
    clear b Va_30 Ka_30 Vb_30 Kb_30 Vc_30 Kc_30 Lpl_30 Kpl_30 Lt1_30 Lt2_30 X_30
    (try go_wp2_with fail)
    refine hK.out _ _ ?_ (fun hH => ?_)
    exact (And.intro (blk_three Ka_31.out) (And.intro (blk_three Kb_31.out) (And.intro (blk_three Kc_31.out) (blk_three Kpl_31.out))))
    clear hK K
    (try simp only [Act.put, gy0, gy1, gy2])
    refine wpAnyH_ready (rs := [13]) (by kernel_rfl) (by simp) ?_
    refine AllReadyH.cons (by simp only [gx0, gx1, gx2]; rfl) (fun K hK => ?_) AllReadyH.nil
    go_simp
    have cc := vadd ga Aa na ca Da ma da (sg (-(za)).num) At3 nt3 ct3 Dt3 mt3 dt3 4 (za) (-(za)) w31 (Va_31.out) ((Lt3.out).v) (by omega)
    refine cc.mono ?_
    rintro e w32 ⟨At4, nt4, ct4, Dt4, mt4, dt4, rfl, r, b⟩
    clear cc hH
    have Lt4 := hid r
    clear r
    have Va_32 := hid (Va_31.out.keep b)
    have Ka_32 := hid (Ka_31.out.keep b)
    have Vb_32 := hid (Vb_31.out.keep b)
    have Kb_32 := hid (Kb_31.out.keep b)
    have Vc_32 := hid (Vc_31.out.keep b)
    have Kc_32 := hid (Kc_31.out.keep b)
    have Lpl_32 := hid (Lpl_31.out.keep b)
    have Kpl_32 := hid (Kpl_31.out.keep b)
    have Lt1_32 := hid (Lt1_31.out.keep b)
    have Lt2_32 := hid (Lt2_31.out.keep b)
    have Lt3_32 := hid (Lt3.out.keep b)
    have X_32 := hid (bx_call X_31.out b)
    clear b Va_31 Ka_31 Vb_31 Kb_31 Vc_31 Kc_31 Lpl_31 Kpl_31 Lt1_31 Lt2_31 Lt3 X_31
    (try go_wp2_with fail)
    refine hK.out _ _ ?_ (fun hH => ?_)
    exact (And.intro (blk_three Ka_32.out) (And.intro (blk_three Kb_32.out) (And.intro (blk_three Kc_32.out) (blk_three Kpl_32.out))))
    clear hK K
    (try simp only [Act.put, gy0, gy1, gy2])
    refine wpAnyH_ready (rs := [14]) (by kernel_rfl) (by simp) ?_
    refine AllReadyH.cons (by simp only [gx0, gx1, gx2]; rfl) (fun K hK => ?_) AllReadyH.nil
    go_simp
    have cc := vsign (sg (za + -(za)).num) At4 nt4 ct4 Dt4 mt4 dt4 9 (za + -(za)) w32 ((Lt4.out).v)
    rw [show sgnQ (za + (-(za))) = 0 from by rw [show za + (-(za)) = 0 from by grind]; rfl] at cc
    refine cc.mono ?_
    rintro e w33 ⟨rfl, b⟩
    clear cc hH
    have Va_33 := hid (Va_32.out.keep b)
    have Ka_33 := hid (Ka_32.out.keep b)
    have Vb_33 := hid (Vb_32.out.keep b)
    have Kb_33 := hid (Kb_32.out.keep b)
    have Vc_33 := hid (Vc_32.out.keep b)
    have Kc_33 := hid (Kc_32.out.keep b)
    have Lpl_33 := hid (Lpl_32.out.keep b)
    have Kpl_33 := hid (Kpl_32.out.keep b)
    have Lt1_33 := hid (Lt1_32.out.keep b)
    have Lt2_33 := hid (Lt2_32.out.keep b)
    have Lt3_33 := hid (Lt3_32.out.keep b)
    have Lt4_33 := hid (Lt4.out.keep b)
    have X_33 := hid (bx_call X_32.out b)
    clear b Va_32 Ka_32 Vb_32 Kb_32 Vc_32 Kc_32 Lpl_32 Kpl_32 Lt1_32 Lt2_32 Lt3_32 Lt4 X_32
    (try go_wp2_with fail)
    refine hK.out _ _ ?_ (fun hH => ?_)
    exact (And.intro (blk_three Ka_33.out) (And.intro (blk_three Kb_33.out) (And.intro (blk_three Kc_33.out) (blk_three Kpl_33.out))))
    clear hK K
    (try simp only [Act.put, gy0, gy1, gy2])
    refine wpAnyH_take (i := 15) (v := ?_) (by simp only [gx0, gx1, gx2]; rfl) (by kernel_rfl) (by kernel_rfl) (by kernel_rfl) (fun _ _ _ h => h) (.inl ⟨by rfl, ?_⟩) hH ?_
    rotate_left
    · intro w hSw; (try dsimp only at hSw); first | (go_simp; done) | (go_simp; with_reducible rfl) | (go_simp; decide)
    (try simp only [Act.put, gy0, gy1, gy2])
    refine wpAnyH_take (i := 16) (v := ?_) (by simp only [gx0, gx1, gx2]; rfl) (by kernel_rfl) (by kernel_rfl) (by kernel_rfl) (fun _ _ _ h => h) (.inl ⟨by rfl, ?_⟩) hH ?_
    rotate_left
    · intro w hSw; (try dsimp only at hSw); first | (go_simp; done) | (go_simp; with_reducible rfl) | (go_simp; decide)
    (try simp only [Act.put, gy0, gy1, gy2])
    refine wpAnyH_done (by kernel_rfl) ?_ _
    refine NoPanic.normal ?_
    clear hH
    clear Lt1_33
    clear Lt2_33
    clear Lt3_33
    clear Lt4_33
    go_upto_region 9 with fail
    obtain ⟨v9, hv9⟩ : ∃ W, W = w33 := ⟨_, rfl⟩
    rw [← hv9] at Va_33 Ka_33 Vb_33 Kb_33 Vc_33 Kc_33 Lpl_33 Kpl_33 X_33 ⊢
    clear hv9
    have MU := hid (fun (W : World) (hw : Below v9.heap.size v9 W) => vmul ga Aa na ca Da ma da gb Ab nb cb Db mb db 4 za zb W (Va_33.out.keep hw) (Vb_33.out.keep hw) (by omega))
    have DI := hid (fun (W : World) A5 n5 c5 D5 m5 d5 (hw : Below v9.heap.size v9 W) (r : FrL W A5 n5 c5 D5 m5 d5 8 (za * zb)) => vdiv (sg (za * zb).num) A5 n5 c5 D5 m5 d5 gb Ab nb cb Db mb db 8 (za * zb) zb W r.v (FrV.up (Vb_33.out.keep hw) (by omega)) (by omega))
    obtain ⟨zd, hzd⟩ : ∃ z : Int, z = if zb = 0 then 2 else 0 := ⟨_, rfl⟩
    obtain ⟨qd, hqd⟩ : ∃ q, q = za * zb / zb := ⟨_, rfl⟩
    rw [← hzd, ← hqd] at DI
    have HZ := hid hzd
    have HQ := hid hqd
    clear hzd hqd
    have nw := hid (show w.heap.size < v9.heap.size ∧ w.heap.size + 1 < v9.heap.size from ⟨Ka_33.out.lt, Kb_33.out.lt⟩)
    go_cut [9, 10] (fun s9 s10 wx => ∃ (p : Nat) (A6 : Option Addr) (n6 c6 : Nat) (D6 : Option Addr) (m6 d6 : Nat), s9 = .pointer (some ⟨p, 0, none⟩) ∧ s10 = .int .i64 zd ∧ Hid (Blk wx p [.bool (sg qd.num), .slice A6 n6 c6, .slice D6 m6 d6] 50 ∧ FrL wx A6 n6 c6 D6 m6 d6 16 qd ∧ Below v9.heap.size v9 wx))
    case first =>
       refine wp_region_noPanic ?_
       refine wp_region_held_drew (S := (fun W => (W.cell? ⟨w.heap.size, 0, none⟩ = some (.bool ga) ∧ W.cell? ⟨w.heap.size, 1, none⟩ = some (.slice Aa na ca) ∧ W.cell? ⟨w.heap.size, 2, none⟩ = some (.slice Da ma da)) ∧ (W.cell? ⟨w.heap.size + 1, 0, none⟩ = some (.bool gb) ∧ W.cell? ⟨w.heap.size + 1, 1, none⟩ = some (.slice Ab nb cb) ∧ W.cell? ⟨w.heap.size + 1, 2, none⟩ = some (.slice Db mb db)))) (by kernel_rfl) ?_ (fun hH => ?_)
       exact And.intro (blk_three Ka_33.out) (blk_three Kb_33.out)
       refine wpAnyH_take (i := 0) (v := ?_) (by simp only [gx0, gx2]; rfl) (by kernel_rfl) (by kernel_rfl) (by kernel_rfl) (fun _ _ _ h => h) (.inl ⟨by rfl, ?_⟩) hH ?_
       rotate_left
       · intro w hSw; (try dsimp only at hSw); first | (go_simp; done) | (go_simp; with_reducible rfl)
       (try simp only [Act.put, gy0, gy1, gy2])
       refine wpAnyH_take (i := 1) (v := ?_) (by simp only [gx0, gx1, gx2]; rfl) (by kernel_rfl) (by kernel_rfl) (by kernel_rfl) (fun _ _ _ h => h) (.inl ⟨by rfl, ?_⟩) hH ?_
       rotate_left
       · intro w hSw; (try dsimp only at hSw); first | (go_simp; done) | (go_simp; with_reducible rfl)
       (try simp only [Act.put, gy0, gy1, gy2])
       refine wpAnyH_take (i := 3) (v := ?_) (by simp only [gx0, gx1, gx2]; rfl) (by kernel_rfl) (by kernel_rfl) (by kernel_rfl) (fun _ _ _ h => h) (.inl ⟨by rfl, ?_⟩) hH ?_
       rotate_left
       · intro w hSw; (try dsimp only at hSw); first | (go_simp; done) | (go_simp; with_reducible rfl)
       (try simp only [Act.put, gy0, gy1, gy2])
       have bd := bx_drew (bx_refl v9)
       obtain ⟨W0, hW0⟩ : ∃ W, W = v9.drew := ⟨_, rfl⟩
       rw [← hW0] at bd hH ⊢
       clear hW0
       have BW_0 := hid bd
       clear bd
       refine wpAnyH_ready (rs := [2, 8]) (by kernel_rfl) (by simp) ?_
       refine AllReadyH.cons (by simp only [gx0, gx1, gx2]; rfl) (fun K hK => ?_) ?_
       go_simp
       refine (MU.out _ BW_0.out).mono ?_
       rintro e W1 ⟨A5, n5, c5, D5, m5, d5, rfl, r, b⟩
       have RM := hid r
       clear r
       have BW_1 := hid (bx_call BW_0.out b)
       clear BW_0
       have H2 := And.intro (And.intro (cell_bx hH.1.1 b) (And.intro (cell_bx hH.1.2.1 b) (cell_bx hH.1.2.2 b))) (And.intro (cell_bx hH.2.1 b) (And.intro (cell_bx hH.2.2.1 b) (cell_bx hH.2.2.2 b)))
       clear hH b
       (try go_wp2_with fail)
       refine hK.out _ _ ?_ (fun hH => ?_)
       exact H2
       clear hK K H2
       (try simp only [Act.put, gy0, gy1, gy2])
       refine wpAnyH_ready (rs := [4, 8]) (by kernel_rfl) (by simp) ?_
       refine AllReadyH.cons (by simp only [gx0, gx1, gx2]; rfl) (fun K hK => ?_) ?_
       go_simp
       refine (DI.out _ A5 n5 c5 D5 m5 d5 BW_1.out RM.out).mono ?_
       rintro e W2 ⟨A6, n6, c6, D6, m6, d6, rfl, r, b⟩
       have RZ := hid r
       clear r
       have RM_2 := hid (RM.out.keep b)
       have BW_2 := hid (bx_call BW_1.out b)
       clear RM BW_1
       have H2 := And.intro (And.intro (cell_bx hH.1.1 b) (And.intro (cell_bx hH.1.2.1 b) (cell_bx hH.1.2.2 b))) (And.intro (cell_bx hH.2.1 b) (And.intro (cell_bx hH.2.2.1 b) (cell_bx hH.2.2.2 b)))
       clear hH b
       (try go_wp2_with fail)
       refine hK.out _ _ ?_ (fun hH => ?_)
       exact H2
       clear hK K H2
       (try simp only [Act.put, gy0, gy1, gy2])
       clear RM_2
       refine wpAnyH_take (i := 5) (v := ?_) (by simp only [gx0, gx1, gx2]; rfl) (by kernel_rfl) (by kernel_rfl) (by kernel_rfl) (fun _ _ _ h => h) (.inl ⟨by rfl, ?_⟩) hH ?_
       rotate_left
       · intro w hSw; (try dsimp only at hSw); first | (go_simp; done) | (go_simp; with_reducible rfl)
       (try simp only [Act.put, gy0, gy1, gy2])
       refine wpAnyH_take (i := 6) (v := ?_) (by simp only [gx0, gx1, gx2]; rfl) (by kernel_rfl) (by kernel_rfl) (by kernel_rfl) (fun _ _ _ h => h) (.inl ⟨by rfl, ?_⟩) hH ?_
       rotate_left
       · intro w hSw; (try dsimp only at hSw); first | (go_simp; done) | (go_simp; with_reducible rfl)
       (try simp only [Act.put, gy0, gy1, gy2])
       refine wpAnyH_take (i := 7) (v := ?_) (by simp only [gx0, gx1, gx2]; rfl) (by kernel_rfl) (by kernel_rfl) (by kernel_rfl) (fun _ _ _ h => h) (.inl ⟨by rfl, ?_⟩) hH ?_
       rotate_left
       · intro w hSw; (try dsimp only at hSw); first | (go_simp; done) | (go_simp; with_reducible rfl)
       (try simp only [Act.put, gy0, gy1, gy2])
       refine wpAnyH_ready (rs := [8]) (by kernel_rfl) (by simp) ?_
       refine AllReadyH.cons (by simp only [gx0, gx1, gx2]; rfl) (fun K hK => ?_) ?_
       go_simp
       obtain ⟨W3, p, hW, hp, b, kk⟩ := mk_cells W2 [.bool false, .slice none 0 0, .slice none 0 0] 50
       have gp : v9.heap.size ≤ p := by rw [hp]; exact BW_2.out.size
       rw [← hW, ← hp]
       clear hW hp
       have Kp := hid kk
       clear kk
       have RZ_3 := hid (RZ.out.keep b)
       have BW_3 := hid (bx_call BW_2.out b)
       clear RZ BW_2
       have H2 := And.intro (And.intro (cell_bx hH.1.1 b) (And.intro (cell_bx hH.1.2.1 b) (cell_bx hH.1.2.2 b))) (And.intro (cell_bx hH.2.1 b) (And.intro (cell_bx hH.2.2.1 b) (cell_bx hH.2.2.2 b)))
       clear hH b
       refine hK.out _ _ ?_ (fun hH => ?_)
       exact H2
       clear hK K H2
       (try simp only [Act.put, gy0, gy1, gy2])
       have TM := hid (rat_made (q := qd) BW_3.out gp Kp.out RZ_3.out)
       obtain ⟨⟨a1, a2, a3, a4, a5, a6⟩, O⟩ := far_rat Kp.out gp nw.out.1 nw.out.2
       refine wpAnyH_ready (rs := [9]) (by kernel_rfl) (by simp) ?_
       refine AllReadyH.cons (by simp only [gx0, gx1, gx2]; rfl) (fun K hK => ?_) AllReadyH.nil
       go_simp
       refine hK.out _ _ (And.intro (And.intro (cell_fr (cell_fr (cell_fr hH.1.1 O.out.1) O.out.1) O.out.1) (And.intro (cell_fr (cell_fr (cell_fr hH.1.2.1 O.out.1) O.out.1) O.out.1) (cell_fr (cell_fr (cell_fr hH.1.2.2 O.out.1) O.out.1) O.out.1))) (And.intro (cell_fr (cell_fr (cell_fr hH.2.1 O.out.2) O.out.2) O.out.2) (And.intro (cell_fr (cell_fr (cell_fr hH.2.2.1 O.out.2) O.out.2) O.out.2) (cell_fr (cell_fr (cell_fr hH.2.2.2 O.out.2) O.out.2) O.out.2)))) (fun hH2 => ?_)
       clear hK K hH a1 a2 a3 a4 a5 a6
       (try simp only [Act.put, gy0, gy1, gy2])
       refine wpAnyH_take (i := 10) (v := ?_) (by simp only [gx0, gx1, gx2]; rfl) (by kernel_rfl) (by kernel_rfl) (by kernel_rfl) (fun _ _ _ h => h) (.inl ⟨by rfl, ?_⟩) hH2 ?_
       rotate_left
       · intro w hSw; (try dsimp only at hSw); first | (go_simp; done) | (go_simp; with_reducible rfl)
       (try simp only [Act.put, gy0, gy1, gy2])
       refine wpAnyH_done (by kernel_rfl) ?_ _
       refine NoPanic.normal ?_
       go_wp2_with fail
       go_meet
       exact ⟨p, A6, n6, c6, D6, m6, d6, rfl, rfl, hid ⟨TM.out.1, TM.out.2.1, TM.out.2.2⟩⟩
       exact AllReadyH.nil
       refine AllReadyH.cons (by simp only [gx0, gx1, gx2]; rfl) (fun K hK => ?_) ?_
       go_simp
       obtain ⟨W2, p, hW, hp, b, kk⟩ := mk_cells W1 [.bool false, .slice none 0 0, .slice none 0 0] 50
       have gp : v9.heap.size ≤ p := by rw [hp]; exact BW_1.out.size
       rw [← hW, ← hp]
       clear hW hp
       have Kp := hid kk
       clear kk
       have RM_2 := hid (RM.out.keep b)
       have BW_2 := hid (bx_call BW_1.out b)
       clear RM BW_1
       have H2 := And.intro (And.intro (cell_bx hH.1.1 b) (And.intro (cell_bx hH.1.2.1 b) (cell_bx hH.1.2.2 b))) (And.intro (cell_bx hH.2.1 b) (And.intro (cell_bx hH.2.2.1 b) (cell_bx hH.2.2.2 b)))
       clear hH b
       refine hK.out _ _ ?_ (fun hH => ?_)
       exact H2
       clear hK K H2
       (try simp only [Act.put, gy0, gy1, gy2])
       refine wpAnyH_ready (rs := [4]) (by kernel_rfl) (by simp) ?_
       refine AllReadyH.cons (by simp only [gx0, gx1, gx2]; rfl) (fun K hK => ?_) ?_
       go_simp
       refine (DI.out _ A5 n5 c5 D5 m5 d5 BW_2.out RM_2.out).mono ?_
       rintro e W3 ⟨A6, n6, c6, D6, m6, d6, rfl, r, b⟩
       have RZ := hid r
       clear r
       have RM_3 := hid (RM_2.out.keep b)
       have Kp_3 := hid (Kp.out.keep b)
       have BW_3 := hid (bx_call BW_2.out b)
       clear RM_2 Kp BW_2
       have H2 := And.intro (And.intro (cell_bx hH.1.1 b) (And.intro (cell_bx hH.1.2.1 b) (cell_bx hH.1.2.2 b))) (And.intro (cell_bx hH.2.1 b) (And.intro (cell_bx hH.2.2.1 b) (cell_bx hH.2.2.2 b)))
       clear hH b
       (try go_wp2_with fail)
       refine hK.out _ _ ?_ (fun hH => ?_)
       exact H2
       clear hK K H2
       (try simp only [Act.put, gy0, gy1, gy2])
       clear RM_3
       refine wpAnyH_take (i := 5) (v := ?_) (by simp only [gx0, gx1, gx2]; rfl) (by kernel_rfl) (by kernel_rfl) (by kernel_rfl) (fun _ _ _ h => h) (.inl ⟨by rfl, ?_⟩) hH ?_
       rotate_left
       · intro w hSw; (try dsimp only at hSw); first | (go_simp; done) | (go_simp; with_reducible rfl)
       (try simp only [Act.put, gy0, gy1, gy2])
       refine wpAnyH_take (i := 6) (v := ?_) (by simp only [gx0, gx1, gx2]; rfl) (by kernel_rfl) (by kernel_rfl) (by kernel_rfl) (fun _ _ _ h => h) (.inl ⟨by rfl, ?_⟩) hH ?_
       rotate_left
       · intro w hSw; (try dsimp only at hSw); first | (go_simp; done) | (go_simp; with_reducible rfl)
       (try simp only [Act.put, gy0, gy1, gy2])
       refine wpAnyH_take (i := 7) (v := ?_) (by simp only [gx0, gx1, gx2]; rfl) (by kernel_rfl) (by kernel_rfl) (by kernel_rfl) (fun _ _ _ h => h) (.inl ⟨by rfl, ?_⟩) hH ?_
       rotate_left
       · intro w hSw; (try dsimp only at hSw); first | (go_simp; done) | (go_simp; with_reducible rfl)
       (try simp only [Act.put, gy0, gy1, gy2])
       have TM := hid (rat_made (q := qd) BW_3.out gp Kp_3.out RZ.out)
       obtain ⟨⟨a1, a2, a3, a4, a5, a6⟩, O⟩ := far_rat Kp_3.out gp nw.out.1 nw.out.2
       refine wpAnyH_ready (rs := [9]) (by kernel_rfl) (by simp) ?_
       refine AllReadyH.cons (by simp only [gx0, gx1, gx2]; rfl) (fun K hK => ?_) AllReadyH.nil
       go_simp
       refine hK.out _ _ (And.intro (And.intro (cell_fr (cell_fr (cell_fr hH.1.1 O.out.1) O.out.1) O.out.1) (And.intro (cell_fr (cell_fr (cell_fr hH.1.2.1 O.out.1) O.out.1) O.out.1) (cell_fr (cell_fr (cell_fr hH.1.2.2 O.out.1) O.out.1) O.out.1))) (And.intro (cell_fr (cell_fr (cell_fr hH.2.1 O.out.2) O.out.2) O.out.2) (And.intro (cell_fr (cell_fr (cell_fr hH.2.2.1 O.out.2) O.out.2) O.out.2) (cell_fr (cell_fr (cell_fr hH.2.2.2 O.out.2) O.out.2) O.out.2)))) (fun hH2 => ?_)
       clear hK K hH a1 a2 a3 a4 a5 a6
       (try simp only [Act.put, gy0, gy1, gy2])
       refine wpAnyH_take (i := 10) (v := ?_) (by simp only [gx0, gx1, gx2]; rfl) (by kernel_rfl) (by kernel_rfl) (by kernel_rfl) (fun _ _ _ h => h) (.inl ⟨by rfl, ?_⟩) hH2 ?_
       rotate_left
       · intro w hSw; (try dsimp only at hSw); first | (go_simp; done) | (go_simp; with_reducible rfl)
       (try simp only [Act.put, gy0, gy1, gy2])
       refine wpAnyH_done (by kernel_rfl) ?_ _
       refine NoPanic.normal ?_
       go_wp2_with fail
       go_meet
       exact ⟨p, A6, n6, c6, D6, m6, d6, rfl, rfl, hid ⟨TM.out.1, TM.out.2.1, TM.out.2.2⟩⟩
       exact AllReadyH.nil
       exact AllReadyH.nil
       refine AllReadyH.cons (by simp only [gx0, gx1, gx2]; rfl) (fun K hK => ?_) ?_
       go_simp
       obtain ⟨W1, p, hW, hp, b, kk⟩ := mk_cells W0 [.bool false, .slice none 0 0, .slice none 0 0] 50
       have gp : v9.heap.size ≤ p := by rw [hp]; exact BW_0.out.size
       rw [← hW, ← hp]
       clear hW hp
       have Kp := hid kk
       clear kk
       have BW_1 := hid (bx_call BW_0.out b)
       clear BW_0
       have H2 := And.intro (And.intro (cell_bx hH.1.1 b) (And.intro (cell_bx hH.1.2.1 b) (cell_bx hH.1.2.2 b))) (And.intro (cell_bx hH.2.1 b) (And.intro (cell_bx hH.2.2.1 b) (cell_bx hH.2.2.2 b)))
       clear hH b
       refine hK.out _ _ ?_ (fun hH => ?_)
       exact H2
       clear hK K H2
       (try simp only [Act.put, gy0, gy1, gy2])
       refine wpAnyH_ready (rs := [2]) (by kernel_rfl) (by simp) ?_
       refine AllReadyH.cons (by simp only [gx0, gx1, gx2]; rfl) (fun K hK => ?_) ?_
       go_simp
       refine (MU.out _ BW_1.out).mono ?_
       rintro e W2 ⟨A5, n5, c5, D5, m5, d5, rfl, r, b⟩
       have RM := hid r
       clear r
       have Kp_2 := hid (Kp.out.keep b)
       have BW_2 := hid (bx_call BW_1.out b)
       clear Kp BW_1
       have H2 := And.intro (And.intro (cell_bx hH.1.1 b) (And.intro (cell_bx hH.1.2.1 b) (cell_bx hH.1.2.2 b))) (And.intro (cell_bx hH.2.1 b) (And.intro (cell_bx hH.2.2.1 b) (cell_bx hH.2.2.2 b)))
       clear hH b
       (try go_wp2_with fail)
       refine hK.out _ _ ?_ (fun hH => ?_)
       exact H2
       clear hK K H2
       (try simp only [Act.put, gy0, gy1, gy2])
       refine wpAnyH_ready (rs := [4]) (by kernel_rfl) (by simp) ?_
       refine AllReadyH.cons (by simp only [gx0, gx1, gx2]; rfl) (fun K hK => ?_) ?_
       go_simp
       refine (DI.out _ A5 n5 c5 D5 m5 d5 BW_2.out RM.out).mono ?_
       rintro e W3 ⟨A6, n6, c6, D6, m6, d6, rfl, r, b⟩
       have RZ := hid r
       clear r
       have Kp_3 := hid (Kp_2.out.keep b)
       have RM_3 := hid (RM.out.keep b)
       have BW_3 := hid (bx_call BW_2.out b)
       clear Kp_2 RM BW_2
       have H2 := And.intro (And.intro (cell_bx hH.1.1 b) (And.intro (cell_bx hH.1.2.1 b) (cell_bx hH.1.2.2 b))) (And.intro (cell_bx hH.2.1 b) (And.intro (cell_bx hH.2.2.1 b) (cell_bx hH.2.2.2 b)))
       clear hH b
       (try go_wp2_with fail)
       refine hK.out _ _ ?_ (fun hH => ?_)
       exact H2
       clear hK K H2
       (try simp only [Act.put, gy0, gy1, gy2])
       clear RM_3
       refine wpAnyH_take (i := 5) (v := ?_) (by simp only [gx0, gx1, gx2]; rfl) (by kernel_rfl) (by kernel_rfl) (by kernel_rfl) (fun _ _ _ h => h) (.inl ⟨by rfl, ?_⟩) hH ?_
       rotate_left
       · intro w hSw; (try dsimp only at hSw); first | (go_simp; done) | (go_simp; with_reducible rfl)
       (try simp only [Act.put, gy0, gy1, gy2])
       refine wpAnyH_take (i := 6) (v := ?_) (by simp only [gx0, gx1, gx2]; rfl) (by kernel_rfl) (by kernel_rfl) (by kernel_rfl) (fun _ _ _ h => h) (.inl ⟨by rfl, ?_⟩) hH ?_
       rotate_left
       · intro w hSw; (try dsimp only at hSw); first | (go_simp; done) | (go_simp; with_reducible rfl)
       (try simp only [Act.put, gy0, gy1, gy2])
       refine wpAnyH_take (i := 7) (v := ?_) (by simp only [gx0, gx1, gx2]; rfl) (by kernel_rfl) (by kernel_rfl) (by kernel_rfl) (fun _ _ _ h => h) (.inl ⟨by rfl, ?_⟩) hH ?_
       rotate_left
       · intro w hSw; (try dsimp only at hSw); first | (go_simp; done) | (go_simp; with_reducible rfl)
       (try simp only [Act.put, gy0, gy1, gy2])
       have TM := hid (rat_made (q := qd) BW_3.out gp Kp_3.out RZ.out)
       obtain ⟨⟨a1, a2, a3, a4, a5, a6⟩, O⟩ := far_rat Kp_3.out gp nw.out.1 nw.out.2
       refine wpAnyH_ready (rs := [9]) (by kernel_rfl) (by simp) ?_
       refine AllReadyH.cons (by simp only [gx0, gx1, gx2]; rfl) (fun K hK => ?_) AllReadyH.nil
       go_simp
       refine hK.out _ _ (And.intro (And.intro (cell_fr (cell_fr (cell_fr hH.1.1 O.out.1) O.out.1) O.out.1) (And.intro (cell_fr (cell_fr (cell_fr hH.1.2.1 O.out.1) O.out.1) O.out.1) (cell_fr (cell_fr (cell_fr hH.1.2.2 O.out.1) O.out.1) O.out.1))) (And.intro (cell_fr (cell_fr (cell_fr hH.2.1 O.out.2) O.out.2) O.out.2) (And.intro (cell_fr (cell_fr (cell_fr hH.2.2.1 O.out.2) O.out.2) O.out.2) (cell_fr (cell_fr (cell_fr hH.2.2.2 O.out.2) O.out.2) O.out.2)))) (fun hH2 => ?_)
       clear hK K hH a1 a2 a3 a4 a5 a6
       (try simp only [Act.put, gy0, gy1, gy2])
       refine wpAnyH_take (i := 10) (v := ?_) (by simp only [gx0, gx1, gx2]; rfl) (by kernel_rfl) (by kernel_rfl) (by kernel_rfl) (fun _ _ _ h => h) (.inl ⟨by rfl, ?_⟩) hH2 ?_
       rotate_left
       · intro w hSw; (try dsimp only at hSw); first | (go_simp; done) | (go_simp; with_reducible rfl)
       (try simp only [Act.put, gy0, gy1, gy2])
       refine wpAnyH_done (by kernel_rfl) ?_ _
       refine NoPanic.normal ?_
       go_wp2_with fail
       go_meet
       exact ⟨p, A6, n6, c6, D6, m6, d6, rfl, rfl, hid ⟨TM.out.1, TM.out.2.1, TM.out.2.2⟩⟩
       exact AllReadyH.nil
       exact AllReadyH.nil
       exact AllReadyH.nil
    case rest =>
    obtain ⟨pb, A6, n6, c6, D6, m6, d6, rfl, rfl, hT⟩ := hcut
    obtain ⟨v10, rfl⟩ : ∃ W : World, W = wc := ⟨_, rfl⟩
    have Va_r := hid (Va_33.out.keep hT.out.2.2)
    have Ka_r := hid (Ka_33.out.keep hT.out.2.2)
    have Vb_r := hid (Vb_33.out.keep hT.out.2.2)
    have Kb_r := hid (Kb_33.out.keep hT.out.2.2)
    have Vc_r := hid (Vc_33.out.keep hT.out.2.2)
    have Kc_r := hid (Kc_33.out.keep hT.out.2.2)
    have Lpl_r := hid (Lpl_33.out.keep hT.out.2.2)
    have Kpl_r := hid (Kpl_33.out.keep hT.out.2.2)
    have X_r := hid (bx_call X_33.out hT.out.2.2)
    have Kq := hid hT.out.1
    have Lq := hid hT.out.2.1
    clear hT nw MU DI Va_33 Ka_33 Vb_33 Kb_33 Vc_33 Kc_33 Lpl_33 Kpl_33 X_33
    by_cases hb0 : zb = 0
    · have ez : zd = 2 := by rw [HZ.out, if_pos hb0]
      subst ez
      have HB := hid (show sgnQ zb = 0 from by rw [hb0]; rfl)
      clear hb0 HZ HQ
      obtain ⟨ka0, ka1, ka2⟩ := blk_three Ka_r.out
      obtain ⟨kb0, kb1, kb2⟩ := blk_three Kb_r.out
      obtain ⟨kc0, kc1, kc2⟩ := blk_three Kc_r.out
      obtain ⟨kpl0, kpl1, kpl2⟩ := blk_three Kpl_r.out
      obtain ⟨kq0, kq1, kq2⟩ := blk_three Kq.out
      have cc := vsign gb Ab nb cb Db mb db 4 (zb) v10 (Vb_r.out)
      rw [HB.out] at cc
      have CC := hid cc
      clear cc
      go_wp2_with fail
      refine (CC.out).mono ?_
      rintro e w34 ⟨rfl, b⟩
      have Va_34 := hid (Va_r.out.keep b)
      have Ka_34 := hid (Ka_r.out.keep b)
      have Vb_34 := hid (Vb_r.out.keep b)
      have Kb_34 := hid (Kb_r.out.keep b)
      have Vc_34 := hid (Vc_r.out.keep b)
      have Kc_34 := hid (Kc_r.out.keep b)
      have Lpl_34 := hid (Lpl_r.out.keep b)
      have Kpl_34 := hid (Kpl_r.out.keep b)
      have Kq_34 := hid (Kq.out.keep b)
      have Lq_34 := hid (Lq.out.keep b)
      have X_34 := hid (bx_call X_r.out b)
      clear CC b ka0 ka1 ka2 kb0 kb1 kb2 kc0 kc1 kc2 kpl0 kpl1 kpl2 kq0 kq1 kq2 Va_r Ka_r Vb_r Kb_r Vc_r Kc_r Lpl_r Kpl_r Kq Lq X_r
      go_wp2_with fail
      go_ret
      exact ⟨rfl, X_34.out⟩
    · have ez : zd = 0 := by rw [HZ.out, if_neg hb0]
      subst ez
      have EQ := hid (show qd = za + 0 from by rw [HQ.out]; grind)
      have hs : (sgnQ zb == 0) = false := beq_eq_false_iff_ne.2 (sgnQ_ne hb0)
      obtain ⟨sb, hsb⟩ : ∃ s, s = sgnQ zb := ⟨_, rfl⟩
      rw [← hsb] at hs
      have SB := hid hsb
      clear hsb
      have HB := hid hb0
      clear hb0 HZ HQ
      obtain ⟨ka0, ka1, ka2⟩ := blk_three Ka_r.out
      obtain ⟨kb0, kb1, kb2⟩ := blk_three Kb_r.out
      obtain ⟨kc0, kc1, kc2⟩ := blk_three Kc_r.out
      obtain ⟨kpl0, kpl1, kpl2⟩ := blk_three Kpl_r.out
      obtain ⟨kq0, kq1, kq2⟩ := blk_three Kq.out
      have cc := vsign gb Ab nb cb Db mb db 4 (zb) v10 (Vb_r.out)
      rw [← SB.out] at cc
      have CC := hid cc
      clear cc
      go_wp2_with fail
      refine (CC.out).mono ?_
      rintro e w34 ⟨rfl, b⟩
      have Va_34 := hid (Va_r.out.keep b)
      have Ka_34 := hid (Ka_r.out.keep b)
      have Vb_34 := hid (Vb_r.out.keep b)
      have Kb_34 := hid (Kb_r.out.keep b)
      have Vc_34 := hid (Vc_r.out.keep b)
      have Kc_34 := hid (Kc_r.out.keep b)
      have Lpl_34 := hid (Lpl_r.out.keep b)
      have Kpl_34 := hid (Kpl_r.out.keep b)
      have Kq_34 := hid (Kq.out.keep b)
      have Lq_34 := hid (Lq.out.keep b)
      have X_34 := hid (bx_call X_r.out b)
      clear CC b ka0 ka1 ka2 kb0 kb1 kb2 kc0 kc1 kc2 kpl0 kpl1 kpl2 kq0 kq1 kq2 Va_r Ka_r Vb_r Kb_r Vc_r Kc_r Lpl_r Kpl_r Kq Lq X_r
      obtain ⟨ka0, ka1, ka2⟩ := blk_three Ka_34.out
      obtain ⟨kb0, kb1, kb2⟩ := blk_three Kb_34.out
      obtain ⟨kc0, kc1, kc2⟩ := blk_three Kc_34.out
      obtain ⟨kpl0, kpl1, kpl2⟩ := blk_three Kpl_34.out
      obtain ⟨kq0, kq1, kq2⟩ := blk_three Kq_34.out
      have cc := vsame (Lq_34.out) (Lpl_34.out)
      rw [decide_eq_true (show qd = za + 0 from EQ.out)] at cc
      have CC := hid cc
      clear cc
      go_wp2_with fail
      refine (CC.out).mono ?_
      rintro e w35 ⟨rfl, b⟩
      have Va_35 := hid (Va_34.out.keep b)
      have Ka_35 := hid (Ka_34.out.keep b)
      have Vb_35 := hid (Vb_34.out.keep b)
      have Kb_35 := hid (Kb_34.out.keep b)
      have Vc_35 := hid (Vc_34.out.keep b)
      have Kc_35 := hid (Kc_34.out.keep b)
      have Lpl_35 := hid (Lpl_34.out.keep b)
      have Kpl_35 := hid (Kpl_34.out.keep b)
      have Kq_35 := hid (Kq_34.out.keep b)
      have Lq_35 := hid (Lq_34.out.keep b)
      have X_35 := hid (bx_call X_34.out b)
      clear CC b ka0 ka1 ka2 kb0 kb1 kb2 kc0 kc1 kc2 kpl0 kpl1 kpl2 kq0 kq1 kq2 Va_34 Ka_34 Vb_34 Kb_34 Vc_34 Kc_34 Lpl_34 Kpl_34 Kq_34 Lq_34 X_34
      go_wp2_with fail
      go_ret
      exact ⟨rfl, X_35.out⟩
  · have hF := decide_eq_false hf
    clear hf
    go_enter Try.func12, Try.ntmps12
    go_wp2_with fail
    refine (qawake_any _).mono ?_
    rintro e w1 ⟨rfl, b⟩
    have Ra_1 := hid (Ra.out.keep b)
    have Sa_1 := hid (Sa.out.keep b)
    have Ka_1 := hid (Ka.out.keep b)
    have Rb_1 := hid (Rb.out.keep b)
    have Sb_1 := hid (Sb.out.keep b)
    have Kb_1 := hid (Kb.out.keep b)
    have Rc_1 := hid (Rc.out.keep b)
    have Sc_1 := hid (Sc.out.keep b)
    have Kc_1 := hid (Kc.out.keep b)
    have X_1 := hid (bx_call X.out b)
    clear b X Ra Sa Ka Rb Sb Kb Rc Sc Kc
    obtain ⟨ka0, ka1, ka2⟩ := blk_three Ka_1.out
    obtain ⟨kb0, kb1, kb2⟩ := blk_three Kb_1.out
    obtain ⟨kc0, kc1, kc2⟩ := blk_three Kc_1.out
    have cc := qfew3 (k := 4) (by omega) (Blk.new w1 [.bool ga, .slice Aa na ca, .slice Da ma da, .bool gb, .slice Ab nb cb, .slice Db mb db, .bool gc, .slice Ac nc cc, .slice Dc mc dc] 50) (by omega) (by omega) (by omega) (by omega) (by omega) (by omega)
    rw [hF] at cc
    have CC := hid cc
    clear cc hF
    go_wp2_with fail
    refine (CC.out).mono ?_
    rintro e w2 ⟨rfl, b0⟩
    have X_2 := hid (bx_call X_1.out (bx_call (bx_alloc (bx_refl w1) (.cells #[.bool ga, .slice Aa na ca, .slice Da ma da, .bool gb, .slice Ab nb cb, .slice Db mb db, .bool gc, .slice Ac nc cc, .slice Dc mc dc] 50)) b0))
    clear CC b0 X_1
    go_wp2_with fail
    refine (qawake_any _).mono ?_
    rintro e w3 ⟨rfl, b⟩
    have X_3 := hid (bx_call X_2.out b)
    clear X_2 b
    go_wp2_with fail
    go_ret
    exact ⟨rfl, X_3.out⟩

end Go.Proofs.Ytcbbacnhnaopmaa
