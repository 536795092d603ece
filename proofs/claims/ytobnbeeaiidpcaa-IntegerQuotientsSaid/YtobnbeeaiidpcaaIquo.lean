/- The closure of IntegerQuotients. -/
import Derived.Test.YtobnbeeaiidpcaaIaid
namespace Go.Proofs.Ytobnbeeaiidpcaa
open Go.RowKit

theorem rivalid_true (z : Int) (A : Option Addr) (n c : Nat) (w : World) (h : Rd w A n c (dg z.natAbs)) :
    Calls Try.prog 23 #[.agg #[.bool (sg z), .slice A n c]] w (RetB w true) := by
  have t := rivalid_any (sg z) A n c _ w h
  have e : (fullB (dg z.natAbs) && !(sg z && decide (n = 0))) = true := by
    rw [fullB_dg]
    have h1 := h.1
    by_cases hn : n = 0
    · have : z.natAbs = 0 := dg_nil_iff.1 (List.eq_nil_of_length_eq_zero (by omega))
      have hz : sg z = false := by unfold sg; exact decide_eq_false (by omega)
      rw [hz]; rfl
    · rw [decide_eq_false hn, Bool.and_false]; rfl
  rwa [e] at t
theorem mag_lt {z y : Int} {ys : List Nat} {g : Bool} (hy : iv g ys = y) (h : z.natAbs < y.natAbs) : cmpN (val (dg z.natAbs)) (val ys) = -1 := by
  rw [← hy, iv_natAbs] at h
  rw [val_dg]
  unfold cmpN
  rw [if_pos h]
/-- What right asks of a quotient and a remainder. -/
def RightB (x y z1 z2 v : Int) : Prop := z1 * y + z2 = x ∧ z2.natAbs < y.natAbs ∧ (z2 = 0 ∨ (z2 ≠ 0 ∧ sgnZ z2 = v))
theorem sgnZ_ne {z : Int} (h : z ≠ 0) : sgnZ z ≠ 0 := by
  unfold sgnZ
  split
  · omega
  · rw [if_pos (by omega)]; omega

theorem sz_rd {w : World} {z : Int} {A : Option Addr} {n c k : Nat} (h : Rd w A n c (dg z.natAbs)) (hn : n ≤ k) : sz k z := by
  have h1 := dg_len_lt z.natAbs
  rw [h.1] at h1
  exact Nat.lt_of_lt_of_le h1 (Nat.pow_le_pow_right (by omega) hn)

set_option maxRecDepth 100000 in
set_option maxHeartbeats 4000000 in
theorem iright_zero (z1 : Int) (Aq : Option Addr) (nq cq : Nat) (z2 : Int) (Ar : Option Addr) (nr cr : Nat) (v : Int) (ga : Bool) (Aa : Option Addr) (na ca : Nat) (xsa : List Nat) (gb : Bool) (Ab : Option Addr) (nb cb : Nat) (xsb : List Nat) (a0 b0 : Nat) (w : World)
    (hq : Rd w Aq nq cq (dg z1.natAbs)) (hr : Rd w Ar nr cr (dg z2.natAbs)) (ha : Rd w Aa na ca xsa) (hb : Rd w Ab nb cb xsb) (ka : Blk w a0 [.bool ga, .slice Aa na ca] 25) (kb : Blk w b0 [.bool gb, .slice Ab nb cb] 25)
    (lq : nq ≤ 100) (lr : nr ≤ 100) (la : na ≤ 100) (lb : nb ≤ 100) (e1 : z1 * iv gb xsb + z2 = iv ga xsa) (e2 : z2.natAbs < (iv gb xsb).natAbs) (e3 : z2 = 0) :
    Calls Try.prog 42 #[.agg #[.bool (sg z1), .slice Aq nq cq], .agg #[.bool (sg z2), .slice Ar nr cr], .int .i64 v, .pointer (some ⟨b0, 0, none⟩), .pointer (some ⟨a0, 0, none⟩)] w (RetB w true) := by
  have bx : Below w.heap.size w ((w.alloc (.cells #[.bool (sg z1), .slice Aq nq cq] 25)).alloc (.cells #[.bool (sg z2), .slice Ar nr cr] 25)) := bx_alloc (bx_alloc (bx_refl w) _) _
  have X := hid bx
  have Ra := hid (ha.keep bx)
  have Rb := hid (hb.keep bx)
  have Rq := hid (hq.keep bx)
  have Rr := hid (hr.keep bx)
  have Ka := hid (ka.keep bx)
  have Kb := hid (kb.keep bx)
  have Kq : Hid (Blk ((w.alloc (.cells #[.bool (sg z1), .slice Aq nq cq] 25)).alloc (.cells #[.bool (sg z2), .slice Ar nr cr] 25)) w.heap.size [.bool (sg z1), .slice Aq nq cq] 25) := hid ((Blk.new w [.bool (sg z1), .slice Aq nq cq] 25).alloc _)
  have Kr : Hid (Blk ((w.alloc (.cells #[.bool (sg z1), .slice Aq nq cq] 25)).alloc (.cells #[.bool (sg z2), .slice Ar nr cr] 25)) (w.heap.size + 1) [.bool (sg z2), .slice Ar nr cr] 25) := hid (blk_new1 w _ [.bool (sg z2), .slice Ar nr cr] 25)
  have E1 := hid e1
  have E2 := hid (mag_lt rfl e2)
  have E3 := hid (show sgnZ z2 = 0 from by rw [e3]; rfl)
  
  have q1 := hq.2.1
  have q2 := hq.2.2.1
  have r1 := hr.2.1
  have r2 := hr.2.2.1
  have a1 := ha.2.1
  have a2 := ha.2.2.1
  have b1 := hb.2.1
  have b2 := hb.2.2.1
  have SQ := hid (sz_rd hq lq)
  have SR := hid (sz_rd hr lr)
  have SA := hid (sz_iv (g := ga) ha la)
  have SB := hid (sz_iv (g := gb) hb lb)
  clear bx hq hr ha hb ka kb e1 e2 e3
  obtain ⟨W0, hW0⟩ : ∃ W, W = (w.alloc (.cells #[.bool (sg z1), .slice Aq nq cq] 25)).alloc (.cells #[.bool (sg z2), .slice Ar nr cr] 25) := ⟨_, rfl⟩
  go_enter Try.func42, Try.ntmps42
  go_upto_region 1 with fail
  rw [← hW0] at X Ra Rb Rq Rr Ka Kb Kq Kr ⊢
  clear hW0
  refine wp_region_noPanic ?_
  refine wp_region_held_drew (S := (fun W => (W.cell? ⟨a0, 0, none⟩ = some (.bool ga) ∧ W.cell? ⟨a0, 1, none⟩ = some (.slice Aa na ca)) ∧ (W.cell? ⟨b0, 0, none⟩ = some (.bool gb) ∧ W.cell? ⟨b0, 1, none⟩ = some (.slice Ab nb cb)) ∧ (W.cell? ⟨w.heap.size, 0, none⟩ = some (.bool (sg z1)) ∧ W.cell? ⟨w.heap.size, 1, none⟩ = some (.slice Aq nq cq)) ∧ (W.cell? ⟨w.heap.size + 1, 0, none⟩ = some (.bool (sg z2)) ∧ W.cell? ⟨w.heap.size + 1, 1, none⟩ = some (.slice Ar nr cr)))) (by kernel_rfl) ?_ (fun hH => ?_)
  exact ⟨blk_two Ka.out, blk_two Kb.out, blk_two Kq.out, blk_two Kr.out⟩
  refine wpAnyH_take (i := 0) (v := ?_) (by simp only [gx0, gx2]; rfl) (by kernel_rfl) (by kernel_rfl) (by kernel_rfl) (fun _ _ _ h => h) (.inl ⟨by rfl, ?_⟩) hH ?_
  rotate_left
  · intro w hSw; (try dsimp only at hSw); first | (go_simp; done) | (go_simp; with_reducible rfl)
  (try simp only [Act.put, gy0, gy1, gy2])
  have bd := bx_drew (bx_refl W0)
  obtain ⟨W0, hW0⟩ : ∃ W, W = W0.drew := ⟨_, rfl⟩
  rw [← hW0] at bd hH ⊢
  clear hW0
  have Ra_0 := hid (Ra.out.keep bd)
  have Rb_0 := hid (Rb.out.keep bd)
  have Rq_0 := hid (Rq.out.keep bd)
  have Rr_0 := hid (Rr.out.keep bd)
  have BW_0 := hid bd
  clear bd
  refine wpAnyH_ready (rs := [1]) (by kernel_rfl) (by simp) ?_
  refine AllReadyH.cons (by simp only [gx0, gx1, gx2]; rfl) (fun K hK => ?_) ?_
  go_simp
  have cc := rivalid_true z1 Aq nq cq W0 Rq_0.out
  refine cc.mono ?_
  rintro e W1 ⟨rfl, b⟩
  clear cc
  have Ra_1 := hid (Ra_0.out.keep b)
  have Rb_1 := hid (Rb_0.out.keep b)
  have Rq_1 := hid (Rq_0.out.keep b)
  have Rr_1 := hid (Rr_0.out.keep b)
  have BW_1 := hid (bx_call BW_0.out b)
  clear Ra_0 Rb_0 Rq_0 Rr_0 BW_0
  have H2 := And.intro (And.intro (cell_bx hH.1.1 b) (cell_bx hH.1.2 b)) (And.intro (And.intro (cell_bx hH.2.1.1 b) (cell_bx hH.2.1.2 b)) (And.intro (And.intro (cell_bx hH.2.2.1.1 b) (cell_bx hH.2.2.1.2 b)) (And.intro (cell_bx hH.2.2.2.1 b) (cell_bx hH.2.2.2.2 b))))
  clear hH b
  (try go_wp2_with fail)
  refine hK.out _ _ ?_ (fun hH => ?_)
  exact H2
  clear hK K H2
  (try simp only [Act.put, gy0, gy1, gy2])
  refine wpAnyH_take (i := 2) (v := ?_) (by simp only [gx0, gx1, gx2]; rfl) (by kernel_rfl) (by kernel_rfl) (by kernel_rfl) (fun _ _ _ h => h) (.inl ⟨by rfl, ?_⟩) hH ?_
  rotate_left
  · intro w hSw; (try dsimp only at hSw); first | (go_simp; done) | (go_simp; with_reducible rfl)
  (try simp only [Act.put, gy0, gy1, gy2])
  refine wpAnyH_take (i := 3) (v := ?_) (by simp only [gx0, gx1, gx2]; rfl) (by kernel_rfl) (by kernel_rfl) (by kernel_rfl) (fun _ _ _ h => h) (.inl ⟨by rfl, ?_⟩) hH ?_
  rotate_left
  · intro w hSw; (try dsimp only at hSw); first | (go_simp; done) | (go_simp; with_reducible rfl)
  (try simp only [Act.put, gy0, gy1, gy2])
  refine wpAnyH_ready (rs := [4]) (by kernel_rfl) (by simp) ?_
  refine AllReadyH.cons (by simp only [gx0, gx1, gx2]; rfl) (fun K hK => ?_) ?_
  go_simp
  have cc := rivalid_true z2 Ar nr cr W1 Rr_1.out
  refine cc.mono ?_
  rintro e W2 ⟨rfl, b⟩
  clear cc
  have Ra_2 := hid (Ra_1.out.keep b)
  have Rb_2 := hid (Rb_1.out.keep b)
  have Rq_2 := hid (Rq_1.out.keep b)
  have Rr_2 := hid (Rr_1.out.keep b)
  have BW_2 := hid (bx_call BW_1.out b)
  clear Ra_1 Rb_1 Rq_1 Rr_1 BW_1
  have H2 := And.intro (And.intro (cell_bx hH.1.1 b) (cell_bx hH.1.2 b)) (And.intro (And.intro (cell_bx hH.2.1.1 b) (cell_bx hH.2.1.2 b)) (And.intro (And.intro (cell_bx hH.2.2.1.1 b) (cell_bx hH.2.2.1.2 b)) (And.intro (cell_bx hH.2.2.2.1 b) (cell_bx hH.2.2.2.2 b))))
  clear hH b
  (try go_wp2_with fail)
  refine hK.out _ _ ?_ (fun hH => ?_)
  exact H2
  clear hK K H2
  (try simp only [Act.put, gy0, gy1, gy2])
  refine wpAnyH_take (i := 5) (v := ?_) (by simp only [gx0, gx1, gx2]; rfl) (by kernel_rfl) (by kernel_rfl) (by kernel_rfl) (fun _ _ _ h => h) (.inl ⟨by rfl, ?_⟩) hH ?_
  rotate_left
  · intro w hSw; (try dsimp only at hSw); first | (go_simp; done) | (go_simp; with_reducible rfl)
  (try simp only [Act.put, gy0, gy1, gy2])
  refine wpAnyH_take (i := 6) (v := ?_) (by simp only [gx0, gx1, gx2]; rfl) (by kernel_rfl) (by kernel_rfl) (by kernel_rfl) (fun _ _ _ h => h) (.inl ⟨by rfl, ?_⟩) hH ?_
  rotate_left
  · intro w hSw; (try dsimp only at hSw); first | (go_simp; done) | (go_simp; with_reducible rfl)
  (try simp only [Act.put, gy0, gy1, gy2])
  refine wpAnyH_take (i := 7) (v := ?_) (by simp only [gx0, gx1, gx2]; rfl) (by kernel_rfl) (by kernel_rfl) (by kernel_rfl) (fun _ _ _ h => h) (.inl ⟨by rfl, ?_⟩) hH ?_
  rotate_left
  · intro w hSw; (try dsimp only at hSw); first | (go_simp; done) | (go_simp; with_reducible rfl)
  (try simp only [Act.put, gy0, gy1, gy2])
  refine wpAnyH_take (i := 8) (v := ?_) (by simp only [gx0, gx1, gx2]; rfl) (by kernel_rfl) (by kernel_rfl) (by kernel_rfl) (fun _ _ _ h => h) (.inl ⟨by rfl, ?_⟩) hH ?_
  rotate_left
  · intro w hSw; (try dsimp only at hSw); first | (go_simp; done) | (go_simp; with_reducible rfl)
  (try simp only [Act.put, gy0, gy1, gy2])
  refine wpAnyH_take (i := 10) (v := ?_) (by simp only [gx0, gx1, gx2]; rfl) (by kernel_rfl) (by kernel_rfl) (by kernel_rfl) (fun _ _ _ h => h) (.inl ⟨by rfl, ?_⟩) hH ?_
  rotate_left
  · intro w hSw; (try dsimp only at hSw); first | (go_simp; done) | (go_simp; with_reducible rfl)
  (try simp only [Act.put, gy0, gy1, gy2])
  refine wpAnyH_take (i := 12) (v := ?_) (by simp only [gx0, gx1, gx2]; rfl) (by kernel_rfl) (by kernel_rfl) (by kernel_rfl) (fun _ _ _ h => h) (.inl ⟨by rfl, ?_⟩) hH ?_
  rotate_left
  · intro w hSw; (try dsimp only at hSw); first | (go_simp; done) | (go_simp; with_reducible rfl)
  (try simp only [Act.put, gy0, gy1, gy2])
  refine wpAnyH_ready (rs := [9]) (by kernel_rfl) (by simp) ?_
  refine AllReadyH.cons (by simp only [gx0, gx1, gx2]; rfl) (fun K hK => ?_) ?_
  go_simp
  have cc := rimul_any (sg z1) Aq nq cq _ gb Ab nb cb _ W2 Rq_2.out (by omega) Rb_2.out (by omega)
  (try simp only [iv_sg] at cc)
  refine cc.mono ?_
  rintro e W3 ⟨Am, nm, cm, rfl, r, b⟩
  clear cc
  have lm : nm ≤ 200 := (by rw [← r.1]; exact sz_len (sz_mul SQ.out SB.out))
  have Rm := hid r
  clear r
  have Ra_3 := hid (Ra_2.out.keep b)
  have Rb_3 := hid (Rb_2.out.keep b)
  have Rq_3 := hid (Rq_2.out.keep b)
  have Rr_3 := hid (Rr_2.out.keep b)
  have BW_3 := hid (bx_call BW_2.out b)
  clear Ra_2 Rb_2 Rq_2 Rr_2 BW_2
  have H2 := And.intro (And.intro (cell_bx hH.1.1 b) (cell_bx hH.1.2 b)) (And.intro (And.intro (cell_bx hH.2.1.1 b) (cell_bx hH.2.1.2 b)) (And.intro (And.intro (cell_bx hH.2.2.1.1 b) (cell_bx hH.2.2.1.2 b)) (And.intro (cell_bx hH.2.2.2.1 b) (cell_bx hH.2.2.2.2 b))))
  clear hH b
  (try go_wp2_with fail)
  refine hK.out _ _ ?_ (fun hH => ?_)
  exact H2
  clear hK K H2
  (try simp only [Act.put, gy0, gy1, gy2])
  refine wpAnyH_ready (rs := [11]) (by kernel_rfl) (by simp) ?_
  refine AllReadyH.cons (by simp only [gx0, gx1, gx2]; rfl) (fun K hK => ?_) ?_
  go_simp
  have cc := riadd_any (sg (z1 * iv gb xsb)) Am nm cm _ (sg z2) Ar nr cr _ W3 Rm.out (by omega) Rr_3.out (by omega)
  (try simp only [iv_sg] at cc)
  refine cc.mono ?_
  rintro e W4 ⟨As, ns, cs, rfl, r, b⟩
  clear cc
  have ls : ns ≤ 201 := (by rw [← r.1]; exact sz_len (sz_add (sz_mul SQ.out SB.out) (sz_up SR.out (by omega))))
  have Rs := hid r
  clear r
  have Ra_4 := hid (Ra_3.out.keep b)
  have Rb_4 := hid (Rb_3.out.keep b)
  have Rq_4 := hid (Rq_3.out.keep b)
  have Rr_4 := hid (Rr_3.out.keep b)
  have Rm_4 := hid (Rm.out.keep b)
  have BW_4 := hid (bx_call BW_3.out b)
  clear Ra_3 Rb_3 Rq_3 Rr_3 Rm BW_3
  have H2 := And.intro (And.intro (cell_bx hH.1.1 b) (cell_bx hH.1.2 b)) (And.intro (And.intro (cell_bx hH.2.1.1 b) (cell_bx hH.2.1.2 b)) (And.intro (And.intro (cell_bx hH.2.2.1.1 b) (cell_bx hH.2.2.1.2 b)) (And.intro (cell_bx hH.2.2.2.1 b) (cell_bx hH.2.2.2.2 b))))
  clear hH b
  (try go_wp2_with fail)
  refine hK.out _ _ ?_ (fun hH => ?_)
  exact H2
  clear hK K H2
  (try simp only [Act.put, gy0, gy1, gy2])
  refine wpAnyH_ready (rs := [13]) (by kernel_rfl) (by simp) ?_
  refine AllReadyH.cons (by simp only [gx0, gx1, gx2]; rfl) (fun K hK => ?_) ?_
  go_simp
  have cc := rfix_any ga Aa na ca _ W4 Ra_4.out (by omega)
  refine cc.mono ?_
  rintro e W5 ⟨Af, nf, cf, rfl, r, b⟩
  clear cc
  have lf : nf ≤ 100 := (by rw [← r.1]; exact sz_len (SA.out))
  have Rf := hid r
  clear r
  have Ra_5 := hid (Ra_4.out.keep b)
  have Rb_5 := hid (Rb_4.out.keep b)
  have Rq_5 := hid (Rq_4.out.keep b)
  have Rr_5 := hid (Rr_4.out.keep b)
  have Rm_5 := hid (Rm_4.out.keep b)
  have Rs_5 := hid (Rs.out.keep b)
  have BW_5 := hid (bx_call BW_4.out b)
  clear Ra_4 Rb_4 Rq_4 Rr_4 Rm_4 Rs BW_4
  have H2 := And.intro (And.intro (cell_bx hH.1.1 b) (cell_bx hH.1.2 b)) (And.intro (And.intro (cell_bx hH.2.1.1 b) (cell_bx hH.2.1.2 b)) (And.intro (And.intro (cell_bx hH.2.2.1.1 b) (cell_bx hH.2.2.1.2 b)) (And.intro (cell_bx hH.2.2.2.1 b) (cell_bx hH.2.2.2.2 b))))
  clear hH b
  (try go_wp2_with fail)
  refine hK.out _ _ ?_ (fun hH => ?_)
  exact H2
  clear hK K H2
  (try simp only [Act.put, gy0, gy1, gy2])
  refine wpAnyH_ready (rs := [14]) (by kernel_rfl) (by simp) ?_
  refine AllReadyH.cons (by simp only [gx0, gx1, gx2]; rfl) (fun K hK => ?_) ?_
  go_simp
  have cc := risame_eq As ns cs Af nf cf W5 Rs_5.out Rf.out E1.out
  refine cc.mono ?_
  rintro e W6 ⟨rfl, b⟩
  clear cc
  have Ra_6 := hid (Ra_5.out.keep b)
  have Rb_6 := hid (Rb_5.out.keep b)
  have Rq_6 := hid (Rq_5.out.keep b)
  have Rr_6 := hid (Rr_5.out.keep b)
  have Rm_6 := hid (Rm_5.out.keep b)
  have Rs_6 := hid (Rs_5.out.keep b)
  have Rf_6 := hid (Rf.out.keep b)
  have BW_6 := hid (bx_call BW_5.out b)
  clear Ra_5 Rb_5 Rq_5 Rr_5 Rm_5 Rs_5 Rf BW_5
  have H2 := And.intro (And.intro (cell_bx hH.1.1 b) (cell_bx hH.1.2 b)) (And.intro (And.intro (cell_bx hH.2.1.1 b) (cell_bx hH.2.1.2 b)) (And.intro (And.intro (cell_bx hH.2.2.1.1 b) (cell_bx hH.2.2.1.2 b)) (And.intro (cell_bx hH.2.2.2.1 b) (cell_bx hH.2.2.2.2 b))))
  clear hH b
  (try go_wp2_with fail)
  refine hK.out _ _ ?_ (fun hH => ?_)
  exact H2
  clear hK K H2
  (try simp only [Act.put, gy0, gy1, gy2])
  refine wpAnyH_take (i := 15) (v := ?_) (by simp only [gx0, gx1, gx2]; rfl) (by kernel_rfl) (by kernel_rfl) (by kernel_rfl) (fun _ _ _ h => h) (.inl ⟨by rfl, ?_⟩) hH ?_
  rotate_left
  · intro w hSw; (try dsimp only at hSw); first | (go_simp; done) | (go_simp; with_reducible rfl)
  (try simp only [Act.put, gy0, gy1, gy2])
  refine wpAnyH_take (i := 16) (v := ?_) (by simp only [gx0, gx1, gx2]; rfl) (by kernel_rfl) (by kernel_rfl) (by kernel_rfl) (fun _ _ _ h => h) (.inl ⟨by rfl, ?_⟩) hH ?_
  rotate_left
  · intro w hSw; (try dsimp only at hSw); first | (go_simp; done) | (go_simp; with_reducible rfl)
  (try simp only [Act.put, gy0, gy1, gy2])
  refine wpAnyH_take (i := 17) (v := ?_) (by simp only [gx0, gx1, gx2]; rfl) (by kernel_rfl) (by kernel_rfl) (by kernel_rfl) (fun _ _ _ h => h) (.inl ⟨by rfl, ?_⟩) hH ?_
  rotate_left
  · intro w hSw; (try dsimp only at hSw); first | (go_simp; done) | (go_simp; with_reducible rfl)
  (try simp only [Act.put, gy0, gy1, gy2])
  refine wpAnyH_take (i := 18) (v := ?_) (by simp only [gx0, gx1, gx2]; rfl) (by kernel_rfl) (by kernel_rfl) (by kernel_rfl) (fun _ _ _ h => h) (.inl ⟨by rfl, ?_⟩) hH ?_
  rotate_left
  · intro w hSw; (try dsimp only at hSw); first | (go_simp; done) | (go_simp; with_reducible rfl)
  (try simp only [Act.put, gy0, gy1, gy2])
  refine wpAnyH_take (i := 19) (v := ?_) (by simp only [gx0, gx1, gx2]; rfl) (by kernel_rfl) (by kernel_rfl) (by kernel_rfl) (fun _ _ _ h => h) (.inl ⟨by rfl, ?_⟩) hH ?_
  rotate_left
  · intro w hSw; (try dsimp only at hSw); first | (go_simp; done) | (go_simp; with_reducible rfl)
  (try simp only [Act.put, gy0, gy1, gy2])
  refine wpAnyH_take (i := 20) (v := ?_) (by simp only [gx0, gx1, gx2]; rfl) (by kernel_rfl) (by kernel_rfl) (by kernel_rfl) (fun _ _ _ h => h) (.inl ⟨by rfl, ?_⟩) hH ?_
  rotate_left
  · intro w hSw; (try dsimp only at hSw); first | (go_simp; done) | (go_simp; with_reducible rfl)
  (try simp only [Act.put, gy0, gy1, gy2])
  refine wpAnyH_ready (rs := [21]) (by kernel_rfl) (by simp) ?_
  refine AllReadyH.cons (by simp only [gx0, gx1, gx2]; rfl) (fun K hK => ?_) ?_
  go_simp
  have cc := rcmp_any Ar Ab nr cr nb cb _ _ W6 Rr_6.out Rb_6.out (by omega) (by omega)
  rw [E2.out] at cc
  refine cc.mono ?_
  rintro e W7 ⟨rfl, b⟩
  clear cc
  have Ra_7 := hid (Ra_6.out.keep b)
  have Rb_7 := hid (Rb_6.out.keep b)
  have Rq_7 := hid (Rq_6.out.keep b)
  have Rr_7 := hid (Rr_6.out.keep b)
  have Rm_7 := hid (Rm_6.out.keep b)
  have Rs_7 := hid (Rs_6.out.keep b)
  have Rf_7 := hid (Rf_6.out.keep b)
  have BW_7 := hid (bx_call BW_6.out b)
  clear Ra_6 Rb_6 Rq_6 Rr_6 Rm_6 Rs_6 Rf_6 BW_6
  have H2 := And.intro (And.intro (cell_bx hH.1.1 b) (cell_bx hH.1.2 b)) (And.intro (And.intro (cell_bx hH.2.1.1 b) (cell_bx hH.2.1.2 b)) (And.intro (And.intro (cell_bx hH.2.2.1.1 b) (cell_bx hH.2.2.1.2 b)) (And.intro (cell_bx hH.2.2.2.1 b) (cell_bx hH.2.2.2.2 b))))
  clear hH b
  (try go_wp2_with fail)
  refine hK.out _ _ ?_ (fun hH => ?_)
  exact H2
  clear hK K H2
  (try simp only [Act.put, gy0, gy1, gy2])
  refine wpAnyH_take (i := 22) (v := ?_) (by simp only [gx0, gx1, gx2]; rfl) (by kernel_rfl) (by kernel_rfl) (by kernel_rfl) (fun _ _ _ h => h) (.inl ⟨by rfl, ?_⟩) hH ?_
  rotate_left
  · intro w hSw; (try dsimp only at hSw); first | (go_simp; done) | (go_simp; with_reducible rfl)
  (try simp only [Act.put, gy0, gy1, gy2])
  refine wpAnyH_take (i := 23) (v := ?_) (by simp only [gx0, gx1, gx2]; rfl) (by kernel_rfl) (by kernel_rfl) (by kernel_rfl) (fun _ _ _ h => h) (.inl ⟨by rfl, ?_⟩) hH ?_
  rotate_left
  · intro w hSw; (try dsimp only at hSw); first | (go_simp; done) | (go_simp; with_reducible rfl)
  (try simp only [Act.put, gy0, gy1, gy2])
  refine wpAnyH_take (i := 24) (v := ?_) (by simp only [gx0, gx1, gx2]; rfl) (by kernel_rfl) (by kernel_rfl) (by kernel_rfl) (fun _ _ _ h => h) (.inl ⟨by rfl, ?_⟩) hH ?_
  rotate_left
  · intro w hSw; (try dsimp only at hSw); first | (go_simp; done) | (go_simp; with_reducible rfl)
  (try simp only [Act.put, gy0, gy1, gy2])
  refine wpAnyH_take (i := 25) (v := ?_) (by simp only [gx0, gx1, gx2]; rfl) (by kernel_rfl) (by kernel_rfl) (by kernel_rfl) (fun _ _ _ h => h) (.inl ⟨by rfl, ?_⟩) hH ?_
  rotate_left
  · intro w hSw; (try dsimp only at hSw); first | (go_simp; done) | (go_simp; with_reducible rfl)
  (try simp only [Act.put, gy0, gy1, gy2])
  refine wpAnyH_ready (rs := [26]) (by kernel_rfl) (by simp) ?_
  refine AllReadyH.cons (by simp only [gx0, gx1, gx2]; rfl) (fun K hK => ?_) ?_
  go_simp
  have cc := risign_any (sg z2) Ar nr cr _ W7 Rr_7.out (by omega)
  rw [iv_sg, E3.out] at cc
  refine cc.mono ?_
  rintro e W8 ⟨rfl, b⟩
  clear cc
  have Ra_8 := hid (Ra_7.out.keep b)
  have Rb_8 := hid (Rb_7.out.keep b)
  have Rq_8 := hid (Rq_7.out.keep b)
  have Rr_8 := hid (Rr_7.out.keep b)
  have Rm_8 := hid (Rm_7.out.keep b)
  have Rs_8 := hid (Rs_7.out.keep b)
  have Rf_8 := hid (Rf_7.out.keep b)
  have BW_8 := hid (bx_call BW_7.out b)
  clear Ra_7 Rb_7 Rq_7 Rr_7 Rm_7 Rs_7 Rf_7 BW_7
  have H2 := And.intro (And.intro (cell_bx hH.1.1 b) (cell_bx hH.1.2 b)) (And.intro (And.intro (cell_bx hH.2.1.1 b) (cell_bx hH.2.1.2 b)) (And.intro (And.intro (cell_bx hH.2.2.1.1 b) (cell_bx hH.2.2.1.2 b)) (And.intro (cell_bx hH.2.2.2.1 b) (cell_bx hH.2.2.2.2 b))))
  clear hH b
  (try go_wp2_with fail)
  refine hK.out _ _ ?_ (fun hH => ?_)
  exact H2
  clear hK K H2
  (try simp only [Act.put, gy0, gy1, gy2])
  refine wpAnyH_take (i := 27) (v := ?_) (by simp only [gx0, gx1, gx2]; rfl) (by kernel_rfl) (by kernel_rfl) (by kernel_rfl) (fun _ _ _ h => h) (.inl ⟨by rfl, ?_⟩) hH ?_
  rotate_left
  · intro w hSw; (try dsimp only at hSw); first | (go_simp; done) | (go_simp; with_reducible rfl)
  (try simp only [Act.put, gy0, gy1, gy2])
  refine wpAnyH_take (i := 28) (v := ?_) (by simp only [gx0, gx1, gx2]; rfl) (by kernel_rfl) (by kernel_rfl) (by kernel_rfl) (fun _ _ _ h => h) (.inl ⟨by rfl, ?_⟩) hH ?_
  rotate_left
  · intro w hSw; (try dsimp only at hSw); first | (go_simp; done) | (go_simp; with_reducible rfl)
  (try simp only [Act.put, gy0, gy1, gy2])
  refine wpAnyH_take (i := 29) (v := undef) (by simp only [gx0, gx1, gx2]; rfl) (by kernel_rfl) (by kernel_rfl) (by kernel_rfl) (fun _ _ _ h => h) (.inr ⟨by rfl, rfl⟩) hH ?_
  (try simp only [Act.put, gy0, gy1, gy2])
  refine wpAnyH_take (i := 30) (v := undef) (by simp only [gx0, gx1, gx2]; rfl) (by kernel_rfl) (by kernel_rfl) (by kernel_rfl) (fun _ _ _ h => h) (.inr ⟨by rfl, rfl⟩) hH ?_
  (try simp only [Act.put, gy0, gy1, gy2])
  refine wpAnyH_take (i := 31) (v := undef) (by simp only [gx0, gx1, gx2]; rfl) (by kernel_rfl) (by kernel_rfl) (by kernel_rfl) (fun _ _ _ h => h) (.inr ⟨by rfl, rfl⟩) hH ?_
  (try simp only [Act.put, gy0, gy1, gy2])
  refine wpAnyH_take (i := 32) (v := undef) (by simp only [gx0, gx1, gx2]; rfl) (by kernel_rfl) (by kernel_rfl) (by kernel_rfl) (fun _ _ _ h => h) (.inr ⟨by rfl, rfl⟩) hH ?_
  (try simp only [Act.put, gy0, gy1, gy2])
  refine wpAnyH_take (i := 33) (v := ?_) (by simp only [gx0, gx1, gx2]; rfl) (by kernel_rfl) (by kernel_rfl) (by kernel_rfl) (fun _ _ _ h => h) (.inl ⟨by rfl, ?_⟩) hH ?_
  rotate_left
  · intro w hSw; (try dsimp only at hSw); first | (go_simp; done) | (go_simp; with_reducible rfl)
  (try simp only [Act.put, gy0, gy1, gy2])
  refine wpAnyH_take (i := 34) (v := ?_) (by simp only [gx0, gx1, gx2]; rfl) (by kernel_rfl) (by kernel_rfl) (by kernel_rfl) (fun _ _ _ h => h) (.inl ⟨by rfl, ?_⟩) hH ?_
  rotate_left
  · intro w hSw; (try dsimp only at hSw); first | (go_simp; done) | (go_simp; with_reducible rfl)
  (try simp only [Act.put, gy0, gy1, gy2])
  refine wpAnyH_take (i := 35) (v := ?_) (by simp only [gx0, gx1, gx2]; rfl) (by kernel_rfl) (by kernel_rfl) (by kernel_rfl) (fun _ _ _ h => h) (.inl ⟨by rfl, ?_⟩) hH ?_
  rotate_left
  · intro w hSw; (try dsimp only at hSw); first | (go_simp; done) | (go_simp; with_reducible rfl)
  (try simp only [Act.put, gy0, gy1, gy2])
  refine wpAnyH_done (by kernel_rfl) ?_ _
  refine NoPanic.normal ?_
  go_wp2_with fail
  go_ret
  exact ⟨rfl, bx_call X.out BW_8.out⟩
  exact AllReadyH.nil
  exact AllReadyH.nil
  exact AllReadyH.nil
  exact AllReadyH.nil
  exact AllReadyH.nil
  exact AllReadyH.nil
  exact AllReadyH.nil
  exact AllReadyH.nil

set_option maxRecDepth 100000 in
set_option maxHeartbeats 4000000 in
theorem iright_sign (z1 : Int) (Aq : Option Addr) (nq cq : Nat) (z2 : Int) (Ar : Option Addr) (nr cr : Nat) (v : Int) (ga : Bool) (Aa : Option Addr) (na ca : Nat) (xsa : List Nat) (gb : Bool) (Ab : Option Addr) (nb cb : Nat) (xsb : List Nat) (a0 b0 : Nat) (w : World)
    (hq : Rd w Aq nq cq (dg z1.natAbs)) (hr : Rd w Ar nr cr (dg z2.natAbs)) (ha : Rd w Aa na ca xsa) (hb : Rd w Ab nb cb xsb) (ka : Blk w a0 [.bool ga, .slice Aa na ca] 25) (kb : Blk w b0 [.bool gb, .slice Ab nb cb] 25)
    (lq : nq ≤ 100) (lr : nr ≤ 100) (la : na ≤ 100) (lb : nb ≤ 100) (e1 : z1 * iv gb xsb + z2 = iv ga xsa) (e2 : z2.natAbs < (iv gb xsb).natAbs) (e3 : z2 ≠ 0) (e4 : sgnZ z2 = v) :
    Calls Try.prog 42 #[.agg #[.bool (sg z1), .slice Aq nq cq], .agg #[.bool (sg z2), .slice Ar nr cr], .int .i64 v, .pointer (some ⟨b0, 0, none⟩), .pointer (some ⟨a0, 0, none⟩)] w (RetB w true) := by
  have bx : Below w.heap.size w ((w.alloc (.cells #[.bool (sg z1), .slice Aq nq cq] 25)).alloc (.cells #[.bool (sg z2), .slice Ar nr cr] 25)) := bx_alloc (bx_alloc (bx_refl w) _) _
  have X := hid bx
  have Ra := hid (ha.keep bx)
  have Rb := hid (hb.keep bx)
  have Rq := hid (hq.keep bx)
  have Rr := hid (hr.keep bx)
  have Ka := hid (ka.keep bx)
  have Kb := hid (kb.keep bx)
  have Kq : Hid (Blk ((w.alloc (.cells #[.bool (sg z1), .slice Aq nq cq] 25)).alloc (.cells #[.bool (sg z2), .slice Ar nr cr] 25)) w.heap.size [.bool (sg z1), .slice Aq nq cq] 25) := hid ((Blk.new w [.bool (sg z1), .slice Aq nq cq] 25).alloc _)
  have Kr : Hid (Blk ((w.alloc (.cells #[.bool (sg z1), .slice Aq nq cq] 25)).alloc (.cells #[.bool (sg z2), .slice Ar nr cr] 25)) (w.heap.size + 1) [.bool (sg z2), .slice Ar nr cr] 25) := hid (blk_new1 w _ [.bool (sg z2), .slice Ar nr cr] 25)
  have E1 := hid e1
  have E2 := hid (mag_lt rfl e2)
  have E3 := hid e4
  have v0 : (v == 0) = false := by rw [beq_eq_false_iff_ne, ← e4]; exact sgnZ_ne e3
  have q1 := hq.2.1
  have q2 := hq.2.2.1
  have r1 := hr.2.1
  have r2 := hr.2.2.1
  have a1 := ha.2.1
  have a2 := ha.2.2.1
  have b1 := hb.2.1
  have b2 := hb.2.2.1
  have SQ := hid (sz_rd hq lq)
  have SR := hid (sz_rd hr lr)
  have SA := hid (sz_iv (g := ga) ha la)
  have SB := hid (sz_iv (g := gb) hb lb)
  clear bx hq hr ha hb ka kb e1 e2 e3 e4
  obtain ⟨W0, hW0⟩ : ∃ W, W = (w.alloc (.cells #[.bool (sg z1), .slice Aq nq cq] 25)).alloc (.cells #[.bool (sg z2), .slice Ar nr cr] 25) := ⟨_, rfl⟩
  go_enter Try.func42, Try.ntmps42
  go_upto_region 1 with fail
  rw [← hW0] at X Ra Rb Rq Rr Ka Kb Kq Kr ⊢
  clear hW0
  obtain ⟨ka0, ka1⟩ := blk_two Ka.out
  obtain ⟨kb0, kb1⟩ := blk_two Kb.out
  obtain ⟨kq0, kq1⟩ := blk_two Kq.out
  obtain ⟨kr0, kr1⟩ := blk_two Kr.out
  first
  | (go_region_held3 (fun W => W.cell? ⟨a0, 0, none⟩ = some (.bool ga) ∧ W.cell? ⟨a0, 1, none⟩ = some (.slice Aa na ca) ∧ W.cell? ⟨b0, 0, none⟩ = some (.bool gb) ∧ W.cell? ⟨b0, 1, none⟩ = some (.slice Ab nb cb) ∧ W.cell? ⟨w.heap.size, 0, none⟩ = some (.bool (sg z1)) ∧ W.cell? ⟨w.heap.size, 1, none⟩ = some (.slice Aq nq cq) ∧ W.cell? ⟨w.heap.size + 1, 0, none⟩ = some (.bool (sg z2)) ∧ W.cell? ⟨w.heap.size + 1, 1, none⟩ = some (.slice Ar nr cr))
      (refine ⟨?_, ?_, ?_, ?_, ?_, ?_, ?_, ?_⟩ <;> repeat' (first | with_reducible assumption | with_reducible refine cell_dr ?_))
      (first
        | (go_at_call 27; have cc := risign_any (sg z2) Ar nr cr _ w8 Rr_8.out (by omega); rw [iv_sg, E3.out] at cc; refine cc.mono ?_; rintro e w9 ⟨rfl, b⟩; clear cc; have Ra_9 := hid (Ra_8.out.keep b); have Ka_9 := hid (Ka_8.out.keep b); have Rb_9 := hid (Rb_8.out.keep b); have Kb_9 := hid (Kb_8.out.keep b); have Rq_9 := hid (Rq_8.out.keep b); have Kq_9 := hid (Kq_8.out.keep b); have Rr_9 := hid (Rr_8.out.keep b); have Kr_9 := hid (Kr_8.out.keep b); have Rm_9 := hid (Rm_8.out.keep b); have Rs_9 := hid (Rs_8.out.keep b); have Rf_9 := hid (Rf_8.out.keep b); have X_9 := hid (bx_call X_8.out b); obtain ⟨ka0, ka1⟩ := blk_two Ka_9.out; obtain ⟨kb0, kb1⟩ := blk_two Kb_9.out; obtain ⟨kq0, kq1⟩ := blk_two Kq_9.out; obtain ⟨kr0, kr1⟩ := blk_two Kr_9.out; clear b Ra_8 Ka_8 Rb_8 Kb_8 Rq_8 Kq_8 Rr_8 Kr_8 Rm_8 Rs_8 Rf_8 X_8)
        | (go_at_call 27; have cc := risign_any (sg z2) Ar nr cr _ w7 Rr_7.out (by omega); rw [iv_sg, E3.out] at cc; refine cc.mono ?_; rintro e w8 ⟨rfl, b⟩; clear cc; have Ra_8 := hid (Ra_7.out.keep b); have Ka_8 := hid (Ka_7.out.keep b); have Rb_8 := hid (Rb_7.out.keep b); have Kb_8 := hid (Kb_7.out.keep b); have Rq_8 := hid (Rq_7.out.keep b); have Kq_8 := hid (Kq_7.out.keep b); have Rr_8 := hid (Rr_7.out.keep b); have Kr_8 := hid (Kr_7.out.keep b); have Rm_8 := hid (Rm_7.out.keep b); have Rs_8 := hid (Rs_7.out.keep b); have Rf_8 := hid (Rf_7.out.keep b); have X_8 := hid (bx_call X_7.out b); obtain ⟨ka0, ka1⟩ := blk_two Ka_8.out; obtain ⟨kb0, kb1⟩ := blk_two Kb_8.out; obtain ⟨kq0, kq1⟩ := blk_two Kq_8.out; obtain ⟨kr0, kr1⟩ := blk_two Kr_8.out; clear b Ra_7 Ka_7 Rb_7 Kb_7 Rq_7 Kq_7 Rr_7 Kr_7 Rm_7 Rs_7 Rf_7 X_7)
        | (go_at_call 44; have cc := rcmp_any Ar Ab nr cr nb cb _ _ w6 Rr_6.out Rb_6.out (by omega) (by omega); rw [E2.out] at cc; refine cc.mono ?_; rintro e w7 ⟨rfl, b⟩; clear cc; have Ra_7 := hid (Ra_6.out.keep b); have Ka_7 := hid (Ka_6.out.keep b); have Rb_7 := hid (Rb_6.out.keep b); have Kb_7 := hid (Kb_6.out.keep b); have Rq_7 := hid (Rq_6.out.keep b); have Kq_7 := hid (Kq_6.out.keep b); have Rr_7 := hid (Rr_6.out.keep b); have Kr_7 := hid (Kr_6.out.keep b); have Rm_7 := hid (Rm_6.out.keep b); have Rs_7 := hid (Rs_6.out.keep b); have Rf_7 := hid (Rf_6.out.keep b); have X_7 := hid (bx_call X_6.out b); obtain ⟨ka0, ka1⟩ := blk_two Ka_7.out; obtain ⟨kb0, kb1⟩ := blk_two Kb_7.out; obtain ⟨kq0, kq1⟩ := blk_two Kq_7.out; obtain ⟨kr0, kr1⟩ := blk_two Kr_7.out; clear b Ra_6 Ka_6 Rb_6 Kb_6 Rq_6 Kq_6 Rr_6 Kr_6 Rm_6 Rs_6 Rf_6 X_6)
        | (go_at_call 24; have cc := risame_eq As ns cs Af nf cf w5 Rs_5.out Rf.out E1.out; refine cc.mono ?_; rintro e w6 ⟨rfl, b⟩; clear cc; have Ra_6 := hid (Ra_5.out.keep b); have Ka_6 := hid (Ka_5.out.keep b); have Rb_6 := hid (Rb_5.out.keep b); have Kb_6 := hid (Kb_5.out.keep b); have Rq_6 := hid (Rq_5.out.keep b); have Kq_6 := hid (Kq_5.out.keep b); have Rr_6 := hid (Rr_5.out.keep b); have Kr_6 := hid (Kr_5.out.keep b); have Rm_6 := hid (Rm_5.out.keep b); have Rs_6 := hid (Rs_5.out.keep b); have Rf_6 := hid (Rf.out.keep b); have X_6 := hid (bx_call X_5.out b); obtain ⟨ka0, ka1⟩ := blk_two Ka_6.out; obtain ⟨kb0, kb1⟩ := blk_two Kb_6.out; obtain ⟨kq0, kq1⟩ := blk_two Kq_6.out; obtain ⟨kr0, kr1⟩ := blk_two Kr_6.out; clear b Ra_5 Ka_5 Rb_5 Kb_5 Rq_5 Kq_5 Rr_5 Kr_5 Rm_5 Rs_5 Rf X_5)
        | (go_at_call 43; have cc := rfix_any ga Aa na ca _ w4 (Ra_4.out) (by have := la; omega); refine cc.mono ?_; rintro e w5 ⟨Af, nf, cf, rfl, r, b⟩; clear cc; have lf : nf ≤ 100 := (by rw [← r.1]; exact sz_len (SA.out)); have Rf := hid r; clear r; have Ra_5 := hid (Ra_4.out.keep b); have Ka_5 := hid (Ka_4.out.keep b); have Rb_5 := hid (Rb_4.out.keep b); have Kb_5 := hid (Kb_4.out.keep b); have Rq_5 := hid (Rq_4.out.keep b); have Kq_5 := hid (Kq_4.out.keep b); have Rr_5 := hid (Rr_4.out.keep b); have Kr_5 := hid (Kr_4.out.keep b); have Rm_5 := hid (Rm_4.out.keep b); have Rs_5 := hid (Rs.out.keep b); have X_5 := hid (bx_call X_4.out b); obtain ⟨ka0, ka1⟩ := blk_two Ka_5.out; obtain ⟨kb0, kb1⟩ := blk_two Kb_5.out; obtain ⟨kq0, kq1⟩ := blk_two Kq_5.out; obtain ⟨kr0, kr1⟩ := blk_two Kr_5.out; clear b Ra_4 Ka_4 Rb_4 Kb_4 Rq_4 Kq_4 Rr_4 Kr_4 Rm_4 Rs X_4)
        | (go_at_call 35; have cc := riadd_any (sg (z1 * iv gb xsb)) Am nm cm _ (sg (z2)) Ar nr cr _ w3 (Rm.out) (by have := lm; omega) (Rr_3.out) (by have := lr; omega); (try simp only [iv_sg] at cc); refine cc.mono ?_; rintro e w4 ⟨As, ns, cs, rfl, r, b⟩; clear cc; have ls : ns ≤ 201 := (by rw [← r.1]; exact sz_len (sz_add (sz_mul (SQ.out) (SB.out)) (sz_up (SR.out) (by omega)))); have Rs := hid r; clear r; have Ra_4 := hid (Ra_3.out.keep b); have Ka_4 := hid (Ka_3.out.keep b); have Rb_4 := hid (Rb_3.out.keep b); have Kb_4 := hid (Kb_3.out.keep b); have Rq_4 := hid (Rq_3.out.keep b); have Kq_4 := hid (Kq_3.out.keep b); have Rr_4 := hid (Rr_3.out.keep b); have Kr_4 := hid (Kr_3.out.keep b); have Rm_4 := hid (Rm.out.keep b); have X_4 := hid (bx_call X_3.out b); obtain ⟨ka0, ka1⟩ := blk_two Ka_4.out; obtain ⟨kb0, kb1⟩ := blk_two Kb_4.out; obtain ⟨kq0, kq1⟩ := blk_two Kq_4.out; obtain ⟨kr0, kr1⟩ := blk_two Kr_4.out; clear b Ra_3 Ka_3 Rb_3 Kb_3 Rq_3 Kq_3 Rr_3 Kr_3 Rm X_3)
        | (go_at_call 39; have cc := rimul_any (sg (z1)) Aq nq cq _ gb Ab nb cb _ w2 (Rq_2.out) (by have := lq; omega) (Rb_2.out) (by have := lb; omega); (try simp only [iv_sg] at cc); refine cc.mono ?_; rintro e w3 ⟨Am, nm, cm, rfl, r, b⟩; clear cc; have lm : nm ≤ 200 := (by rw [← r.1]; exact sz_len (sz_mul (SQ.out) (SB.out))); have Rm := hid r; clear r; have Ra_3 := hid (Ra_2.out.keep b); have Ka_3 := hid (Ka_2.out.keep b); have Rb_3 := hid (Rb_2.out.keep b); have Kb_3 := hid (Kb_2.out.keep b); have Rq_3 := hid (Rq_2.out.keep b); have Kq_3 := hid (Kq_2.out.keep b); have Rr_3 := hid (Rr_2.out.keep b); have Kr_3 := hid (Kr_2.out.keep b); have X_3 := hid (bx_call X_2.out b); obtain ⟨ka0, ka1⟩ := blk_two Ka_3.out; obtain ⟨kb0, kb1⟩ := blk_two Kb_3.out; obtain ⟨kq0, kq1⟩ := blk_two Kq_3.out; obtain ⟨kr0, kr1⟩ := blk_two Kr_3.out; clear b Ra_2 Ka_2 Rb_2 Kb_2 Rq_2 Kq_2 Rr_2 Kr_2 X_2)
        | (go_at_call 23; have cc := rivalid_true z2 Ar nr cr w1 (Rr_1.out); refine cc.mono ?_; rintro e w2 ⟨rfl, b⟩; clear cc; have Ra_2 := hid (Ra_1.out.keep b); have Ka_2 := hid (Ka_1.out.keep b); have Rb_2 := hid (Rb_1.out.keep b); have Kb_2 := hid (Kb_1.out.keep b); have Rq_2 := hid (Rq_1.out.keep b); have Kq_2 := hid (Kq_1.out.keep b); have Rr_2 := hid (Rr_1.out.keep b); have Kr_2 := hid (Kr_1.out.keep b); have X_2 := hid (bx_call X_1.out b); obtain ⟨ka0, ka1⟩ := blk_two Ka_2.out; obtain ⟨kb0, kb1⟩ := blk_two Kb_2.out; obtain ⟨kq0, kq1⟩ := blk_two Kq_2.out; obtain ⟨kr0, kr1⟩ := blk_two Kr_2.out; clear b Ra_1 Ka_1 Rb_1 Kb_1 Rq_1 Kq_1 Rr_1 Kr_1 X_1)
        | (go_at_call 23; have cc := rivalid_true z1 Aq nq cq W0.drew (Rq.out.keep (bx_drew (bx_refl _))); refine cc.mono ?_; rintro e w1 ⟨rfl, b⟩; clear cc; have Ra_1 := hid (Ra.out.keep (bx_call (bx_drew (bx_refl _)) b)); have Ka_1 := hid (Ka.out.keep (bx_call (bx_drew (bx_refl _)) b)); have Rb_1 := hid (Rb.out.keep (bx_call (bx_drew (bx_refl _)) b)); have Kb_1 := hid (Kb.out.keep (bx_call (bx_drew (bx_refl _)) b)); have Rq_1 := hid (Rq.out.keep (bx_call (bx_drew (bx_refl _)) b)); have Kq_1 := hid (Kq.out.keep (bx_call (bx_drew (bx_refl _)) b)); have Rr_1 := hid (Rr.out.keep (bx_call (bx_drew (bx_refl _)) b)); have Kr_1 := hid (Kr.out.keep (bx_call (bx_drew (bx_refl _)) b)); have X_1 := hid (bx_call X.out (bx_call (bx_drew (bx_refl _)) b)); obtain ⟨ka0, ka1⟩ := blk_two Ka_1.out; obtain ⟨kb0, kb1⟩ := blk_two Kb_1.out; obtain ⟨kq0, kq1⟩ := blk_two Kq_1.out; obtain ⟨kr0, kr1⟩ := blk_two Kr_1.out; clear b Ra Ka Rb Kb Rq Kq Rr Kr X)))
  | fail
  go_wp2_with fail
  go_ret
  exact ⟨rfl, X_9.out⟩

end Go.Proofs.Ytobnbeeaiidpcaa
