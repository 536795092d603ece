/- Laws of layer 2, walked by contracts. -/
import Derived.Test.YtobnbeeaiidpcaaIaid
namespace Go.Proofs.Ytobnbeeaiidpcaa
open Go.RowKit

theorem iis_any (z v : Int) (A : Option Addr) (n c : Nat) (w : World) (h : Rd w A n c (dg z.natAbs)) (h1 : -9223372036854775808 ≤ z) (h2 : z ≤ 9223372036854775807) (e : z = v) :
    Calls Try.prog 47 #[.agg #[.bool (sg z), .slice A n c], .int .i64 v] w (RetB w true) := by
  subst e
  have b0 : Below w.heap.size w (w.alloc (.cells #[.bool (sg z), .slice A n c] 25)) := bx_alloc (bx_refl w) _
  have t := iint64_any (sg z) A n c _ (w.alloc (.cells #[.bool (sg z), .slice A n c] 25)) (h.keep b0)
  rw [iv_sg] at t
  unfold RetI64 at t
  rw [i64V_in h1 h2, i64B_in h1 h2] at t
  have I := hid t
  have B := hid b0
  clear t b0 h
  go_enter Try.func47, Try.ntmps47
  go_wp2_with fail
  refine (I.out).mono ?_
  rintro e w1 ⟨rfl, b⟩
  have X := hid (bx_call B.out b)
  clear b B
  go_wp2_with fail
  go_ret
  exact ⟨rfl, X.out⟩

theorem low_cases {a b : Int} (hb : b ≠ 0) : (fq a b = a.tdiv b ∧ fr a b = a.tmod b ∧ (a.tmod b = 0 ∨ (a.tmod b < 0 ∧ b < 0) ∨ (0 < a.tmod b ∧ 0 < b))) ∨ (fq a b = a.tdiv b - 1 ∧ fr a b = a.tmod b + b ∧ ((a.tmod b < 0 ∧ 0 < b) ∨ (0 < a.tmod b ∧ b < 0))) := by
  unfold fq fr lowB sgnZ
  generalize a.tdiv b = q
  generalize a.tmod b = r
  rcases Int.lt_trichotomy r 0 with h | h | h
  · rcases Int.lt_or_le b 0 with k | k
    · left; simp only [if_pos h, if_pos k]
      exact ⟨rfl, rfl, .inr (.inl ⟨h, k⟩)⟩
    · right; simp only [if_pos h, if_neg (show ¬ b < 0 by omega), if_pos (show 0 < b by omega)]
      exact ⟨rfl, rfl, .inl ⟨h, by omega⟩⟩
  · subst h
    left
    have z0 : decide ((if (0 : Int) < 0 then (-1 : Int) else if (0 : Int) < 0 then 1 else 0) * (if b < 0 then -1 else if 0 < b then 1 else 0) < 0) = false := by rw [if_neg (by omega), if_neg (by omega), Int.zero_mul]; rfl
    rw [z0]
    exact ⟨rfl, rfl, .inl rfl⟩
  · rcases Int.lt_or_le b 0 with k | k
    · right; simp only [if_neg (show ¬ r < 0 by omega), if_pos h, if_pos k]
      exact ⟨rfl, rfl, .inr ⟨h, k⟩⟩
    · left; simp only [if_neg (show ¬ r < 0 by omega), if_pos h, if_neg (show ¬ b < 0 by omega), if_pos (show 0 < b by omega)]
      exact ⟨rfl, rfl, .inr (.inr ⟨h, by omega⟩)⟩

set_option maxRecDepth 100000 in
set_option maxHeartbeats 16000000 in
theorem integerSmall_any (a b : Int) (w : World) (ha : -2147483648 ≤ a ∧ a ≤ 2147483647) (hb : -2147483648 ≤ b ∧ b ≤ 2147483647) :
    Calls Try.prog 9 #[.int .i32 a, .int .i32 b] w (RetB w true) := by
  obtain ⟨a1, a2⟩ := ha
  obtain ⟨b1, b2⟩ := hb
  have m1 : -4611686018427387904 ≤ a * b := by
    rcases Int.lt_or_le a 0 with h | h
    · rcases Int.lt_or_le b 0 with k | k
      · have := Int.mul_pos_of_neg_of_neg h k; omega
      · have := Int.mul_le_mul_of_nonneg_right a1 k; omega
    · rcases Int.lt_or_le b 0 with k | k
      · have := Int.mul_le_mul_of_nonneg_left b1 h; omega
      · have := Int.mul_nonneg h k; omega
  have m2 : a * b ≤ 4611686018427387904 := by
    rcases Int.lt_or_le a 0 with h | h
    · rcases Int.lt_or_le b 0 with k | k
      · have h1 := Int.mul_le_mul_of_nonpos_right a1 (Int.le_of_lt k)
        omega
      · have := Int.mul_nonpos_of_nonpos_of_nonneg (Int.le_of_lt h) k; omega
    · rcases Int.lt_or_le b 0 with k | k
      · have := Int.mul_nonpos_of_nonneg_of_nonpos h (Int.le_of_lt k); omega
      · have := Int.mul_le_mul_of_nonneg_right a2 k; omega
  go_enter Try.func9, Try.ntmps9
  go_wp2_with fail
  refine (iawake_any w).mono ?_
  rintro e w1 ⟨rfl, b0⟩
  have X1 := hid b0
  clear b0
  go_wp2_with fail
  refine (ifrom_any a w1 (by omega) (by omega)).mono ?_
  rintro e w2 ⟨Ax, nx, cx, rfl, r, b0⟩
  have Rx := hid r
  have X2 := hid (bx_call X1.out b0)
  clear r b0 X1
  go_wp2_with fail
  refine (ifrom_any b w2 (by omega) (by omega)).mono ?_
  rintro e w3 ⟨Ay, ny, cy, rfl, r, b0⟩
  have X3 := hid (bx_call X2.out b0)
  have lx : nx ≤ 1 := by rw [← Rx.out.1]; exact dg_len_le (by omega)
  have ly : ny ≤ 1 := by rw [← r.1]; exact dg_len_le (by omega)
  have bb := bx_alloc (bx_alloc (bx_refl w3) (.cells #[.bool (sg a), .slice Ax nx cx] 25)) (.cells #[.bool (sg b), .slice Ay ny cy] 25)
  have kx := (Blk.new w3 [.bool (sg a), .slice Ax nx cx] 25).alloc (.cells #[.bool (sg b), .slice Ay ny cy] 25)
  have ky := blk_new1 w3 (.cells #[.bool (sg a), .slice Ax nx cx] 25) [.bool (sg b), .slice Ay ny cy] 25
  obtain ⟨W0, hW⟩ : ∃ W, W = (w3.alloc (.cells #[.bool (sg a), .slice Ax nx cx] 25)).alloc (.cells #[.bool (sg b), .slice Ay ny cy] 25) := ⟨_, rfl⟩
  obtain ⟨ix, hx⟩ : ∃ i, i = w3.heap.size := ⟨_, rfl⟩
  have SX := hid (((Rx.out.keep b0).keep bb))
  have SY := hid (r.keep bb)
  have px := SX.out.2.1
  have qx := SX.out.2.2.1
  have py := SY.out.2.1
  have qy := SY.out.2.2.1
  have X4 := hid (bx_call X3.out bb)
  clear r b0 X2 X3 Rx bb
  go_upto_region 5 with fail
  rw [← hW] at X4 SX SY kx ky ⊢
  rw [← hx] at kx ky ⊢
  have Kx := hid kx
  have Ky := hid ky
  clear kx ky hW hx
  obtain ⟨x0, x1⟩ := blk_two Kx.out
  obtain ⟨y0, y1⟩ := blk_two Ky.out
  have cc := iadd_any (sg a) Ax nx cx _ (sg b) Ay ny cy _ W0 SX.out (by omega) SY.out (by omega)
  rw [iv_sg, iv_sg] at cc
  have CC := hid cc
  clear cc
  go_wp2_with fail
  refine (CC.out).mono ?_
  rintro e v4 ⟨Ad, nd, cd, rfl, r, b0⟩
  have Rd := hid r
  clear r CC x0 x1 y0 y1
  have Kx_5 := hid (Kx.out.keep b0)
  have Ky_5 := hid (Ky.out.keep b0)
  have SX_5 := hid (SX.out.keep b0)
  have SY_5 := hid (SY.out.keep b0)
  have X_5 := hid (bx_call X4.out b0)
  clear b0 Kx Ky SX SY X4
  have CC := hid (iis_any (a + b) (a + b) Ad nd cd v4 Rd.out (by omega) (by omega) rfl)
  go_wp2_with fail
  refine (CC.out).mono ?_
  rintro e v5 ⟨rfl, b0⟩
  clear CC Rd
  have Kx_6 := hid (Kx_5.out.keep b0)
  have Ky_6 := hid (Ky_5.out.keep b0)
  have SX_6 := hid (SX_5.out.keep b0)
  have SY_6 := hid (SY_5.out.keep b0)
  have X_6 := hid (bx_call X_5.out b0)
  clear b0 Kx_5 Ky_5 SX_5 SY_5 X_5
  obtain ⟨x0, x1⟩ := blk_two Kx_6.out
  obtain ⟨y0, y1⟩ := blk_two Ky_6.out
  have cc := isub_any (sg a) Ax nx cx _ (sg b) Ay ny cy _ v5 SX_6.out (by omega) SY_6.out (by omega)
  rw [iv_sg, iv_sg] at cc
  have CC := hid cc
  clear cc
  go_wp2_with fail
  refine (CC.out).mono ?_
  rintro e v6 ⟨Ae, ne, ce, rfl, r, b0⟩
  have Re := hid r
  clear r CC x0 x1 y0 y1
  have Kx_7 := hid (Kx_6.out.keep b0)
  have Ky_7 := hid (Ky_6.out.keep b0)
  have SX_7 := hid (SX_6.out.keep b0)
  have SY_7 := hid (SY_6.out.keep b0)
  have X_7 := hid (bx_call X_6.out b0)
  clear b0 Kx_6 Ky_6 SX_6 SY_6 X_6
  have CC := hid (iis_any (a - b) (a - b) Ae ne ce v6 Re.out (by omega) (by omega) rfl)
  go_wp2_with fail
  refine (CC.out).mono ?_
  rintro e v7 ⟨rfl, b0⟩
  clear CC Re
  have Kx_8 := hid (Kx_7.out.keep b0)
  have Ky_8 := hid (Ky_7.out.keep b0)
  have SX_8 := hid (SX_7.out.keep b0)
  have SY_8 := hid (SY_7.out.keep b0)
  have X_8 := hid (bx_call X_7.out b0)
  clear b0 Kx_7 Ky_7 SX_7 SY_7 X_7
  obtain ⟨x0, x1⟩ := blk_two Kx_8.out
  obtain ⟨y0, y1⟩ := blk_two Ky_8.out
  have cc := imul_any (sg a) Ax nx cx _ (sg b) Ay ny cy _ v7 SX_8.out (by omega) SY_8.out (by omega)
  rw [iv_sg, iv_sg] at cc
  have CC := hid cc
  clear cc
  go_wp2_with fail
  refine (CC.out).mono ?_
  rintro e v8 ⟨Af, nf, cf, rfl, r, b0⟩
  have Rf := hid r
  clear r CC x0 x1 y0 y1
  have Kx_9 := hid (Kx_8.out.keep b0)
  have Ky_9 := hid (Ky_8.out.keep b0)
  have SX_9 := hid (SX_8.out.keep b0)
  have SY_9 := hid (SY_8.out.keep b0)
  have X_9 := hid (bx_call X_8.out b0)
  clear b0 Kx_8 Ky_8 SX_8 SY_8 X_8
  have CC := hid (iis_any (a * b) (a * b) Af nf cf v8 Rf.out (by omega) (by omega) rfl)
  go_wp2_with fail
  refine (CC.out).mono ?_
  rintro e v9 ⟨rfl, b0⟩
  clear CC Rf
  have Kx_10 := hid (Kx_9.out.keep b0)
  have Ky_10 := hid (Ky_9.out.keep b0)
  have SX_10 := hid (SX_9.out.keep b0)
  have SY_10 := hid (SY_9.out.keep b0)
  have X_10 := hid (bx_call X_9.out b0)
  clear b0 Kx_9 Ky_9 SX_9 SY_9 X_9
  by_cases hb0 : b = 0
  · have z : (b == 0) = true := by rw [hb0]; rfl
    go_wp2_with fail
    go_ret
    exact ⟨rfl, X_10.out⟩
  have z : (b == 0) = false := beq_eq_false_iff_ne.2 hb0
  obtain ⟨x0, x1⟩ := blk_two Kx_10.out
  obtain ⟨y0, y1⟩ := blk_two Ky_10.out
  have cc := iquo_any (sg a) Ax nx cx _ (sg b) Ay ny cy _ v9 SX_10.out (by omega) SY_10.out (by omega)
  rw [iv_sg, iv_sg, show qz a b = a.tdiv b from if_neg hb0, show rz a b = a.tmod b from if_neg hb0, show ez b = 0 from if_neg hb0] at cc
  have CC := hid cc
  clear cc
  go_wp2_with fail
  refine (CC.out).mono ?_
  rintro e vq ⟨Aq, nq, cq, Ar, nr, cr, rfl, r, r2, b0⟩
  have Rq := hid r
  have Rr := hid r2
  have pq := r.2.1
  have pr := r2.2.1
  have tq := r.2.2.1
  have tr := r2.2.2.1
  clear r r2 CC x0 x1 y0 y1
  have Kx_11 := hid (Kx_10.out.keep b0)
  have Ky_11 := hid (Ky_10.out.keep b0)
  have SX_11 := hid (SX_10.out.keep b0)
  have SY_11 := hid (SY_10.out.keep b0)
  have X_11 := hid (bx_call X_10.out b0)
  clear b0 Kx_10 Ky_10 SX_10 SY_10 X_10
  obtain ⟨uKx0, uKx1⟩ := blk_two ((Kx_11.out.alloc (.cells #[.bool (sg (a.tdiv b)), .slice Aq nq cq] 25)).alloc (.cells #[.bool (sg (a.tmod b)), .slice Ar nr cr] 25))
  obtain ⟨uKy0, uKy1⟩ := blk_two ((Ky_11.out.alloc (.cells #[.bool (sg (a.tdiv b)), .slice Aq nq cq] 25)).alloc (.cells #[.bool (sg (a.tmod b)), .slice Ar nr cr] 25))
  have b0 := bx_alloc (bx_alloc (bx_refl vq) (.cells #[.bool (sg (a.tdiv b)), .slice Aq nq cq] 25)) (.cells #[.bool (sg (a.tmod b)), .slice Ar nr cr] 25)
  have kp := (Blk.new vq [.bool (sg (a.tdiv b)), .slice Aq nq cq] 25).alloc (.cells #[.bool (sg (a.tmod b)), .slice Ar nr cr] 25)
  have kq := blk_new1 vq (.cells #[.bool (sg (a.tdiv b)), .slice Aq nq cq] 25) [.bool (sg (a.tmod b)), .slice Ar nr cr] 25
  go_wp2_with fail
  obtain ⟨Viq, hV⟩ : ∃ V, V = (vq.alloc (.cells #[.bool (sg (a.tdiv b)), .slice Aq nq cq] 25)).alloc (.cells #[.bool (sg (a.tmod b)), .slice Ar nr cr] 25) := ⟨_, rfl⟩
  obtain ⟨iq, hi⟩ : ∃ i, i = vq.heap.size := ⟨_, rfl⟩
  clear uKx0 uKx1 uKy0 uKy1
  have Kx_12 := hid (Kx_11.out.keep b0)
  have Ky_12 := hid (Ky_11.out.keep b0)
  have SX_12 := hid (SX_11.out.keep b0)
  have SY_12 := hid (SY_11.out.keep b0)
  have Rq_12 := hid (Rq.out.keep b0)
  have Rr_12 := hid (Rr.out.keep b0)
  have X_12 := hid (bx_call X_11.out b0)
  clear b0 Kx_11 Ky_11 SX_11 SY_11 Rq Rr X_11
  rw [← hV] at Kx_12 Ky_12 SX_12 SY_12 Rq_12 Rr_12 X_12 kp kq ⊢
  rw [← hi] at kp kq ⊢
  have Kq := hid kp
  have Kr := hid kq
  clear kp kq hV hi
  have cc := ifloor_any (sg a) Ax nx cx _ (sg b) Ay ny cy _ Viq SX_12.out (by omega) SY_12.out (by omega)
  rw [iv_sg, iv_sg, show fqz a b = fq a b from if_neg hb0, show frz a b = fr a b from if_neg hb0, show ez b = 0 from if_neg hb0] at cc
  have CC := hid cc
  clear cc
  refine (CC.out).mono ?_
  rintro e vf ⟨Af2, nf2, cf2, As, ns, cs, rfl, r, r2, b0⟩
  have Rf2 := hid r
  have Rs := hid r2
  have pf := r.2.1
  have ps := r2.2.1
  have tf := r.2.2.1
  have ts := r2.2.2.1
  clear r r2 CC
  have Kx_13 := hid (Kx_12.out.keep b0)
  have Ky_13 := hid (Ky_12.out.keep b0)
  have SX_13 := hid (SX_12.out.keep b0)
  have SY_13 := hid (SY_12.out.keep b0)
  have Rq_13 := hid (Rq_12.out.keep b0)
  have Rr_13 := hid (Rr_12.out.keep b0)
  have Kq_13 := hid (Kq.out.keep b0)
  have Kr_13 := hid (Kr.out.keep b0)
  have X_13 := hid (bx_call X_12.out b0)
  clear b0 Kx_12 Ky_12 SX_12 SY_12 Rq_12 Rr_12 Kq Kr X_12
  obtain ⟨uKx0, uKx1⟩ := blk_two ((Kx_13.out.alloc (.cells #[.bool (sg (fq a b)), .slice Af2 nf2 cf2] 25)).alloc (.cells #[.bool (sg (fr a b)), .slice As ns cs] 25))
  obtain ⟨uKy0, uKy1⟩ := blk_two ((Ky_13.out.alloc (.cells #[.bool (sg (fq a b)), .slice Af2 nf2 cf2] 25)).alloc (.cells #[.bool (sg (fr a b)), .slice As ns cs] 25))
  obtain ⟨uKq0, uKq1⟩ := blk_two ((Kq_13.out.alloc (.cells #[.bool (sg (fq a b)), .slice Af2 nf2 cf2] 25)).alloc (.cells #[.bool (sg (fr a b)), .slice As ns cs] 25))
  obtain ⟨uKr0, uKr1⟩ := blk_two ((Kr_13.out.alloc (.cells #[.bool (sg (fq a b)), .slice Af2 nf2 cf2] 25)).alloc (.cells #[.bool (sg (fr a b)), .slice As ns cs] 25))
  have b0 := bx_alloc (bx_alloc (bx_refl vf) (.cells #[.bool (sg (fq a b)), .slice Af2 nf2 cf2] 25)) (.cells #[.bool (sg (fr a b)), .slice As ns cs] 25)
  have kp := (Blk.new vf [.bool (sg (fq a b)), .slice Af2 nf2 cf2] 25).alloc (.cells #[.bool (sg (fr a b)), .slice As ns cs] 25)
  have kq := blk_new1 vf (.cells #[.bool (sg (fq a b)), .slice Af2 nf2 cf2] 25) [.bool (sg (fr a b)), .slice As ns cs] 25
  go_upto_region 11 with fail
  obtain ⟨Vip, hV⟩ : ∃ V, V = (vf.alloc (.cells #[.bool (sg (fq a b)), .slice Af2 nf2 cf2] 25)).alloc (.cells #[.bool (sg (fr a b)), .slice As ns cs] 25) := ⟨_, rfl⟩
  obtain ⟨ip, hi⟩ : ∃ i, i = vf.heap.size := ⟨_, rfl⟩
  clear uKx0 uKx1 uKy0 uKy1 uKq0 uKq1 uKr0 uKr1
  have Kx_14 := hid (Kx_13.out.keep b0)
  have Ky_14 := hid (Ky_13.out.keep b0)
  have SX_14 := hid (SX_13.out.keep b0)
  have SY_14 := hid (SY_13.out.keep b0)
  have Rq_14 := hid (Rq_13.out.keep b0)
  have Rr_14 := hid (Rr_13.out.keep b0)
  have Kq_14 := hid (Kq_13.out.keep b0)
  have Kr_14 := hid (Kr_13.out.keep b0)
  have Rf2_14 := hid (Rf2.out.keep b0)
  have Rs_14 := hid (Rs.out.keep b0)
  have X_14 := hid (bx_call X_13.out b0)
  clear b0 Kx_13 Ky_13 SX_13 SY_13 Rq_13 Rr_13 Kq_13 Kr_13 Rf2 Rs X_13
  rw [← hV] at Kx_14 Ky_14 SX_14 SY_14 Rq_14 Rr_14 Kq_14 Kr_14 Rf2_14 Rs_14 X_14 kp kq ⊢
  rw [← hi] at kp kq ⊢
  have Kf2 := hid kp
  have Ks := hid kq
  clear kp kq hV hi
  have hbd : b.natAbs ≠ 0 := by omega
  have qb : (a.tdiv b).natAbs ≤ a.natAbs := by rw [Int.natAbs_tdiv]; exact Nat.div_le_self _ _
  have rb : (a.tmod b).natAbs < b.natAbs := by rw [Int.natAbs_tmod]; exact Nat.mod_lt _ (by omega)
  have key : (fq a b = a.tdiv b ∧ fr a b = a.tmod b ∧ (a.tmod b = 0 ∨ (a.tmod b < 0 ∧ b < 0) ∨ (0 < a.tmod b ∧ 0 < b))) ∨ (fq a b = a.tdiv b - 1 ∧ fr a b = a.tmod b + b ∧ ((a.tmod b < 0 ∧ 0 < b) ∨ (0 < a.tmod b ∧ b < 0))) := low_cases hb0
  obtain ⟨q0, hq⟩ : ∃ q, a.tdiv b = q := ⟨_, rfl⟩
  obtain ⟨r0, hr⟩ : ∃ q, a.tmod b = q := ⟨_, rfl⟩
  obtain ⟨f0, hf⟩ : ∃ q, fq a b = q := ⟨_, rfl⟩
  obtain ⟨s0, hs⟩ : ∃ q, fr a b = q := ⟨_, rfl⟩
  rw [hq] at Rq_14 Kq_14 qb key
  rw [hr] at Rr_14 Kr_14 rb key
  rw [hf] at Rf2_14 Kf2 key
  rw [hs] at Rs_14 Ks key
  rw [hq, hr, hf, hs]
  clear hf hs
  have q1 : -2147483648 ≤ q0 := by omega
  have q2 : q0 ≤ 2147483648 := by omega
  have r1 : -2147483648 ≤ r0 := by omega
  have r2 : r0 ≤ 2147483648 := by omega
  have hwq : IntKind.i64.wrap q0 = q0 := IntWalk.i64_in _ (by omega)
  have hwr : IntKind.i64.wrap r0 = r0 := IntWalk.i64_in _ (by omega)
  clear qb rb hbd
  rcases key with ⟨e1, e2, c1 | ⟨c1, c2⟩ | ⟨c1, c2⟩⟩ | ⟨e1, e2, ⟨c1, c2⟩ | ⟨c1, c2⟩⟩
  · have n0 : (r0 != 0) = false := by rw [c1]; rfl
    clear c1
    have E1 := hid e1
    have E2 := hid e2
    clear e1 e2
    go_region_held3 (fun W => True) (trivial) (fail)
    obtain ⟨kq0, kq1⟩ := blk_two (Blk.keep Kq_14.out (bx_drew (bx_refl _)))
    obtain ⟨kr0, kr1⟩ := blk_two (Blk.keep Kr_14.out (bx_drew (bx_refl _)))
    obtain ⟨kf20, kf21⟩ := blk_two (Blk.keep Kf2.out (bx_drew (bx_refl _)))
    obtain ⟨ks0, ks1⟩ := blk_two (Blk.keep Ks.out (bx_drew (bx_refl _)))
    go_wp2_with fail
    go_region_held3 (fun W => W.cell? ⟨iq, 0, none⟩ = some (.bool (sg q0)) ∧ W.cell? ⟨iq, 1, none⟩ = some (.slice Aq nq cq) ∧ W.cell? ⟨iq + 1, 0, none⟩ = some (.bool (sg r0)) ∧ W.cell? ⟨iq + 1, 1, none⟩ = some (.slice Ar nr cr) ∧ W.cell? ⟨ip, 0, none⟩ = some (.bool (sg f0)) ∧ W.cell? ⟨ip, 1, none⟩ = some (.slice Af2 nf2 cf2) ∧ W.cell? ⟨ip + 1, 0, none⟩ = some (.bool (sg s0)) ∧ W.cell? ⟨ip + 1, 1, none⟩ = some (.slice As ns cs))
      (refine ⟨?_, ?_, ?_, ?_, ?_, ?_, ?_, ?_⟩ <;> repeat' (first | with_reducible assumption | with_reducible refine cell_dr ?_))
      (first
        | (go_at_call 47; refine (iis_any s0 r0 As ns cs y3 (Rs_14.out.keep B3.out) (by have := E1.out; have := E2.out; omega) (by have := E1.out; have := E2.out; omega) E2.out).mono ?_; rintro e y4 ⟨rfl, b0⟩; have t4kq0 := cell_bx t3kq0 b0; have t4kq1 := cell_bx t3kq1 b0; have t4kr0 := cell_bx t3kr0 b0; have t4kr1 := cell_bx t3kr1 b0; have t4kf20 := cell_bx t3kf20 b0; have t4kf21 := cell_bx t3kf21 b0; have t4ks0 := cell_bx t3ks0 b0; have t4ks1 := cell_bx t3ks1 b0; have B4 := hid (bx_call B3.out b0); clear t3kq0 t3kq1 t3kr0 t3kr1 t3kf20 t3kf21 t3ks0 t3ks1; clear b0)
        | (go_at_call 47; refine (iis_any f0 q0 Af2 nf2 cf2 y2 (Rf2_14.out.keep B2.out) (by have := E1.out; have := E2.out; omega) (by have := E1.out; have := E2.out; omega) E1.out).mono ?_; rintro e y3 ⟨rfl, b0⟩; have t3kq0 := cell_bx t2kq0 b0; have t3kq1 := cell_bx t2kq1 b0; have t3kr0 := cell_bx t2kr0 b0; have t3kr1 := cell_bx t2kr1 b0; have t3kf20 := cell_bx t2kf20 b0; have t3kf21 := cell_bx t2kf21 b0; have t3ks0 := cell_bx t2ks0 b0; have t3ks1 := cell_bx t2ks1 b0; have B3 := hid (bx_call B2.out b0); clear t2kq0 t2kq1 t2kr0 t2kr1 t2kf20 t2kf21 t2ks0 t2ks1; clear b0)
        | (go_at_call 47; refine (iis_any r0 r0 Ar nr cr y1 (Rr_14.out.keep B1.out) (by have := E1.out; have := E2.out; omega) (by have := E1.out; have := E2.out; omega) rfl).mono ?_; rintro e y2 ⟨rfl, b0⟩; have t2kq0 := cell_bx t1kq0 b0; have t2kq1 := cell_bx t1kq1 b0; have t2kr0 := cell_bx t1kr0 b0; have t2kr1 := cell_bx t1kr1 b0; have t2kf20 := cell_bx t1kf20 b0; have t2kf21 := cell_bx t1kf21 b0; have t2ks0 := cell_bx t1ks0 b0; have t2ks1 := cell_bx t1ks1 b0; have B2 := hid (bx_call B1.out b0); clear t1kq0 t1kq1 t1kr0 t1kr1 t1kf20 t1kf21 t1ks0 t1ks1; clear b0)
        | (go_at_call 47; refine (iis_any q0 q0 Aq nq cq _ (Rq_14.out.keep (bx_drew (bx_drew (bx_refl _)))) (by have := E1.out; have := E2.out; omega) (by have := E1.out; have := E2.out; omega) rfl).mono ?_; rintro e y1 ⟨rfl, b0⟩; have t1kq0 := cell_bx (cell_dr kq0) b0; have t1kq1 := cell_bx (cell_dr kq1) b0; have t1kr0 := cell_bx (cell_dr kr0) b0; have t1kr1 := cell_bx (cell_dr kr1) b0; have t1kf20 := cell_bx (cell_dr kf20) b0; have t1kf21 := cell_bx (cell_dr kf21) b0; have t1ks0 := cell_bx (cell_dr ks0) b0; have t1ks1 := cell_bx (cell_dr ks1) b0; have B1 := hid (bx_call (bx_drew (bx_drew (bx_refl Vip))) b0); clear b0))
    go_wp2_with fail
    go_ret
    exact ⟨rfl, bx_call X_14.out B4.out⟩
  · have n0 : (r0 != 0) = true := by rw [bne_iff_ne]; omega
    have n1 : decide (r0 < 0) = true := by exact decide_eq_true c1
    have n2 : decide (b < 0) = true := by exact decide_eq_true (by omega)
    have E1 := hid e1
    have E2 := hid e2
    clear e1 e2
    go_region_held3 (fun W => True) (trivial) (fail)
    obtain ⟨kq0, kq1⟩ := blk_two (Blk.keep Kq_14.out (bx_drew (bx_refl _)))
    obtain ⟨kr0, kr1⟩ := blk_two (Blk.keep Kr_14.out (bx_drew (bx_refl _)))
    obtain ⟨kf20, kf21⟩ := blk_two (Blk.keep Kf2.out (bx_drew (bx_refl _)))
    obtain ⟨ks0, ks1⟩ := blk_two (Blk.keep Ks.out (bx_drew (bx_refl _)))
    go_wp2_with fail
    go_region_held3 (fun W => W.cell? ⟨iq, 0, none⟩ = some (.bool (sg q0)) ∧ W.cell? ⟨iq, 1, none⟩ = some (.slice Aq nq cq) ∧ W.cell? ⟨iq + 1, 0, none⟩ = some (.bool (sg r0)) ∧ W.cell? ⟨iq + 1, 1, none⟩ = some (.slice Ar nr cr) ∧ W.cell? ⟨ip, 0, none⟩ = some (.bool (sg f0)) ∧ W.cell? ⟨ip, 1, none⟩ = some (.slice Af2 nf2 cf2) ∧ W.cell? ⟨ip + 1, 0, none⟩ = some (.bool (sg s0)) ∧ W.cell? ⟨ip + 1, 1, none⟩ = some (.slice As ns cs))
      (refine ⟨?_, ?_, ?_, ?_, ?_, ?_, ?_, ?_⟩ <;> repeat' (first | with_reducible assumption | with_reducible refine cell_dr ?_))
      (first
        | (go_at_call 47; refine (iis_any s0 r0 As ns cs y3 (Rs_14.out.keep B3.out) (by have := E1.out; have := E2.out; omega) (by have := E1.out; have := E2.out; omega) E2.out).mono ?_; rintro e y4 ⟨rfl, b0⟩; have t4kq0 := cell_bx t3kq0 b0; have t4kq1 := cell_bx t3kq1 b0; have t4kr0 := cell_bx t3kr0 b0; have t4kr1 := cell_bx t3kr1 b0; have t4kf20 := cell_bx t3kf20 b0; have t4kf21 := cell_bx t3kf21 b0; have t4ks0 := cell_bx t3ks0 b0; have t4ks1 := cell_bx t3ks1 b0; have B4 := hid (bx_call B3.out b0); clear t3kq0 t3kq1 t3kr0 t3kr1 t3kf20 t3kf21 t3ks0 t3ks1; clear b0)
        | (go_at_call 47; refine (iis_any f0 q0 Af2 nf2 cf2 y2 (Rf2_14.out.keep B2.out) (by have := E1.out; have := E2.out; omega) (by have := E1.out; have := E2.out; omega) E1.out).mono ?_; rintro e y3 ⟨rfl, b0⟩; have t3kq0 := cell_bx t2kq0 b0; have t3kq1 := cell_bx t2kq1 b0; have t3kr0 := cell_bx t2kr0 b0; have t3kr1 := cell_bx t2kr1 b0; have t3kf20 := cell_bx t2kf20 b0; have t3kf21 := cell_bx t2kf21 b0; have t3ks0 := cell_bx t2ks0 b0; have t3ks1 := cell_bx t2ks1 b0; have B3 := hid (bx_call B2.out b0); clear t2kq0 t2kq1 t2kr0 t2kr1 t2kf20 t2kf21 t2ks0 t2ks1; clear b0)
        | (go_at_call 47; refine (iis_any r0 r0 Ar nr cr y1 (Rr_14.out.keep B1.out) (by have := E1.out; have := E2.out; omega) (by have := E1.out; have := E2.out; omega) rfl).mono ?_; rintro e y2 ⟨rfl, b0⟩; have t2kq0 := cell_bx t1kq0 b0; have t2kq1 := cell_bx t1kq1 b0; have t2kr0 := cell_bx t1kr0 b0; have t2kr1 := cell_bx t1kr1 b0; have t2kf20 := cell_bx t1kf20 b0; have t2kf21 := cell_bx t1kf21 b0; have t2ks0 := cell_bx t1ks0 b0; have t2ks1 := cell_bx t1ks1 b0; have B2 := hid (bx_call B1.out b0); clear t1kq0 t1kq1 t1kr0 t1kr1 t1kf20 t1kf21 t1ks0 t1ks1; clear b0)
        | (go_at_call 47; refine (iis_any q0 q0 Aq nq cq _ (Rq_14.out.keep (bx_drew (bx_drew (bx_refl _)))) (by have := E1.out; have := E2.out; omega) (by have := E1.out; have := E2.out; omega) rfl).mono ?_; rintro e y1 ⟨rfl, b0⟩; have t1kq0 := cell_bx (cell_dr kq0) b0; have t1kq1 := cell_bx (cell_dr kq1) b0; have t1kr0 := cell_bx (cell_dr kr0) b0; have t1kr1 := cell_bx (cell_dr kr1) b0; have t1kf20 := cell_bx (cell_dr kf20) b0; have t1kf21 := cell_bx (cell_dr kf21) b0; have t1ks0 := cell_bx (cell_dr ks0) b0; have t1ks1 := cell_bx (cell_dr ks1) b0; have B1 := hid (bx_call (bx_drew (bx_drew (bx_refl Vip))) b0); clear b0))
    go_wp2_with fail
    go_ret
    exact ⟨rfl, bx_call X_14.out B4.out⟩
  · have n0 : (r0 != 0) = true := by rw [bne_iff_ne]; omega
    have n1 : decide (r0 < 0) = false := by exact decide_eq_false (by omega)
    have n2 : decide (b < 0) = false := by exact decide_eq_false (by omega)
    have E1 := hid e1
    have E2 := hid e2
    clear e1 e2
    go_region_held3 (fun W => True) (trivial) (fail)
    obtain ⟨kq0, kq1⟩ := blk_two (Blk.keep Kq_14.out (bx_drew (bx_refl _)))
    obtain ⟨kr0, kr1⟩ := blk_two (Blk.keep Kr_14.out (bx_drew (bx_refl _)))
    obtain ⟨kf20, kf21⟩ := blk_two (Blk.keep Kf2.out (bx_drew (bx_refl _)))
    obtain ⟨ks0, ks1⟩ := blk_two (Blk.keep Ks.out (bx_drew (bx_refl _)))
    go_wp2_with fail
    go_region_held3 (fun W => W.cell? ⟨iq, 0, none⟩ = some (.bool (sg q0)) ∧ W.cell? ⟨iq, 1, none⟩ = some (.slice Aq nq cq) ∧ W.cell? ⟨iq + 1, 0, none⟩ = some (.bool (sg r0)) ∧ W.cell? ⟨iq + 1, 1, none⟩ = some (.slice Ar nr cr) ∧ W.cell? ⟨ip, 0, none⟩ = some (.bool (sg f0)) ∧ W.cell? ⟨ip, 1, none⟩ = some (.slice Af2 nf2 cf2) ∧ W.cell? ⟨ip + 1, 0, none⟩ = some (.bool (sg s0)) ∧ W.cell? ⟨ip + 1, 1, none⟩ = some (.slice As ns cs))
      (refine ⟨?_, ?_, ?_, ?_, ?_, ?_, ?_, ?_⟩ <;> repeat' (first | with_reducible assumption | with_reducible refine cell_dr ?_))
      (first
        | (go_at_call 47; refine (iis_any s0 r0 As ns cs y3 (Rs_14.out.keep B3.out) (by have := E1.out; have := E2.out; omega) (by have := E1.out; have := E2.out; omega) E2.out).mono ?_; rintro e y4 ⟨rfl, b0⟩; have t4kq0 := cell_bx t3kq0 b0; have t4kq1 := cell_bx t3kq1 b0; have t4kr0 := cell_bx t3kr0 b0; have t4kr1 := cell_bx t3kr1 b0; have t4kf20 := cell_bx t3kf20 b0; have t4kf21 := cell_bx t3kf21 b0; have t4ks0 := cell_bx t3ks0 b0; have t4ks1 := cell_bx t3ks1 b0; have B4 := hid (bx_call B3.out b0); clear t3kq0 t3kq1 t3kr0 t3kr1 t3kf20 t3kf21 t3ks0 t3ks1; clear b0)
        | (go_at_call 47; refine (iis_any f0 q0 Af2 nf2 cf2 y2 (Rf2_14.out.keep B2.out) (by have := E1.out; have := E2.out; omega) (by have := E1.out; have := E2.out; omega) E1.out).mono ?_; rintro e y3 ⟨rfl, b0⟩; have t3kq0 := cell_bx t2kq0 b0; have t3kq1 := cell_bx t2kq1 b0; have t3kr0 := cell_bx t2kr0 b0; have t3kr1 := cell_bx t2kr1 b0; have t3kf20 := cell_bx t2kf20 b0; have t3kf21 := cell_bx t2kf21 b0; have t3ks0 := cell_bx t2ks0 b0; have t3ks1 := cell_bx t2ks1 b0; have B3 := hid (bx_call B2.out b0); clear t2kq0 t2kq1 t2kr0 t2kr1 t2kf20 t2kf21 t2ks0 t2ks1; clear b0)
        | (go_at_call 47; refine (iis_any r0 r0 Ar nr cr y1 (Rr_14.out.keep B1.out) (by have := E1.out; have := E2.out; omega) (by have := E1.out; have := E2.out; omega) rfl).mono ?_; rintro e y2 ⟨rfl, b0⟩; have t2kq0 := cell_bx t1kq0 b0; have t2kq1 := cell_bx t1kq1 b0; have t2kr0 := cell_bx t1kr0 b0; have t2kr1 := cell_bx t1kr1 b0; have t2kf20 := cell_bx t1kf20 b0; have t2kf21 := cell_bx t1kf21 b0; have t2ks0 := cell_bx t1ks0 b0; have t2ks1 := cell_bx t1ks1 b0; have B2 := hid (bx_call B1.out b0); clear t1kq0 t1kq1 t1kr0 t1kr1 t1kf20 t1kf21 t1ks0 t1ks1; clear b0)
        | (go_at_call 47; refine (iis_any q0 q0 Aq nq cq _ (Rq_14.out.keep (bx_drew (bx_drew (bx_refl _)))) (by have := E1.out; have := E2.out; omega) (by have := E1.out; have := E2.out; omega) rfl).mono ?_; rintro e y1 ⟨rfl, b0⟩; have t1kq0 := cell_bx (cell_dr kq0) b0; have t1kq1 := cell_bx (cell_dr kq1) b0; have t1kr0 := cell_bx (cell_dr kr0) b0; have t1kr1 := cell_bx (cell_dr kr1) b0; have t1kf20 := cell_bx (cell_dr kf20) b0; have t1kf21 := cell_bx (cell_dr kf21) b0; have t1ks0 := cell_bx (cell_dr ks0) b0; have t1ks1 := cell_bx (cell_dr ks1) b0; have B1 := hid (bx_call (bx_drew (bx_drew (bx_refl Vip))) b0); clear b0))
    go_wp2_with fail
    go_ret
    exact ⟨rfl, bx_call X_14.out B4.out⟩
  · have n0 : (r0 != 0) = true := by rw [bne_iff_ne]; omega
    have n1 : decide (r0 < 0) = true := by exact decide_eq_true c1
    have n2 : decide (b < 0) = false := by exact decide_eq_false (by omega)
    have E1 := hid e1
    have E2 := hid e2
    clear e1 e2
    go_region_held3 (fun W => True) (trivial) (fail)
    obtain ⟨kq0, kq1⟩ := blk_two (Blk.keep Kq_14.out (bx_drew (bx_refl _)))
    obtain ⟨kr0, kr1⟩ := blk_two (Blk.keep Kr_14.out (bx_drew (bx_refl _)))
    obtain ⟨kf20, kf21⟩ := blk_two (Blk.keep Kf2.out (bx_drew (bx_refl _)))
    obtain ⟨ks0, ks1⟩ := blk_two (Blk.keep Ks.out (bx_drew (bx_refl _)))
    go_wp2_with fail
    go_region_held3 (fun W => W.cell? ⟨iq, 0, none⟩ = some (.bool (sg q0)) ∧ W.cell? ⟨iq, 1, none⟩ = some (.slice Aq nq cq) ∧ W.cell? ⟨iq + 1, 0, none⟩ = some (.bool (sg r0)) ∧ W.cell? ⟨iq + 1, 1, none⟩ = some (.slice Ar nr cr) ∧ W.cell? ⟨ip, 0, none⟩ = some (.bool (sg f0)) ∧ W.cell? ⟨ip, 1, none⟩ = some (.slice Af2 nf2 cf2) ∧ W.cell? ⟨ip + 1, 0, none⟩ = some (.bool (sg s0)) ∧ W.cell? ⟨ip + 1, 1, none⟩ = some (.slice As ns cs))
      (refine ⟨?_, ?_, ?_, ?_, ?_, ?_, ?_, ?_⟩ <;> repeat' (first | with_reducible assumption | with_reducible refine cell_dr ?_))
      (first
        | (go_at_call 47; refine (iis_any s0 (r0 + b) As ns cs y3 (Rs_14.out.keep B3.out) (by have := E1.out; have := E2.out; omega) (by have := E1.out; have := E2.out; omega) E2.out).mono ?_; rintro e y4 ⟨rfl, b0⟩; have t4kq0 := cell_bx t3kq0 b0; have t4kq1 := cell_bx t3kq1 b0; have t4kr0 := cell_bx t3kr0 b0; have t4kr1 := cell_bx t3kr1 b0; have t4kf20 := cell_bx t3kf20 b0; have t4kf21 := cell_bx t3kf21 b0; have t4ks0 := cell_bx t3ks0 b0; have t4ks1 := cell_bx t3ks1 b0; have B4 := hid (bx_call B3.out b0); clear t3kq0 t3kq1 t3kr0 t3kr1 t3kf20 t3kf21 t3ks0 t3ks1; clear b0)
        | (go_at_call 47; refine (iis_any f0 (q0 - 1) Af2 nf2 cf2 y2 (Rf2_14.out.keep B2.out) (by have := E1.out; have := E2.out; omega) (by have := E1.out; have := E2.out; omega) E1.out).mono ?_; rintro e y3 ⟨rfl, b0⟩; have t3kq0 := cell_bx t2kq0 b0; have t3kq1 := cell_bx t2kq1 b0; have t3kr0 := cell_bx t2kr0 b0; have t3kr1 := cell_bx t2kr1 b0; have t3kf20 := cell_bx t2kf20 b0; have t3kf21 := cell_bx t2kf21 b0; have t3ks0 := cell_bx t2ks0 b0; have t3ks1 := cell_bx t2ks1 b0; have B3 := hid (bx_call B2.out b0); clear t2kq0 t2kq1 t2kr0 t2kr1 t2kf20 t2kf21 t2ks0 t2ks1; clear b0)
        | (go_at_call 47; refine (iis_any r0 r0 Ar nr cr y1 (Rr_14.out.keep B1.out) (by have := E1.out; have := E2.out; omega) (by have := E1.out; have := E2.out; omega) rfl).mono ?_; rintro e y2 ⟨rfl, b0⟩; have t2kq0 := cell_bx t1kq0 b0; have t2kq1 := cell_bx t1kq1 b0; have t2kr0 := cell_bx t1kr0 b0; have t2kr1 := cell_bx t1kr1 b0; have t2kf20 := cell_bx t1kf20 b0; have t2kf21 := cell_bx t1kf21 b0; have t2ks0 := cell_bx t1ks0 b0; have t2ks1 := cell_bx t1ks1 b0; have B2 := hid (bx_call B1.out b0); clear t1kq0 t1kq1 t1kr0 t1kr1 t1kf20 t1kf21 t1ks0 t1ks1; clear b0)
        | (go_at_call 47; refine (iis_any q0 q0 Aq nq cq _ (Rq_14.out.keep (bx_drew (bx_drew (bx_refl _)))) (by have := E1.out; have := E2.out; omega) (by have := E1.out; have := E2.out; omega) rfl).mono ?_; rintro e y1 ⟨rfl, b0⟩; have t1kq0 := cell_bx (cell_dr kq0) b0; have t1kq1 := cell_bx (cell_dr kq1) b0; have t1kr0 := cell_bx (cell_dr kr0) b0; have t1kr1 := cell_bx (cell_dr kr1) b0; have t1kf20 := cell_bx (cell_dr kf20) b0; have t1kf21 := cell_bx (cell_dr kf21) b0; have t1ks0 := cell_bx (cell_dr ks0) b0; have t1ks1 := cell_bx (cell_dr ks1) b0; have B1 := hid (bx_call (bx_drew (bx_drew (bx_refl Vip))) b0); clear b0))
    go_wp2_with fail
    go_ret
    exact ⟨rfl, bx_call X_14.out B4.out⟩
  · have n0 : (r0 != 0) = true := by rw [bne_iff_ne]; omega
    have n1 : decide (r0 < 0) = false := by exact decide_eq_false (by omega)
    have n2 : decide (b < 0) = true := by exact decide_eq_true (by omega)
    have E1 := hid e1
    have E2 := hid e2
    clear e1 e2
    go_region_held3 (fun W => True) (trivial) (fail)
    obtain ⟨kq0, kq1⟩ := blk_two (Blk.keep Kq_14.out (bx_drew (bx_refl _)))
    obtain ⟨kr0, kr1⟩ := blk_two (Blk.keep Kr_14.out (bx_drew (bx_refl _)))
    obtain ⟨kf20, kf21⟩ := blk_two (Blk.keep Kf2.out (bx_drew (bx_refl _)))
    obtain ⟨ks0, ks1⟩ := blk_two (Blk.keep Ks.out (bx_drew (bx_refl _)))
    go_wp2_with fail
    go_region_held3 (fun W => W.cell? ⟨iq, 0, none⟩ = some (.bool (sg q0)) ∧ W.cell? ⟨iq, 1, none⟩ = some (.slice Aq nq cq) ∧ W.cell? ⟨iq + 1, 0, none⟩ = some (.bool (sg r0)) ∧ W.cell? ⟨iq + 1, 1, none⟩ = some (.slice Ar nr cr) ∧ W.cell? ⟨ip, 0, none⟩ = some (.bool (sg f0)) ∧ W.cell? ⟨ip, 1, none⟩ = some (.slice Af2 nf2 cf2) ∧ W.cell? ⟨ip + 1, 0, none⟩ = some (.bool (sg s0)) ∧ W.cell? ⟨ip + 1, 1, none⟩ = some (.slice As ns cs))
      (refine ⟨?_, ?_, ?_, ?_, ?_, ?_, ?_, ?_⟩ <;> repeat' (first | with_reducible assumption | with_reducible refine cell_dr ?_))
      (first
        | (go_at_call 47; refine (iis_any s0 (r0 + b) As ns cs y3 (Rs_14.out.keep B3.out) (by have := E1.out; have := E2.out; omega) (by have := E1.out; have := E2.out; omega) E2.out).mono ?_; rintro e y4 ⟨rfl, b0⟩; have t4kq0 := cell_bx t3kq0 b0; have t4kq1 := cell_bx t3kq1 b0; have t4kr0 := cell_bx t3kr0 b0; have t4kr1 := cell_bx t3kr1 b0; have t4kf20 := cell_bx t3kf20 b0; have t4kf21 := cell_bx t3kf21 b0; have t4ks0 := cell_bx t3ks0 b0; have t4ks1 := cell_bx t3ks1 b0; have B4 := hid (bx_call B3.out b0); clear t3kq0 t3kq1 t3kr0 t3kr1 t3kf20 t3kf21 t3ks0 t3ks1; clear b0)
        | (go_at_call 47; refine (iis_any f0 (q0 - 1) Af2 nf2 cf2 y2 (Rf2_14.out.keep B2.out) (by have := E1.out; have := E2.out; omega) (by have := E1.out; have := E2.out; omega) E1.out).mono ?_; rintro e y3 ⟨rfl, b0⟩; have t3kq0 := cell_bx t2kq0 b0; have t3kq1 := cell_bx t2kq1 b0; have t3kr0 := cell_bx t2kr0 b0; have t3kr1 := cell_bx t2kr1 b0; have t3kf20 := cell_bx t2kf20 b0; have t3kf21 := cell_bx t2kf21 b0; have t3ks0 := cell_bx t2ks0 b0; have t3ks1 := cell_bx t2ks1 b0; have B3 := hid (bx_call B2.out b0); clear t2kq0 t2kq1 t2kr0 t2kr1 t2kf20 t2kf21 t2ks0 t2ks1; clear b0)
        | (go_at_call 47; refine (iis_any r0 r0 Ar nr cr y1 (Rr_14.out.keep B1.out) (by have := E1.out; have := E2.out; omega) (by have := E1.out; have := E2.out; omega) rfl).mono ?_; rintro e y2 ⟨rfl, b0⟩; have t2kq0 := cell_bx t1kq0 b0; have t2kq1 := cell_bx t1kq1 b0; have t2kr0 := cell_bx t1kr0 b0; have t2kr1 := cell_bx t1kr1 b0; have t2kf20 := cell_bx t1kf20 b0; have t2kf21 := cell_bx t1kf21 b0; have t2ks0 := cell_bx t1ks0 b0; have t2ks1 := cell_bx t1ks1 b0; have B2 := hid (bx_call B1.out b0); clear t1kq0 t1kq1 t1kr0 t1kr1 t1kf20 t1kf21 t1ks0 t1ks1; clear b0)
        | (go_at_call 47; refine (iis_any q0 q0 Aq nq cq _ (Rq_14.out.keep (bx_drew (bx_drew (bx_refl _)))) (by have := E1.out; have := E2.out; omega) (by have := E1.out; have := E2.out; omega) rfl).mono ?_; rintro e y1 ⟨rfl, b0⟩; have t1kq0 := cell_bx (cell_dr kq0) b0; have t1kq1 := cell_bx (cell_dr kq1) b0; have t1kr0 := cell_bx (cell_dr kr0) b0; have t1kr1 := cell_bx (cell_dr kr1) b0; have t1kf20 := cell_bx (cell_dr kf20) b0; have t1kf21 := cell_bx (cell_dr kf21) b0; have t1ks0 := cell_bx (cell_dr ks0) b0; have t1ks1 := cell_bx (cell_dr ks1) b0; have B1 := hid (bx_call (bx_drew (bx_drew (bx_refl Vip))) b0); clear b0))
    go_wp2_with fail
    go_ret
    exact ⟨rfl, bx_call X_14.out B4.out⟩

end Go.Proofs.Ytobnbeeaiidpcaa
