/- The law RationalLowest of layer 3, walked by contracts. -/
import Derived.Test.YtcbbacnhnaopmaaQval
namespace Go.Proofs.Ytcbbacnhnaopmaa
open Go.RowKit

theorem prod_i32 {a b : Int} (ha : -2147483648 ≤ a ∧ a ≤ 2147483647) (hb : -2147483648 ≤ b ∧ b ≤ 2147483647) : -4611686018427387904 ≤ a * b ∧ a * b ≤ 4611686018427387904 := by
  obtain ⟨a1, a2⟩ := ha
  obtain ⟨b1, b2⟩ := hb
  constructor
  · rcases Int.lt_or_le a 0 with h | h
    · rcases Int.lt_or_le b 0 with k | k
      · have := Int.mul_pos_of_neg_of_neg h k; omega
      · have := Int.mul_le_mul_of_nonneg_right a1 k; omega
    · rcases Int.lt_or_le b 0 with k | k
      · have := Int.mul_le_mul_of_nonneg_left b1 h; omega
      · have := Int.mul_nonneg h k; omega
  · rcases Int.lt_or_le a 0 with h | h
    · rcases Int.lt_or_le b 0 with k | k
      · have h1 := Int.mul_le_mul_of_nonpos_right a1 (Int.le_of_lt k)
        omega
      · have := Int.mul_nonpos_of_nonpos_of_nonneg (Int.le_of_lt h) k; omega
    · rcases Int.lt_or_le b 0 with k | k
      · have := Int.mul_nonpos_of_nonneg_of_nonpos h (Int.le_of_lt k); omega
      · have := Int.mul_le_mul_of_nonneg_right a2 k; omega
theorem pv_scale {a b k : Int} (hk : k ≠ 0) : pv a b = pv (a * k) (b * k) := by
  have h := ic_ne hk
  by_cases hb : b = 0
  · subst hb
    rw [Int.zero_mul, pv_zr, pv_zr]
  · have h2 := ic_ne hb
    unfold pv
    rw [Rat.intCast_mul, Rat.intCast_mul]
    grind

set_option maxRecDepth 100000 in
set_option maxHeartbeats 8000000 in
theorem rationalLowest_any (a b k : Int) (w : World) (ha : -2147483648 ≤ a ∧ a ≤ 2147483647) (hb : -2147483648 ≤ b ∧ b ≤ 2147483647) (hk : -2147483648 ≤ k ∧ k ≤ 2147483647) :
    Calls Try.prog 16 #[.int .i32 a, .int .i32 b, .int .i32 k] w (RetB w true) := by
  obtain ⟨m1, m2⟩ := prod_i32 ha hk
  obtain ⟨m3, m4⟩ := prod_i32 hb hk
  obtain ⟨a1, a2⟩ := ha
  obtain ⟨b1, b2⟩ := hb
  obtain ⟨k1, k2⟩ := hk
  have F1 := hid (fun (W : World) => vfrac a b W (by omega) (by omega) (by omega) (by omega))
  have F2 := hid (fun (W : World) => vfrac (a * k) (b * k) W (by omega) (by omega) (by omega) (by omega))
  obtain ⟨z1, hz1⟩ : ∃ z : Int, z = if b = 0 then 2 else 0 := ⟨_, rfl⟩
  obtain ⟨z2, hz2⟩ : ∃ z : Int, z = if b * k = 0 then 2 else 0 := ⟨_, rfl⟩
  obtain ⟨x, hx⟩ : ∃ q, q = pv a b := ⟨_, rfl⟩
  obtain ⟨y, hy⟩ : ∃ q, q = pv (a * k) (b * k) := ⟨_, rfl⟩
  rw [← hz1, ← hx] at F1
  rw [← hz2, ← hy] at F2
  have Z1 := hid hz1
  have Z2 := hid hz2
  have HX := hid hx
  have HY := hid hy
  clear hz1 hz2 hx hy
  go_enter Try.func16, Try.ntmps16
  go_wp2_with fail
  refine (qawake_any w).mono ?_
  rintro e w1 ⟨rfl, b0⟩
  have X1 := hid b0
  clear b0
  go_wp2_with fail
  refine (F1.out _).mono ?_
  rintro e w2 ⟨A2, n2, c2, D2, e2, d2, rfl, r, b0⟩
  have o := bx_alloc (bx_refl w2) (.cells #[.bool (sg x.num), .slice A2 n2 c2, .slice D2 e2 d2] 50)
  have p1 := r.1.2.1
  have p2 := r.1.2.2.1
  have p3 := r.2.2.1.2.1
  have p4 := r.2.2.1.2.2.1
  have X2 := hid (bx_call X1.out (bx_call b0 o))
  have Lx := hid (r.keep o)
  have Kx := hid (Blk.new w2 [.bool (sg x.num), .slice A2 n2 c2, .slice D2 e2 d2] 50)
  clear r b0 o F1 X1
  obtain ⟨v2, hv2⟩ : ∃ W, W = w2.alloc (.cells #[.bool (sg x.num), .slice A2 n2 c2, .slice D2 e2 d2] 50) := ⟨_, rfl⟩
  obtain ⟨bx, hbx⟩ : ∃ i, i = w2.heap.size := ⟨_, rfl⟩
  rw [← hv2] at X2 Lx Kx
  rw [← hbx] at Kx
  go_upto_region 4 with fail
  rw [← hv2, ← hbx]
  clear hv2 hbx
  go_wp2_with fail
  refine (F2.out _).mono ?_
  rintro e w3 ⟨A3, n3, c3, D3, e3, d3, rfl, r, b0⟩
  have o := bx_alloc (bx_refl w3) (.cells #[.bool (sg y.num), .slice A3 n3 c3, .slice D3 e3 d3] 50)
  have p5 := r.1.2.1
  have p6 := r.1.2.2.1
  have p7 := r.2.2.1.2.1
  have p8 := r.2.2.1.2.2.1
  have X3 := hid (bx_call X2.out (bx_call b0 o))
  have Lx3 := hid (Lx.out.keep (bx_call b0 o))
  have Kx3 := hid (Kx.out.keep (bx_call b0 o))
  have Ly := hid (r.keep o)
  have Ky := hid (Blk.new w3 [.bool (sg y.num), .slice A3 n3 c3, .slice D3 e3 d3] 50)
  clear r b0 o F2 X2 Lx Kx
  obtain ⟨v3, hv3⟩ : ∃ W, W = w3.alloc (.cells #[.bool (sg y.num), .slice A3 n3 c3, .slice D3 e3 d3] 50) := ⟨_, rfl⟩
  obtain ⟨b3, hb3⟩ : ∃ i, i = w3.heap.size := ⟨_, rfl⟩
  rw [← hv3] at X3 Lx3 Kx3 Ly Ky
  rw [← hb3] at Ky
  go_upto_region 5 with fail
  rw [← hv3, ← hb3]
  clear hv3 hb3
  by_cases hb0 : b = 0
  · subst hb0
    obtain rfl : z1 = 2 := by rw [Z1.out, if_pos rfl]
    obtain rfl : z2 = 2 := by rw [Z2.out, Int.zero_mul, if_pos rfl]
    clear Z1 Z2 HX HY Lx3 Kx3 Ly Ky m1 m2 m3 m4
    go_wp2_with fail
    go_ret
    exact ⟨rfl, X3.out⟩
  have tb : (b == 0) = false := beq_eq_false_iff_ne.2 hb0
  obtain rfl : z1 = 0 := by rw [Z1.out, if_neg hb0]
  by_cases hk0 : k = 0
  · subst hk0
    obtain rfl : z2 = 2 := by rw [Z2.out, Int.mul_zero, if_pos rfl]
    clear Z1 Z2 HX HY Lx3 Kx3 Ly Ky m1 m2 m3 m4 hb0
    go_wp2_with fail
    go_ret
    exact ⟨rfl, X3.out⟩
  have tk : (k == 0) = false := beq_eq_false_iff_ne.2 hk0
  obtain rfl : z2 = 0 := by rw [Z2.out, if_neg (Int.mul_ne_zero hb0 hk0)]
  have cc := vsame Lx3.out Ly.out
  rw [decide_eq_true (show x = y from by rw [HX.out, HY.out]; exact pv_scale hk0)] at cc
  have CC := hid cc
  have VV := hid (fun (W : World) (r : FrL W A2 n2 c2 D2 e2 d2 2 x) => (show Calls Try.prog 56 #[.agg #[.bool (sg x.num), .slice A2 n2 c2, .slice D2 e2 d2]] W (RetB W true) from by
    have t := vvalid (sg x.num) A2 n2 c2 _ D2 e2 d2 _ W r.1 (Nat.le_trans r.2.1 (by omega)) r.2.2.1 (Nat.le_trans r.2.2.2.1 (by omega))
    rw [vB_low r] at t
    exact t))
  obtain ⟨s0, s1, s2⟩ := blk_three Kx3.out
  obtain ⟨t0, t1, t2⟩ := blk_three Ky.out
  clear cc Z1 Z2 HX HY m1 m2 m3 m4 hb0 hk0 Ly Ky
  go_wp2_with fail
  refine (CC.out).mono ?_
  rintro e w4 ⟨rfl, b0⟩
  have X4 := hid (bx_call X3.out b0)
  have V4 := hid (VV.out w4 (Lx3.out.keep b0))
  obtain ⟨u0, u1, u2⟩ := blk_three (Kx3.out.keep b0)
  clear b0 CC X3 VV Lx3 Kx3 s0 s1 s2 t0 t1 t2
  go_wp2_with fail
  refine (V4.out).mono ?_
  rintro e w5 ⟨rfl, b0⟩
  have X5 := hid (bx_call X4.out b0)
  clear b0 V4 X4
  go_wp2_with fail
  go_ret
  exact ⟨rfl, X5.out⟩

end Go.Proofs.Ytcbbacnhnaopmaa
