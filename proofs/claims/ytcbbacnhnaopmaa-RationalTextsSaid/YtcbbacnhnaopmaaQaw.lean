/- Contracts: frac and awake of the laws of layer 3. -/
import Derived.Test.YtcbbacnhnaopmaaRatY
namespace Go.Proofs.Ytcbbacnhnaopmaa
open Go.RowKit

theorem qx_text : txQ (pv 6 (-4)) = [45, 51, 47, 50] := by
  have e1 : (pv 6 (-4)).num = -3 := by decide +kernel
  have e2 : (pv 6 (-4)).den = 2 := by decide +kernel
  have t3 : tx 3 = [51] := tx_lit (ds := [3]) (decs_lit (by decide)) (.inr (by decide)) (by decide) (by decide)
  have t2 : tx 2 = [50] := tx_lit (ds := [2]) (decs_lit (by decide)) (.inr (by decide)) (by decide) (by decide)
  unfold txQ
  rw [e1, e2, if_neg (by decide), t2]
  unfold txZ
  rw [if_pos (by decide), show (-3 : Int).natAbs = 3 from rfl, t3]
  rfl
theorem qx_floor : (pv (-7) 2).floor = -4 := by decide +kernel
theorem qx_ceil : (pv (-7) 2).ceil = -3 := by decide +kernel
theorem qx_sum : pv 1 6 + pv 1 3 = pv 1 2 := by decide +kernel

set_option maxRecDepth 100000 in
set_option maxHeartbeats 2000000 in
theorem lfrac (p q : Int) (w : World) (h1 : -9223372036854775808 ≤ p) (h2 : p ≤ 9223372036854775807) (h3 : -9223372036854775808 ≤ q) (h4 : q ≤ 9223372036854775807) :
    Calls Try.prog 106 #[.int .i64 p, .int .i64 q] w (RetQ w (pv p q) 2) := by
  have K := hid (Blk.new w [.bool false, .slice none 0 0, .slice none 0 0] 50)
  have B := hid (bx_alloc (bx_refl w) (.cells #[.bool false, .slice none 0 0, .slice none 0 0] 50))
  have F := hid (fun (W : World) => vrfrac p q W h1 h2 h3 h4)
  obtain ⟨z, hz⟩ : ∃ z : Int, z = if q = 0 then 2 else 0 := ⟨_, rfl⟩
  obtain ⟨V, hV⟩ : ∃ V, V = pv p q := ⟨_, rfl⟩
  rw [← hz, ← hV] at F
  rw [← hV]
  clear h1 h2 h3 h4 hz hV
  go_enter Try.func106, Try.ntmps106
  go_wp2_with fail
  refine (F.out _).mono ?_
  rintro e w1 ⟨A1, n1, c1, D1, m1, d1, rfl, r, b⟩
  have p1 := r.1.2.1
  have p2 := r.1.2.2.1
  have p3 := r.2.2.1.2.1
  have p4 := r.2.2.1.2.2.1
  have o := bx_alloc (bx_refl w1) (.cells #[.bool (sg V.num), .slice A1 n1 c1, .slice D1 m1 d1] 50)
  have K1 := hid (K.out.keep (bx_call b o))
  have EE := hid (retq_end (r.keep o) K1.out (bx_call B.out (bx_call b o)) (Nat.le_refl _))
  obtain ⟨x0, x1, x2⟩ := blk_three K1.out
  have f0 := Blk.free K1.out 0
  have f1 := Blk.free K1.out 1
  have f2 := Blk.free K1.out 2
  clear r b o K B F K1
  go_wp2_with fail
  exact bodyPost_ret (v := .agg #[.bool (sg V.num), .slice A1 n1 c1, .slice D1 m1 d1]) (by simp [results, Try.results106, go_sem, x0, x1, x2]) rfl EE.out

set_option maxRecDepth 100000 in
set_option maxHeartbeats 8000000 in
theorem qawake_any (w : World) : Calls Try.prog 48 #[] w (RetB w true) := by
  have TX := hid qx_text
  have FL := hid qx_floor
  have CE := hid qx_ceil
  have SM := hid qx_sum
  have F1 := hid (vfrac 6 (-4) w (by omega) (by omega) (by omega) (by omega))
  rw [if_neg (show ¬(-4 : Int) = 0 by decide)] at F1
  have F2 := hid (fun (W : World) => lfrac (-7) 2 W (by omega) (by omega) (by omega) (by omega))
  have F3 := hid (fun (W : World) => lfrac 1 6 W (by omega) (by omega) (by omega) (by omega))
  have F4 := hid (fun (W : World) => lfrac 1 3 W (by omega) (by omega) (by omega) (by omega))
  have F5 := hid (fun (W : World) => lfrac 1 2 W (by omega) (by omega) (by omega) (by omega))
  have I4 := hid (fun (W : World) => rifrom_any (-4) W (by omega) (by omega))
  have I3 := hid (fun (W : World) => rifrom_any (-3) W (by omega) (by omega))
  obtain ⟨qa, hqa⟩ : ∃ q, q = pv 6 (-4) := ⟨_, rfl⟩
  obtain ⟨qh, hqh⟩ : ∃ q, q = pv (-7) 2 := ⟨_, rfl⟩
  obtain ⟨q1, hq1⟩ : ∃ q, q = pv 1 6 := ⟨_, rfl⟩
  obtain ⟨q2, hq2⟩ : ∃ q, q = pv 1 3 := ⟨_, rfl⟩
  obtain ⟨q3, hq3⟩ : ∃ q, q = pv 1 2 := ⟨_, rfl⟩
  rw [← hqa] at TX F1
  rw [← hqh] at FL CE F2
  rw [← hq1] at SM F3
  rw [← hq2] at SM F4
  rw [← hq3] at SM F5
  clear hqa hqh hq1 hq2 hq3
  go_enter Try.func48, Try.ntmps48
  go_wp2_with fail
  refine (F1.out).mono ?_
  rintro e w1 ⟨Aa, na, ca, Da, ma, da, rfl, r, b⟩
  have o := bx_alloc (bx_refl w1) (.cells #[.bool (sg qa.num), .slice Aa na ca, .slice Da ma da] 50)
  have p1 := r.1.2.1
  have p2 := r.1.2.2.1
  have p3 := r.2.2.1.2.1
  have p4 := r.2.2.1.2.2.1
  have X1 := hid (bx_call b o)
  have La := hid (r.keep o)
  have Ka := hid (Blk.new w1 [.bool (sg qa.num), .slice Aa na ca, .slice Da ma da] 50)
  clear r b o F1
  go_wp2_with fail
  obtain ⟨v1, hv1⟩ : ∃ W, W = w1.alloc (.cells #[.bool (sg qa.num), .slice Aa na ca, .slice Da ma da] 50) := ⟨_, rfl⟩
  rw [← hv1] at X1 La Ka ⊢
  clear hv1
  refine (F2.out _).mono ?_
  rintro e w2 ⟨Ah, nh, ch, Dh, mh, dh, rfl, r, b⟩
  have o := bx_alloc (bx_refl w2) (.cells #[.bool (sg qh.num), .slice Ah nh ch, .slice Dh mh dh] 50)
  have p5 := r.1.2.1
  have p6 := r.1.2.2.1
  have p7 := r.2.2.1.2.1
  have p8 := r.2.2.1.2.2.1
  have X2 := hid (bx_call X1.out (bx_call b o))
  have La2 := hid (La.out.keep (bx_call b o))
  have Ka2 := hid (Ka.out.keep (bx_call b o))
  have Lh := hid (r.keep o)
  have Kh := hid (Blk.new w2 [.bool (sg qh.num), .slice Ah nh ch, .slice Dh mh dh] 50)
  clear r b o F2 X1 La Ka
  obtain ⟨v2, hv2⟩ : ∃ W, W = w2.alloc (.cells #[.bool (sg qh.num), .slice Ah nh ch, .slice Dh mh dh] 50) := ⟨_, rfl⟩
  obtain ⟨bh, hbh⟩ : ∃ i, i = w2.heap.size := ⟨_, rfl⟩
  obtain ⟨ba, hba⟩ : ∃ i, i = w1.heap.size := ⟨_, rfl⟩
  rw [← hv2] at X2 La2 Ka2 Lh Kh
  rw [← hbh] at Kh
  rw [← hba] at Ka2
  go_upto_region 3 with fail
  rw [← hv2, ← hbh, ← hba]
  clear hv2 hbh hba
  have TT := hid (vtext (sg qa.num) Aa na ca Da ma da 2 qa v2 La2.out.v (by omega))
  rw [TX.out] at TT
  obtain ⟨a0, a1, a2⟩ := blk_three Ka2.out
  go_wp2_with fail
  refine (TT.out).mono ?_
  rintro e w3 ⟨rfl, b⟩
  have X3 := hid (bx_call X2.out b)
  have Lh3 := hid (Lh.out.keep b)
  have Kh3 := hid (Kh.out.keep b)
  clear b TT X2 La2 Ka2 Lh Kh a0 a1 a2 TX
  go_wp2_with fail
  refine (F3.out _).mono ?_
  rintro e w4 ⟨A1, n1, c1, D1, m1, d1, rfl, r, b⟩
  have X4 := hid (bx_call X3.out b)
  have Lh4 := hid (Lh3.out.keep b)
  have Kh4 := hid (Kh3.out.keep b)
  have R1 := hid r
  clear b r X3 Lh3 Kh3 F3
  go_wp2_with fail
  refine (F4.out _).mono ?_
  rintro e w5 ⟨A2, n2, c2, D2, m2, d2, rfl, r, b⟩
  have X5 := hid (bx_call X4.out b)
  have Lh5 := hid (Lh4.out.keep b)
  have Kh5 := hid (Kh4.out.keep b)
  have AD := hid (vadd (sg q1.num) A1 n1 c1 D1 m1 d1 (sg q2.num) A2 n2 c2 D2 m2 d2 2 q1 q2 w5 (R1.out.keep b).v r.v (by omega))
  rw [SM.out] at AD
  clear b r X4 Lh4 Kh4 F4 R1
  go_wp2_with fail
  refine (AD.out).mono ?_
  rintro e w6 ⟨A3, n3, c3, D3, m3, d3, rfl, r, b⟩
  have X6 := hid (bx_call X5.out b)
  have Lh6 := hid (Lh5.out.keep b)
  have Kh6 := hid (Kh5.out.keep b)
  have R3 := hid r
  clear b r X5 Lh5 Kh5 AD
  go_wp2_with fail
  refine (F5.out _).mono ?_
  rintro e w7 ⟨A4, n4, c4, D4, m4, d4, rfl, r, b⟩
  have X7 := hid (bx_call X6.out b)
  have Lh7 := hid (Lh6.out.keep b)
  have Kh7 := hid (Kh6.out.keep b)
  have SA := hid (vsame (R3.out.keep b) r)
  rw [decide_eq_true rfl] at SA
  clear b r X6 Lh6 Kh6 F5 R3
  go_wp2_with fail
  refine (SA.out).mono ?_
  rintro e w8 ⟨rfl, b⟩
  have X8 := hid (bx_call X7.out b)
  have Lh8 := hid (Lh7.out.keep b)
  have Kh8 := hid (Kh7.out.keep b)
  have FF := hid (vfloor (sg qh.num) Ah nh ch Dh mh dh 2 qh w8 Lh8.out.v (by omega))
  rw [FL.out] at FF
  clear b X7 Lh7 Kh7 SA FL
  obtain ⟨a0, a1, a2⟩ := blk_three Kh8.out
  go_wp2_with fail
  refine (FF.out).mono ?_
  rintro e w9 ⟨A5, n5, c5, rfl, r, b⟩
  have X9 := hid (bx_call X8.out b)
  have Lh9 := hid (Lh8.out.keep b)
  have Kh9 := hid (Kh8.out.keep b)
  have R5 := hid r
  clear b r X8 Lh8 Kh8 FF a0 a1 a2
  go_wp2_with fail
  refine (I4.out _).mono ?_
  rintro e w10 ⟨A6, n6, c6, rfl, r, b⟩
  have X10 := hid (bx_call X9.out b)
  have Lh10 := hid (Lh9.out.keep b)
  have Kh10 := hid (Kh9.out.keep b)
  have SA := hid (risame_true (-4) A5 n5 c5 A6 n6 c6 w10 (R5.out.keep b) r)
  clear b r X9 Lh9 Kh9 I4 R5
  go_wp2_with fail
  refine (SA.out).mono ?_
  rintro e w11 ⟨rfl, b⟩
  have X11 := hid (bx_call X10.out b)
  have Kh11 := hid (Kh10.out.keep b)
  have FF := hid (vceil (sg qh.num) Ah nh ch Dh mh dh 2 qh w11 (Lh10.out.keep b).v (by omega))
  rw [CE.out] at FF
  clear b X10 Lh10 Kh10 SA CE
  obtain ⟨a0, a1, a2⟩ := blk_three Kh11.out
  go_wp2_with fail
  refine (FF.out).mono ?_
  rintro e w12 ⟨A7, n7, c7, rfl, r, b⟩
  have X12 := hid (bx_call X11.out b)
  have R7 := hid r
  clear b r X11 Kh11 FF a0 a1 a2
  go_wp2_with fail
  refine (I3.out _).mono ?_
  rintro e w13 ⟨A8, n8, c8, rfl, r, b⟩
  have X13 := hid (bx_call X12.out b)
  have SA := hid (risame_true (-3) A7 n7 c7 A8 n8 c8 w13 (R7.out.keep b) r)
  clear b r X12 I3 R7
  go_wp2_with fail
  refine (SA.out).mono ?_
  rintro e w14 ⟨rfl, b⟩
  have X14 := hid (bx_call X13.out b)
  clear b X13 SA
  go_wp2_with fail
  go_ret
  exact ⟨rfl, X14.out⟩

end Go.Proofs.Ytcbbacnhnaopmaa
