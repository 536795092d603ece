/- Laws of layer 1, walked by contracts. -/
import Derived.Test.YtojcjhnhajjppaaLaw1
namespace Go.Proofs.Ytojcjhnhajjppaa
open Go.RowKit

theorem subD_add (x y : Nat) : subD (x + y) y = dg x := by
  unfold subD
  rw [if_neg (by omega)]
  congr 1
  omega
theorem subE_add (x y : Nat) : subE (x + y) y = 0 := by
  unfold subE
  rw [if_neg (by omega)]
theorem cmpN_self (x : Nat) : cmpN x x = 0 := by
  unfold cmpN
  rw [if_neg (Nat.lt_irrefl _), if_neg (Nat.lt_irrefl _)]
theorem fullB_dg (n : Nat) : fullB (dg n) = true := by
  unfold fullB
  rw [val_dg]
  exact decide_eq_true rfl

set_option maxHeartbeats 400000 in
theorem ring_same (A B : Option Addr) (n c m d x : Nat) (w : World) (ha : Rd w A n c (dg x)) (hb : Rd w B m d (dg x)) :
    Calls Try.prog 40 #[.slice A n c, .slice B m d] w (RetB w true) := by
  have cc := cmp_any A B n c m d _ _ w ha hb
  rw [cmpN_self] at cc
  have CC := hid cc
  have ss := rsame_any A B n c m d _ _ w ha hb
  rw [decide_eq_true rfl] at ss
  have SS := hid ss
  clear cc ss ha hb
  go_enter Try.func40, Try.ntmps40
  go_wp2_with fail
  refine (CC.out).mono ?_
  rintro e w' ⟨rfl, rfl⟩
  go_wp2_with fail
  refine (SS.out).mono ?_
  rintro e w' ⟨rfl, b⟩
  have B := hid b
  clear b
  go_wp2_with fail
  go_ret
  exact ⟨rfl, B.out⟩

set_option maxRecDepth 100000 in
set_option maxHeartbeats 4000000 in
theorem naturalRing_any (Aa : Option Addr) (na ca : Nat) (xsa : List Nat) (Ab : Option Addr) (nb cb : Nat) (xsb : List Nat) (Ac : Option Addr) (nc cc : Nat) (xsc : List Nat) (w : World) (ha : Rd w Aa na ca xsa) (hb : Rd w Ab nb cb xsb) (hc : Rd w Ac nc cc xsc) :
    Calls Try.prog 6 #[.slice Aa na ca, .slice Ab nb cb, .slice Ac nc cc] w (RetB w true) := by
  have Ra := hid ha
  have ka := ha.2.1
  have ja := ha.2.2.1
  have Rb := hid hb
  have kb := hb.2.1
  have jb := hb.2.2.1
  have Rc := hid hc
  have kc := hc.2.1
  have jc := hc.2.2.1
  have vla : na ≤ 12 → Hid (val xsa < 4294967296 ^ 12) := fun h => hid (lt_pow12 Ra.out h)
  have vlb : nb ≤ 12 → Hid (val xsb < 4294967296 ^ 12) := fun h => hid (lt_pow12 Rb.out h)
  have vlc : nc ≤ 12 → Hid (val xsc < 4294967296 ^ 12) := fun h => hid (lt_pow12 Rc.out h)
  clear ha hb hc
  by_cases hf : na ≤ 12 ∧ nb ≤ 12 ∧ nc ≤ 12
  · obtain ⟨qa, qb, qc⟩ := hf
    have vha := vla qa
    have vhb := vlb qb
    have vhc := vlc qc
    clear vla vlb vlc
    go_enter Try.func6, Try.ntmps6
    go_wp2_with fail
    refine (awake_any w).mono ?_
    rintro e w1 ⟨rfl, bb1⟩
    have cc := few3 w1 Aa Ab Ac na ca nb cb nc cc (by omega) (by omega) (by omega)
    rw [decide_eq_true ⟨qa, qb, qc⟩] at cc
    have CC := hid cc
    clear cc
    go_wp2_with fail
    refine (CC.out).mono ?_
    rintro e w' ⟨rfl, rfl⟩
    clear CC
    have BB0 := hid (Below.refl w.heap.size w)
    have Ra_1 := hid (Ra.out.keep bb1)
    have Rb_1 := hid (Rb.out.keep bb1)
    have Rc_1 := hid (Rc.out.keep bb1)
    have BB1 := hid (BB0.out.trans (bb1.mono BB0.out.size))
    clear Ra Rb Rc BB0
    clear bb1
    have al2 := (Below.refl w1.heap.size w1).alloc (Nat.le_refl _) (.cells #[.slice Aa na ca, .slice Ab nb cb, .slice Ac nc cc] 23)
    have Ra_2 := hid (Ra_1.out.keep al2)
    have Rb_2 := hid (Rb_1.out.keep al2)
    have Rc_2 := hid (Rc_1.out.keep al2)
    have BB2 := hid (BB1.out.trans (al2.mono BB1.out.size))
    clear Ra_1 Rb_1 Rc_1 BB1
    clear al2
    have cc := add_any Aa Ab na ca nb cb _ _ (w1.alloc (.cells #[.slice Aa na ca, .slice Ab nb cb, .slice Ac nc cc] 23)) Ra_2.out Rb_2.out (by omega) (by omega)
    have CC := hid cc
    clear cc
    go_wp2_with fail
    refine (CC.out).mono ?_
    rintro e w3 ⟨v3, rfl, ⟨Ad, nd, cd, rfl, rd⟩, b3⟩
    clear CC
    have ld : nd ≤ 13 := by rw [← rd.1]; exact dg_len_le (bd_add vha.out vhb.out)
    have Rd := hid rd
    clear rd
    have Ra_3 := hid (Ra_2.out.keep b3)
    have Rb_3 := hid (Rb_2.out.keep b3)
    have Rc_3 := hid (Rc_2.out.keep b3)
    have BB3 := hid (BB2.out.trans (b3.mono BB2.out.size))
    clear Ra_2 Rb_2 Rc_2 BB2
    clear b3
    have cc := sub_any Ad Ab nd cd nb cb _ _ w3 Rd.out Rb_3.out (by omega) (by omega)
    rw [val_dg, subD_add, subE_add] at cc
    have CC := hid cc
    clear cc
    go_wp2_with fail
    refine (CC.out).mono ?_
    rintro e w4 ⟨v4, rfl, ⟨Ae, ne, ce, rfl, re⟩, b4⟩
    clear CC
    have le : ne ≤ 12 := by rw [← re.1]; exact dg_len_le vha.out
    have Re := hid re
    clear re
    have Ra_4 := hid (Ra_3.out.keep b4)
    have Rb_4 := hid (Rb_3.out.keep b4)
    have Rc_4 := hid (Rc_3.out.keep b4)
    have Rd_4 := hid (Rd.out.keep b4)
    have BB4 := hid (BB3.out.trans (b4.mono BB3.out.size))
    clear Ra_3 Rb_3 Rc_3 Rd BB3
    clear b4
    clear Rd_4
    have cc := add_any Aa Ab na ca nb cb _ _ w4 Ra_4.out Rb_4.out (by omega) (by omega)
    have CC := hid cc
    clear cc
    go_wp2_with fail
    refine (CC.out).mono ?_
    rintro e w5 ⟨v5, rfl, ⟨Ag, ng, cg, rfl, rg⟩, b5⟩
    clear CC
    have lg : ng ≤ 13 := by rw [← rg.1]; exact dg_len_le (bd_add vha.out vhb.out)
    have Rg := hid rg
    clear rg
    have Ra_5 := hid (Ra_4.out.keep b5)
    have Rb_5 := hid (Rb_4.out.keep b5)
    have Rc_5 := hid (Rc_4.out.keep b5)
    have Re_5 := hid (Re.out.keep b5)
    have BB5 := hid (BB4.out.trans (b5.mono BB4.out.size))
    clear Ra_4 Rb_4 Rc_4 Re BB4
    clear b5
    have cc := add_any Ab Aa nb cb na ca _ _ w5 Rb_5.out Ra_5.out (by omega) (by omega)
    rw [Nat.add_comm (val xsb) (val xsa)] at cc
    have CC := hid cc
    clear cc
    go_wp2_with fail
    refine (CC.out).mono ?_
    rintro e w6 ⟨v6, rfl, ⟨Ah, nh, ch, rfl, rh⟩, b6⟩
    clear CC
    have lh : nh ≤ 13 := by rw [← rh.1]; exact dg_len_le (bd_add vha.out vhb.out)
    have Rh := hid rh
    clear rh
    have Ra_6 := hid (Ra_5.out.keep b6)
    have Rb_6 := hid (Rb_5.out.keep b6)
    have Rc_6 := hid (Rc_5.out.keep b6)
    have Re_6 := hid (Re_5.out.keep b6)
    have Rg_6 := hid (Rg.out.keep b6)
    have BB6 := hid (BB5.out.trans (b6.mono BB5.out.size))
    clear Ra_5 Rb_5 Rc_5 Re_5 Rg BB5
    clear b6
    have cc := ring_same Ag Ah ng cg nh ch _ w6 Rg_6.out Rh.out
    have CC := hid cc
    clear cc
    go_wp2_with fail
    refine (CC.out).mono ?_
    rintro e w7 ⟨rfl, b7⟩
    clear CC
    have Ra_7 := hid (Ra_6.out.keep b7)
    have Rb_7 := hid (Rb_6.out.keep b7)
    have Rc_7 := hid (Rc_6.out.keep b7)
    have Re_7 := hid (Re_6.out.keep b7)
    have Rg_7 := hid (Rg_6.out.keep b7)
    have Rh_7 := hid (Rh.out.keep b7)
    have BB7 := hid (BB6.out.trans (b7.mono BB6.out.size))
    clear Ra_6 Rb_6 Rc_6 Re_6 Rg_6 Rh BB6
    clear b7
    clear Rg_7
    clear Rh_7
    have cc := mul_any Aa Ab na ca nb cb _ _ w7 Ra_7.out Rb_7.out (by omega) (by omega)
    have CC := hid cc
    clear cc
    go_wp2_with fail
    refine (CC.out).mono ?_
    rintro e w8 ⟨v8, rfl, ⟨Ai, ni, ci, rfl, ri⟩, b8⟩
    clear CC
    have li : ni ≤ 24 := by rw [← ri.1]; exact dg_len_le (bd_mul vha.out vhb.out)
    have Ri := hid ri
    clear ri
    have Ra_8 := hid (Ra_7.out.keep b8)
    have Rb_8 := hid (Rb_7.out.keep b8)
    have Rc_8 := hid (Rc_7.out.keep b8)
    have Re_8 := hid (Re_7.out.keep b8)
    have BB8 := hid (BB7.out.trans (b8.mono BB7.out.size))
    clear Ra_7 Rb_7 Rc_7 Re_7 BB7
    clear b8
    have cc := mul_any Ab Aa nb cb na ca _ _ w8 Rb_8.out Ra_8.out (by omega) (by omega)
    rw [Nat.mul_comm (val xsb) (val xsa)] at cc
    have CC := hid cc
    clear cc
    go_wp2_with fail
    refine (CC.out).mono ?_
    rintro e w9 ⟨v9, rfl, ⟨Al, nl, cl, rfl, rl⟩, b9⟩
    clear CC
    have ll : nl ≤ 24 := by rw [← rl.1]; exact dg_len_le (bd_mul vha.out vhb.out)
    have Rl := hid rl
    clear rl
    have Ra_9 := hid (Ra_8.out.keep b9)
    have Rb_9 := hid (Rb_8.out.keep b9)
    have Rc_9 := hid (Rc_8.out.keep b9)
    have Re_9 := hid (Re_8.out.keep b9)
    have Ri_9 := hid (Ri.out.keep b9)
    have BB9 := hid (BB8.out.trans (b9.mono BB8.out.size))
    clear Ra_8 Rb_8 Rc_8 Re_8 Ri BB8
    clear b9
    have cc := ring_same Ai Al ni ci nl cl _ w9 Ri_9.out Rl.out
    have CC := hid cc
    clear cc
    go_wp2_with fail
    refine (CC.out).mono ?_
    rintro e w10 ⟨rfl, b10⟩
    clear CC
    have Ra_10 := hid (Ra_9.out.keep b10)
    have Rb_10 := hid (Rb_9.out.keep b10)
    have Rc_10 := hid (Rc_9.out.keep b10)
    have Re_10 := hid (Re_9.out.keep b10)
    have Ri_10 := hid (Ri_9.out.keep b10)
    have Rl_10 := hid (Rl.out.keep b10)
    have BB10 := hid (BB9.out.trans (b10.mono BB9.out.size))
    clear Ra_9 Rb_9 Rc_9 Re_9 Ri_9 Rl BB9
    clear b10
    clear Ri_10
    clear Rl_10
    have cc := add_any Aa Ab na ca nb cb _ _ w10 Ra_10.out Rb_10.out (by omega) (by omega)
    have CC := hid cc
    clear cc
    go_wp2_with fail
    refine (CC.out).mono ?_
    rintro e w11 ⟨v11, rfl, ⟨Am, nm, cm, rfl, rm⟩, b11⟩
    clear CC
    have lm : nm ≤ 13 := by rw [← rm.1]; exact dg_len_le (bd_add vha.out vhb.out)
    have Rm := hid rm
    clear rm
    have Ra_11 := hid (Ra_10.out.keep b11)
    have Rb_11 := hid (Rb_10.out.keep b11)
    have Rc_11 := hid (Rc_10.out.keep b11)
    have Re_11 := hid (Re_10.out.keep b11)
    have BB11 := hid (BB10.out.trans (b11.mono BB10.out.size))
    clear Ra_10 Rb_10 Rc_10 Re_10 BB10
    clear b11
    have cc := add_any Am Ac nm cm nc cc _ _ w11 Rm.out Rc_11.out (by omega) (by omega)
    rw [val_dg] at cc
    have CC := hid cc
    clear cc
    go_wp2_with fail
    refine (CC.out).mono ?_
    rintro e w12 ⟨v12, rfl, ⟨Ao, no, co, rfl, ro⟩, b12⟩
    clear CC
    have lo : no ≤ 14 := by rw [← ro.1]; exact dg_len_le (bd_add (bd_add vha.out vhb.out) (bd_up vhc.out (by omega : 12 ≤ 13)))
    have Ro := hid ro
    clear ro
    have Ra_12 := hid (Ra_11.out.keep b12)
    have Rb_12 := hid (Rb_11.out.keep b12)
    have Rc_12 := hid (Rc_11.out.keep b12)
    have Re_12 := hid (Re_11.out.keep b12)
    have Rm_12 := hid (Rm.out.keep b12)
    have BB12 := hid (BB11.out.trans (b12.mono BB11.out.size))
    clear Ra_11 Rb_11 Rc_11 Re_11 Rm BB11
    clear b12
    clear Rm_12
    have cc := add_any Ab Ac nb cb nc cc _ _ w12 Rb_12.out Rc_12.out (by omega) (by omega)
    have CC := hid cc
    clear cc
    go_wp2_with fail
    refine (CC.out).mono ?_
    rintro e w13 ⟨v13, rfl, ⟨Aq1, nq1, cq1, rfl, rq1⟩, b13⟩
    clear CC
    have lq1 : nq1 ≤ 13 := by rw [← rq1.1]; exact dg_len_le (bd_add vhb.out vhc.out)
    have Rq1 := hid rq1
    clear rq1
    have Ra_13 := hid (Ra_12.out.keep b13)
    have Rb_13 := hid (Rb_12.out.keep b13)
    have Rc_13 := hid (Rc_12.out.keep b13)
    have Re_13 := hid (Re_12.out.keep b13)
    have Ro_13 := hid (Ro.out.keep b13)
    have BB13 := hid (BB12.out.trans (b13.mono BB12.out.size))
    clear Ra_12 Rb_12 Rc_12 Re_12 Ro BB12
    clear b13
    have cc := add_any Aa Aq1 na ca nq1 cq1 _ _ w13 Ra_13.out Rq1.out (by omega) (by omega)
    rw [val_dg, ← Nat.add_assoc] at cc
    have CC := hid cc
    clear cc
    go_wp2_with fail
    refine (CC.out).mono ?_
    rintro e w14 ⟨v14, rfl, ⟨As, ns, cs, rfl, rs⟩, b14⟩
    clear CC
    have ls : ns ≤ 14 := by rw [← rs.1]; exact dg_len_le (bd_add (bd_add vha.out vhb.out) (bd_up vhc.out (by omega : 12 ≤ 13)))
    have Rs := hid rs
    clear rs
    have Ra_14 := hid (Ra_13.out.keep b14)
    have Rb_14 := hid (Rb_13.out.keep b14)
    have Rc_14 := hid (Rc_13.out.keep b14)
    have Re_14 := hid (Re_13.out.keep b14)
    have Ro_14 := hid (Ro_13.out.keep b14)
    have Rq1_14 := hid (Rq1.out.keep b14)
    have BB14 := hid (BB13.out.trans (b14.mono BB13.out.size))
    clear Ra_13 Rb_13 Rc_13 Re_13 Ro_13 Rq1 BB13
    clear b14
    clear Rq1_14
    have cc := ring_same Ao As no co ns cs _ w14 Ro_14.out Rs.out
    have CC := hid cc
    clear cc
    go_wp2_with fail
    refine (CC.out).mono ?_
    rintro e w15 ⟨rfl, b15⟩
    clear CC
    have Ra_15 := hid (Ra_14.out.keep b15)
    have Rb_15 := hid (Rb_14.out.keep b15)
    have Rc_15 := hid (Rc_14.out.keep b15)
    have Re_15 := hid (Re_14.out.keep b15)
    have Ro_15 := hid (Ro_14.out.keep b15)
    have Rs_15 := hid (Rs.out.keep b15)
    have BB15 := hid (BB14.out.trans (b15.mono BB14.out.size))
    clear Ra_14 Rb_14 Rc_14 Re_14 Ro_14 Rs BB14
    clear b15
    clear Ro_15
    clear Rs_15
    have cc := mul_any Aa Ab na ca nb cb _ _ w15 Ra_15.out Rb_15.out (by omega) (by omega)
    have CC := hid cc
    clear cc
    go_wp2_with fail
    refine (CC.out).mono ?_
    rintro e w16 ⟨v16, rfl, ⟨At, nt, ct, rfl, rt⟩, b16⟩
    clear CC
    have lt : nt ≤ 24 := by rw [← rt.1]; exact dg_len_le (bd_mul vha.out vhb.out)
    have Rt := hid rt
    clear rt
    have Ra_16 := hid (Ra_15.out.keep b16)
    have Rb_16 := hid (Rb_15.out.keep b16)
    have Rc_16 := hid (Rc_15.out.keep b16)
    have Re_16 := hid (Re_15.out.keep b16)
    have BB16 := hid (BB15.out.trans (b16.mono BB15.out.size))
    clear Ra_15 Rb_15 Rc_15 Re_15 BB15
    clear b16
    have cc := mul_any At Ac nt ct nc cc _ _ w16 Rt.out Rc_16.out (by omega) (by omega)
    rw [val_dg] at cc
    have CC := hid cc
    clear cc
    go_wp2_with fail
    refine (CC.out).mono ?_
    rintro e w17 ⟨v17, rfl, ⟨Au1, nu1, cu1, rfl, ru1⟩, b17⟩
    clear CC
    have lu1 : nu1 ≤ 36 := by rw [← ru1.1]; exact dg_len_le (bd_mul (bd_mul vha.out vhb.out) vhc.out)
    have Ru1 := hid ru1
    clear ru1
    have Ra_17 := hid (Ra_16.out.keep b17)
    have Rb_17 := hid (Rb_16.out.keep b17)
    have Rc_17 := hid (Rc_16.out.keep b17)
    have Re_17 := hid (Re_16.out.keep b17)
    have Rt_17 := hid (Rt.out.keep b17)
    have BB17 := hid (BB16.out.trans (b17.mono BB16.out.size))
    clear Ra_16 Rb_16 Rc_16 Re_16 Rt BB16
    clear b17
    clear Rt_17
    have cc := mul_any Ab Ac nb cb nc cc _ _ w17 Rb_17.out Rc_17.out (by omega) (by omega)
    have CC := hid cc
    clear cc
    go_wp2_with fail
    refine (CC.out).mono ?_
    rintro e w18 ⟨v18, rfl, ⟨Av0, nv0, cv0, rfl, rv0⟩, b18⟩
    clear CC
    have lv0 : nv0 ≤ 24 := by rw [← rv0.1]; exact dg_len_le (bd_mul vhb.out vhc.out)
    have Rv0 := hid rv0
    clear rv0
    have Ra_18 := hid (Ra_17.out.keep b18)
    have Rb_18 := hid (Rb_17.out.keep b18)
    have Rc_18 := hid (Rc_17.out.keep b18)
    have Re_18 := hid (Re_17.out.keep b18)
    have Ru1_18 := hid (Ru1.out.keep b18)
    have BB18 := hid (BB17.out.trans (b18.mono BB17.out.size))
    clear Ra_17 Rb_17 Rc_17 Re_17 Ru1 BB17
    clear b18
    have cc := mul_any Aa Av0 na ca nv0 cv0 _ _ w18 Ra_18.out Rv0.out (by omega) (by omega)
    rw [val_dg, ← Nat.mul_assoc] at cc
    have CC := hid cc
    clear cc
    go_wp2_with fail
    refine (CC.out).mono ?_
    rintro e w19 ⟨v19, rfl, ⟨Ax0, nx0, cx0, rfl, rx0⟩, b19⟩
    clear CC
    have lx0 : nx0 ≤ 36 := by rw [← rx0.1]; exact dg_len_le (bd_mul (bd_mul vha.out vhb.out) vhc.out)
    have Rx0 := hid rx0
    clear rx0
    have Ra_19 := hid (Ra_18.out.keep b19)
    have Rb_19 := hid (Rb_18.out.keep b19)
    have Rc_19 := hid (Rc_18.out.keep b19)
    have Re_19 := hid (Re_18.out.keep b19)
    have Ru1_19 := hid (Ru1_18.out.keep b19)
    have Rv0_19 := hid (Rv0.out.keep b19)
    have BB19 := hid (BB18.out.trans (b19.mono BB18.out.size))
    clear Ra_18 Rb_18 Rc_18 Re_18 Ru1_18 Rv0 BB18
    clear b19
    clear Rv0_19
    have cc := ring_same Au1 Ax0 nu1 cu1 nx0 cx0 _ w19 Ru1_19.out Rx0.out
    have CC := hid cc
    clear cc
    go_wp2_with fail
    refine (CC.out).mono ?_
    rintro e w20 ⟨rfl, b20⟩
    clear CC
    have Ra_20 := hid (Ra_19.out.keep b20)
    have Rb_20 := hid (Rb_19.out.keep b20)
    have Rc_20 := hid (Rc_19.out.keep b20)
    have Re_20 := hid (Re_19.out.keep b20)
    have Ru1_20 := hid (Ru1_19.out.keep b20)
    have Rx0_20 := hid (Rx0.out.keep b20)
    have BB20 := hid (BB19.out.trans (b20.mono BB19.out.size))
    clear Ra_19 Rb_19 Rc_19 Re_19 Ru1_19 Rx0 BB19
    clear b20
    clear Ru1_20
    clear Rx0_20
    have cc := add_any Ab Ac nb cb nc cc _ _ w20 Rb_20.out Rc_20.out (by omega) (by omega)
    have CC := hid cc
    clear cc
    go_wp2_with fail
    refine (CC.out).mono ?_
    rintro e w21 ⟨v21, rfl, ⟨Ay0, ny0, cy0, rfl, ry0⟩, b21⟩
    clear CC
    have ly0 : ny0 ≤ 13 := by rw [← ry0.1]; exact dg_len_le (bd_add vhb.out vhc.out)
    have Ry0 := hid ry0
    clear ry0
    have Ra_21 := hid (Ra_20.out.keep b21)
    have Rb_21 := hid (Rb_20.out.keep b21)
    have Rc_21 := hid (Rc_20.out.keep b21)
    have Re_21 := hid (Re_20.out.keep b21)
    have BB21 := hid (BB20.out.trans (b21.mono BB20.out.size))
    clear Ra_20 Rb_20 Rc_20 Re_20 BB20
    clear b21
    have cc := mul_any Aa Ay0 na ca ny0 cy0 _ _ w21 Ra_21.out Ry0.out (by omega) (by omega)
    rw [val_dg] at cc
    have CC := hid cc
    clear cc
    go_wp2_with fail
    refine (CC.out).mono ?_
    rintro e w22 ⟨v22, rfl, ⟨Az0, nz0, cz0, rfl, rz0⟩, b22⟩
    clear CC
    have lz0 : nz0 ≤ 25 := by rw [← rz0.1]; exact dg_len_le (bd_mul vha.out (bd_add vhb.out vhc.out))
    have Rz0 := hid rz0
    clear rz0
    have Ra_22 := hid (Ra_21.out.keep b22)
    have Rb_22 := hid (Rb_21.out.keep b22)
    have Rc_22 := hid (Rc_21.out.keep b22)
    have Re_22 := hid (Re_21.out.keep b22)
    have Ry0_22 := hid (Ry0.out.keep b22)
    have BB22 := hid (BB21.out.trans (b22.mono BB21.out.size))
    clear Ra_21 Rb_21 Rc_21 Re_21 Ry0 BB21
    clear b22
    clear Ry0_22
    have cc := mul_any Aa Ab na ca nb cb _ _ w22 Ra_22.out Rb_22.out (by omega) (by omega)
    have CC := hid cc
    clear cc
    go_wp2_with fail
    refine (CC.out).mono ?_
    rintro e w23 ⟨v23, rfl, ⟨Ag1, ng1, cg1, rfl, rg1⟩, b23⟩
    clear CC
    have lg1 : ng1 ≤ 24 := by rw [← rg1.1]; exact dg_len_le (bd_mul vha.out vhb.out)
    have Rg1 := hid rg1
    clear rg1
    have Ra_23 := hid (Ra_22.out.keep b23)
    have Rb_23 := hid (Rb_22.out.keep b23)
    have Rc_23 := hid (Rc_22.out.keep b23)
    have Re_23 := hid (Re_22.out.keep b23)
    have Rz0_23 := hid (Rz0.out.keep b23)
    have BB23 := hid (BB22.out.trans (b23.mono BB22.out.size))
    clear Ra_22 Rb_22 Rc_22 Re_22 Rz0 BB22
    clear b23
    have cc := mul_any Aa Ac na ca nc cc _ _ w23 Ra_23.out Rc_23.out (by omega) (by omega)
    have CC := hid cc
    clear cc
    go_wp2_with fail
    refine (CC.out).mono ?_
    rintro e w24 ⟨v24, rfl, ⟨Ah1, nh1, ch1, rfl, rh1⟩, b24⟩
    clear CC
    have lh1 : nh1 ≤ 24 := by rw [← rh1.1]; exact dg_len_le (bd_mul vha.out vhc.out)
    have Rh1 := hid rh1
    clear rh1
    have Ra_24 := hid (Ra_23.out.keep b24)
    have Rb_24 := hid (Rb_23.out.keep b24)
    have Rc_24 := hid (Rc_23.out.keep b24)
    have Re_24 := hid (Re_23.out.keep b24)
    have Rz0_24 := hid (Rz0_23.out.keep b24)
    have Rg1_24 := hid (Rg1.out.keep b24)
    have BB24 := hid (BB23.out.trans (b24.mono BB23.out.size))
    clear Ra_23 Rb_23 Rc_23 Re_23 Rz0_23 Rg1 BB23
    clear b24
    have cc := add_any Ag1 Ah1 ng1 cg1 nh1 ch1 _ _ w24 Rg1_24.out Rh1.out (by omega) (by omega)
    rw [val_dg, val_dg, ← Nat.mul_add] at cc
    have CC := hid cc
    clear cc
    go_wp2_with fail
    refine (CC.out).mono ?_
    rintro e w25 ⟨v25, rfl, ⟨Ai1, ni1, ci1, rfl, ri1⟩, b25⟩
    clear CC
    have li1 : ni1 ≤ 25 := by rw [← ri1.1]; exact dg_len_le (bd_mul vha.out (bd_add vhb.out vhc.out))
    have Ri1 := hid ri1
    clear ri1
    have Ra_25 := hid (Ra_24.out.keep b25)
    have Rb_25 := hid (Rb_24.out.keep b25)
    have Rc_25 := hid (Rc_24.out.keep b25)
    have Re_25 := hid (Re_24.out.keep b25)
    have Rz0_25 := hid (Rz0_24.out.keep b25)
    have Rg1_25 := hid (Rg1_24.out.keep b25)
    have Rh1_25 := hid (Rh1.out.keep b25)
    have BB25 := hid (BB24.out.trans (b25.mono BB24.out.size))
    clear Ra_24 Rb_24 Rc_24 Re_24 Rz0_24 Rg1_24 Rh1 BB24
    clear b25
    clear Rg1_25
    clear Rh1_25
    have cc := ring_same Az0 Ai1 nz0 cz0 ni1 ci1 _ w25 Rz0_25.out Ri1.out
    have CC := hid cc
    clear cc
    go_wp2_with fail
    refine (CC.out).mono ?_
    rintro e w26 ⟨rfl, b26⟩
    clear CC
    have Ra_26 := hid (Ra_25.out.keep b26)
    have Rb_26 := hid (Rb_25.out.keep b26)
    have Rc_26 := hid (Rc_25.out.keep b26)
    have Re_26 := hid (Re_25.out.keep b26)
    have Rz0_26 := hid (Rz0_25.out.keep b26)
    have Ri1_26 := hid (Ri1.out.keep b26)
    have BB26 := hid (BB25.out.trans (b26.mono BB25.out.size))
    clear Ra_25 Rb_25 Rc_25 Re_25 Rz0_25 Ri1 BB25
    clear b26
    clear Rz0_26
    clear Ri1_26
    have cc := cmp_any Ae Aa ne ce na ca _ _ w26 Re_26.out Ra_26.out
    rw [val_dg, cmpN_self] at cc
    have CC := hid cc
    clear cc
    go_wp2_with fail
    refine (CC.out).mono ?_
    rintro e w' ⟨rfl, rfl⟩
    clear CC
    go_wp2_with fail
    go_ret
    exact ⟨rfl, BB26.out⟩
  · have hF := decide_eq_false hf
    clear hf vla vlb vlc
    go_enter Try.func6, Try.ntmps6
    go_wp2_with fail
    refine (awake_any w).mono ?_
    rintro e w1 ⟨rfl, bb1⟩
    have cc := few3 w1 Aa Ab Ac na ca nb cb nc cc (by omega) (by omega) (by omega)
    rw [hF] at cc
    have CC := hid cc
    clear cc hF
    go_wp2_with fail
    refine (CC.out).mono ?_
    rintro e w' ⟨rfl, rfl⟩
    clear CC
    go_wp2_with fail
    refine (awake_any _).mono ?_
    rintro e w3 ⟨rfl, bb3⟩
    have F := hid (bb1.trans (((Below.refl w1.heap.size w1).alloc (Nat.le_refl _) (.cells #[.slice Aa na ca, .slice Ab nb cb, .slice Ac nc cc] 23)).trans (bb3.mono (by simp)) |>.mono bb1.size))
    clear bb1 bb3
    go_wp2_with fail
    go_ret
    exact ⟨rfl, F.out⟩

end Go.Proofs.Ytojcjhnhajjppaa
