/- Laws of layer 1, walked by contracts. -/
import Derived.Test.YtojcjhnhajjppaaLaw4
namespace Go.Proofs.Ytojcjhnhajjppaa
open Go.RowKit

theorem cmpN_zero_pos {x : Nat} (h : 0 < x) : cmpN x (val []) = 1 := by
  show cmpN x 0 = 1
  unfold cmpN
  rw [if_neg (by omega), if_pos h]
theorem cmpN_zero : cmpN 0 (val []) = 0 := rfl
theorem gcd_quo {x y : Nat} (h : 0 < x) : Nat.gcd (x / Nat.gcd x y) (y / Nat.gcd x y) = 1 := by
  have hp : 0 < Nat.gcd x y := Nat.gcd_pos_of_pos_left y h
  rw [Nat.gcd_div (Nat.gcd_dvd_left x y) (Nat.gcd_dvd_right x y), Nat.div_self hp]
theorem dg_one : dg 1 = [1] := dg_lit (Digs.cons (by omega) Digs.nil) (.inr (by decide)) _ (by decide)
theorem gcd_bd {x y k : Nat} (h : x < 4294967296 ^ k) (hx : 0 < x) : Nat.gcd x y < 4294967296 ^ k := bd_le h (Nat.gcd_le_left y hx)
theorem gcd_bd2 {x y k : Nat} (h : x < 4294967296 ^ k) (h2 : y < 4294967296 ^ k) : Nat.gcd x y < 4294967296 ^ k := by
  rcases Nat.eq_zero_or_pos x with h0 | h0
  · rw [h0, Nat.gcd_zero_left]; exact h2
  · exact gcd_bd h h0

set_option maxRecDepth 100000 in
set_option maxHeartbeats 4000000 in
theorem naturalDivisors_any (Aa : Option Addr) (na ca : Nat) (xsa : List Nat) (Ab : Option Addr) (nb cb : Nat) (xsb : List Nat) (Ak : Option Addr) (nk ck : Nat) (xsk : List Nat) (w : World) (ha : Rd w Aa na ca xsa) (hb : Rd w Ab nb cb xsb) (hk : Rd w Ak nk ck xsk) :
    Calls Try.prog 7 #[.slice Aa na ca, .slice Ab nb cb, .slice Ak nk ck] w (RetB w true) := by
  have Ra := hid ha
  have ka := ha.2.1
  have ja := ha.2.2.1
  have Rb := hid hb
  have kb := hb.2.1
  have jb := hb.2.2.1
  have Rk := hid hk
  have kk := hk.2.1
  have jk := hk.2.2.1
  have vla : na ≤ 6 → Hid (val xsa < 4294967296 ^ 12) := fun h => hid (lt_pow12 Ra.out (by omega))
  have vlb : nb ≤ 6 → Hid (val xsb < 4294967296 ^ 12) := fun h => hid (lt_pow12 Rb.out (by omega))
  have vlk : nk ≤ 6 → Hid (val xsk < 4294967296 ^ 12) := fun h => hid (lt_pow12 Rk.out (by omega))
  clear ha hb hk
  rcases (by omega : (na ≤ 6 ∧ nb ≤ 6 ∧ nk ≤ 6) ∨ (6 < na ∨ (na ≤ 6 ∧ 6 < nb) ∨ (na ≤ 6 ∧ nb ≤ 6 ∧ 6 < nk))) with ⟨qa, qb, qk⟩ | hf
  · have vha := vla qa
    have vhb := vlb qb
    have vhk := vlk qk
    clear vla vlb vlk
    go_enter Try.func7, Try.ntmps7
    go_wp2_with fail
    refine (awake_any w).mono ?_
    rintro e w1 ⟨rfl, bb1⟩
    have BB0 := hid (Below.refl w.heap.size w)
    have Ra_1 := hid (Ra.out.keep bb1)
    have Rb_1 := hid (Rb.out.keep bb1)
    have Rk_1 := hid (Rk.out.keep bb1)
    have BB1 := hid (BB0.out.trans (bb1.mono BB0.out.size))
    clear Ra Rb Rk BB0
    clear bb1
    have cc := gcd_any Aa Ab na ca nb cb _ _ w1 Ra_1.out Rb_1.out (by omega) (by omega)
    have CC := hid cc
    clear cc
    go_wp2_with fail
    refine (CC.out).mono ?_
    rintro e w2 ⟨v2, rfl, ⟨Ag, ng, cg, rfl, rg⟩, b2⟩
    clear CC
    have lg : ng ≤ 12 := by rw [← rg.1]; exact dg_len_le (gcd_bd2 vha.out vhb.out)
    have Rg := hid rg
    clear rg
    have Ra_2 := hid (Ra_1.out.keep b2)
    have Rb_2 := hid (Rb_1.out.keep b2)
    have Rk_2 := hid (Rk_1.out.keep b2)
    have BB2 := hid (BB1.out.trans (b2.mono BB1.out.size))
    clear Ra_1 Rb_1 Rk_1 BB1
    clear b2
    rcases Nat.eq_zero_or_pos (val xsa) with hx | hx
    · have HX := hid hx
      clear hx
      have cc := rcmp_any Aa none na ca 0 0 _ [] w2 Ra_2.out (Rd.nil _ none) (by omega) (by omega)
      rw [HX.out, cmpN_zero] at cc
      have CC := hid cc
      clear cc
      go_wp2_with fail
      refine (CC.out).mono ?_
      rintro e w3 ⟨rfl, b3⟩
      clear CC
      have Ra_3 := hid (Ra_2.out.keep b3)
      have Rb_3 := hid (Rb_2.out.keep b3)
      have Rk_3 := hid (Rk_2.out.keep b3)
      have Rg_3 := hid (Rg.out.keep b3)
      have BB3 := hid (BB2.out.trans (b3.mono BB2.out.size))
      clear Ra_2 Rb_2 Rk_2 Rg BB2
      clear b3
      have cc := radd_any Aa Ab na ca nb cb _ _ w3 Ra_3.out Rb_3.out (by omega) (by omega)
      rw [HX.out, Nat.zero_add] at cc
      have CC := hid cc
      clear cc
      go_wp2_with fail
      refine (CC.out).mono ?_
      rintro e w4 ⟨v4, rfl, ⟨As, ns, cs, rfl, rs⟩, b4⟩
      clear CC
      have ls : ns ≤ 12 := by rw [← rs.1]; exact dg_len_le vhb.out
      have Rs := hid rs
      clear rs
      have Ra_4 := hid (Ra_3.out.keep b4)
      have Rb_4 := hid (Rb_3.out.keep b4)
      have Rk_4 := hid (Rk_3.out.keep b4)
      have Rg_4 := hid (Rg_3.out.keep b4)
      have BB4 := hid (BB3.out.trans (b4.mono BB3.out.size))
      clear Ra_3 Rb_3 Rk_3 Rg_3 BB3
      clear b4
      have cc := rtrim_any As ns cs _ w4 Rs.out (by omega)
      rw [val_dg] at cc
      have CC := hid cc
      clear cc
      go_wp2_with fail
      refine (CC.out).mono ?_
      rintro e w5 ⟨v5, rfl, ⟨At, nt, ct, rfl, rt⟩, b5⟩
      clear CC
      have lt : nt ≤ 12 := by rw [← rt.1]; exact dg_len_le vhb.out
      have Rt := hid rt
      clear rt
      have Ra_5 := hid (Ra_4.out.keep b5)
      have Rb_5 := hid (Rb_4.out.keep b5)
      have Rk_5 := hid (Rk_4.out.keep b5)
      have Rg_5 := hid (Rg_4.out.keep b5)
      have Rs_5 := hid (Rs.out.keep b5)
      have BB5 := hid (BB4.out.trans (b5.mono BB4.out.size))
      clear Ra_4 Rb_4 Rk_4 Rg_4 Rs BB4
      clear b5
      have RG := hid Rg_5.out
      rw [HX.out, Nat.gcd_zero_left] at RG
      have cc := rsame_any Ag At ng cg nt ct _ _ w5 RG.out Rt.out
      rw [decide_eq_true rfl] at cc
      have CC := hid cc
      clear cc
      go_wp2_with fail
      refine (CC.out).mono ?_
      rintro e w6 ⟨rfl, b6⟩
      clear CC
      have Ra_6 := hid (Ra_5.out.keep b6)
      have Rb_6 := hid (Rb_5.out.keep b6)
      have Rk_6 := hid (Rk_5.out.keep b6)
      have Rg_6 := hid (Rg_5.out.keep b6)
      have Rs_6 := hid (Rs_5.out.keep b6)
      have Rt_6 := hid (Rt.out.keep b6)
      have BB6 := hid (BB5.out.trans (b6.mono BB5.out.size))
      clear Ra_5 Rb_5 Rk_5 Rg_5 Rs_5 Rt BB5
      clear b6
      go_wp2_with fail
      go_ret
      exact ⟨rfl, BB6.out⟩
    · have HX := hid hx
      clear hx
      have cc := rcmp_any Aa none na ca 0 0 _ [] w2 Ra_2.out (Rd.nil _ none) (by omega) (by omega)
      rw [cmpN_zero_pos HX.out] at cc
      have CC := hid cc
      clear cc
      go_wp2_with fail
      refine (CC.out).mono ?_
      rintro e w3 ⟨rfl, b3⟩
      clear CC
      have Ra_3 := hid (Ra_2.out.keep b3)
      have Rb_3 := hid (Rb_2.out.keep b3)
      have Rk_3 := hid (Rk_2.out.keep b3)
      have Rg_3 := hid (Rg.out.keep b3)
      have BB3 := hid (BB2.out.trans (b3.mono BB2.out.size))
      clear Ra_2 Rb_2 Rk_2 Rg BB2
      clear b3
      rcases Nat.eq_zero_or_pos (val xsb) with hy | hy
      · have HY := hid hy
        clear hy
        have cc := rcmp_any Ab none nb cb 0 0 _ [] w3 Rb_3.out (Rd.nil _ none) (by omega) (by omega)
        rw [HY.out, cmpN_zero] at cc
        have CC := hid cc
        clear cc
        go_wp2_with fail
        refine (CC.out).mono ?_
        rintro e w4 ⟨rfl, b4⟩
        clear CC
        have Ra_4 := hid (Ra_3.out.keep b4)
        have Rb_4 := hid (Rb_3.out.keep b4)
        have Rk_4 := hid (Rk_3.out.keep b4)
        have Rg_4 := hid (Rg_3.out.keep b4)
        have BB4 := hid (BB3.out.trans (b4.mono BB3.out.size))
        clear Ra_3 Rb_3 Rk_3 Rg_3 BB3
        clear b4
        have cc := radd_any Aa Ab na ca nb cb _ _ w4 Ra_4.out Rb_4.out (by omega) (by omega)
        rw [HY.out, Nat.add_zero] at cc
        have CC := hid cc
        clear cc
        go_wp2_with fail
        refine (CC.out).mono ?_
        rintro e w5 ⟨v5, rfl, ⟨As, ns, cs, rfl, rs⟩, b5⟩
        clear CC
        have ls : ns ≤ 12 := by rw [← rs.1]; exact dg_len_le vha.out
        have Rs := hid rs
        clear rs
        have Ra_5 := hid (Ra_4.out.keep b5)
        have Rb_5 := hid (Rb_4.out.keep b5)
        have Rk_5 := hid (Rk_4.out.keep b5)
        have Rg_5 := hid (Rg_4.out.keep b5)
        have BB5 := hid (BB4.out.trans (b5.mono BB4.out.size))
        clear Ra_4 Rb_4 Rk_4 Rg_4 BB4
        clear b5
        have cc := rtrim_any As ns cs _ w5 Rs.out (by omega)
        rw [val_dg] at cc
        have CC := hid cc
        clear cc
        go_wp2_with fail
        refine (CC.out).mono ?_
        rintro e w6 ⟨v6, rfl, ⟨At, nt, ct, rfl, rt⟩, b6⟩
        clear CC
        have lt : nt ≤ 12 := by rw [← rt.1]; exact dg_len_le vha.out
        have Rt := hid rt
        clear rt
        have Ra_6 := hid (Ra_5.out.keep b6)
        have Rb_6 := hid (Rb_5.out.keep b6)
        have Rk_6 := hid (Rk_5.out.keep b6)
        have Rg_6 := hid (Rg_5.out.keep b6)
        have Rs_6 := hid (Rs.out.keep b6)
        have BB6 := hid (BB5.out.trans (b6.mono BB5.out.size))
        clear Ra_5 Rb_5 Rk_5 Rg_5 Rs BB5
        clear b6
        have RG := hid Rg_6.out
        rw [HY.out, Nat.gcd_zero_right] at RG
        have cc := rsame_any Ag At ng cg nt ct _ _ w6 RG.out Rt.out
        rw [decide_eq_true rfl] at cc
        have CC := hid cc
        clear cc
        go_wp2_with fail
        refine (CC.out).mono ?_
        rintro e w7 ⟨rfl, b7⟩
        clear CC
        have Ra_7 := hid (Ra_6.out.keep b7)
        have Rb_7 := hid (Rb_6.out.keep b7)
        have Rk_7 := hid (Rk_6.out.keep b7)
        have Rg_7 := hid (Rg_6.out.keep b7)
        have Rs_7 := hid (Rs_6.out.keep b7)
        have Rt_7 := hid (Rt.out.keep b7)
        have BB7 := hid (BB6.out.trans (b7.mono BB6.out.size))
        clear Ra_6 Rb_6 Rk_6 Rg_6 Rs_6 Rt BB6
        clear b7
        go_wp2_with fail
        go_ret
        exact ⟨rfl, BB7.out⟩
      · have HY := hid hy
        clear hy
        have cc := rcmp_any Ab none nb cb 0 0 _ [] w3 Rb_3.out (Rd.nil _ none) (by omega) (by omega)
        rw [cmpN_zero_pos HY.out] at cc
        have CC := hid cc
        clear cc
        go_wp2_with fail
        refine (CC.out).mono ?_
        rintro e w4 ⟨rfl, b4⟩
        clear CC
        have Ra_4 := hid (Ra_3.out.keep b4)
        have Rb_4 := hid (Rb_3.out.keep b4)
        have Rk_4 := hid (Rk_3.out.keep b4)
        have Rg_4 := hid (Rg_3.out.keep b4)
        have BB4 := hid (BB3.out.trans (b4.mono BB3.out.size))
        clear Ra_3 Rb_3 Rk_3 Rg_3 BB3
        clear b4
        have HG := hid (Nat.gcd_pos_of_pos_left (val xsb) HX.out)
        have cc := rdivMod_any Aa Ag na ca ng cg _ _ w4 Ra_4.out Rg_4.out (by omega) (by omega)
        rw [val_dg, quoD_pos HG.out, remD_pos HG.out, divE_pos HG.out, Nat.mod_eq_zero_of_dvd (Nat.gcd_dvd_left (val xsa) (val xsb)), dg_zero] at cc
        have CC := hid cc
        clear cc
        go_wp2_with fail
        refine (CC.out).mono ?_
        rintro e w5 ⟨v5, u5, rfl, ⟨Ax, nx, cx, rfl, rx⟩, ⟨Ar, nr, cr, rfl, rr⟩, b5⟩
        clear CC
        have lx : nx ≤ 12 := by rw [← rx.1]; exact dg_len_le (bd_le vha.out (Nat.div_le_self _ _))
        have Rx := hid rx
        clear rx
        have lr : nr ≤ 0 := by rw [← rr.1]; exact Nat.le_refl _
        have Rr := hid rr
        clear rr
        have Ra_5 := hid (Ra_4.out.keep b5)
        have Rb_5 := hid (Rb_4.out.keep b5)
        have Rk_5 := hid (Rk_4.out.keep b5)
        have Rg_5 := hid (Rg_4.out.keep b5)
        have BB5 := hid (BB4.out.trans (b5.mono BB4.out.size))
        clear Ra_4 Rb_4 Rk_4 Rg_4 BB4
        clear b5
        obtain rfl : nr = 0 := by omega
        clear Rr
        have cc := rdivMod_any Ab Ag nb cb ng cg _ _ w5 Rb_5.out Rg_5.out (by omega) (by omega)
        rw [val_dg, quoD_pos HG.out, remD_pos HG.out, divE_pos HG.out, Nat.mod_eq_zero_of_dvd (Nat.gcd_dvd_right (val xsa) (val xsb)), dg_zero] at cc
        have CC := hid cc
        clear cc
        go_wp2_with fail
        refine (CC.out).mono ?_
        rintro e w6 ⟨v6, u6, rfl, ⟨Ay, ny, cy, rfl, ry⟩, ⟨As, ns, cs, rfl, rs⟩, b6⟩
        clear CC
        have ly : ny ≤ 12 := by rw [← ry.1]; exact dg_len_le (bd_le vhb.out (Nat.div_le_self _ _))
        have Ry := hid ry
        clear ry
        have ls : ns ≤ 0 := by rw [← rs.1]; exact Nat.le_refl _
        have Rs := hid rs
        clear rs
        have Ra_6 := hid (Ra_5.out.keep b6)
        have Rb_6 := hid (Rb_5.out.keep b6)
        have Rk_6 := hid (Rk_5.out.keep b6)
        have Rg_6 := hid (Rg_5.out.keep b6)
        have Rx_6 := hid (Rx.out.keep b6)
        have BB6 := hid (BB5.out.trans (b6.mono BB5.out.size))
        clear Ra_5 Rb_5 Rk_5 Rg_5 Rx BB5
        clear b6
        obtain rfl : ns = 0 := by omega
        clear Rs
        have cc := gcd_any Ax Ay nx cx ny cy _ _ w6 Rx_6.out Ry.out (by omega) (by omega)
        rw [val_dg, val_dg, gcd_quo HX.out, dg_one] at cc
        have CC := hid cc
        clear cc
        go_wp2_with fail
        refine (CC.out).mono ?_
        rintro e w7 ⟨v7, rfl, ⟨At, nt, ct, rfl, rt⟩, b7⟩
        clear CC
        have lt : nt ≤ 1 := by rw [← rt.1]; exact Nat.le_refl _
        have Rt := hid rt
        clear rt
        have Ra_7 := hid (Ra_6.out.keep b7)
        have Rb_7 := hid (Rb_6.out.keep b7)
        have Rk_7 := hid (Rk_6.out.keep b7)
        have Rg_7 := hid (Rg_6.out.keep b7)
        have Rx_7 := hid (Rx_6.out.keep b7)
        have Ry_7 := hid (Ry.out.keep b7)
        have BB7 := hid (BB6.out.trans (b7.mono BB6.out.size))
        clear Ra_6 Rb_6 Rk_6 Rg_6 Rx_6 Ry BB6
        clear b7
        clear Rx_7
        clear Ry_7
        have al8 := (Below.refl w7.heap.size w7).alloc (Nat.le_refl _) (.cells #[.int .u32 1] 44)
        have Ra_8 := hid (Ra_7.out.keep al8)
        have Rb_8 := hid (Rb_7.out.keep al8)
        have Rk_8 := hid (Rk_7.out.keep al8)
        have Rg_8 := hid (Rg_7.out.keep al8)
        have Rt_8 := hid (Rt.out.keep al8)
        have BB8 := hid (BB7.out.trans (al8.mono BB7.out.size))
        clear Ra_7 Rb_7 Rk_7 Rg_7 Rt BB7
        clear al8
        have cc := rsame_any At _ nt ct 1 1 _ _ (w7.alloc (.cells #[.int .u32 1] 44)) Rt_8.out (one_rd w7 1 (by omega) 1 rfl)
        rw [decide_eq_true rfl] at cc
        have CC := hid cc
        clear cc
        go_wp2_with fail
        refine (CC.out).mono ?_
        rintro e w9 ⟨rfl, b9⟩
        clear CC
        have Ra_9 := hid (Ra_8.out.keep b9)
        have Rb_9 := hid (Rb_8.out.keep b9)
        have Rk_9 := hid (Rk_8.out.keep b9)
        have Rg_9 := hid (Rg_8.out.keep b9)
        have Rt_9 := hid (Rt_8.out.keep b9)
        have BB9 := hid (BB8.out.trans (b9.mono BB8.out.size))
        clear Ra_8 Rb_8 Rk_8 Rg_8 Rt_8 BB8
        clear b9
        clear Rt_9
        have cc := rmul_any Aa Ak na ca nk ck _ _ w9 Ra_9.out Rk_9.out (by omega) (by omega)
        have CC := hid cc
        clear cc
        go_wp2_with fail
        refine (CC.out).mono ?_
        rintro e w10 ⟨v10, rfl, ⟨Ai, ni, ci, rfl, ri⟩, b10⟩
        clear CC
        have li : ni ≤ 24 := by rw [← ri.1]; exact dg_len_le (bd_mul vha.out vhk.out)
        have Ri := hid ri
        clear ri
        have Ra_10 := hid (Ra_9.out.keep b10)
        have Rb_10 := hid (Rb_9.out.keep b10)
        have Rk_10 := hid (Rk_9.out.keep b10)
        have Rg_10 := hid (Rg_9.out.keep b10)
        have BB10 := hid (BB9.out.trans (b10.mono BB9.out.size))
        clear Ra_9 Rb_9 Rk_9 Rg_9 BB9
        clear b10
        have cc := rmul_any Ab Ak nb cb nk ck _ _ w10 Rb_10.out Rk_10.out (by omega) (by omega)
        have CC := hid cc
        clear cc
        go_wp2_with fail
        refine (CC.out).mono ?_
        rintro e w11 ⟨v11, rfl, ⟨Al, nl, cl, rfl, rl⟩, b11⟩
        clear CC
        have ll : nl ≤ 24 := by rw [← rl.1]; exact dg_len_le (bd_mul vhb.out vhk.out)
        have Rl := hid rl
        clear rl
        have Ra_11 := hid (Ra_10.out.keep b11)
        have Rb_11 := hid (Rb_10.out.keep b11)
        have Rk_11 := hid (Rk_10.out.keep b11)
        have Rg_11 := hid (Rg_10.out.keep b11)
        have Ri_11 := hid (Ri.out.keep b11)
        have BB11 := hid (BB10.out.trans (b11.mono BB10.out.size))
        clear Ra_10 Rb_10 Rk_10 Rg_10 Ri BB10
        clear b11
        have cc := gcd_any Ai Al ni ci nl cl _ _ w11 Ri_11.out Rl.out (by omega) (by omega)
        rw [val_dg, val_dg, Nat.gcd_mul_right] at cc
        have CC := hid cc
        clear cc
        go_wp2_with fail
        refine (CC.out).mono ?_
        rintro e w12 ⟨v12, rfl, ⟨Am, nm, cm, rfl, rm⟩, b12⟩
        clear CC
        have lm : nm ≤ 24 := by rw [← rm.1]; exact dg_len_le (bd_mul (gcd_bd2 vha.out vhb.out) vhk.out)
        have Rm := hid rm
        clear rm
        have Ra_12 := hid (Ra_11.out.keep b12)
        have Rb_12 := hid (Rb_11.out.keep b12)
        have Rk_12 := hid (Rk_11.out.keep b12)
        have Rg_12 := hid (Rg_11.out.keep b12)
        have Ri_12 := hid (Ri_11.out.keep b12)
        have Rl_12 := hid (Rl.out.keep b12)
        have BB12 := hid (BB11.out.trans (b12.mono BB11.out.size))
        clear Ra_11 Rb_11 Rk_11 Rg_11 Ri_11 Rl BB11
        clear b12
        have cc := rmul_any Ag Ak ng cg nk ck _ _ w12 Rg_12.out Rk_12.out (by omega) (by omega)
        rw [val_dg] at cc
        have CC := hid cc
        clear cc
        go_wp2_with fail
        refine (CC.out).mono ?_
        rintro e w13 ⟨v13, rfl, ⟨Ao, no, co, rfl, ro⟩, b13⟩
        clear CC
        have lo : no ≤ 24 := by rw [← ro.1]; exact dg_len_le (bd_mul (gcd_bd2 vha.out vhb.out) vhk.out)
        have Ro := hid ro
        clear ro
        have Ra_13 := hid (Ra_12.out.keep b13)
        have Rb_13 := hid (Rb_12.out.keep b13)
        have Rk_13 := hid (Rk_12.out.keep b13)
        have Rg_13 := hid (Rg_12.out.keep b13)
        have Ri_13 := hid (Ri_12.out.keep b13)
        have Rl_13 := hid (Rl_12.out.keep b13)
        have Rm_13 := hid (Rm.out.keep b13)
        have BB13 := hid (BB12.out.trans (b13.mono BB12.out.size))
        clear Ra_12 Rb_12 Rk_12 Rg_12 Ri_12 Rl_12 Rm BB12
        clear b13
        have cc := rsame_any Am Ao nm cm no co _ _ w13 Rm_13.out Ro.out 
        rw [decide_eq_true rfl] at cc
        have CC := hid cc
        clear cc
        go_wp2_with fail
        refine (CC.out).mono ?_
        rintro e w14 ⟨rfl, b14⟩
        clear CC
        have Ra_14 := hid (Ra_13.out.keep b14)
        have Rb_14 := hid (Rb_13.out.keep b14)
        have Rk_14 := hid (Rk_13.out.keep b14)
        have Rg_14 := hid (Rg_13.out.keep b14)
        have Ri_14 := hid (Ri_13.out.keep b14)
        have Rl_14 := hid (Rl_13.out.keep b14)
        have Rm_14 := hid (Rm_13.out.keep b14)
        have Ro_14 := hid (Ro.out.keep b14)
        have BB14 := hid (BB13.out.trans (b14.mono BB13.out.size))
        clear Ra_13 Rb_13 Rk_13 Rg_13 Ri_13 Rl_13 Rm_13 Ro BB13
        clear b14
        go_wp2_with fail
        go_ret
        exact ⟨rfl, BB14.out⟩
  · clear vla vlb vlk
    rcases hf with hf | ⟨hf, hg⟩ | ⟨hf, hg, hh⟩
    all_goals
      go_enter Try.func7, Try.ntmps7
      go_wp2_with fail
      refine (awake_any w).mono ?_
      rintro e w1 ⟨rfl, bb1⟩
      have B1 := hid bb1
      clear bb1
      go_wp2_with fail
      refine (awake_any w1).mono ?_
      rintro e w3 ⟨rfl, bb3⟩
      have F := hid (B1.out.trans (bb3.mono B1.out.size))
      clear bb3
      go_wp2_with fail
      go_ret
      exact ⟨rfl, F.out⟩

end Go.Proofs.Ytojcjhnhajjppaa
