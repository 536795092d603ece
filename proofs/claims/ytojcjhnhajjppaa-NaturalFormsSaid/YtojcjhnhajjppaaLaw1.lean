/- Laws of layer 1, walked by contracts. -/
import Derived.Test.YtojcjhnhajjppaaFew
namespace Go.Proofs.Ytojcjhnhajjppaa
open Go.RowKit

theorem lt_pow12 {w : World} {A : Option Addr} {n c : Nat} {xs : List Nat} (h : Rd w A n c xs) (hn : n ≤ 12) : val xs < 4294967296 ^ 12 := by
  have h1 := val_lt h.2.2.2.1
  rw [h.1] at h1
  exact Nat.lt_of_lt_of_le h1 (Nat.pow_le_pow_right (by omega) hn)
theorem bd_add {x y k : Nat} (hx : x < 4294967296 ^ k) (hy : y < 4294967296 ^ k) : x + y < 4294967296 ^ (k + 1) := by
  rw [Nat.pow_succ]
  generalize 4294967296 ^ k = P at *
  omega
theorem bd_mul {x y j k : Nat} (hx : x < 4294967296 ^ j) (hy : y < 4294967296 ^ k) : x * y < 4294967296 ^ (j + k) := by
  rw [Nat.pow_add]
  exact Nat.mul_lt_mul'' hx hy
theorem bd_le {x y k : Nat} (hx : x < 4294967296 ^ k) (h : y ≤ x) : y < 4294967296 ^ k := Nat.lt_of_le_of_lt h hx
theorem bd_up {x j k : Nat} (hx : x < 4294967296 ^ j) (h : j ≤ k) : x < 4294967296 ^ k := Nat.lt_of_lt_of_le hx (Nat.pow_le_pow_right (by omega) h)
theorem len_sub {x y k : Nat} (hx : x < 4294967296 ^ k) : (subD x y).length ≤ k := by
  unfold subD
  split
  · simp
  · exact dg_len_le (bd_le hx (Nat.sub_le x y))

set_option maxRecDepth 100000 in
set_option maxHeartbeats 4000000 in
theorem naturalSums_any (Aa : Option Addr) (na ca : Nat) (xsa : List Nat) (Ab : Option Addr) (nb cb : Nat) (xsb : List Nat) (w : World) (ha : Rd w Aa na ca xsa) (hb : Rd w Ab nb cb xsb) :
    Calls Try.prog 4 #[.slice Aa na ca, .slice Ab nb cb] w (RetB w true) := by
  have Ra := hid ha
  have ka := ha.2.1
  have ja := ha.2.2.1
  have Rb := hid hb
  have kb := hb.2.1
  have jb := hb.2.2.1
  have vla : na ≤ 12 → Hid (val xsa < 4294967296 ^ 12) := fun h => hid (lt_pow12 Ra.out h)
  have vlb : nb ≤ 12 → Hid (val xsb < 4294967296 ^ 12) := fun h => hid (lt_pow12 Rb.out h)
  clear ha hb
  by_cases hf : na ≤ 12 ∧ nb ≤ 12
  · obtain ⟨qa, qb⟩ := hf
    have vha := vla qa
    have vhb := vlb qb
    clear vla vlb
    go_enter Try.func4, Try.ntmps4
    go_wp2_with fail
    refine (awake_any w).mono ?_
    rintro e w1 ⟨rfl, bb1⟩
    have cc := few2 w1 Aa Ab na ca nb cb (by omega) (by omega)
    rw [decide_eq_true ⟨qa, qb⟩] at cc
    have CC := hid cc
    clear cc
    go_wp2_with fail
    refine (CC.out).mono ?_
    rintro e w' ⟨rfl, rfl⟩
    clear CC
    have BB0 := hid (Below.refl w.heap.size w)
    have Ra_1 := hid (Ra.out.keep bb1)
    have Rb_1 := hid (Rb.out.keep bb1)
    have BB1 := hid (BB0.out.trans (bb1.mono BB0.out.size))
    clear Ra Rb BB0
    clear bb1
    have al2 := (Below.refl w1.heap.size w1).alloc (Nat.le_refl _) (.cells #[.slice Aa na ca, .slice Ab nb cb] 23)
    have Ra_2 := hid (Ra_1.out.keep al2)
    have Rb_2 := hid (Rb_1.out.keep al2)
    have BB2 := hid (BB1.out.trans (al2.mono BB1.out.size))
    clear Ra_1 Rb_1 BB1
    clear al2
    have cc := sub_any Aa Ab na ca nb cb _ _ (w1.alloc (.cells #[.slice Aa na ca, .slice Ab nb cb] 23)) Ra_2.out Rb_2.out (by omega) (by omega)
    have CC := hid cc
    clear cc
    go_wp2_with fail
    refine (CC.out).mono ?_
    rintro e w3 ⟨v3, rfl, ⟨Ad, nd, cd, rfl, rd⟩, b3⟩
    clear CC
    have ld : nd ≤ 12 := by rw [← rd.1]; exact len_sub vha.out
    have Rd := hid rd
    clear rd
    have Ra_3 := hid (Ra_2.out.keep b3)
    have Rb_3 := hid (Rb_2.out.keep b3)
    have BB3 := hid (BB2.out.trans (b3.mono BB2.out.size))
    clear Ra_2 Rb_2 BB2
    clear b3
    have cc := rsub_any Aa Ab na ca nb cb _ _ w3 Ra_3.out Rb_3.out (by omega) (by omega)
    have CC := hid cc
    clear cc
    go_wp2_with fail
    refine (CC.out).mono ?_
    rintro e w4 ⟨v4, rfl, ⟨Af, nf, cf, rfl, rf⟩, b4⟩
    clear CC
    have lf : nf ≤ 12 := by rw [← rf.1]; exact len_sub vha.out
    have Rf := hid rf
    clear rf
    have Ra_4 := hid (Ra_3.out.keep b4)
    have Rb_4 := hid (Rb_3.out.keep b4)
    have Rd_4 := hid (Rd.out.keep b4)
    have BB4 := hid (BB3.out.trans (b4.mono BB3.out.size))
    clear Ra_3 Rb_3 Rd BB3
    clear b4
    have cc := cmp_any Aa Ab na ca nb cb _ _ w4 Ra_4.out Rb_4.out 
    have CC := hid cc
    clear cc
    go_wp2_with fail
    refine (CC.out).mono ?_
    rintro e w' ⟨rfl, rfl⟩
    clear CC
    have cc := rcmp_any Aa Ab na ca nb cb _ _ w4 Ra_4.out Rb_4.out (by omega) (by omega)
    have CC := hid cc
    clear cc
    go_wp2_with fail
    refine (CC.out).mono ?_
    rintro e w5 ⟨rfl, b5⟩
    clear CC
    have Ra_5 := hid (Ra_4.out.keep b5)
    have Rb_5 := hid (Rb_4.out.keep b5)
    have Rd_5 := hid (Rd_4.out.keep b5)
    have Rf_5 := hid (Rf.out.keep b5)
    have BB5 := hid (BB4.out.trans (b5.mono BB4.out.size))
    clear Ra_4 Rb_4 Rd_4 Rf BB4
    clear b5
    have cc := add_any Aa Ab na ca nb cb _ _ w5 Ra_5.out Rb_5.out (by omega) (by omega)
    have CC := hid cc
    clear cc
    go_wp2_with fail
    refine (CC.out).mono ?_
    rintro e w6 ⟨v6, rfl, ⟨Ag, ng, cg, rfl, rg⟩, b6⟩
    clear CC
    have lg : ng ≤ 13 := by rw [← rg.1]; exact dg_len_le (bd_add vha.out vhb.out)
    have Rg := hid rg
    clear rg
    have Ra_6 := hid (Ra_5.out.keep b6)
    have Rb_6 := hid (Rb_5.out.keep b6)
    have Rd_6 := hid (Rd_5.out.keep b6)
    have Rf_6 := hid (Rf_5.out.keep b6)
    have BB6 := hid (BB5.out.trans (b6.mono BB5.out.size))
    clear Ra_5 Rb_5 Rd_5 Rf_5 BB5
    clear b6
    have cc := radd_any Aa Ab na ca nb cb _ _ w6 Ra_6.out Rb_6.out (by omega) (by omega)
    have CC := hid cc
    clear cc
    go_wp2_with fail
    refine (CC.out).mono ?_
    rintro e w7 ⟨v7, rfl, ⟨Ah, nh, ch, rfl, rh⟩, b7⟩
    clear CC
    have lh : nh ≤ 13 := by rw [← rh.1]; exact dg_len_le (bd_add vha.out vhb.out)
    have Rh := hid rh
    clear rh
    have Ra_7 := hid (Ra_6.out.keep b7)
    have Rb_7 := hid (Rb_6.out.keep b7)
    have Rd_7 := hid (Rd_6.out.keep b7)
    have Rf_7 := hid (Rf_6.out.keep b7)
    have Rg_7 := hid (Rg.out.keep b7)
    have BB7 := hid (BB6.out.trans (b7.mono BB6.out.size))
    clear Ra_6 Rb_6 Rd_6 Rf_6 Rg BB6
    clear b7
    have cc := rsame_any Ag Ah ng cg nh ch _ _ w7 Rg_7.out Rh.out 
    rw [decide_eq_true rfl] at cc
    have CC := hid cc
    clear cc
    go_wp2_with fail
    refine (CC.out).mono ?_
    rintro e w8 ⟨rfl, b8⟩
    clear CC
    have Ra_8 := hid (Ra_7.out.keep b8)
    have Rb_8 := hid (Rb_7.out.keep b8)
    have Rd_8 := hid (Rd_7.out.keep b8)
    have Rf_8 := hid (Rf_7.out.keep b8)
    have Rg_8 := hid (Rg_7.out.keep b8)
    have Rh_8 := hid (Rh.out.keep b8)
    have BB8 := hid (BB7.out.trans (b8.mono BB7.out.size))
    clear Ra_7 Rb_7 Rd_7 Rf_7 Rg_7 Rh BB7
    clear b8
    have cc := rsame_any Ad Af nd cd nf cf _ _ w8 Rd_8.out Rf_8.out 
    rw [decide_eq_true rfl] at cc
    have CC := hid cc
    clear cc
    go_wp2_with fail
    refine (CC.out).mono ?_
    rintro e w9 ⟨rfl, b9⟩
    clear CC
    have Ra_9 := hid (Ra_8.out.keep b9)
    have Rb_9 := hid (Rb_8.out.keep b9)
    have Rd_9 := hid (Rd_8.out.keep b9)
    have Rf_9 := hid (Rf_8.out.keep b9)
    have Rg_9 := hid (Rg_8.out.keep b9)
    have Rh_9 := hid (Rh_8.out.keep b9)
    have BB9 := hid (BB8.out.trans (b9.mono BB8.out.size))
    clear Ra_8 Rb_8 Rd_8 Rf_8 Rg_8 Rh_8 BB8
    clear b9
    have cc := mul_any Aa Ab na ca nb cb _ _ w9 Ra_9.out Rb_9.out (by omega) (by omega)
    have CC := hid cc
    clear cc
    go_wp2_with fail
    refine (CC.out).mono ?_
    rintro e w10 ⟨v10, rfl, ⟨Ai, ni, ci, rfl, ri⟩, b10⟩
    clear CC
    have li : ni ≤ 24 := by rw [← ri.1]; exact dg_len_le (bd_mul vha.out vhb.out)
    have Ri := hid ri
    clear ri
    have Ra_10 := hid (Ra_9.out.keep b10)
    have Rb_10 := hid (Rb_9.out.keep b10)
    have Rd_10 := hid (Rd_9.out.keep b10)
    have Rf_10 := hid (Rf_9.out.keep b10)
    have Rg_10 := hid (Rg_9.out.keep b10)
    have Rh_10 := hid (Rh_9.out.keep b10)
    have BB10 := hid (BB9.out.trans (b10.mono BB9.out.size))
    clear Ra_9 Rb_9 Rd_9 Rf_9 Rg_9 Rh_9 BB9
    clear b10
    have cc := rmul_any Aa Ab na ca nb cb _ _ w10 Ra_10.out Rb_10.out (by omega) (by omega)
    have CC := hid cc
    clear cc
    go_wp2_with fail
    refine (CC.out).mono ?_
    rintro e w11 ⟨v11, rfl, ⟨Al, nl, cl, rfl, rl⟩, b11⟩
    clear CC
    have ll : nl ≤ 24 := by rw [← rl.1]; exact dg_len_le (bd_mul vha.out vhb.out)
    have Rl := hid rl
    clear rl
    have Ra_11 := hid (Ra_10.out.keep b11)
    have Rb_11 := hid (Rb_10.out.keep b11)
    have Rd_11 := hid (Rd_10.out.keep b11)
    have Rf_11 := hid (Rf_10.out.keep b11)
    have Rg_11 := hid (Rg_10.out.keep b11)
    have Rh_11 := hid (Rh_10.out.keep b11)
    have Ri_11 := hid (Ri.out.keep b11)
    have BB11 := hid (BB10.out.trans (b11.mono BB10.out.size))
    clear Ra_10 Rb_10 Rd_10 Rf_10 Rg_10 Rh_10 Ri BB10
    clear b11
    have cc := rsame_any Ai Al ni ci nl cl _ _ w11 Ri_11.out Rl.out 
    rw [decide_eq_true rfl] at cc
    have CC := hid cc
    clear cc
    go_wp2_with fail
    refine (CC.out).mono ?_
    rintro e w12 ⟨rfl, b12⟩
    clear CC
    have Ra_12 := hid (Ra_11.out.keep b12)
    have Rb_12 := hid (Rb_11.out.keep b12)
    have Rd_12 := hid (Rd_11.out.keep b12)
    have Rf_12 := hid (Rf_11.out.keep b12)
    have Rg_12 := hid (Rg_11.out.keep b12)
    have Rh_12 := hid (Rh_11.out.keep b12)
    have Ri_12 := hid (Ri_11.out.keep b12)
    have Rl_12 := hid (Rl.out.keep b12)
    have BB12 := hid (BB11.out.trans (b12.mono BB11.out.size))
    clear Ra_11 Rb_11 Rd_11 Rf_11 Rg_11 Rh_11 Ri_11 Rl BB11
    clear b12
    go_wp2_with fail
    go_ret
    exact ⟨rfl, BB12.out⟩
  · have hF := decide_eq_false hf
    clear hf vla vlb
    go_enter Try.func4, Try.ntmps4
    go_wp2_with fail
    refine (awake_any w).mono ?_
    rintro e w1 ⟨rfl, bb1⟩
    have cc := few2 w1 Aa Ab na ca nb cb (by omega) (by omega)
    rw [hF] at cc
    have CC := hid cc
    clear cc hF
    go_wp2_with fail
    refine (CC.out).mono ?_
    rintro e w' ⟨rfl, rfl⟩
    clear CC
    go_wp2_with fail
    refine (awake_any _).mono ?_
    rintro e w3 ⟨rfl, bb3⟩
    have F := hid (bb1.trans (((Below.refl w1.heap.size w1).alloc (Nat.le_refl _) (.cells #[.slice Aa na ca, .slice Ab nb cb] 23)).trans (bb3.mono (by simp)) |>.mono bb1.size))
    clear bb1 bb3
    go_wp2_with fail
    go_ret
    exact ⟨rfl, F.out⟩

end Go.Proofs.Ytojcjhnhajjppaa
