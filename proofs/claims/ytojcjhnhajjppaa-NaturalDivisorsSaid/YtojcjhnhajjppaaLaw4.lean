/- Laws of layer 1, walked by contracts. -/
import Derived.Test.YtojcjhnhajjppaaLaw3
namespace Go.Proofs.Ytojcjhnhajjppaa
open Go.RowKit

theorem quoD_zero (x : Nat) : quoD x 0 = [] := rfl
theorem remD_zero (x : Nat) : remD x 0 = [] := rfl
theorem divE_zero : divE 0 = 2 := rfl
theorem quoD_pos {x y : Nat} (h : 0 < y) : quoD x y = dg (x / y) := by unfold quoD; rw [if_neg (by omega)]
theorem remD_pos {x y : Nat} (h : 0 < y) : remD x y = dg (x % y) := by unfold remD; rw [if_neg (by omega)]
theorem divE_pos {y : Nat} (h : 0 < y) : divE y = 0 := by unfold divE; rw [if_neg (by omega)]
theorem back_div (x y : Nat) : x / y * y + x % y = x := by rw [Nat.mul_comm]; exact Nat.div_add_mod x y
theorem nil_len {k : Nat} : ([] : List Nat).length ≤ k := Nat.zero_le _

set_option maxRecDepth 100000 in
set_option maxHeartbeats 4000000 in
theorem naturalQuotients_any (Aa : Option Addr) (na ca : Nat) (xsa : List Nat) (Ab : Option Addr) (nb cb : Nat) (xsb : List Nat) (w : World) (ha : Rd w Aa na ca xsa) (hb : Rd w Ab nb cb xsb) :
    Calls Try.prog 5 #[.slice Aa na ca, .slice Ab nb cb] w (RetB w true) := by
  have Ra := hid ha
  have ka := ha.2.1
  have ja := ha.2.2.1
  have Rb := hid hb
  have kb := hb.2.1
  have jb := hb.2.2.1
  have vla : na ≤ 12 → Hid (val xsa < 4294967296 ^ 12) := fun h => hid (lt_pow12 Ra.out h)
  have vlb : nb ≤ 12 → Hid (val xsb < 4294967296 ^ 12) := fun h => hid (lt_pow12 Rb.out h)
  clear ha hb
  by_cases hf : na ≤ 12 ∧ nb ≤ 12
  · obtain ⟨qa, qb⟩ := hf
    have vha := vla qa
    have vhb := vlb qb
    clear vla vlb
    go_enter Try.func5, Try.ntmps5
    go_wp2_with fail
    refine (awake_any w).mono ?_
    rintro e w1 ⟨rfl, bb1⟩
    have cc := few2 w1 Aa Ab na ca nb cb (by omega) (by omega)
    rw [decide_eq_true ⟨qa, qb⟩] at cc
    have CC := hid cc
    clear cc
    go_wp2_with fail
    refine (CC.out).mono ?_
    rintro e w' ⟨rfl, rfl⟩
    clear CC
    have BB0 := hid (Below.refl w.heap.size w)
    have Ra_1 := hid (Ra.out.keep bb1)
    have Rb_1 := hid (Rb.out.keep bb1)
    have BB1 := hid (BB0.out.trans (bb1.mono BB0.out.size))
    clear Ra Rb BB0
    clear bb1
    have al2 := (Below.refl w1.heap.size w1).alloc (Nat.le_refl _) (.cells #[.slice Aa na ca, .slice Ab nb cb] 23)
    have Ra_2 := hid (Ra_1.out.keep al2)
    have Rb_2 := hid (Rb_1.out.keep al2)
    have BB2 := hid (BB1.out.trans (al2.mono BB1.out.size))
    clear Ra_1 Rb_1 BB1
    clear al2
    rcases Nat.eq_zero_or_pos (val xsb) with hy | hy
    · have cc := divMod_any Aa Ab na ca nb cb _ _ (w1.alloc (.cells #[.slice Aa na ca, .slice Ab nb cb] 23)) Ra_2.out Rb_2.out (by omega) (by omega)
      rw [hy, quoD_zero, remD_zero, divE_zero] at cc
      have CC := hid cc
      clear cc
      go_wp2_with fail
      refine (CC.out).mono ?_
      rintro e w3 ⟨v3, u3, rfl, ⟨Aq, nq, cq, rfl, rq⟩, ⟨Ar, nr, cr, rfl, rr⟩, b3⟩
      clear CC
      have lq : nq ≤ 0 := by rw [← rq.1]; exact nil_len
      have Rq := hid rq
      clear rq
      have lr : nr ≤ 0 := by rw [← rr.1]; exact nil_len
      have Rr := hid rr
      clear rr
      have Ra_3 := hid (Ra_2.out.keep b3)
      have Rb_3 := hid (Rb_2.out.keep b3)
      have BB3 := hid (BB2.out.trans (b3.mono BB2.out.size))
      clear Ra_2 Rb_2 BB2
      clear b3
      obtain rfl : nq = 0 := by omega
      obtain rfl : nr = 0 := by omega
      have cc := rtrim_any Ab nb cb _ w3 Rb_3.out (by omega)
      rw [hy] at cc
      have CC := hid cc
      clear cc
      go_wp2_with fail
      refine (CC.out).mono ?_
      rintro e w4 ⟨v4, rfl, ⟨At, nt, ct, rfl, rt⟩, b4⟩
      clear CC
      have lt : nt ≤ 0 := by rw [← rt.1]; exact Nat.le_refl _
      have Rt := hid rt
      clear rt
      have Ra_4 := hid (Ra_3.out.keep b4)
      have Rb_4 := hid (Rb_3.out.keep b4)
      have Rq_4 := hid (Rq.out.keep b4)
      have Rr_4 := hid (Rr.out.keep b4)
      have BB4 := hid (BB3.out.trans (b4.mono BB3.out.size))
      clear Ra_3 Rb_3 Rq Rr BB3
      clear b4
      obtain rfl : nt = 0 := by omega
      go_wp2_with fail
      go_ret
      exact ⟨rfl, BB4.out⟩
    · have HY := hid hy
      clear hy
      have cc := divMod_any Aa Ab na ca nb cb _ _ (w1.alloc (.cells #[.slice Aa na ca, .slice Ab nb cb] 23)) Ra_2.out Rb_2.out (by omega) (by omega)
      rw [quoD_pos HY.out, remD_pos HY.out, divE_pos HY.out] at cc
      have CC := hid cc
      clear cc
      go_wp2_with fail
      refine (CC.out).mono ?_
      rintro e w3 ⟨v3, u3, rfl, ⟨Aq, nq, cq, rfl, rq⟩, ⟨Ar, nr, cr, rfl, rr⟩, b3⟩
      clear CC
      have lq : nq ≤ 12 := by rw [← rq.1]; exact dg_len_le (bd_le vha.out (Nat.div_le_self _ _))
      have Rq := hid rq
      clear rq
      have lr : nr ≤ 12 := by rw [← rr.1]; exact dg_len_le (bd_le vha.out (Nat.mod_le _ _))
      have Rr := hid rr
      clear rr
      have Ra_3 := hid (Ra_2.out.keep b3)
      have Rb_3 := hid (Rb_2.out.keep b3)
      have BB3 := hid (BB2.out.trans (b3.mono BB2.out.size))
      clear Ra_2 Rb_2 BB2
      clear b3
      have cc := rtrim_any Ab nb cb _ w3 Rb_3.out (by omega)
      have CC := hid cc
      clear cc
      go_wp2_with fail
      refine (CC.out).mono ?_
      rintro e w4 ⟨v4, rfl, ⟨At, nt, ct, rfl, rt⟩, b4⟩
      clear CC
      have lt : nt ≤ 12 := by rw [← rt.1]; exact dg_len_le vhb.out
      have Rt := hid rt
      clear rt
      have Ra_4 := hid (Ra_3.out.keep b4)
      have Rb_4 := hid (Rb_3.out.keep b4)
      have Rq_4 := hid (Rq.out.keep b4)
      have Rr_4 := hid (Rr.out.keep b4)
      have BB4 := hid (BB3.out.trans (b4.mono BB3.out.size))
      clear Ra_3 Rb_3 Rq Rr BB3
      clear b4
      have ht0 : ((nt : Int) == 0) = false := by rw [beq_eq_false_iff_ne]; have := Rt.out.1; have := dg_len_pos HY.out; omega
      clear Rt
      have cc := rvalid_any Aq nq cq _ w4 Rq_4.out
      rw [fullB_dg] at cc
      have CC := hid cc
      clear cc
      go_wp2_with fail
      refine (CC.out).mono ?_
      rintro e w' ⟨rfl, rfl⟩
      clear CC
      have cc := rvalid_any Ar nr cr _ w4 Rr_4.out
      rw [fullB_dg] at cc
      have CC := hid cc
      clear cc
      go_wp2_with fail
      refine (CC.out).mono ?_
      rintro e w' ⟨rfl, rfl⟩
      clear CC
      have cc := rcmp_any Ar Ab nr cr nb cb _ _ w4 Rr_4.out Rb_4.out (by omega) (by omega)
      rw [val_dg, cmpN_lt (Nat.mod_lt _ HY.out)] at cc
      have CC := hid cc
      clear cc
      go_wp2_with fail
      refine (CC.out).mono ?_
      rintro e w5 ⟨rfl, b5⟩
      clear CC
      have Ra_5 := hid (Ra_4.out.keep b5)
      have Rb_5 := hid (Rb_4.out.keep b5)
      have Rq_5 := hid (Rq_4.out.keep b5)
      have Rr_5 := hid (Rr_4.out.keep b5)
      have BB5 := hid (BB4.out.trans (b5.mono BB4.out.size))
      clear Ra_4 Rb_4 Rq_4 Rr_4 BB4
      clear b5
      have cc := rmul_any Aq Ab nq cq nb cb _ _ w5 Rq_5.out Rb_5.out (by omega) (by omega)
      rw [val_dg] at cc
      have CC := hid cc
      clear cc
      go_wp2_with fail
      refine (CC.out).mono ?_
      rintro e w6 ⟨v6, rfl, ⟨Ai, ni, ci, rfl, ri⟩, b6⟩
      clear CC
      have li : ni ≤ 24 := by rw [← ri.1]; exact dg_len_le (bd_mul (bd_le vha.out (Nat.div_le_self _ _)) vhb.out)
      have Ri := hid ri
      clear ri
      have Ra_6 := hid (Ra_5.out.keep b6)
      have Rb_6 := hid (Rb_5.out.keep b6)
      have Rq_6 := hid (Rq_5.out.keep b6)
      have Rr_6 := hid (Rr_5.out.keep b6)
      have BB6 := hid (BB5.out.trans (b6.mono BB5.out.size))
      clear Ra_5 Rb_5 Rq_5 Rr_5 BB5
      clear b6
      clear Rq_6
      have cc := radd_any Ai Ar ni ci nr cr _ _ w6 Ri.out Rr_6.out (by omega) (by omega)
      rw [val_dg, val_dg, back_div] at cc
      have CC := hid cc
      clear cc
      go_wp2_with fail
      refine (CC.out).mono ?_
      rintro e w7 ⟨v7, rfl, ⟨Al, nl, cl, rfl, rl⟩, b7⟩
      clear CC
      have ll : nl ≤ 12 := by rw [← rl.1]; exact dg_len_le vha.out
      have Rl := hid rl
      clear rl
      have Ra_7 := hid (Ra_6.out.keep b7)
      have Rb_7 := hid (Rb_6.out.keep b7)
      have Rr_7 := hid (Rr_6.out.keep b7)
      have Ri_7 := hid (Ri.out.keep b7)
      have BB7 := hid (BB6.out.trans (b7.mono BB6.out.size))
      clear Ra_6 Rb_6 Rr_6 Ri BB6
      clear b7
      have cc := rtrim_any Aa na ca _ w7 Ra_7.out (by omega)
      have CC := hid cc
      clear cc
      go_wp2_with fail
      refine (CC.out).mono ?_
      rintro e w8 ⟨v8, rfl, ⟨Am, nm, cm, rfl, rm⟩, b8⟩
      clear CC
      have lm : nm ≤ 12 := by rw [← rm.1]; exact dg_len_le vha.out
      have Rm := hid rm
      clear rm
      have Ra_8 := hid (Ra_7.out.keep b8)
      have Rb_8 := hid (Rb_7.out.keep b8)
      have Rr_8 := hid (Rr_7.out.keep b8)
      have Ri_8 := hid (Ri_7.out.keep b8)
      have Rl_8 := hid (Rl.out.keep b8)
      have BB8 := hid (BB7.out.trans (b8.mono BB7.out.size))
      clear Ra_7 Rb_7 Rr_7 Ri_7 Rl BB7
      clear b8
      have cc := rsame_any Al Am nl cl nm cm _ _ w8 Rl_8.out Rm.out 
      rw [decide_eq_true rfl] at cc
      have CC := hid cc
      clear cc
      go_wp2_with fail
      refine (CC.out).mono ?_
      rintro e w9 ⟨rfl, b9⟩
      clear CC
      have Ra_9 := hid (Ra_8.out.keep b9)
      have Rb_9 := hid (Rb_8.out.keep b9)
      have Rr_9 := hid (Rr_8.out.keep b9)
      have Ri_9 := hid (Ri_8.out.keep b9)
      have Rl_9 := hid (Rl_8.out.keep b9)
      have Rm_9 := hid (Rm.out.keep b9)
      have BB9 := hid (BB8.out.trans (b9.mono BB8.out.size))
      clear Ra_8 Rb_8 Rr_8 Ri_8 Rl_8 Rm BB8
      clear b9
      go_wp2_with fail
      go_ret
      exact ⟨rfl, BB9.out⟩
  · have hF := decide_eq_false hf
    clear hf vla vlb
    go_enter Try.func5, Try.ntmps5
    go_wp2_with fail
    refine (awake_any w).mono ?_
    rintro e w1 ⟨rfl, bb1⟩
    have cc := few2 w1 Aa Ab na ca nb cb (by omega) (by omega)
    rw [hF] at cc
    have CC := hid cc
    clear cc hF
    go_wp2_with fail
    refine (CC.out).mono ?_
    rintro e w' ⟨rfl, rfl⟩
    clear CC
    go_wp2_with fail
    refine (awake_any _).mono ?_
    rintro e w3 ⟨rfl, bb3⟩
    have F := hid (bb1.trans (((Below.refl w1.heap.size w1).alloc (Nat.le_refl _) (.cells #[.slice Aa na ca, .slice Ab nb cb] 23)).trans (bb3.mono (by simp)) |>.mono bb1.size))
    clear bb1 bb3
    go_wp2_with fail
    go_ret
    exact ⟨rfl, F.out⟩

end Go.Proofs.Ytojcjhnhajjppaa
