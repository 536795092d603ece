/- Laws of layer 1, walked by contracts. -/
import Derived.Test.YtojcjhnhajjppaaLaw4
namespace Go.Proofs.Ytojcjhnhajjppaa
open Go.RowKit

theorem cmpN_gt {a b : Nat} (h : b < a) : cmpN a b = 1 := by unfold cmpN; rw [if_neg (by omega), if_pos h]
theorem cmpN_eq {a b : Nat} (h : a = b) : cmpN a b = 0 := by rw [h]; exact cmpN_self b
theorem cmpN_add (a b c : Nat) : cmpN (a + c) (b + c) = cmpN a b := by
  unfold cmpN
  rcases Nat.lt_trichotomy a b with h | h | h
  · rw [if_pos (by omega), if_pos h]
  · rw [if_neg (by omega), if_neg (by omega), if_neg (by omega), if_neg (by omega)]
  · rw [if_neg (by omega), if_pos (by omega), if_neg (by omega), if_pos h]
theorem bitN_mono {a b : Nat} (h : a ≤ b) : bitN a ≤ bitN b := bitN_le (Nat.lt_of_le_of_lt h (lt_bitN b))

set_option maxRecDepth 100000 in
set_option maxHeartbeats 4000000 in
theorem naturalOrder_any (Aa : Option Addr) (na ca : Nat) (xsa : List Nat) (Ab : Option Addr) (nb cb : Nat) (xsb : List Nat) (Ac : Option Addr) (nc cc : Nat) (xsc : List Nat) (w : World) (ha : Rd w Aa na ca xsa) (hb : Rd w Ab nb cb xsb) (hc : Rd w Ac nc cc xsc) :
    Calls Try.prog 9 #[.slice Aa na ca, .slice Ab nb cb, .slice Ac nc cc] w (RetB w true) := by
  have Ra := hid ha
  have ka := ha.2.1
  have ja := ha.2.2.1
  have Rb := hid hb
  have kb := hb.2.1
  have jb := hb.2.2.1
  have Rc := hid hc
  have kc := hc.2.1
  have jc := hc.2.2.1
  have vla : na ≤ 12 → Hid (val xsa < 4294967296 ^ 12) := fun h => hid (lt_pow12 Ra.out h)
  have vlb : nb ≤ 12 → Hid (val xsb < 4294967296 ^ 12) := fun h => hid (lt_pow12 Rb.out h)
  have vlc : nc ≤ 12 → Hid (val xsc < 4294967296 ^ 12) := fun h => hid (lt_pow12 Rc.out h)
  clear ha hb hc
  by_cases hf : na ≤ 12 ∧ nb ≤ 12 ∧ nc ≤ 12
  · obtain ⟨qa, qb, qc⟩ := hf
    have vha := vla qa
    have vhb := vlb qb
    have vhc := vlc qc
    clear vla vlb vlc
    go_enter Try.func9, Try.ntmps9
    go_wp2_with fail
    refine (awake_any w).mono ?_
    rintro e w1 ⟨rfl, bb1⟩
    have cc := few3 w1 Aa Ab Ac na ca nb cb nc cc (by omega) (by omega) (by omega)
    rw [decide_eq_true ⟨qa, qb, qc⟩] at cc
    have CC := hid cc
    clear cc
    go_wp2_with fail
    refine (CC.out).mono ?_
    rintro e w' ⟨rfl, rfl⟩
    clear CC
    have BB0 := hid (Below.refl w.heap.size w)
    have Ra_1 := hid (Ra.out.keep bb1)
    have Rb_1 := hid (Rb.out.keep bb1)
    have Rc_1 := hid (Rc.out.keep bb1)
    have BB1 := hid (BB0.out.trans (bb1.mono BB0.out.size))
    clear Ra Rb Rc BB0
    clear bb1
    have al2 := (Below.refl w1.heap.size w1).alloc (Nat.le_refl _) (.cells #[.slice Aa na ca, .slice Ab nb cb, .slice Ac nc cc] 23)
    have Ra_2 := hid (Ra_1.out.keep al2)
    have Rb_2 := hid (Rb_1.out.keep al2)
    have Rc_2 := hid (Rc_1.out.keep al2)
    have BB2 := hid (BB1.out.trans (al2.mono BB1.out.size))
    clear Ra_1 Rb_1 Rc_1 BB1
    clear al2
    rcases (by omega : (val xsa < val xsb ∧ val xsb < val xsc ∧ val xsa < val xsc) ∨ (val xsa < val xsb ∧ val xsb = val xsc ∧ val xsa < val xsc) ∨ (val xsa < val xsb ∧ val xsc < val xsb ∧ val xsa < val xsc) ∨ (val xsa < val xsb ∧ val xsc < val xsb ∧ val xsa = val xsc) ∨ (val xsa < val xsb ∧ val xsc < val xsb ∧ val xsc < val xsa) ∨ (val xsa = val xsb ∧ val xsb < val xsc ∧ val xsa < val xsc) ∨ (val xsa = val xsb ∧ val xsb = val xsc ∧ val xsa = val xsc) ∨ (val xsa = val xsb ∧ val xsc < val xsb ∧ val xsc < val xsa) ∨ (val xsb < val xsa ∧ val xsb < val xsc ∧ val xsa < val xsc) ∨ (val xsb < val xsa ∧ val xsb < val xsc ∧ val xsa = val xsc) ∨ (val xsb < val xsa ∧ val xsb < val xsc ∧ val xsc < val xsa) ∨ (val xsb < val xsa ∧ val xsb = val xsc ∧ val xsc < val xsa) ∨ (val xsb < val xsa ∧ val xsc < val xsb ∧ val xsc < val xsa)) with ⟨h1, h2, h3⟩ | ⟨h1, h2, h3⟩ | ⟨h1, h2, h3⟩ | ⟨h1, h2, h3⟩ | ⟨h1, h2, h3⟩ | ⟨h1, h2, h3⟩ | ⟨h1, h2, h3⟩ | ⟨h1, h2, h3⟩ | ⟨h1, h2, h3⟩ | ⟨h1, h2, h3⟩ | ⟨h1, h2, h3⟩ | ⟨h1, h2, h3⟩ | ⟨h1, h2, h3⟩
    · have E1 := hid (show cmpN (val xsa) (val xsb) = -1 from cmpN_lt h1)
      have E2 := hid (show cmpN (val xsb) (val xsc) = -1 from cmpN_lt h2)
      have E3 := hid (show cmpN (val xsa) (val xsc) = -1 from cmpN_lt h3)
      have E4 := hid (show cmpN (val xsb) (val xsa) = 1 from cmpN_gt h1)
      have hb := bitN_mono (show val xsa ≤ val xsb by omega)
      clear h1 h2 h3
      have cc := cmp_any Aa Ab na ca nb cb _ _ (w1.alloc (.cells #[.slice Aa na ca, .slice Ab nb cb, .slice Ac nc cc] 23)) Ra_2.out Rb_2.out 
      rw [E1.out] at cc
      have CC := hid cc
      clear cc
      go_wp2_with fail
      refine (CC.out).mono ?_
      rintro e w' ⟨rfl, rfl⟩
      clear CC
      have cc := cmp_any Ab Ac nb cb nc cc _ _ (w1.alloc (.cells #[.slice Aa na ca, .slice Ab nb cb, .slice Ac nc cc] 23)) Rb_2.out Rc_2.out 
      rw [E2.out] at cc
      have CC := hid cc
      clear cc
      go_wp2_with fail
      refine (CC.out).mono ?_
      rintro e w' ⟨rfl, rfl⟩
      clear CC
      have cc := cmp_any Aa Ac na ca nc cc _ _ (w1.alloc (.cells #[.slice Aa na ca, .slice Ab nb cb, .slice Ac nc cc] 23)) Ra_2.out Rc_2.out 
      rw [E3.out] at cc
      have CC := hid cc
      clear cc
      go_wp2_with fail
      refine (CC.out).mono ?_
      rintro e w' ⟨rfl, rfl⟩
      clear CC
      have cc := cmp_any Ab Aa nb cb na ca _ _ (w1.alloc (.cells #[.slice Aa na ca, .slice Ab nb cb, .slice Ac nc cc] 23)) Rb_2.out Ra_2.out 
      rw [E4.out] at cc
      have CC := hid cc
      clear cc
      go_wp2_with fail
      refine (CC.out).mono ?_
      rintro e w' ⟨rfl, rfl⟩
      clear CC
      have cc := add_any Aa Ac na ca nc cc _ _ (w1.alloc (.cells #[.slice Aa na ca, .slice Ab nb cb, .slice Ac nc cc] 23)) Ra_2.out Rc_2.out (by omega) (by omega)
      have CC := hid cc
      clear cc
      go_wp2_with fail
      refine (CC.out).mono ?_
      rintro e w3 ⟨v3, rfl, ⟨Ad, nd, cd, rfl, rd⟩, b3⟩
      clear CC
      have ld : nd ≤ 13 := by rw [← rd.1]; exact dg_len_le (bd_add vha.out vhc.out)
      have Rd := hid rd
      clear rd
      have Ra_3 := hid (Ra_2.out.keep b3)
      have Rb_3 := hid (Rb_2.out.keep b3)
      have Rc_3 := hid (Rc_2.out.keep b3)
      have BB3 := hid (BB2.out.trans (b3.mono BB2.out.size))
      clear Ra_2 Rb_2 Rc_2 BB2
      clear b3
      have cc := add_any Ab Ac nb cb nc cc _ _ w3 Rb_3.out Rc_3.out (by omega) (by omega)
      have CC := hid cc
      clear cc
      go_wp2_with fail
      refine (CC.out).mono ?_
      rintro e w4 ⟨v4, rfl, ⟨Ae, ne, ce, rfl, re⟩, b4⟩
      clear CC
      have le : ne ≤ 13 := by rw [← re.1]; exact dg_len_le (bd_add vhb.out vhc.out)
      have Re := hid re
      clear re
      have Ra_4 := hid (Ra_3.out.keep b4)
      have Rb_4 := hid (Rb_3.out.keep b4)
      have Rc_4 := hid (Rc_3.out.keep b4)
      have Rd_4 := hid (Rd.out.keep b4)
      have BB4 := hid (BB3.out.trans (b4.mono BB3.out.size))
      clear Ra_3 Rb_3 Rc_3 Rd BB3
      clear b4
      have cc := cmp_any Ad Ae nd cd ne ce _ _ w4 Rd_4.out Re.out
      rw [val_dg, val_dg, cmpN_add, E1.out] at cc
      have CC := hid cc
      clear cc
      go_wp2_with fail
      refine (CC.out).mono ?_
      rintro e w' ⟨rfl, rfl⟩
      clear CC
      have cc := bits_any Aa na ca _ w4 Ra_4.out (by omega)
      have CC := hid cc
      clear cc
      go_wp2_with fail
      refine (CC.out).mono ?_
      rintro e w' ⟨rfl, rfl⟩
      clear CC
      have cc := bits_any Ab nb cb _ w4 Rb_4.out (by omega)
      have CC := hid cc
      clear cc
      go_wp2_with fail
      refine (CC.out).mono ?_
      rintro e w' ⟨rfl, rfl⟩
      clear CC
      go_wp2_with fail
      go_ret
      exact ⟨rfl, BB4.out⟩
    · have E1 := hid (show cmpN (val xsa) (val xsb) = -1 from cmpN_lt h1)
      have E2 := hid (show cmpN (val xsb) (val xsc) = 0 from cmpN_eq h2)
      have E3 := hid (show cmpN (val xsa) (val xsc) = -1 from cmpN_lt h3)
      have E4 := hid (show cmpN (val xsb) (val xsa) = 1 from cmpN_gt h1)
      have hb := bitN_mono (show val xsa ≤ val xsb by omega)
      clear h1 h2 h3
      have cc := cmp_any Aa Ab na ca nb cb _ _ (w1.alloc (.cells #[.slice Aa na ca, .slice Ab nb cb, .slice Ac nc cc] 23)) Ra_2.out Rb_2.out 
      rw [E1.out] at cc
      have CC := hid cc
      clear cc
      go_wp2_with fail
      refine (CC.out).mono ?_
      rintro e w' ⟨rfl, rfl⟩
      clear CC
      have cc := cmp_any Ab Ac nb cb nc cc _ _ (w1.alloc (.cells #[.slice Aa na ca, .slice Ab nb cb, .slice Ac nc cc] 23)) Rb_2.out Rc_2.out 
      rw [E2.out] at cc
      have CC := hid cc
      clear cc
      go_wp2_with fail
      refine (CC.out).mono ?_
      rintro e w' ⟨rfl, rfl⟩
      clear CC
      have cc := cmp_any Aa Ac na ca nc cc _ _ (w1.alloc (.cells #[.slice Aa na ca, .slice Ab nb cb, .slice Ac nc cc] 23)) Ra_2.out Rc_2.out 
      rw [E3.out] at cc
      have CC := hid cc
      clear cc
      go_wp2_with fail
      refine (CC.out).mono ?_
      rintro e w' ⟨rfl, rfl⟩
      clear CC
      have cc := cmp_any Ab Aa nb cb na ca _ _ (w1.alloc (.cells #[.slice Aa na ca, .slice Ab nb cb, .slice Ac nc cc] 23)) Rb_2.out Ra_2.out 
      rw [E4.out] at cc
      have CC := hid cc
      clear cc
      go_wp2_with fail
      refine (CC.out).mono ?_
      rintro e w' ⟨rfl, rfl⟩
      clear CC
      have cc := add_any Aa Ac na ca nc cc _ _ (w1.alloc (.cells #[.slice Aa na ca, .slice Ab nb cb, .slice Ac nc cc] 23)) Ra_2.out Rc_2.out (by omega) (by omega)
      have CC := hid cc
      clear cc
      go_wp2_with fail
      refine (CC.out).mono ?_
      rintro e w3 ⟨v3, rfl, ⟨Ad, nd, cd, rfl, rd⟩, b3⟩
      clear CC
      have ld : nd ≤ 13 := by rw [← rd.1]; exact dg_len_le (bd_add vha.out vhc.out)
      have Rd := hid rd
      clear rd
      have Ra_3 := hid (Ra_2.out.keep b3)
      have Rb_3 := hid (Rb_2.out.keep b3)
      have Rc_3 := hid (Rc_2.out.keep b3)
      have BB3 := hid (BB2.out.trans (b3.mono BB2.out.size))
      clear Ra_2 Rb_2 Rc_2 BB2
      clear b3
      have cc := add_any Ab Ac nb cb nc cc _ _ w3 Rb_3.out Rc_3.out (by omega) (by omega)
      have CC := hid cc
      clear cc
      go_wp2_with fail
      refine (CC.out).mono ?_
      rintro e w4 ⟨v4, rfl, ⟨Ae, ne, ce, rfl, re⟩, b4⟩
      clear CC
      have le : ne ≤ 13 := by rw [← re.1]; exact dg_len_le (bd_add vhb.out vhc.out)
      have Re := hid re
      clear re
      have Ra_4 := hid (Ra_3.out.keep b4)
      have Rb_4 := hid (Rb_3.out.keep b4)
      have Rc_4 := hid (Rc_3.out.keep b4)
      have Rd_4 := hid (Rd.out.keep b4)
      have BB4 := hid (BB3.out.trans (b4.mono BB3.out.size))
      clear Ra_3 Rb_3 Rc_3 Rd BB3
      clear b4
      have cc := cmp_any Ad Ae nd cd ne ce _ _ w4 Rd_4.out Re.out
      rw [val_dg, val_dg, cmpN_add, E1.out] at cc
      have CC := hid cc
      clear cc
      go_wp2_with fail
      refine (CC.out).mono ?_
      rintro e w' ⟨rfl, rfl⟩
      clear CC
      have cc := bits_any Aa na ca _ w4 Ra_4.out (by omega)
      have CC := hid cc
      clear cc
      go_wp2_with fail
      refine (CC.out).mono ?_
      rintro e w' ⟨rfl, rfl⟩
      clear CC
      have cc := bits_any Ab nb cb _ w4 Rb_4.out (by omega)
      have CC := hid cc
      clear cc
      go_wp2_with fail
      refine (CC.out).mono ?_
      rintro e w' ⟨rfl, rfl⟩
      clear CC
      go_wp2_with fail
      go_ret
      exact ⟨rfl, BB4.out⟩
    · have E1 := hid (show cmpN (val xsa) (val xsb) = -1 from cmpN_lt h1)
      have E2 := hid (show cmpN (val xsb) (val xsc) = 1 from cmpN_gt h2)
      have E3 := hid (show cmpN (val xsa) (val xsc) = -1 from cmpN_lt h3)
      have E4 := hid (show cmpN (val xsb) (val xsa) = 1 from cmpN_gt h1)
      have hb := bitN_mono (show val xsa ≤ val xsb by omega)
      clear h1 h2 h3
      have cc := cmp_any Aa Ab na ca nb cb _ _ (w1.alloc (.cells #[.slice Aa na ca, .slice Ab nb cb, .slice Ac nc cc] 23)) Ra_2.out Rb_2.out 
      rw [E1.out] at cc
      have CC := hid cc
      clear cc
      go_wp2_with fail
      refine (CC.out).mono ?_
      rintro e w' ⟨rfl, rfl⟩
      clear CC
      have cc := cmp_any Ab Ac nb cb nc cc _ _ (w1.alloc (.cells #[.slice Aa na ca, .slice Ab nb cb, .slice Ac nc cc] 23)) Rb_2.out Rc_2.out 
      rw [E2.out] at cc
      have CC := hid cc
      clear cc
      go_wp2_with fail
      refine (CC.out).mono ?_
      rintro e w' ⟨rfl, rfl⟩
      clear CC
      have cc := cmp_any Aa Ac na ca nc cc _ _ (w1.alloc (.cells #[.slice Aa na ca, .slice Ab nb cb, .slice Ac nc cc] 23)) Ra_2.out Rc_2.out 
      rw [E3.out] at cc
      have CC := hid cc
      clear cc
      go_wp2_with fail
      refine (CC.out).mono ?_
      rintro e w' ⟨rfl, rfl⟩
      clear CC
      have cc := cmp_any Ab Aa nb cb na ca _ _ (w1.alloc (.cells #[.slice Aa na ca, .slice Ab nb cb, .slice Ac nc cc] 23)) Rb_2.out Ra_2.out 
      rw [E4.out] at cc
      have CC := hid cc
      clear cc
      go_wp2_with fail
      refine (CC.out).mono ?_
      rintro e w' ⟨rfl, rfl⟩
      clear CC
      have cc := add_any Aa Ac na ca nc cc _ _ (w1.alloc (.cells #[.slice Aa na ca, .slice Ab nb cb, .slice Ac nc cc] 23)) Ra_2.out Rc_2.out (by omega) (by omega)
      have CC := hid cc
      clear cc
      go_wp2_with fail
      refine (CC.out).mono ?_
      rintro e w3 ⟨v3, rfl, ⟨Ad, nd, cd, rfl, rd⟩, b3⟩
      clear CC
      have ld : nd ≤ 13 := by rw [← rd.1]; exact dg_len_le (bd_add vha.out vhc.out)
      have Rd := hid rd
      clear rd
      have Ra_3 := hid (Ra_2.out.keep b3)
      have Rb_3 := hid (Rb_2.out.keep b3)
      have Rc_3 := hid (Rc_2.out.keep b3)
      have BB3 := hid (BB2.out.trans (b3.mono BB2.out.size))
      clear Ra_2 Rb_2 Rc_2 BB2
      clear b3
      have cc := add_any Ab Ac nb cb nc cc _ _ w3 Rb_3.out Rc_3.out (by omega) (by omega)
      have CC := hid cc
      clear cc
      go_wp2_with fail
      refine (CC.out).mono ?_
      rintro e w4 ⟨v4, rfl, ⟨Ae, ne, ce, rfl, re⟩, b4⟩
      clear CC
      have le : ne ≤ 13 := by rw [← re.1]; exact dg_len_le (bd_add vhb.out vhc.out)
      have Re := hid re
      clear re
      have Ra_4 := hid (Ra_3.out.keep b4)
      have Rb_4 := hid (Rb_3.out.keep b4)
      have Rc_4 := hid (Rc_3.out.keep b4)
      have Rd_4 := hid (Rd.out.keep b4)
      have BB4 := hid (BB3.out.trans (b4.mono BB3.out.size))
      clear Ra_3 Rb_3 Rc_3 Rd BB3
      clear b4
      have cc := cmp_any Ad Ae nd cd ne ce _ _ w4 Rd_4.out Re.out
      rw [val_dg, val_dg, cmpN_add, E1.out] at cc
      have CC := hid cc
      clear cc
      go_wp2_with fail
      refine (CC.out).mono ?_
      rintro e w' ⟨rfl, rfl⟩
      clear CC
      have cc := bits_any Aa na ca _ w4 Ra_4.out (by omega)
      have CC := hid cc
      clear cc
      go_wp2_with fail
      refine (CC.out).mono ?_
      rintro e w' ⟨rfl, rfl⟩
      clear CC
      have cc := bits_any Ab nb cb _ w4 Rb_4.out (by omega)
      have CC := hid cc
      clear cc
      go_wp2_with fail
      refine (CC.out).mono ?_
      rintro e w' ⟨rfl, rfl⟩
      clear CC
      go_wp2_with fail
      go_ret
      exact ⟨rfl, BB4.out⟩
    · have E1 := hid (show cmpN (val xsa) (val xsb) = -1 from cmpN_lt h1)
      have E2 := hid (show cmpN (val xsb) (val xsc) = 1 from cmpN_gt h2)
      have E3 := hid (show cmpN (val xsa) (val xsc) = 0 from cmpN_eq h3)
      have E4 := hid (show cmpN (val xsb) (val xsa) = 1 from cmpN_gt h1)
      have hb := bitN_mono (show val xsa ≤ val xsb by omega)
      clear h1 h2 h3
      have cc := cmp_any Aa Ab na ca nb cb _ _ (w1.alloc (.cells #[.slice Aa na ca, .slice Ab nb cb, .slice Ac nc cc] 23)) Ra_2.out Rb_2.out 
      rw [E1.out] at cc
      have CC := hid cc
      clear cc
      go_wp2_with fail
      refine (CC.out).mono ?_
      rintro e w' ⟨rfl, rfl⟩
      clear CC
      have cc := cmp_any Ab Ac nb cb nc cc _ _ (w1.alloc (.cells #[.slice Aa na ca, .slice Ab nb cb, .slice Ac nc cc] 23)) Rb_2.out Rc_2.out 
      rw [E2.out] at cc
      have CC := hid cc
      clear cc
      go_wp2_with fail
      refine (CC.out).mono ?_
      rintro e w' ⟨rfl, rfl⟩
      clear CC
      have cc := cmp_any Aa Ac na ca nc cc _ _ (w1.alloc (.cells #[.slice Aa na ca, .slice Ab nb cb, .slice Ac nc cc] 23)) Ra_2.out Rc_2.out 
      rw [E3.out] at cc
      have CC := hid cc
      clear cc
      go_wp2_with fail
      refine (CC.out).mono ?_
      rintro e w' ⟨rfl, rfl⟩
      clear CC
      have cc := cmp_any Ab Aa nb cb na ca _ _ (w1.alloc (.cells #[.slice Aa na ca, .slice Ab nb cb, .slice Ac nc cc] 23)) Rb_2.out Ra_2.out 
      rw [E4.out] at cc
      have CC := hid cc
      clear cc
      go_wp2_with fail
      refine (CC.out).mono ?_
      rintro e w' ⟨rfl, rfl⟩
      clear CC
      have cc := add_any Aa Ac na ca nc cc _ _ (w1.alloc (.cells #[.slice Aa na ca, .slice Ab nb cb, .slice Ac nc cc] 23)) Ra_2.out Rc_2.out (by omega) (by omega)
      have CC := hid cc
      clear cc
      go_wp2_with fail
      refine (CC.out).mono ?_
      rintro e w3 ⟨v3, rfl, ⟨Ad, nd, cd, rfl, rd⟩, b3⟩
      clear CC
      have ld : nd ≤ 13 := by rw [← rd.1]; exact dg_len_le (bd_add vha.out vhc.out)
      have Rd := hid rd
      clear rd
      have Ra_3 := hid (Ra_2.out.keep b3)
      have Rb_3 := hid (Rb_2.out.keep b3)
      have Rc_3 := hid (Rc_2.out.keep b3)
      have BB3 := hid (BB2.out.trans (b3.mono BB2.out.size))
      clear Ra_2 Rb_2 Rc_2 BB2
      clear b3
      have cc := add_any Ab Ac nb cb nc cc _ _ w3 Rb_3.out Rc_3.out (by omega) (by omega)
      have CC := hid cc
      clear cc
      go_wp2_with fail
      refine (CC.out).mono ?_
      rintro e w4 ⟨v4, rfl, ⟨Ae, ne, ce, rfl, re⟩, b4⟩
      clear CC
      have le : ne ≤ 13 := by rw [← re.1]; exact dg_len_le (bd_add vhb.out vhc.out)
      have Re := hid re
      clear re
      have Ra_4 := hid (Ra_3.out.keep b4)
      have Rb_4 := hid (Rb_3.out.keep b4)
      have Rc_4 := hid (Rc_3.out.keep b4)
      have Rd_4 := hid (Rd.out.keep b4)
      have BB4 := hid (BB3.out.trans (b4.mono BB3.out.size))
      clear Ra_3 Rb_3 Rc_3 Rd BB3
      clear b4
      have cc := cmp_any Ad Ae nd cd ne ce _ _ w4 Rd_4.out Re.out
      rw [val_dg, val_dg, cmpN_add, E1.out] at cc
      have CC := hid cc
      clear cc
      go_wp2_with fail
      refine (CC.out).mono ?_
      rintro e w' ⟨rfl, rfl⟩
      clear CC
      have cc := bits_any Aa na ca _ w4 Ra_4.out (by omega)
      have CC := hid cc
      clear cc
      go_wp2_with fail
      refine (CC.out).mono ?_
      rintro e w' ⟨rfl, rfl⟩
      clear CC
      have cc := bits_any Ab nb cb _ w4 Rb_4.out (by omega)
      have CC := hid cc
      clear cc
      go_wp2_with fail
      refine (CC.out).mono ?_
      rintro e w' ⟨rfl, rfl⟩
      clear CC
      go_wp2_with fail
      go_ret
      exact ⟨rfl, BB4.out⟩
    · have E1 := hid (show cmpN (val xsa) (val xsb) = -1 from cmpN_lt h1)
      have E2 := hid (show cmpN (val xsb) (val xsc) = 1 from cmpN_gt h2)
      have E3 := hid (show cmpN (val xsa) (val xsc) = 1 from cmpN_gt h3)
      have E4 := hid (show cmpN (val xsb) (val xsa) = 1 from cmpN_gt h1)
      have hb := bitN_mono (show val xsa ≤ val xsb by omega)
      clear h1 h2 h3
      have cc := cmp_any Aa Ab na ca nb cb _ _ (w1.alloc (.cells #[.slice Aa na ca, .slice Ab nb cb, .slice Ac nc cc] 23)) Ra_2.out Rb_2.out 
      rw [E1.out] at cc
      have CC := hid cc
      clear cc
      go_wp2_with fail
      refine (CC.out).mono ?_
      rintro e w' ⟨rfl, rfl⟩
      clear CC
      have cc := cmp_any Ab Ac nb cb nc cc _ _ (w1.alloc (.cells #[.slice Aa na ca, .slice Ab nb cb, .slice Ac nc cc] 23)) Rb_2.out Rc_2.out 
      rw [E2.out] at cc
      have CC := hid cc
      clear cc
      go_wp2_with fail
      refine (CC.out).mono ?_
      rintro e w' ⟨rfl, rfl⟩
      clear CC
      have cc := cmp_any Aa Ac na ca nc cc _ _ (w1.alloc (.cells #[.slice Aa na ca, .slice Ab nb cb, .slice Ac nc cc] 23)) Ra_2.out Rc_2.out 
      rw [E3.out] at cc
      have CC := hid cc
      clear cc
      go_wp2_with fail
      refine (CC.out).mono ?_
      rintro e w' ⟨rfl, rfl⟩
      clear CC
      have cc := cmp_any Ab Aa nb cb na ca _ _ (w1.alloc (.cells #[.slice Aa na ca, .slice Ab nb cb, .slice Ac nc cc] 23)) Rb_2.out Ra_2.out 
      rw [E4.out] at cc
      have CC := hid cc
      clear cc
      go_wp2_with fail
      refine (CC.out).mono ?_
      rintro e w' ⟨rfl, rfl⟩
      clear CC
      have cc := add_any Aa Ac na ca nc cc _ _ (w1.alloc (.cells #[.slice Aa na ca, .slice Ab nb cb, .slice Ac nc cc] 23)) Ra_2.out Rc_2.out (by omega) (by omega)
      have CC := hid cc
      clear cc
      go_wp2_with fail
      refine (CC.out).mono ?_
      rintro e w3 ⟨v3, rfl, ⟨Ad, nd, cd, rfl, rd⟩, b3⟩
      clear CC
      have ld : nd ≤ 13 := by rw [← rd.1]; exact dg_len_le (bd_add vha.out vhc.out)
      have Rd := hid rd
      clear rd
      have Ra_3 := hid (Ra_2.out.keep b3)
      have Rb_3 := hid (Rb_2.out.keep b3)
      have Rc_3 := hid (Rc_2.out.keep b3)
      have BB3 := hid (BB2.out.trans (b3.mono BB2.out.size))
      clear Ra_2 Rb_2 Rc_2 BB2
      clear b3
      have cc := add_any Ab Ac nb cb nc cc _ _ w3 Rb_3.out Rc_3.out (by omega) (by omega)
      have CC := hid cc
      clear cc
      go_wp2_with fail
      refine (CC.out).mono ?_
      rintro e w4 ⟨v4, rfl, ⟨Ae, ne, ce, rfl, re⟩, b4⟩
      clear CC
      have le : ne ≤ 13 := by rw [← re.1]; exact dg_len_le (bd_add vhb.out vhc.out)
      have Re := hid re
      clear re
      have Ra_4 := hid (Ra_3.out.keep b4)
      have Rb_4 := hid (Rb_3.out.keep b4)
      have Rc_4 := hid (Rc_3.out.keep b4)
      have Rd_4 := hid (Rd.out.keep b4)
      have BB4 := hid (BB3.out.trans (b4.mono BB3.out.size))
      clear Ra_3 Rb_3 Rc_3 Rd BB3
      clear b4
      have cc := cmp_any Ad Ae nd cd ne ce _ _ w4 Rd_4.out Re.out
      rw [val_dg, val_dg, cmpN_add, E1.out] at cc
      have CC := hid cc
      clear cc
      go_wp2_with fail
      refine (CC.out).mono ?_
      rintro e w' ⟨rfl, rfl⟩
      clear CC
      have cc := bits_any Aa na ca _ w4 Ra_4.out (by omega)
      have CC := hid cc
      clear cc
      go_wp2_with fail
      refine (CC.out).mono ?_
      rintro e w' ⟨rfl, rfl⟩
      clear CC
      have cc := bits_any Ab nb cb _ w4 Rb_4.out (by omega)
      have CC := hid cc
      clear cc
      go_wp2_with fail
      refine (CC.out).mono ?_
      rintro e w' ⟨rfl, rfl⟩
      clear CC
      go_wp2_with fail
      go_ret
      exact ⟨rfl, BB4.out⟩
    · have E1 := hid (show cmpN (val xsa) (val xsb) = 0 from cmpN_eq h1)
      have E2 := hid (show cmpN (val xsb) (val xsc) = -1 from cmpN_lt h2)
      have E3 := hid (show cmpN (val xsa) (val xsc) = -1 from cmpN_lt h3)
      have E4 := hid (show cmpN (val xsb) (val xsa) = 0 from cmpN_eq h1.symm)
      have hb := bitN_mono (show val xsa ≤ val xsb by omega)
      clear h1 h2 h3
      have cc := cmp_any Aa Ab na ca nb cb _ _ (w1.alloc (.cells #[.slice Aa na ca, .slice Ab nb cb, .slice Ac nc cc] 23)) Ra_2.out Rb_2.out 
      rw [E1.out] at cc
      have CC := hid cc
      clear cc
      go_wp2_with fail
      refine (CC.out).mono ?_
      rintro e w' ⟨rfl, rfl⟩
      clear CC
      have cc := cmp_any Ab Ac nb cb nc cc _ _ (w1.alloc (.cells #[.slice Aa na ca, .slice Ab nb cb, .slice Ac nc cc] 23)) Rb_2.out Rc_2.out 
      rw [E2.out] at cc
      have CC := hid cc
      clear cc
      go_wp2_with fail
      refine (CC.out).mono ?_
      rintro e w' ⟨rfl, rfl⟩
      clear CC
      have cc := cmp_any Aa Ac na ca nc cc _ _ (w1.alloc (.cells #[.slice Aa na ca, .slice Ab nb cb, .slice Ac nc cc] 23)) Ra_2.out Rc_2.out 
      rw [E3.out] at cc
      have CC := hid cc
      clear cc
      go_wp2_with fail
      refine (CC.out).mono ?_
      rintro e w' ⟨rfl, rfl⟩
      clear CC
      have cc := cmp_any Ab Aa nb cb na ca _ _ (w1.alloc (.cells #[.slice Aa na ca, .slice Ab nb cb, .slice Ac nc cc] 23)) Rb_2.out Ra_2.out 
      rw [E4.out] at cc
      have CC := hid cc
      clear cc
      go_wp2_with fail
      refine (CC.out).mono ?_
      rintro e w' ⟨rfl, rfl⟩
      clear CC
      have cc := add_any Aa Ac na ca nc cc _ _ (w1.alloc (.cells #[.slice Aa na ca, .slice Ab nb cb, .slice Ac nc cc] 23)) Ra_2.out Rc_2.out (by omega) (by omega)
      have CC := hid cc
      clear cc
      go_wp2_with fail
      refine (CC.out).mono ?_
      rintro e w3 ⟨v3, rfl, ⟨Ad, nd, cd, rfl, rd⟩, b3⟩
      clear CC
      have ld : nd ≤ 13 := by rw [← rd.1]; exact dg_len_le (bd_add vha.out vhc.out)
      have Rd := hid rd
      clear rd
      have Ra_3 := hid (Ra_2.out.keep b3)
      have Rb_3 := hid (Rb_2.out.keep b3)
      have Rc_3 := hid (Rc_2.out.keep b3)
      have BB3 := hid (BB2.out.trans (b3.mono BB2.out.size))
      clear Ra_2 Rb_2 Rc_2 BB2
      clear b3
      have cc := add_any Ab Ac nb cb nc cc _ _ w3 Rb_3.out Rc_3.out (by omega) (by omega)
      have CC := hid cc
      clear cc
      go_wp2_with fail
      refine (CC.out).mono ?_
      rintro e w4 ⟨v4, rfl, ⟨Ae, ne, ce, rfl, re⟩, b4⟩
      clear CC
      have le : ne ≤ 13 := by rw [← re.1]; exact dg_len_le (bd_add vhb.out vhc.out)
      have Re := hid re
      clear re
      have Ra_4 := hid (Ra_3.out.keep b4)
      have Rb_4 := hid (Rb_3.out.keep b4)
      have Rc_4 := hid (Rc_3.out.keep b4)
      have Rd_4 := hid (Rd.out.keep b4)
      have BB4 := hid (BB3.out.trans (b4.mono BB3.out.size))
      clear Ra_3 Rb_3 Rc_3 Rd BB3
      clear b4
      have cc := cmp_any Ad Ae nd cd ne ce _ _ w4 Rd_4.out Re.out
      rw [val_dg, val_dg, cmpN_add, E1.out] at cc
      have CC := hid cc
      clear cc
      go_wp2_with fail
      refine (CC.out).mono ?_
      rintro e w' ⟨rfl, rfl⟩
      clear CC
      have cc := bits_any Aa na ca _ w4 Ra_4.out (by omega)
      have CC := hid cc
      clear cc
      go_wp2_with fail
      refine (CC.out).mono ?_
      rintro e w' ⟨rfl, rfl⟩
      clear CC
      have cc := bits_any Ab nb cb _ w4 Rb_4.out (by omega)
      have CC := hid cc
      clear cc
      go_wp2_with fail
      refine (CC.out).mono ?_
      rintro e w' ⟨rfl, rfl⟩
      clear CC
      go_wp2_with fail
      go_ret
      exact ⟨rfl, BB4.out⟩
    · have E1 := hid (show cmpN (val xsa) (val xsb) = 0 from cmpN_eq h1)
      have E2 := hid (show cmpN (val xsb) (val xsc) = 0 from cmpN_eq h2)
      have E3 := hid (show cmpN (val xsa) (val xsc) = 0 from cmpN_eq h3)
      have E4 := hid (show cmpN (val xsb) (val xsa) = 0 from cmpN_eq h1.symm)
      have hb := bitN_mono (show val xsa ≤ val xsb by omega)
      clear h1 h2 h3
      have cc := cmp_any Aa Ab na ca nb cb _ _ (w1.alloc (.cells #[.slice Aa na ca, .slice Ab nb cb, .slice Ac nc cc] 23)) Ra_2.out Rb_2.out 
      rw [E1.out] at cc
      have CC := hid cc
      clear cc
      go_wp2_with fail
      refine (CC.out).mono ?_
      rintro e w' ⟨rfl, rfl⟩
      clear CC
      have cc := cmp_any Ab Ac nb cb nc cc _ _ (w1.alloc (.cells #[.slice Aa na ca, .slice Ab nb cb, .slice Ac nc cc] 23)) Rb_2.out Rc_2.out 
      rw [E2.out] at cc
      have CC := hid cc
      clear cc
      go_wp2_with fail
      refine (CC.out).mono ?_
      rintro e w' ⟨rfl, rfl⟩
      clear CC
      have cc := cmp_any Aa Ac na ca nc cc _ _ (w1.alloc (.cells #[.slice Aa na ca, .slice Ab nb cb, .slice Ac nc cc] 23)) Ra_2.out Rc_2.out 
      rw [E3.out] at cc
      have CC := hid cc
      clear cc
      go_wp2_with fail
      refine (CC.out).mono ?_
      rintro e w' ⟨rfl, rfl⟩
      clear CC
      have cc := cmp_any Ab Aa nb cb na ca _ _ (w1.alloc (.cells #[.slice Aa na ca, .slice Ab nb cb, .slice Ac nc cc] 23)) Rb_2.out Ra_2.out 
      rw [E4.out] at cc
      have CC := hid cc
      clear cc
      go_wp2_with fail
      refine (CC.out).mono ?_
      rintro e w' ⟨rfl, rfl⟩
      clear CC
      have cc := add_any Aa Ac na ca nc cc _ _ (w1.alloc (.cells #[.slice Aa na ca, .slice Ab nb cb, .slice Ac nc cc] 23)) Ra_2.out Rc_2.out (by omega) (by omega)
      have CC := hid cc
      clear cc
      go_wp2_with fail
      refine (CC.out).mono ?_
      rintro e w3 ⟨v3, rfl, ⟨Ad, nd, cd, rfl, rd⟩, b3⟩
      clear CC
      have ld : nd ≤ 13 := by rw [← rd.1]; exact dg_len_le (bd_add vha.out vhc.out)
      have Rd := hid rd
      clear rd
      have Ra_3 := hid (Ra_2.out.keep b3)
      have Rb_3 := hid (Rb_2.out.keep b3)
      have Rc_3 := hid (Rc_2.out.keep b3)
      have BB3 := hid (BB2.out.trans (b3.mono BB2.out.size))
      clear Ra_2 Rb_2 Rc_2 BB2
      clear b3
      have cc := add_any Ab Ac nb cb nc cc _ _ w3 Rb_3.out Rc_3.out (by omega) (by omega)
      have CC := hid cc
      clear cc
      go_wp2_with fail
      refine (CC.out).mono ?_
      rintro e w4 ⟨v4, rfl, ⟨Ae, ne, ce, rfl, re⟩, b4⟩
      clear CC
      have le : ne ≤ 13 := by rw [← re.1]; exact dg_len_le (bd_add vhb.out vhc.out)
      have Re := hid re
      clear re
      have Ra_4 := hid (Ra_3.out.keep b4)
      have Rb_4 := hid (Rb_3.out.keep b4)
      have Rc_4 := hid (Rc_3.out.keep b4)
      have Rd_4 := hid (Rd.out.keep b4)
      have BB4 := hid (BB3.out.trans (b4.mono BB3.out.size))
      clear Ra_3 Rb_3 Rc_3 Rd BB3
      clear b4
      have cc := cmp_any Ad Ae nd cd ne ce _ _ w4 Rd_4.out Re.out
      rw [val_dg, val_dg, cmpN_add, E1.out] at cc
      have CC := hid cc
      clear cc
      go_wp2_with fail
      refine (CC.out).mono ?_
      rintro e w' ⟨rfl, rfl⟩
      clear CC
      have cc := bits_any Aa na ca _ w4 Ra_4.out (by omega)
      have CC := hid cc
      clear cc
      go_wp2_with fail
      refine (CC.out).mono ?_
      rintro e w' ⟨rfl, rfl⟩
      clear CC
      have cc := bits_any Ab nb cb _ w4 Rb_4.out (by omega)
      have CC := hid cc
      clear cc
      go_wp2_with fail
      refine (CC.out).mono ?_
      rintro e w' ⟨rfl, rfl⟩
      clear CC
      go_wp2_with fail
      go_ret
      exact ⟨rfl, BB4.out⟩
    · have E1 := hid (show cmpN (val xsa) (val xsb) = 0 from cmpN_eq h1)
      have E2 := hid (show cmpN (val xsb) (val xsc) = 1 from cmpN_gt h2)
      have E3 := hid (show cmpN (val xsa) (val xsc) = 1 from cmpN_gt h3)
      have E4 := hid (show cmpN (val xsb) (val xsa) = 0 from cmpN_eq h1.symm)
      have hb := bitN_mono (show val xsa ≤ val xsb by omega)
      clear h1 h2 h3
      have cc := cmp_any Aa Ab na ca nb cb _ _ (w1.alloc (.cells #[.slice Aa na ca, .slice Ab nb cb, .slice Ac nc cc] 23)) Ra_2.out Rb_2.out 
      rw [E1.out] at cc
      have CC := hid cc
      clear cc
      go_wp2_with fail
      refine (CC.out).mono ?_
      rintro e w' ⟨rfl, rfl⟩
      clear CC
      have cc := cmp_any Ab Ac nb cb nc cc _ _ (w1.alloc (.cells #[.slice Aa na ca, .slice Ab nb cb, .slice Ac nc cc] 23)) Rb_2.out Rc_2.out 
      rw [E2.out] at cc
      have CC := hid cc
      clear cc
      go_wp2_with fail
      refine (CC.out).mono ?_
      rintro e w' ⟨rfl, rfl⟩
      clear CC
      have cc := cmp_any Aa Ac na ca nc cc _ _ (w1.alloc (.cells #[.slice Aa na ca, .slice Ab nb cb, .slice Ac nc cc] 23)) Ra_2.out Rc_2.out 
      rw [E3.out] at cc
      have CC := hid cc
      clear cc
      go_wp2_with fail
      refine (CC.out).mono ?_
      rintro e w' ⟨rfl, rfl⟩
      clear CC
      have cc := cmp_any Ab Aa nb cb na ca _ _ (w1.alloc (.cells #[.slice Aa na ca, .slice Ab nb cb, .slice Ac nc cc] 23)) Rb_2.out Ra_2.out 
      rw [E4.out] at cc
      have CC := hid cc
      clear cc
      go_wp2_with fail
      refine (CC.out).mono ?_
      rintro e w' ⟨rfl, rfl⟩
      clear CC
      have cc := add_any Aa Ac na ca nc cc _ _ (w1.alloc (.cells #[.slice Aa na ca, .slice Ab nb cb, .slice Ac nc cc] 23)) Ra_2.out Rc_2.out (by omega) (by omega)
      have CC := hid cc
      clear cc
      go_wp2_with fail
      refine (CC.out).mono ?_
      rintro e w3 ⟨v3, rfl, ⟨Ad, nd, cd, rfl, rd⟩, b3⟩
      clear CC
      have ld : nd ≤ 13 := by rw [← rd.1]; exact dg_len_le (bd_add vha.out vhc.out)
      have Rd := hid rd
      clear rd
      have Ra_3 := hid (Ra_2.out.keep b3)
      have Rb_3 := hid (Rb_2.out.keep b3)
      have Rc_3 := hid (Rc_2.out.keep b3)
      have BB3 := hid (BB2.out.trans (b3.mono BB2.out.size))
      clear Ra_2 Rb_2 Rc_2 BB2
      clear b3
      have cc := add_any Ab Ac nb cb nc cc _ _ w3 Rb_3.out Rc_3.out (by omega) (by omega)
      have CC := hid cc
      clear cc
      go_wp2_with fail
      refine (CC.out).mono ?_
      rintro e w4 ⟨v4, rfl, ⟨Ae, ne, ce, rfl, re⟩, b4⟩
      clear CC
      have le : ne ≤ 13 := by rw [← re.1]; exact dg_len_le (bd_add vhb.out vhc.out)
      have Re := hid re
      clear re
      have Ra_4 := hid (Ra_3.out.keep b4)
      have Rb_4 := hid (Rb_3.out.keep b4)
      have Rc_4 := hid (Rc_3.out.keep b4)
      have Rd_4 := hid (Rd.out.keep b4)
      have BB4 := hid (BB3.out.trans (b4.mono BB3.out.size))
      clear Ra_3 Rb_3 Rc_3 Rd BB3
      clear b4
      have cc := cmp_any Ad Ae nd cd ne ce _ _ w4 Rd_4.out Re.out
      rw [val_dg, val_dg, cmpN_add, E1.out] at cc
      have CC := hid cc
      clear cc
      go_wp2_with fail
      refine (CC.out).mono ?_
      rintro e w' ⟨rfl, rfl⟩
      clear CC
      have cc := bits_any Aa na ca _ w4 Ra_4.out (by omega)
      have CC := hid cc
      clear cc
      go_wp2_with fail
      refine (CC.out).mono ?_
      rintro e w' ⟨rfl, rfl⟩
      clear CC
      have cc := bits_any Ab nb cb _ w4 Rb_4.out (by omega)
      have CC := hid cc
      clear cc
      go_wp2_with fail
      refine (CC.out).mono ?_
      rintro e w' ⟨rfl, rfl⟩
      clear CC
      go_wp2_with fail
      go_ret
      exact ⟨rfl, BB4.out⟩
    · have E1 := hid (show cmpN (val xsa) (val xsb) = 1 from cmpN_gt h1)
      have E2 := hid (show cmpN (val xsb) (val xsc) = -1 from cmpN_lt h2)
      have E3 := hid (show cmpN (val xsa) (val xsc) = -1 from cmpN_lt h3)
      have E4 := hid (show cmpN (val xsb) (val xsa) = -1 from cmpN_lt h1)
      clear h1 h2 h3
      have cc := cmp_any Aa Ab na ca nb cb _ _ (w1.alloc (.cells #[.slice Aa na ca, .slice Ab nb cb, .slice Ac nc cc] 23)) Ra_2.out Rb_2.out 
      rw [E1.out] at cc
      have CC := hid cc
      clear cc
      go_wp2_with fail
      refine (CC.out).mono ?_
      rintro e w' ⟨rfl, rfl⟩
      clear CC
      have cc := cmp_any Ab Ac nb cb nc cc _ _ (w1.alloc (.cells #[.slice Aa na ca, .slice Ab nb cb, .slice Ac nc cc] 23)) Rb_2.out Rc_2.out 
      rw [E2.out] at cc
      have CC := hid cc
      clear cc
      go_wp2_with fail
      refine (CC.out).mono ?_
      rintro e w' ⟨rfl, rfl⟩
      clear CC
      have cc := cmp_any Aa Ac na ca nc cc _ _ (w1.alloc (.cells #[.slice Aa na ca, .slice Ab nb cb, .slice Ac nc cc] 23)) Ra_2.out Rc_2.out 
      rw [E3.out] at cc
      have CC := hid cc
      clear cc
      go_wp2_with fail
      refine (CC.out).mono ?_
      rintro e w' ⟨rfl, rfl⟩
      clear CC
      have cc := cmp_any Ab Aa nb cb na ca _ _ (w1.alloc (.cells #[.slice Aa na ca, .slice Ab nb cb, .slice Ac nc cc] 23)) Rb_2.out Ra_2.out 
      rw [E4.out] at cc
      have CC := hid cc
      clear cc
      go_wp2_with fail
      refine (CC.out).mono ?_
      rintro e w' ⟨rfl, rfl⟩
      clear CC
      have cc := add_any Aa Ac na ca nc cc _ _ (w1.alloc (.cells #[.slice Aa na ca, .slice Ab nb cb, .slice Ac nc cc] 23)) Ra_2.out Rc_2.out (by omega) (by omega)
      have CC := hid cc
      clear cc
      go_wp2_with fail
      refine (CC.out).mono ?_
      rintro e w3 ⟨v3, rfl, ⟨Ad, nd, cd, rfl, rd⟩, b3⟩
      clear CC
      have ld : nd ≤ 13 := by rw [← rd.1]; exact dg_len_le (bd_add vha.out vhc.out)
      have Rd := hid rd
      clear rd
      have Ra_3 := hid (Ra_2.out.keep b3)
      have Rb_3 := hid (Rb_2.out.keep b3)
      have Rc_3 := hid (Rc_2.out.keep b3)
      have BB3 := hid (BB2.out.trans (b3.mono BB2.out.size))
      clear Ra_2 Rb_2 Rc_2 BB2
      clear b3
      have cc := add_any Ab Ac nb cb nc cc _ _ w3 Rb_3.out Rc_3.out (by omega) (by omega)
      have CC := hid cc
      clear cc
      go_wp2_with fail
      refine (CC.out).mono ?_
      rintro e w4 ⟨v4, rfl, ⟨Ae, ne, ce, rfl, re⟩, b4⟩
      clear CC
      have le : ne ≤ 13 := by rw [← re.1]; exact dg_len_le (bd_add vhb.out vhc.out)
      have Re := hid re
      clear re
      have Ra_4 := hid (Ra_3.out.keep b4)
      have Rb_4 := hid (Rb_3.out.keep b4)
      have Rc_4 := hid (Rc_3.out.keep b4)
      have Rd_4 := hid (Rd.out.keep b4)
      have BB4 := hid (BB3.out.trans (b4.mono BB3.out.size))
      clear Ra_3 Rb_3 Rc_3 Rd BB3
      clear b4
      have cc := cmp_any Ad Ae nd cd ne ce _ _ w4 Rd_4.out Re.out
      rw [val_dg, val_dg, cmpN_add, E1.out] at cc
      have CC := hid cc
      clear cc
      go_wp2_with fail
      refine (CC.out).mono ?_
      rintro e w' ⟨rfl, rfl⟩
      clear CC
      go_wp2_with fail
      go_ret
      exact ⟨rfl, BB4.out⟩
    · have E1 := hid (show cmpN (val xsa) (val xsb) = 1 from cmpN_gt h1)
      have E2 := hid (show cmpN (val xsb) (val xsc) = -1 from cmpN_lt h2)
      have E3 := hid (show cmpN (val xsa) (val xsc) = 0 from cmpN_eq h3)
      have E4 := hid (show cmpN (val xsb) (val xsa) = -1 from cmpN_lt h1)
      clear h1 h2 h3
      have cc := cmp_any Aa Ab na ca nb cb _ _ (w1.alloc (.cells #[.slice Aa na ca, .slice Ab nb cb, .slice Ac nc cc] 23)) Ra_2.out Rb_2.out 
      rw [E1.out] at cc
      have CC := hid cc
      clear cc
      go_wp2_with fail
      refine (CC.out).mono ?_
      rintro e w' ⟨rfl, rfl⟩
      clear CC
      have cc := cmp_any Ab Ac nb cb nc cc _ _ (w1.alloc (.cells #[.slice Aa na ca, .slice Ab nb cb, .slice Ac nc cc] 23)) Rb_2.out Rc_2.out 
      rw [E2.out] at cc
      have CC := hid cc
      clear cc
      go_wp2_with fail
      refine (CC.out).mono ?_
      rintro e w' ⟨rfl, rfl⟩
      clear CC
      have cc := cmp_any Aa Ac na ca nc cc _ _ (w1.alloc (.cells #[.slice Aa na ca, .slice Ab nb cb, .slice Ac nc cc] 23)) Ra_2.out Rc_2.out 
      rw [E3.out] at cc
      have CC := hid cc
      clear cc
      go_wp2_with fail
      refine (CC.out).mono ?_
      rintro e w' ⟨rfl, rfl⟩
      clear CC
      have cc := cmp_any Ab Aa nb cb na ca _ _ (w1.alloc (.cells #[.slice Aa na ca, .slice Ab nb cb, .slice Ac nc cc] 23)) Rb_2.out Ra_2.out 
      rw [E4.out] at cc
      have CC := hid cc
      clear cc
      go_wp2_with fail
      refine (CC.out).mono ?_
      rintro e w' ⟨rfl, rfl⟩
      clear CC
      have cc := add_any Aa Ac na ca nc cc _ _ (w1.alloc (.cells #[.slice Aa na ca, .slice Ab nb cb, .slice Ac nc cc] 23)) Ra_2.out Rc_2.out (by omega) (by omega)
      have CC := hid cc
      clear cc
      go_wp2_with fail
      refine (CC.out).mono ?_
      rintro e w3 ⟨v3, rfl, ⟨Ad, nd, cd, rfl, rd⟩, b3⟩
      clear CC
      have ld : nd ≤ 13 := by rw [← rd.1]; exact dg_len_le (bd_add vha.out vhc.out)
      have Rd := hid rd
      clear rd
      have Ra_3 := hid (Ra_2.out.keep b3)
      have Rb_3 := hid (Rb_2.out.keep b3)
      have Rc_3 := hid (Rc_2.out.keep b3)
      have BB3 := hid (BB2.out.trans (b3.mono BB2.out.size))
      clear Ra_2 Rb_2 Rc_2 BB2
      clear b3
      have cc := add_any Ab Ac nb cb nc cc _ _ w3 Rb_3.out Rc_3.out (by omega) (by omega)
      have CC := hid cc
      clear cc
      go_wp2_with fail
      refine (CC.out).mono ?_
      rintro e w4 ⟨v4, rfl, ⟨Ae, ne, ce, rfl, re⟩, b4⟩
      clear CC
      have le : ne ≤ 13 := by rw [← re.1]; exact dg_len_le (bd_add vhb.out vhc.out)
      have Re := hid re
      clear re
      have Ra_4 := hid (Ra_3.out.keep b4)
      have Rb_4 := hid (Rb_3.out.keep b4)
      have Rc_4 := hid (Rc_3.out.keep b4)
      have Rd_4 := hid (Rd.out.keep b4)
      have BB4 := hid (BB3.out.trans (b4.mono BB3.out.size))
      clear Ra_3 Rb_3 Rc_3 Rd BB3
      clear b4
      have cc := cmp_any Ad Ae nd cd ne ce _ _ w4 Rd_4.out Re.out
      rw [val_dg, val_dg, cmpN_add, E1.out] at cc
      have CC := hid cc
      clear cc
      go_wp2_with fail
      refine (CC.out).mono ?_
      rintro e w' ⟨rfl, rfl⟩
      clear CC
      go_wp2_with fail
      go_ret
      exact ⟨rfl, BB4.out⟩
    · have E1 := hid (show cmpN (val xsa) (val xsb) = 1 from cmpN_gt h1)
      have E2 := hid (show cmpN (val xsb) (val xsc) = -1 from cmpN_lt h2)
      have E3 := hid (show cmpN (val xsa) (val xsc) = 1 from cmpN_gt h3)
      have E4 := hid (show cmpN (val xsb) (val xsa) = -1 from cmpN_lt h1)
      clear h1 h2 h3
      have cc := cmp_any Aa Ab na ca nb cb _ _ (w1.alloc (.cells #[.slice Aa na ca, .slice Ab nb cb, .slice Ac nc cc] 23)) Ra_2.out Rb_2.out 
      rw [E1.out] at cc
      have CC := hid cc
      clear cc
      go_wp2_with fail
      refine (CC.out).mono ?_
      rintro e w' ⟨rfl, rfl⟩
      clear CC
      have cc := cmp_any Ab Ac nb cb nc cc _ _ (w1.alloc (.cells #[.slice Aa na ca, .slice Ab nb cb, .slice Ac nc cc] 23)) Rb_2.out Rc_2.out 
      rw [E2.out] at cc
      have CC := hid cc
      clear cc
      go_wp2_with fail
      refine (CC.out).mono ?_
      rintro e w' ⟨rfl, rfl⟩
      clear CC
      have cc := cmp_any Aa Ac na ca nc cc _ _ (w1.alloc (.cells #[.slice Aa na ca, .slice Ab nb cb, .slice Ac nc cc] 23)) Ra_2.out Rc_2.out 
      rw [E3.out] at cc
      have CC := hid cc
      clear cc
      go_wp2_with fail
      refine (CC.out).mono ?_
      rintro e w' ⟨rfl, rfl⟩
      clear CC
      have cc := cmp_any Ab Aa nb cb na ca _ _ (w1.alloc (.cells #[.slice Aa na ca, .slice Ab nb cb, .slice Ac nc cc] 23)) Rb_2.out Ra_2.out 
      rw [E4.out] at cc
      have CC := hid cc
      clear cc
      go_wp2_with fail
      refine (CC.out).mono ?_
      rintro e w' ⟨rfl, rfl⟩
      clear CC
      have cc := add_any Aa Ac na ca nc cc _ _ (w1.alloc (.cells #[.slice Aa na ca, .slice Ab nb cb, .slice Ac nc cc] 23)) Ra_2.out Rc_2.out (by omega) (by omega)
      have CC := hid cc
      clear cc
      go_wp2_with fail
      refine (CC.out).mono ?_
      rintro e w3 ⟨v3, rfl, ⟨Ad, nd, cd, rfl, rd⟩, b3⟩
      clear CC
      have ld : nd ≤ 13 := by rw [← rd.1]; exact dg_len_le (bd_add vha.out vhc.out)
      have Rd := hid rd
      clear rd
      have Ra_3 := hid (Ra_2.out.keep b3)
      have Rb_3 := hid (Rb_2.out.keep b3)
      have Rc_3 := hid (Rc_2.out.keep b3)
      have BB3 := hid (BB2.out.trans (b3.mono BB2.out.size))
      clear Ra_2 Rb_2 Rc_2 BB2
      clear b3
      have cc := add_any Ab Ac nb cb nc cc _ _ w3 Rb_3.out Rc_3.out (by omega) (by omega)
      have CC := hid cc
      clear cc
      go_wp2_with fail
      refine (CC.out).mono ?_
      rintro e w4 ⟨v4, rfl, ⟨Ae, ne, ce, rfl, re⟩, b4⟩
      clear CC
      have le : ne ≤ 13 := by rw [← re.1]; exact dg_len_le (bd_add vhb.out vhc.out)
      have Re := hid re
      clear re
      have Ra_4 := hid (Ra_3.out.keep b4)
      have Rb_4 := hid (Rb_3.out.keep b4)
      have Rc_4 := hid (Rc_3.out.keep b4)
      have Rd_4 := hid (Rd.out.keep b4)
      have BB4 := hid (BB3.out.trans (b4.mono BB3.out.size))
      clear Ra_3 Rb_3 Rc_3 Rd BB3
      clear b4
      have cc := cmp_any Ad Ae nd cd ne ce _ _ w4 Rd_4.out Re.out
      rw [val_dg, val_dg, cmpN_add, E1.out] at cc
      have CC := hid cc
      clear cc
      go_wp2_with fail
      refine (CC.out).mono ?_
      rintro e w' ⟨rfl, rfl⟩
      clear CC
      go_wp2_with fail
      go_ret
      exact ⟨rfl, BB4.out⟩
    · have E1 := hid (show cmpN (val xsa) (val xsb) = 1 from cmpN_gt h1)
      have E2 := hid (show cmpN (val xsb) (val xsc) = 0 from cmpN_eq h2)
      have E3 := hid (show cmpN (val xsa) (val xsc) = 1 from cmpN_gt h3)
      have E4 := hid (show cmpN (val xsb) (val xsa) = -1 from cmpN_lt h1)
      clear h1 h2 h3
      have cc := cmp_any Aa Ab na ca nb cb _ _ (w1.alloc (.cells #[.slice Aa na ca, .slice Ab nb cb, .slice Ac nc cc] 23)) Ra_2.out Rb_2.out 
      rw [E1.out] at cc
      have CC := hid cc
      clear cc
      go_wp2_with fail
      refine (CC.out).mono ?_
      rintro e w' ⟨rfl, rfl⟩
      clear CC
      have cc := cmp_any Ab Ac nb cb nc cc _ _ (w1.alloc (.cells #[.slice Aa na ca, .slice Ab nb cb, .slice Ac nc cc] 23)) Rb_2.out Rc_2.out 
      rw [E2.out] at cc
      have CC := hid cc
      clear cc
      go_wp2_with fail
      refine (CC.out).mono ?_
      rintro e w' ⟨rfl, rfl⟩
      clear CC
      have cc := cmp_any Aa Ac na ca nc cc _ _ (w1.alloc (.cells #[.slice Aa na ca, .slice Ab nb cb, .slice Ac nc cc] 23)) Ra_2.out Rc_2.out 
      rw [E3.out] at cc
      have CC := hid cc
      clear cc
      go_wp2_with fail
      refine (CC.out).mono ?_
      rintro e w' ⟨rfl, rfl⟩
      clear CC
      have cc := cmp_any Ab Aa nb cb na ca _ _ (w1.alloc (.cells #[.slice Aa na ca, .slice Ab nb cb, .slice Ac nc cc] 23)) Rb_2.out Ra_2.out 
      rw [E4.out] at cc
      have CC := hid cc
      clear cc
      go_wp2_with fail
      refine (CC.out).mono ?_
      rintro e w' ⟨rfl, rfl⟩
      clear CC
      have cc := add_any Aa Ac na ca nc cc _ _ (w1.alloc (.cells #[.slice Aa na ca, .slice Ab nb cb, .slice Ac nc cc] 23)) Ra_2.out Rc_2.out (by omega) (by omega)
      have CC := hid cc
      clear cc
      go_wp2_with fail
      refine (CC.out).mono ?_
      rintro e w3 ⟨v3, rfl, ⟨Ad, nd, cd, rfl, rd⟩, b3⟩
      clear CC
      have ld : nd ≤ 13 := by rw [← rd.1]; exact dg_len_le (bd_add vha.out vhc.out)
      have Rd := hid rd
      clear rd
      have Ra_3 := hid (Ra_2.out.keep b3)
      have Rb_3 := hid (Rb_2.out.keep b3)
      have Rc_3 := hid (Rc_2.out.keep b3)
      have BB3 := hid (BB2.out.trans (b3.mono BB2.out.size))
      clear Ra_2 Rb_2 Rc_2 BB2
      clear b3
      have cc := add_any Ab Ac nb cb nc cc _ _ w3 Rb_3.out Rc_3.out (by omega) (by omega)
      have CC := hid cc
      clear cc
      go_wp2_with fail
      refine (CC.out).mono ?_
      rintro e w4 ⟨v4, rfl, ⟨Ae, ne, ce, rfl, re⟩, b4⟩
      clear CC
      have le : ne ≤ 13 := by rw [← re.1]; exact dg_len_le (bd_add vhb.out vhc.out)
      have Re := hid re
      clear re
      have Ra_4 := hid (Ra_3.out.keep b4)
      have Rb_4 := hid (Rb_3.out.keep b4)
      have Rc_4 := hid (Rc_3.out.keep b4)
      have Rd_4 := hid (Rd.out.keep b4)
      have BB4 := hid (BB3.out.trans (b4.mono BB3.out.size))
      clear Ra_3 Rb_3 Rc_3 Rd BB3
      clear b4
      have cc := cmp_any Ad Ae nd cd ne ce _ _ w4 Rd_4.out Re.out
      rw [val_dg, val_dg, cmpN_add, E1.out] at cc
      have CC := hid cc
      clear cc
      go_wp2_with fail
      refine (CC.out).mono ?_
      rintro e w' ⟨rfl, rfl⟩
      clear CC
      go_wp2_with fail
      go_ret
      exact ⟨rfl, BB4.out⟩
    · have E1 := hid (show cmpN (val xsa) (val xsb) = 1 from cmpN_gt h1)
      have E2 := hid (show cmpN (val xsb) (val xsc) = 1 from cmpN_gt h2)
      have E3 := hid (show cmpN (val xsa) (val xsc) = 1 from cmpN_gt h3)
      have E4 := hid (show cmpN (val xsb) (val xsa) = -1 from cmpN_lt h1)
      clear h1 h2 h3
      have cc := cmp_any Aa Ab na ca nb cb _ _ (w1.alloc (.cells #[.slice Aa na ca, .slice Ab nb cb, .slice Ac nc cc] 23)) Ra_2.out Rb_2.out 
      rw [E1.out] at cc
      have CC := hid cc
      clear cc
      go_wp2_with fail
      refine (CC.out).mono ?_
      rintro e w' ⟨rfl, rfl⟩
      clear CC
      have cc := cmp_any Ab Ac nb cb nc cc _ _ (w1.alloc (.cells #[.slice Aa na ca, .slice Ab nb cb, .slice Ac nc cc] 23)) Rb_2.out Rc_2.out 
      rw [E2.out] at cc
      have CC := hid cc
      clear cc
      go_wp2_with fail
      refine (CC.out).mono ?_
      rintro e w' ⟨rfl, rfl⟩
      clear CC
      have cc := cmp_any Aa Ac na ca nc cc _ _ (w1.alloc (.cells #[.slice Aa na ca, .slice Ab nb cb, .slice Ac nc cc] 23)) Ra_2.out Rc_2.out 
      rw [E3.out] at cc
      have CC := hid cc
      clear cc
      go_wp2_with fail
      refine (CC.out).mono ?_
      rintro e w' ⟨rfl, rfl⟩
      clear CC
      have cc := cmp_any Ab Aa nb cb na ca _ _ (w1.alloc (.cells #[.slice Aa na ca, .slice Ab nb cb, .slice Ac nc cc] 23)) Rb_2.out Ra_2.out 
      rw [E4.out] at cc
      have CC := hid cc
      clear cc
      go_wp2_with fail
      refine (CC.out).mono ?_
      rintro e w' ⟨rfl, rfl⟩
      clear CC
      have cc := add_any Aa Ac na ca nc cc _ _ (w1.alloc (.cells #[.slice Aa na ca, .slice Ab nb cb, .slice Ac nc cc] 23)) Ra_2.out Rc_2.out (by omega) (by omega)
      have CC := hid cc
      clear cc
      go_wp2_with fail
      refine (CC.out).mono ?_
      rintro e w3 ⟨v3, rfl, ⟨Ad, nd, cd, rfl, rd⟩, b3⟩
      clear CC
      have ld : nd ≤ 13 := by rw [← rd.1]; exact dg_len_le (bd_add vha.out vhc.out)
      have Rd := hid rd
      clear rd
      have Ra_3 := hid (Ra_2.out.keep b3)
      have Rb_3 := hid (Rb_2.out.keep b3)
      have Rc_3 := hid (Rc_2.out.keep b3)
      have BB3 := hid (BB2.out.trans (b3.mono BB2.out.size))
      clear Ra_2 Rb_2 Rc_2 BB2
      clear b3
      have cc := add_any Ab Ac nb cb nc cc _ _ w3 Rb_3.out Rc_3.out (by omega) (by omega)
      have CC := hid cc
      clear cc
      go_wp2_with fail
      refine (CC.out).mono ?_
      rintro e w4 ⟨v4, rfl, ⟨Ae, ne, ce, rfl, re⟩, b4⟩
      clear CC
      have le : ne ≤ 13 := by rw [← re.1]; exact dg_len_le (bd_add vhb.out vhc.out)
      have Re := hid re
      clear re
      have Ra_4 := hid (Ra_3.out.keep b4)
      have Rb_4 := hid (Rb_3.out.keep b4)
      have Rc_4 := hid (Rc_3.out.keep b4)
      have Rd_4 := hid (Rd.out.keep b4)
      have BB4 := hid (BB3.out.trans (b4.mono BB3.out.size))
      clear Ra_3 Rb_3 Rc_3 Rd BB3
      clear b4
      have cc := cmp_any Ad Ae nd cd ne ce _ _ w4 Rd_4.out Re.out
      rw [val_dg, val_dg, cmpN_add, E1.out] at cc
      have CC := hid cc
      clear cc
      go_wp2_with fail
      refine (CC.out).mono ?_
      rintro e w' ⟨rfl, rfl⟩
      clear CC
      go_wp2_with fail
      go_ret
      exact ⟨rfl, BB4.out⟩
  · have hF := decide_eq_false hf
    clear hf vla vlb vlc
    go_enter Try.func9, Try.ntmps9
    go_wp2_with fail
    refine (awake_any w).mono ?_
    rintro e w1 ⟨rfl, bb1⟩
    have cc := few3 w1 Aa Ab Ac na ca nb cb nc cc (by omega) (by omega) (by omega)
    rw [hF] at cc
    have CC := hid cc
    clear cc hF
    go_wp2_with fail
    refine (CC.out).mono ?_
    rintro e w' ⟨rfl, rfl⟩
    clear CC
    go_wp2_with fail
    refine (awake_any _).mono ?_
    rintro e w3 ⟨rfl, bb3⟩
    have F := hid (bb1.trans (((Below.refl w1.heap.size w1).alloc (Nat.le_refl _) (.cells #[.slice Aa na ca, .slice Ab nb cb, .slice Ac nc cc] 23)).trans (bb3.mono (by simp)) |>.mono bb1.size))
    clear bb1 bb3
    go_wp2_with fail
    go_ret
    exact ⟨rfl, F.out⟩

end Go.Proofs.Ytojcjhnhajjppaa
