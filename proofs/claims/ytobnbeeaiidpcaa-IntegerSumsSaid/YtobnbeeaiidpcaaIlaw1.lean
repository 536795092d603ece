/- Laws of layer 2, walked by contracts. -/
import Derived.Test.YtobnbeeaiidpcaaIaid
namespace Go.Proofs.Ytobnbeeaiidpcaa
open Go.RowKit

set_option maxRecDepth 100000 in
set_option maxHeartbeats 4000000 in
theorem integerSums_any (ga : Bool) (Aa : Option Addr) (na ca : Nat) (xsa : List Nat) (gb : Bool) (Ab : Option Addr) (nb cb : Nat) (xsb : List Nat) (w : World) (ha : Rd w Aa na ca xsa) (hb : Rd w Ab nb cb xsb) :
    Calls Try.prog 4 #[.agg #[.bool ga, .slice Aa na ca], .agg #[.bool gb, .slice Ab nb cb]] w (RetB w true) := by
  have Ra := hid ha
  have ka := ha.2.1
  have ja := ha.2.2.1
  have Rb := hid hb
  have kb := hb.2.1
  have jb := hb.2.2.1
  have X := hid (bx_alloc (bx_alloc (bx_refl w) (.cells #[.bool ga, .slice Aa na ca] 25)) (.cells #[.bool gb, .slice Ab nb cb] 25))
  have Ka : Hid (Blk ((w.alloc (.cells #[.bool ga, .slice Aa na ca] 25)).alloc (.cells #[.bool gb, .slice Ab nb cb] 25)) (w.heap.size) [.bool ga, .slice Aa na ca] 25) := hid (by have t := ((Blk.new w [.bool ga, .slice Aa na ca] 25).alloc (.cells #[.bool gb, .slice Ab nb cb] 25)); (try simp only [World.size_alloc] at t); exact t)
  have Kb : Hid (Blk ((w.alloc (.cells #[.bool ga, .slice Aa na ca] 25)).alloc (.cells #[.bool gb, .slice Ab nb cb] 25)) (w.heap.size + 1) [.bool gb, .slice Ab nb cb] 25) := hid (by have t := (Blk.new (w.alloc (.cells #[.bool ga, .slice Aa na ca] 25)) [.bool gb, .slice Ab nb cb] 25); (try simp only [World.size_alloc] at t); exact t)
  clear ha hb
  by_cases hf : na ≤ 10 ∧ nb ≤ 10
  · obtain ⟨qa, qb⟩ := hf
    have Za := hid (sz_iv (g := ga) Ra.out qa)
    have la : na ≤ 10 := qa
    have Zb := hid (sz_iv (g := gb) Rb.out qb)
    have lb : nb ≤ 10 := qb
    go_enter Try.func4, Try.ntmps4
    go_wp2_with fail
    refine (iawake_any _).mono ?_
    rintro e w1 ⟨rfl, b⟩
    have Ra_1 := hid (Ra.out.keep (bx_call X.out b))
    have Ka_1 := hid (Ka.out.keep b)
    have Rb_1 := hid (Rb.out.keep (bx_call X.out b))
    have Kb_1 := hid (Kb.out.keep b)
    have X_1 := hid (bx_call X.out b)
    clear b X Ra Ka Rb Kb
    obtain ⟨ka0, ka1⟩ := blk_two Ka_1.out
    obtain ⟨kb0, kb1⟩ := blk_two Kb_1.out
    have cc := ifew2 (Blk.new w1 [.bool ga, .slice Aa na ca, .bool gb, .slice Ab nb cb] 25) (by omega) (by omega)
    rw [decide_eq_true ⟨qa, qb⟩] at cc
    have CC := hid cc
    clear cc
    go_wp2_with fail
    refine (CC.out).mono ?_
    rintro e w2 ⟨rfl, b0⟩
    have b := bx_call (bx_alloc (bx_refl w1) (.cells #[.bool ga, .slice Aa na ca, .bool gb, .slice Ab nb cb] 25)) b0
    have Ra_2 := hid (Ra_1.out.keep b)
    have Ka_2 := hid (Ka_1.out.keep b)
    have Rb_2 := hid (Rb_1.out.keep b)
    have Kb_2 := hid (Kb_1.out.keep b)
    have X_2 := hid (bx_call X_1.out b)
    clear CC b b0 X_1 Ra_1 Ka_1 ka0 ka1 Rb_1 Kb_1 kb0 kb1
    obtain ⟨ka0, ka1⟩ := blk_two Ka_2.out
    obtain ⟨kb0, kb1⟩ := blk_two Kb_2.out
    go_wp2_with fail
    go_region_held3 (fun W => W.cell? ⟨w.heap.size, 0, none⟩ = some (.bool ga) ∧ W.cell? ⟨w.heap.size, 1, none⟩ = some (.slice Aa na ca) ∧ W.cell? ⟨w.heap.size + 1, 0, none⟩ = some (.bool gb) ∧ W.cell? ⟨w.heap.size + 1, 1, none⟩ = some (.slice Ab nb cb))
      (refine ⟨?_, ?_, ?_, ?_⟩ <;> repeat' (first | with_reducible assumption | with_reducible refine cell_dr ?_))
      (first
        | (go_at_call 24; have cc := risame_eq Ai ni ci Am nm cm w12 Ri_12.out Rm.out rfl; refine cc.mono ?_; rintro e w13 ⟨rfl, b⟩; clear cc; have Ra_13 := hid (Ra_12.out.keep b); have Ka_13 := hid (Ka_12.out.keep b); have Rb_13 := hid (Rb_12.out.keep b); have Kb_13 := hid (Kb_12.out.keep b); have Rd_13 := hid (Rd_12.out.keep b); have Re_13 := hid (Re_12.out.keep b); have Rf_13 := hid (Rf_12.out.keep b); have Rh_13 := hid (Rh_12.out.keep b); have Ri_13 := hid (Ri_12.out.keep b); have Rm_13 := hid (Rm.out.keep b); have X_13 := hid (bx_call X_12.out b); obtain ⟨ka0, ka1⟩ := blk_two Ka_13.out; obtain ⟨kb0, kb1⟩ := blk_two Kb_13.out; clear b Ra_12 Ka_12 Rb_12 Kb_12 Rd_12 Re_12 Rf_12 Rh_12 Ri_12 Rm X_12)
        | (go_at_call 39; have cc := rimul_any ga Aa na ca _ gb Ab nb cb _ w11 (Ra_11.out) (by have := la; omega) (Rb_11.out) (by have := lb; omega); refine cc.mono ?_; rintro e w12 ⟨Am, nm, cm, rfl, r, b⟩; clear cc; have lm : nm ≤ 20 := (by rw [← r.1]; exact sz_len (sz_mul Za.out Zb.out)); have Rm := hid r; clear r; have Ra_12 := hid (Ra_11.out.keep b); have Ka_12 := hid (Ka_11.out.keep b); have Rb_12 := hid (Rb_11.out.keep b); have Kb_12 := hid (Kb_11.out.keep b); have Rd_12 := hid (Rd_11.out.keep b); have Re_12 := hid (Re_11.out.keep b); have Rf_12 := hid (Rf_11.out.keep b); have Rh_12 := hid (Rh_11.out.keep b); have Ri_12 := hid (Ri.out.keep b); have X_12 := hid (bx_call X_11.out b); obtain ⟨ka0, ka1⟩ := blk_two Ka_12.out; obtain ⟨kb0, kb1⟩ := blk_two Kb_12.out; clear b Ra_11 Ka_11 Rb_11 Kb_11 Rd_11 Re_11 Rf_11 Rh_11 Ri X_11)
        | (go_at_call 38; have cc := imul_any ga Aa na ca _ gb Ab nb cb _ w10 (Ra_10.out) (by have := la; omega) (Rb_10.out) (by have := lb; omega); refine cc.mono ?_; rintro e w11 ⟨Ai, ni, ci, rfl, r, b⟩; clear cc; have li : ni ≤ 20 := (by rw [← r.1]; exact sz_len (sz_mul Za.out Zb.out)); have Ri := hid r; clear r; have Ra_11 := hid (Ra_10.out.keep b); have Ka_11 := hid (Ka_10.out.keep b); have Rb_11 := hid (Rb_10.out.keep b); have Kb_11 := hid (Kb_10.out.keep b); have Rd_11 := hid (Rd_10.out.keep b); have Re_11 := hid (Re_10.out.keep b); have Rf_11 := hid (Rf_10.out.keep b); have Rh_11 := hid (Rh_10.out.keep b); have X_11 := hid (bx_call X_10.out b); obtain ⟨ka0, ka1⟩ := blk_two Ka_11.out; obtain ⟨kb0, kb1⟩ := blk_two Kb_11.out; clear b Ra_10 Ka_10 Rb_10 Kb_10 Rd_10 Re_10 Rf_10 Rh_10 X_10)
        | (go_at_call 24; have cc := risame_eq Af nf cf Ah nh ch w9 Rf_9.out Rh.out rfl; refine cc.mono ?_; rintro e w10 ⟨rfl, b⟩; clear cc; have Ra_10 := hid (Ra_9.out.keep b); have Ka_10 := hid (Ka_9.out.keep b); have Rb_10 := hid (Rb_9.out.keep b); have Kb_10 := hid (Kb_9.out.keep b); have Rd_10 := hid (Rd_9.out.keep b); have Re_10 := hid (Re_9.out.keep b); have Rf_10 := hid (Rf_9.out.keep b); have Rh_10 := hid (Rh.out.keep b); have X_10 := hid (bx_call X_9.out b); obtain ⟨ka0, ka1⟩ := blk_two Ka_10.out; obtain ⟨kb0, kb1⟩ := blk_two Kb_10.out; clear b Ra_9 Ka_9 Rb_9 Kb_9 Rd_9 Re_9 Rf_9 Rh X_9)
        | (go_at_call 37; have cc := risub_any ga Aa na ca _ gb Ab nb cb _ w8 (Ra_8.out) (by have := la; omega) (Rb_8.out) (by have := lb; omega); refine cc.mono ?_; rintro e w9 ⟨Ah, nh, ch, rfl, r, b⟩; clear cc; have lh : nh ≤ 11 := (by rw [← r.1]; exact sz_len (sz_sub Za.out Zb.out)); have Rh := hid r; clear r; have Ra_9 := hid (Ra_8.out.keep b); have Ka_9 := hid (Ka_8.out.keep b); have Rb_9 := hid (Rb_8.out.keep b); have Kb_9 := hid (Kb_8.out.keep b); have Rd_9 := hid (Rd_8.out.keep b); have Re_9 := hid (Re_8.out.keep b); have Rf_9 := hid (Rf.out.keep b); have X_9 := hid (bx_call X_8.out b); obtain ⟨ka0, ka1⟩ := blk_two Ka_9.out; obtain ⟨kb0, kb1⟩ := blk_two Kb_9.out; clear b Ra_8 Ka_8 Rb_8 Kb_8 Rd_8 Re_8 Rf X_8)
        | (go_at_call 36; have cc := isub_any ga Aa na ca _ gb Ab nb cb _ w7 (Ra_7.out) (by have := la; omega) (Rb_7.out) (by have := lb; omega); refine cc.mono ?_; rintro e w8 ⟨Af, nf, cf, rfl, r, b⟩; clear cc; have lf : nf ≤ 11 := (by rw [← r.1]; exact sz_len (sz_sub Za.out Zb.out)); have Rf := hid r; clear r; have Ra_8 := hid (Ra_7.out.keep b); have Ka_8 := hid (Ka_7.out.keep b); have Rb_8 := hid (Rb_7.out.keep b); have Kb_8 := hid (Kb_7.out.keep b); have Rd_8 := hid (Rd_7.out.keep b); have Re_8 := hid (Re_7.out.keep b); have X_8 := hid (bx_call X_7.out b); obtain ⟨ka0, ka1⟩ := blk_two Ka_8.out; obtain ⟨kb0, kb1⟩ := blk_two Kb_8.out; clear b Ra_7 Ka_7 Rb_7 Kb_7 Rd_7 Re_7 X_7)
        | (go_at_call 24; have cc := risame_eq Ad nd cd Ae ne ce w6 Rd_6.out Re.out rfl; refine cc.mono ?_; rintro e w7 ⟨rfl, b⟩; clear cc; have Ra_7 := hid (Ra_6.out.keep b); have Ka_7 := hid (Ka_6.out.keep b); have Rb_7 := hid (Rb_6.out.keep b); have Kb_7 := hid (Kb_6.out.keep b); have Rd_7 := hid (Rd_6.out.keep b); have Re_7 := hid (Re.out.keep b); have X_7 := hid (bx_call X_6.out b); obtain ⟨ka0, ka1⟩ := blk_two Ka_7.out; obtain ⟨kb0, kb1⟩ := blk_two Kb_7.out; clear b Ra_6 Ka_6 Rb_6 Kb_6 Rd_6 Re X_6)
        | (go_at_call 35; have cc := riadd_any ga Aa na ca _ gb Ab nb cb _ w5 (Ra_5.out) (by have := la; omega) (Rb_5.out) (by have := lb; omega); refine cc.mono ?_; rintro e w6 ⟨Ae, ne, ce, rfl, r, b⟩; clear cc; have le : ne ≤ 11 := (by rw [← r.1]; exact sz_len (sz_add Za.out Zb.out)); have Re := hid r; clear r; have Ra_6 := hid (Ra_5.out.keep b); have Ka_6 := hid (Ka_5.out.keep b); have Rb_6 := hid (Rb_5.out.keep b); have Kb_6 := hid (Kb_5.out.keep b); have Rd_6 := hid (Rd.out.keep b); have X_6 := hid (bx_call X_5.out b); obtain ⟨ka0, ka1⟩ := blk_two Ka_6.out; obtain ⟨kb0, kb1⟩ := blk_two Kb_6.out; clear b Ra_5 Ka_5 Rb_5 Kb_5 Rd X_5)
        | (go_at_call 34; have cc := iadd_any ga Aa na ca _ gb Ab nb cb _ w4 (Ra_4.out) (by have := la; omega) (Rb_4.out) (by have := lb; omega); refine cc.mono ?_; rintro e w5 ⟨Ad, nd, cd, rfl, r, b⟩; clear cc; have ld : nd ≤ 11 := (by rw [← r.1]; exact sz_len (sz_add Za.out Zb.out)); have Rd := hid r; clear r; have Ra_5 := hid (Ra_4.out.keep b); have Ka_5 := hid (Ka_4.out.keep b); have Rb_5 := hid (Rb_4.out.keep b); have Kb_5 := hid (Kb_4.out.keep b); have X_5 := hid (bx_call X_4.out b); obtain ⟨ka0, ka1⟩ := blk_two Ka_5.out; obtain ⟨kb0, kb1⟩ := blk_two Kb_5.out; clear b Ra_4 Ka_4 Rb_4 Kb_4 X_4)
        | (go_at_call 33; have cc := ricmp_any ga Aa na ca _ gb Ab nb cb _ w3 (Ra_3.out) (by have := la; omega) (Rb_3.out) (by have := lb; omega); refine cc.mono ?_; rintro e w4 ⟨rfl, b⟩; clear cc; have Ra_4 := hid (Ra_3.out.keep b); have Ka_4 := hid (Ka_3.out.keep b); have Rb_4 := hid (Rb_3.out.keep b); have Kb_4 := hid (Kb_3.out.keep b); have X_4 := hid (bx_call X_3.out b); obtain ⟨ka0, ka1⟩ := blk_two Ka_4.out; obtain ⟨kb0, kb1⟩ := blk_two Kb_4.out; clear b Ra_3 Ka_3 Rb_3 Kb_3 X_3)
        | (go_at_call 32; have cc := icmp_any ga Aa na ca _ gb Ab nb cb _ w2.drew (Ra_2.out.keep (bx_drew (bx_refl _))) (Rb_2.out.keep (bx_drew (bx_refl _))); refine cc.mono ?_; rintro e w3 ⟨rfl, b⟩; clear cc; have Ra_3 := hid (Ra_2.out.keep (bx_call (bx_drew (bx_refl _)) b)); have Ka_3 := hid (Ka_2.out.keep (bx_call (bx_drew (bx_refl _)) b)); have Rb_3 := hid (Rb_2.out.keep (bx_call (bx_drew (bx_refl _)) b)); have Kb_3 := hid (Kb_2.out.keep (bx_call (bx_drew (bx_refl _)) b)); have X_3 := hid (bx_call X_2.out (bx_call (bx_drew (bx_refl _)) b)); obtain ⟨ka0, ka1⟩ := blk_two Ka_3.out; obtain ⟨kb0, kb1⟩ := blk_two Kb_3.out; clear b Ra_2 Ka_2 Rb_2 Kb_2 X_2))
    go_wp2_with fail
    go_ret
    exact ⟨rfl, X_13.out⟩
  · have hF := decide_eq_false hf
    clear hf
    go_enter Try.func4, Try.ntmps4
    go_wp2_with fail
    refine (iawake_any _).mono ?_
    rintro e w1 ⟨rfl, b⟩
    have Ra_1 := hid (Ra.out.keep (bx_call X.out b))
    have Ka_1 := hid (Ka.out.keep b)
    have Rb_1 := hid (Rb.out.keep (bx_call X.out b))
    have Kb_1 := hid (Kb.out.keep b)
    have X_1 := hid (bx_call X.out b)
    clear b X Ra Ka Rb Kb
    obtain ⟨ka0, ka1⟩ := blk_two Ka_1.out
    obtain ⟨kb0, kb1⟩ := blk_two Kb_1.out
    have cc := ifew2 (Blk.new w1 [.bool ga, .slice Aa na ca, .bool gb, .slice Ab nb cb] 25) (by omega) (by omega)
    rw [hF] at cc
    have CC := hid cc
    clear cc hF
    go_wp2_with fail
    refine (CC.out).mono ?_
    rintro e w2 ⟨rfl, b0⟩
    have X_2 := hid (bx_call X_1.out (bx_call (bx_alloc (bx_refl w1) (.cells #[.bool ga, .slice Aa na ca, .bool gb, .slice Ab nb cb] 25)) b0))
    clear CC b0 X_1
    go_wp2_with fail
    refine (iawake_any _).mono ?_
    rintro e w3 ⟨rfl, b⟩
    have X_3 := hid (bx_call X_2.out b)
    clear X_2 b
    go_wp2_with fail
    go_ret
    exact ⟨rfl, X_3.out⟩

end Go.Proofs.Ytobnbeeaiidpcaa
