/- Laws of layer 2, walked by contracts. -/
import Derived.Test.YtobnbeeaiidpcaaIaid
namespace Go.Proofs.Ytobnbeeaiidpcaa
open Go.RowKit

theorem bnot_same (g : Bool) : (g == g) = true := beq_self_eq_true g
theorem i64_from {z : Int} {A : Option Addr} {n c : Nat} (w : World) (h : Rd w A n c (dg z.natAbs)) (h1 : -9223372036854775808 ≤ z) (h2 : z ≤ 9223372036854775807) :
    Calls Try.prog 19 #[.agg #[.bool (sg z), .slice A n c]] w (fun e w' => e = .returned (.tuple #[.int .i64 z, .bool true]) ∧ Below w.heap.size w w') := by
  have t := iint64_any (sg z) A n c _ w h
  rw [iv_sg] at t
  unfold RetI64 at t
  rwa [i64V_in h1 h2, i64B_in h1 h2] at t

theorem i64_gen {P : Program} {f : Nat} {args : Array Value} {w : World} {z : Int} (h : Calls P f args w (RetI64 w z)) : Calls P f args w (fun e w' => e = .returned (.tuple #[.int .i64 (i64V z), .bool (i64B z)]) ∧ Below w.heap.size w w') := h

set_option maxRecDepth 100000 in
set_option maxHeartbeats 8000000 in
theorem integerForms_any (ga : Bool) (Aa : Option Addr) (na ca : Nat) (xsa : List Nat) (n : Int) (w : World) (ha : Rd w Aa na ca xsa) (hn : -9223372036854775808 ≤ n ∧ n ≤ 9223372036854775807) :
    Calls Try.prog 3 #[.agg #[.bool ga, .slice Aa na ca], .int .i64 n] w (RetB w true) := by
  have Ra := hid ha
  have ka := ha.2.1
  have ja := ha.2.2.1
  have X := hid (bx_alloc (bx_refl w) (.cells #[.bool ga, .slice Aa na ca] 25))
  have Ka : Hid (Blk (w.alloc (.cells #[.bool ga, .slice Aa na ca] 25)) (w.heap.size) [.bool ga, .slice Aa na ca] 25) := hid (by have t := (Blk.new w [.bool ga, .slice Aa na ca] 25); (try simp only [World.size_alloc] at t); exact t)
  clear ha
  obtain ⟨hn1, hn2⟩ := hn
  by_cases hf : na ≤ 10
  · have qa := hf
    have Za := hid (sz_iv (g := ga) Ra.out qa)
    have la : na ≤ 10 := qa
    go_enter Try.func3, Try.ntmps3
    go_wp2_with fail
    refine (iawake_any _).mono ?_
    rintro e w1 ⟨rfl, b⟩
    have Ra_1 := hid (Ra.out.keep (bx_call X.out b))
    have Ka_1 := hid (Ka.out.keep b)
    have X_1 := hid (bx_call X.out b)
    clear b X Ra Ka
    obtain ⟨ka0, ka1⟩ := blk_two Ka_1.out
    have cc := ifew1 (Blk.new w1 [.bool ga, .slice Aa na ca] 25) (by omega)
    rw [decide_eq_true qa] at cc
    have CC := hid cc
    clear cc
    go_wp2_with fail
    refine (CC.out).mono ?_
    rintro e w2 ⟨rfl, b0⟩
    have b := bx_call (bx_alloc (bx_refl w1) (.cells #[.bool ga, .slice Aa na ca] 25)) b0
    have Ra_2 := hid (Ra_1.out.keep b)
    have Ka_2 := hid (Ka_1.out.keep b)
    have X_2 := hid (bx_call X_1.out b)
    clear CC b b0 X_1 Ra_1 Ka_1 ka0 ka1
    obtain ⟨ka0, ka1⟩ := blk_two Ka_2.out
    have cc := i64_gen (iint64_any ga Aa na ca _ w2 (Ra_2.out))
    have CC := hid cc
    clear cc
    go_wp2_with fail
    refine (CC.out).mono ?_
    rintro e w3 ⟨rfl, b⟩
    have Ra_3 := hid (Ra_2.out.keep b)
    have Ka_3 := hid (Ka_2.out.keep b)
    have X_3 := hid (bx_call X_2.out b)
    clear CC b ka0 ka1 Ra_2 Ka_2 X_2
    obtain ⟨ka0, ka1⟩ := blk_two Ka_3.out
    have cc := i64_gen (riint64_any ga Aa na ca _ w3 (Ra_3.out) (by have := la; omega))
    have CC := hid cc
    clear cc
    go_wp2_with fail
    refine (CC.out).mono ?_
    rintro e w4 ⟨rfl, b⟩
    have Ra_4 := hid (Ra_3.out.keep b)
    have Ka_4 := hid (Ka_3.out.keep b)
    have X_4 := hid (bx_call X_3.out b)
    clear CC b ka0 ka1 Ra_3 Ka_3 X_3
    obtain ⟨ka0, ka1⟩ := blk_two Ka_4.out
    have cc := ifrom_any n w4 hn1 hn2
    have CC := hid cc
    clear cc
    go_wp2_with fail
    refine (CC.out).mono ?_
    rintro e w5 ⟨Ad, nd, cd, rfl, r, b⟩
    have ld : nd ≤ 2 := (by rw [← r.1]; exact dg_len_le (by omega))
    have Rd := hid r
    clear r
    have Ra_5 := hid (Ra_4.out.keep b)
    have Ka_5 := hid (Ka_4.out.keep b)
    have X_5 := hid (bx_call X_4.out b)
    clear CC b ka0 ka1 Ra_4 Ka_4 X_4
    obtain ⟨ka0, ka1⟩ := blk_two Ka_5.out
    have cc := i64_from w5 (Rd.out) hn1 hn2
    have CC := hid cc
    clear cc
    go_wp2_with fail
    refine (CC.out).mono ?_
    rintro e w6 ⟨rfl, b⟩
    have Ra_6 := hid (Ra_5.out.keep b)
    have Ka_6 := hid (Ka_5.out.keep b)
    have Rd_6 := hid (Rd.out.keep b)
    have X_6 := hid (bx_call X_5.out b)
    clear CC b ka0 ka1 Ra_5 Ka_5 Rd X_5
    obtain ⟨ka0, ka1⟩ := blk_two Ka_6.out
    go_wp2_with fail
    go_region_held3 (fun W => W.cell? ⟨w.heap.size, 0, none⟩ = some (.bool ga) ∧ W.cell? ⟨w.heap.size, 1, none⟩ = some (.slice Aa na ca))
      (refine ⟨?_, ?_⟩ <;> repeat' (first | with_reducible assumption | with_reducible refine cell_dr ?_))
      (first
        | (go_at_call 31; have cc := ritext_any ga Aa na ca _ w17 Ra_17.out (by have := la; omega); refine cc.mono ?_; rintro e w18 ⟨rfl, b⟩; clear cc; have Ra_18 := hid (Ra_17.out.keep b); have Ka_18 := hid (Ka_17.out.keep b); have Rd_18 := hid (Rd_17.out.keep b); have Re_18 := hid (Re_17.out.keep b); have Rf_18 := hid (Rf_17.out.keep b); have Rh_18 := hid (Rh_17.out.keep b); have Ri_18 := hid (Ri_17.out.keep b); have X_18 := hid (bx_call X_17.out b); obtain ⟨ka0, ka1⟩ := blk_two Ka_18.out; clear b Ra_17 Ka_17 Rd_17 Re_17 Rf_17 Rh_17 Ri_17 X_17)
        | (go_at_call 30; have cc := itext_any ga Aa na ca _ w16 Ra_16.out (by have := la; omega); refine cc.mono ?_; rintro e w17 ⟨rfl, b⟩; clear cc; have Ra_17 := hid (Ra_16.out.keep b); have Ka_17 := hid (Ka_16.out.keep b); have Rd_17 := hid (Rd_16.out.keep b); have Re_17 := hid (Re_16.out.keep b); have Rf_17 := hid (Rf_16.out.keep b); have Rh_17 := hid (Rh_16.out.keep b); have Ri_17 := hid (Ri_16.out.keep b); have X_17 := hid (bx_call X_16.out b); obtain ⟨ka0, ka1⟩ := blk_two Ka_17.out; clear b Ra_16 Ka_16 Rd_16 Re_16 Rf_16 Rh_16 Ri_16 X_16)
        | (go_at_call 24; have cc := risame_eq Ah nh ch Ai ni ci w15 Rh_15.out Ri.out rfl; refine cc.mono ?_; rintro e w16 ⟨rfl, b⟩; clear cc; have Ra_16 := hid (Ra_15.out.keep b); have Ka_16 := hid (Ka_15.out.keep b); have Rd_16 := hid (Rd_15.out.keep b); have Re_16 := hid (Re_15.out.keep b); have Rf_16 := hid (Rf_15.out.keep b); have Rh_16 := hid (Rh_15.out.keep b); have Ri_16 := hid (Ri.out.keep b); have X_16 := hid (bx_call X_15.out b); obtain ⟨ka0, ka1⟩ := blk_two Ka_16.out; clear b Ra_15 Ka_15 Rd_15 Re_15 Rf_15 Rh_15 Ri X_15)
        | (go_at_call 29; have cc := rineg_any ga Aa na ca _ w14 (Ra_14.out) (by have := la; omega); refine cc.mono ?_; rintro e w15 ⟨Ai, ni, ci, rfl, r, b⟩; clear cc; have li : ni ≤ 10 := (by rw [← r.1]; exact sz_len (sz_neg Za.out)); have Ri := hid r; clear r; have Ra_15 := hid (Ra_14.out.keep b); have Ka_15 := hid (Ka_14.out.keep b); have Rd_15 := hid (Rd_14.out.keep b); have Re_15 := hid (Re_14.out.keep b); have Rf_15 := hid (Rf_14.out.keep b); have Rh_15 := hid (Rh.out.keep b); have X_15 := hid (bx_call X_14.out b); obtain ⟨ka0, ka1⟩ := blk_two Ka_15.out; clear b Ra_14 Ka_14 Rd_14 Re_14 Rf_14 Rh X_14)
        | (go_at_call 28; have cc := ineg_any ga Aa na ca _ w13 (Ra_13.out) (by have := la; omega); refine cc.mono ?_; rintro e w14 ⟨Ah, nh, ch, rfl, r, b⟩; clear cc; have lh : nh ≤ 10 := (by rw [← r.1]; exact sz_len (sz_neg Za.out)); have Rh := hid r; clear r; have Ra_14 := hid (Ra_13.out.keep b); have Ka_14 := hid (Ka_13.out.keep b); have Rd_14 := hid (Rd_13.out.keep b); have Re_14 := hid (Re_13.out.keep b); have Rf_14 := hid (Rf_13.out.keep b); have X_14 := hid (bx_call X_13.out b); obtain ⟨ka0, ka1⟩ := blk_two Ka_14.out; clear b Ra_13 Ka_13 Rd_13 Re_13 Rf_13 X_13)
        | (go_at_call 27; have cc := risign_any ga Aa na ca _ w12 Ra_12.out (by have := la; omega); refine cc.mono ?_; rintro e w13 ⟨rfl, b⟩; clear cc; have Ra_13 := hid (Ra_12.out.keep b); have Ka_13 := hid (Ka_12.out.keep b); have Rd_13 := hid (Rd_12.out.keep b); have Re_13 := hid (Re_12.out.keep b); have Rf_13 := hid (Rf_12.out.keep b); have X_13 := hid (bx_call X_12.out b); obtain ⟨ka0, ka1⟩ := blk_two Ka_13.out; clear b Ra_12 Ka_12 Rd_12 Re_12 Rf_12 X_12)
        | (go_at_call 26; have cc := isign_any ga Aa na ca _ w11 Ra_11.out; refine cc.mono ?_; rintro e w12 ⟨rfl, b⟩; clear cc; have Ra_12 := hid (Ra_11.out.keep b); have Ka_12 := hid (Ka_11.out.keep b); have Rd_12 := hid (Rd_11.out.keep b); have Re_12 := hid (Re_11.out.keep b); have Rf_12 := hid (Rf_11.out.keep b); have X_12 := hid (bx_call X_11.out b); obtain ⟨ka0, ka1⟩ := blk_two Ka_12.out; clear b Ra_11 Ka_11 Rd_11 Re_11 Rf_11 X_11)
        | (go_at_call 24; have cc := risame_eq Ae ne ce Af nf cf w10 Re_10.out Rf.out rfl; refine cc.mono ?_; rintro e w11 ⟨rfl, b⟩; clear cc; have Ra_11 := hid (Ra_10.out.keep b); have Ka_11 := hid (Ka_10.out.keep b); have Rd_11 := hid (Rd_10.out.keep b); have Re_11 := hid (Re_10.out.keep b); have Rf_11 := hid (Rf.out.keep b); have X_11 := hid (bx_call X_10.out b); obtain ⟨ka0, ka1⟩ := blk_two Ka_11.out; clear b Ra_10 Ka_10 Rd_10 Re_10 Rf X_10)
        | (go_at_call 25; have cc := rifrom_any n w9 hn1 hn2; refine cc.mono ?_; rintro e w10 ⟨Af, nf, cf, rfl, r, b⟩; clear cc; have lf : nf ≤ 2 := (by rw [← r.1]; exact dg_len_le (by omega)); have Rf := hid r; clear r; have Ra_10 := hid (Ra_9.out.keep b); have Ka_10 := hid (Ka_9.out.keep b); have Rd_10 := hid (Rd_9.out.keep b); have Re_10 := hid (Re.out.keep b); have X_10 := hid (bx_call X_9.out b); obtain ⟨ka0, ka1⟩ := blk_two Ka_10.out; clear b Ra_9 Ka_9 Rd_9 Re X_9)
        | (go_at_call 21; have cc := ifrom_any n w8 hn1 hn2; refine cc.mono ?_; rintro e w9 ⟨Ae, ne, ce, rfl, r, b⟩; clear cc; have le : ne ≤ 2 := (by rw [← r.1]; exact dg_len_le (by omega)); have Re := hid r; clear r; have Ra_9 := hid (Ra_8.out.keep b); have Ka_9 := hid (Ka_8.out.keep b); have Rd_9 := hid (Rd_8.out.keep b); have X_9 := hid (bx_call X_8.out b); obtain ⟨ka0, ka1⟩ := blk_two Ka_9.out; clear b Ra_8 Ka_8 Rd_8 X_8)
        | (go_at_call 23; have cc := rivalid_any ga Aa na ca _ w7 (Ra_7.out); refine cc.mono ?_; rintro e w8 ⟨rfl, b⟩; clear cc; have Ra_8 := hid (Ra_7.out.keep b); have Ka_8 := hid (Ka_7.out.keep b); have Rd_8 := hid (Rd_7.out.keep b); have X_8 := hid (bx_call X_7.out b); obtain ⟨ka0, ka1⟩ := blk_two Ka_8.out; clear b Ra_7 Ka_7 Rd_7 X_7)
        | (go_at_call 22; have cc := ivalid_any ga Aa na ca _ w6.drew (Ra_6.out.keep (bx_drew (bx_refl _))); refine cc.mono ?_; rintro e w7 ⟨rfl, b⟩; clear cc; have Ra_7 := hid (Ra_6.out.keep (bx_call (bx_drew (bx_refl _)) b)); have Ka_7 := hid (Ka_6.out.keep (bx_call (bx_drew (bx_refl _)) b)); have Rd_7 := hid (Rd_6.out.keep (bx_call (bx_drew (bx_refl _)) b)); have X_7 := hid (bx_call X_6.out (bx_call (bx_drew (bx_refl _)) b)); obtain ⟨ka0, ka1⟩ := blk_two Ka_7.out; clear b Ra_6 Ka_6 Rd_6 X_6))
    go_wp2_with fail
    go_ret
    exact ⟨rfl, X_18.out⟩
  · have hF := decide_eq_false hf
    clear hf
    go_enter Try.func3, Try.ntmps3
    go_wp2_with fail
    refine (iawake_any _).mono ?_
    rintro e w1 ⟨rfl, b⟩
    have Ra_1 := hid (Ra.out.keep (bx_call X.out b))
    have Ka_1 := hid (Ka.out.keep b)
    have X_1 := hid (bx_call X.out b)
    clear b X Ra Ka
    obtain ⟨ka0, ka1⟩ := blk_two Ka_1.out
    have cc := ifew1 (Blk.new w1 [.bool ga, .slice Aa na ca] 25) (by omega)
    rw [hF] at cc
    have CC := hid cc
    clear cc hF
    go_wp2_with fail
    refine (CC.out).mono ?_
    rintro e w2 ⟨rfl, b0⟩
    have X_2 := hid (bx_call X_1.out (bx_call (bx_alloc (bx_refl w1) (.cells #[.bool ga, .slice Aa na ca] 25)) b0))
    clear CC b0 X_1
    go_wp2_with fail
    refine (iawake_any _).mono ?_
    rintro e w3 ⟨rfl, b⟩
    have X_3 := hid (bx_call X_2.out b)
    clear X_2 b
    go_wp2_with fail
    go_ret
    exact ⟨rfl, X_3.out⟩

end Go.Proofs.Ytobnbeeaiidpcaa
