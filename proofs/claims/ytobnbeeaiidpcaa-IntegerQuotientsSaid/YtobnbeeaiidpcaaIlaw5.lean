/- Laws of layer 2, walked by contracts. -/
import Derived.Test.YtobnbeeaiidpcaaIquo
namespace Go.Proofs.Ytobnbeeaiidpcaa
open Go.RowKit

theorem quo_right {x y : Int} (hy : y ≠ 0) : x.tdiv y * y + x.tmod y = x ∧ (x.tmod y).natAbs < y.natAbs ∧ (x.tmod y = 0 ∨ (x.tmod y ≠ 0 ∧ sgnZ (x.tmod y) = sgnZ x)) := by
  have h1 : x.tdiv y * y + x.tmod y = x := by rw [Int.mul_comm]; exact Int.mul_tdiv_add_tmod x y
  have h2 : (x.tmod y).natAbs < y.natAbs := by
    rw [Int.natAbs_tmod]
    exact Nat.mod_lt _ (by omega)
  refine ⟨h1, h2, ?_⟩
  by_cases h : x.tmod y = 0
  · exact .inl h
  · refine .inr ⟨h, ?_⟩
    rcases Int.lt_or_le x 0 with hx | hx
    · have h3 : x.tmod y ≤ 0 := by
        have := Int.tmod_nonneg y (show 0 ≤ -x by omega)
        rw [Int.neg_tmod] at this
        omega
      unfold sgnZ
      rw [if_pos hx, if_pos (by omega)]
    · have h3 := Int.tmod_nonneg y hx
      have hx2 : x ≠ 0 := by rintro rfl; exact h (Int.zero_tmod y)
      unfold sgnZ
      rw [if_neg (by omega), if_pos (by omega), if_neg (by omega), if_pos (by omega)]
theorem floor_right {x y : Int} (hy : y ≠ 0) : fq x y * y + fr x y = x ∧ (fr x y).natAbs < y.natAbs ∧ (fr x y = 0 ∨ (fr x y ≠ 0 ∧ sgnZ (fr x y) = sgnZ y)) := by
  obtain ⟨h1, h2, h3⟩ := quo_right (x := x) hy
  generalize hq : x.tdiv y = q at *
  generalize hr : x.tmod y = r at *
  cases hL : lowB x y
  · have e1 : fq x y = q := by unfold fq; rw [hL, ← hq]; rfl
    have e2 : fr x y = r := by unfold fr; rw [hL, ← hr]; rfl
    rw [e1, e2]
    refine ⟨h1, h2, ?_⟩
    by_cases h : r = 0
    · exact .inl h
    · refine .inr ⟨h, ?_⟩
      unfold lowB at hL
      have hL := of_decide_eq_false hL
      rw [hr] at hL
      unfold sgnZ at hL ⊢
      rcases Int.lt_or_le r 0 with a | a
      · rw [if_pos a] at hL ⊢
        rcases Int.lt_or_le y 0 with b | b
        · rw [if_pos b]
        · rw [if_neg (by omega), if_pos (by omega)] at hL
          omega
      · rw [if_neg (by omega), if_pos (by omega)] at hL ⊢
        rcases Int.lt_or_le y 0 with b | b
        · rw [if_pos b] at hL
          omega
        · rw [if_neg (by omega), if_pos (by omega)]
  · have e1 : fq x y = q - 1 := by unfold fq; rw [hL, ← hq]; rfl
    have e2 : fr x y = r + y := by unfold fr; rw [hL, ← hr]; rfl
    rw [e1, e2]
    unfold lowB at hL
    have hL := of_decide_eq_true hL
    rw [hr] at hL
    have h4 : (r < 0 ∧ 0 < y) ∨ (0 < r ∧ y < 0) := by
      unfold sgnZ at hL
      rcases Int.lt_or_le r 0 with a | a
      · rw [if_pos a] at hL
        rcases Int.lt_or_le y 0 with b | b
        · rw [if_pos b] at hL
          omega
        · exact .inl ⟨a, by omega⟩
      · by_cases h0 : r = 0
        · rw [if_neg (by omega), if_neg (by omega)] at hL
          omega
        · rw [if_neg (by omega), if_pos (by omega)] at hL
          rcases Int.lt_or_le y 0 with b | b
          · exact .inr ⟨by omega, b⟩
          · rw [if_neg (by omega), if_pos (by omega)] at hL
            omega
    refine ⟨by rw [Int.sub_mul, Int.one_mul]; omega, by omega, .inr ⟨by omega, ?_⟩⟩
    unfold sgnZ
    rcases h4 with ⟨a, b⟩ | ⟨a, b⟩
    · rw [if_neg (by omega), if_pos (by omega), if_neg (by omega), if_pos b]
    · rw [if_pos (by omega), if_pos b]
theorem natAbs_fq {x y : Int} {k : Nat} (hx : sz k x) : sz (k + 1) (fq x y) := by
  have h : (x.tdiv y).natAbs ≤ x.natAbs := by rw [Int.natAbs_tdiv]; exact Nat.div_le_self _ _
  unfold sz at *
  rw [Nat.pow_succ]
  unfold fq
  generalize 4294967296 ^ k = P at *
  generalize x.tdiv y = q at *
  split <;> omega
theorem natAbs_fr {x y : Int} (hy : y ≠ 0) {k : Nat} (hk : sz k y) : sz k (fr x y) := Nat.lt_trans (floor_right hy).2.1 hk
theorem natAbs_tq {x y : Int} {k : Nat} (hx : sz k x) : sz k (x.tdiv y) := by
  unfold sz at *
  rw [Int.natAbs_tdiv]
  exact Nat.lt_of_le_of_lt (Nat.div_le_self _ _) hx
theorem natAbs_tr {x y : Int} (hy : y ≠ 0) {k : Nat} (hk : sz k y) : sz k (x.tmod y) := Nat.lt_trans (quo_right hy).2.1 hk
/-- right of the two laws' quotients and remainders. -/
theorem iright_any {z1 z2 v : Int} {Aq : Option Addr} {nq cq : Nat} {Ar : Option Addr} {nr cr : Nat} {ga : Bool} {Aa : Option Addr} {na ca : Nat} {xsa : List Nat} {gb : Bool} {Ab : Option Addr} {nb cb : Nat} {xsb : List Nat} {a0 b0 : Nat} {w : World}
    (hq : Rd w Aq nq cq (dg z1.natAbs)) (hr : Rd w Ar nr cr (dg z2.natAbs)) (ha : Rd w Aa na ca xsa) (hb : Rd w Ab nb cb xsb) (ka : Blk w a0 [.bool ga, .slice Aa na ca] 25) (kb : Blk w b0 [.bool gb, .slice Ab nb cb] 25)
    (lq : nq ≤ 100) (lr : nr ≤ 100) (la : na ≤ 100) (lb : nb ≤ 100) (e : RightB (iv ga xsa) (iv gb xsb) z1 z2 v) :
    Calls Try.prog 42 #[.agg #[.bool (sg z1), .slice Aq nq cq], .agg #[.bool (sg z2), .slice Ar nr cr], .int .i64 v, .pointer (some ⟨b0, 0, none⟩), .pointer (some ⟨a0, 0, none⟩)] w (RetB w true) := by
  obtain ⟨e1, e2, e3 | ⟨e3, e4⟩⟩ := e
  · exact iright_zero z1 Aq nq cq z2 Ar nr cr v ga Aa na ca xsa gb Ab nb cb xsb a0 b0 w hq hr ha hb ka kb lq lr la lb e1 e2 e3
  · exact iright_sign z1 Aq nq cq z2 Ar nr cr v ga Aa na ca xsa gb Ab nb cb xsb a0 b0 w hq hr ha hb ka kb lq lr la lb e1 e2 e3 e4

theorem same_zero (A : Option Addr) (n c : Nat) (w : World) (h : Rd w A n c (dg (0 : Int).natAbs)) :
    Calls Try.prog 24 #[.agg #[.bool (sg 0), .slice A n c], .agg #[.bool false, .slice none 0 0]] w (RetB w true) := by
  have t := risame_any (sg 0) A n c _ false none 0 0 [] w h (Rd.nil w none)
  rwa [show (decide (sg 0 = false) && decide (dg (0 : Int).natAbs = [])) = true from by rw [show (0 : Int).natAbs = 0 from rfl, dg_zero]; rfl] at t

set_option maxRecDepth 100000 in
set_option maxHeartbeats 8000000 in
theorem integerQuotients_any (ga : Bool) (Aa : Option Addr) (na ca : Nat) (xsa : List Nat) (gb : Bool) (Ab : Option Addr) (nb cb : Nat) (xsb : List Nat) (w : World) (ha : Rd w Aa na ca xsa) (hb : Rd w Ab nb cb xsb) :
    Calls Try.prog 5 #[.agg #[.bool ga, .slice Aa na ca], .agg #[.bool gb, .slice Ab nb cb]] w (RetB w true) := by
  have Ra := hid ha
  have ka := ha.2.1
  have ja := ha.2.2.1
  have Rb := hid hb
  have kb := hb.2.1
  have jb := hb.2.2.1
  have X := hid (bx_alloc (bx_alloc (bx_refl w) (.cells #[.bool ga, .slice Aa na ca] 25)) (.cells #[.bool gb, .slice Ab nb cb] 25))
  have Ka : Hid (Blk ((w.alloc (.cells #[.bool ga, .slice Aa na ca] 25)).alloc (.cells #[.bool gb, .slice Ab nb cb] 25)) (w.heap.size) [.bool ga, .slice Aa na ca] 25) := hid (by have t := ((Blk.new w [.bool ga, .slice Aa na ca] 25).alloc (.cells #[.bool gb, .slice Ab nb cb] 25)); (try simp only [World.size_alloc] at t); exact t)
  have Kb : Hid (Blk ((w.alloc (.cells #[.bool ga, .slice Aa na ca] 25)).alloc (.cells #[.bool gb, .slice Ab nb cb] 25)) (w.heap.size + 1) [.bool gb, .slice Ab nb cb] 25) := hid (by have t := (Blk.new (w.alloc (.cells #[.bool ga, .slice Aa na ca] 25)) [.bool gb, .slice Ab nb cb] 25); (try simp only [World.size_alloc] at t); exact t)
  clear ha hb
  by_cases hf : na ≤ 10 ∧ nb ≤ 10
  · obtain ⟨qa, qb⟩ := hf
    have Za := hid (sz_iv (g := ga) Ra.out qa)
    have la : na ≤ 10 := qa
    have Zb := hid (sz_iv (g := gb) Rb.out qb)
    have lb : nb ≤ 10 := qb
    go_enter Try.func5, Try.ntmps5
    go_wp2_with fail
    refine (iawake_any _).mono ?_
    rintro e w1 ⟨rfl, b⟩
    have Ra_1 := hid (Ra.out.keep (bx_call X.out b))
    have Ka_1 := hid (Ka.out.keep b)
    have Rb_1 := hid (Rb.out.keep (bx_call X.out b))
    have Kb_1 := hid (Kb.out.keep b)
    have X_1 := hid (bx_call X.out b)
    clear b X Ra Ka Rb Kb
    obtain ⟨ka0, ka1⟩ := blk_two Ka_1.out
    obtain ⟨kb0, kb1⟩ := blk_two Kb_1.out
    have cc := ifew2 (Blk.new w1 [.bool ga, .slice Aa na ca, .bool gb, .slice Ab nb cb] 25) (by omega) (by omega)
    rw [decide_eq_true ⟨qa, qb⟩] at cc
    have CC := hid cc
    clear cc
    go_wp2_with fail
    refine (CC.out).mono ?_
    rintro e w2 ⟨rfl, b0⟩
    have b := bx_call (bx_alloc (bx_refl w1) (.cells #[.bool ga, .slice Aa na ca, .bool gb, .slice Ab nb cb] 25)) b0
    have Ra_2 := hid (Ra_1.out.keep b)
    have Ka_2 := hid (Ka_1.out.keep b)
    have Rb_2 := hid (Rb_1.out.keep b)
    have Kb_2 := hid (Kb_1.out.keep b)
    have X_2 := hid (bx_call X_1.out b)
    clear CC b b0 X_1 Ra_1 Ka_1 ka0 ka1 Rb_1 Kb_1 kb0 kb1
    by_cases hy : iv gb xsb = 0
    · have HY := hid hy
      clear hy
      obtain ⟨ka0, ka1⟩ := blk_two Ka_2.out
      obtain ⟨kb0, kb1⟩ := blk_two Kb_2.out
      have cc := iquo_any ga Aa na ca _ gb Ab nb cb _ w2 Ra_2.out (by omega) Rb_2.out (by omega)
      rw [show qz (iv ga xsa) (iv gb xsb) = 0 from if_pos HY.out, show rz (iv ga xsa) (iv gb xsb) = 0 from if_pos HY.out, show ez (iv gb xsb) = 2 from if_pos HY.out] at cc
      have CC := hid cc
      clear cc
      go_wp2_with fail
      refine (CC.out).mono ?_
      rintro e w3 ⟨Aq, nq, cq, Ar, nr, cr, rfl, r, r2, b⟩
      have Rq := hid r
      have Rr := hid r2
      have pq := Rq.out.2.1
      have tq := Rq.out.2.2.1
      have pr := Rr.out.2.1
      have tr := Rr.out.2.2.1
      clear r r2
      have Ra_3 := hid (Ra_2.out.keep b)
      have Ka_3 := hid (Ka_2.out.keep b)
      have Rb_3 := hid (Rb_2.out.keep b)
      have Kb_3 := hid (Kb_2.out.keep b)
      have X_3 := hid (bx_call X_2.out b)
      clear CC b ka0 ka1 kb0 kb1 Ra_2 Ka_2 Rb_2 Kb_2 X_2
      obtain ⟨ka0, ka1⟩ := blk_two ((Ka_3.out.alloc (.cells #[.bool (sg 0), .slice Aq nq cq] 25)).alloc (.cells #[.bool (sg 0), .slice Ar nr cr] 25))
      obtain ⟨kb0, kb1⟩ := blk_two ((Kb_3.out.alloc (.cells #[.bool (sg 0), .slice Aq nq cq] 25)).alloc (.cells #[.bool (sg 0), .slice Ar nr cr] 25))
      have gW : w.heap.size + 1 < w3.heap.size := Kb_3.out.lt
      have b := bx_alloc (bx_alloc (bx_refl w3) (.cells #[.bool (sg 0), .slice Aq nq cq] 25)) (.cells #[.bool (sg 0), .slice Ar nr cr] 25)
      go_wp2_with fail
      clear ka0 ka1 kb0 kb1
      have n1 : Hid (Blk ((w3.alloc (.cells #[.bool (sg 0), .slice Aq nq cq] 25)).alloc (.cells #[.bool (sg 0), .slice Ar nr cr] 25)) w3.heap.size [.bool (sg 0), .slice Aq nq cq] 25) := hid ((Blk.new w3 [.bool (sg 0), .slice Aq nq cq] 25).alloc _)
      have n2 : Hid (Blk ((w3.alloc (.cells #[.bool (sg 0), .slice Aq nq cq] 25)).alloc (.cells #[.bool (sg 0), .slice Ar nr cr] 25)) (w3.heap.size + 1) [.bool (sg 0), .slice Ar nr cr] 25) := hid (blk_new1 w3 _ [.bool (sg 0), .slice Ar nr cr] 25)
      have Ra_4 := hid (Ra_3.out.keep b)
      have Ka_4 := hid (Ka_3.out.keep b)
      have Rb_4 := hid (Rb_3.out.keep b)
      have Kb_4 := hid (Kb_3.out.keep b)
      have Rq_4 := hid (Rq.out.keep b)
      have Rr_4 := hid (Rr.out.keep b)
      have X_4 := hid (bx_call X_3.out b)
      clear b Ra_3 Ka_3 Rb_3 Kb_3 Rq Rr X_3
      obtain ⟨V1, hV⟩ : ∃ V, V = ((w3.alloc (.cells #[.bool (sg 0), .slice Aq nq cq] 25)).alloc (.cells #[.bool (sg 0), .slice Ar nr cr] 25)) := ⟨_, rfl⟩
      obtain ⟨iq, hiq⟩ : ∃ i, i = w3.heap.size := ⟨_, rfl⟩
      have giq : w.heap.size + 1 < iq := by rw [hiq]; exact gW
      clear gW
      rw [← hV] at Ra_4 Ka_4 Rb_4 Kb_4 Rq_4 Rr_4 n1 n2 X_4 ⊢
      rw [← hiq] at n1 n2 ⊢
      clear hV hiq
      have Kq := hid n1.out
      have Kr := hid n2.out
      clear n1 n2
      have cc := ifloor_any ga Aa na ca _ gb Ab nb cb _ V1 Ra_4.out (by omega) Rb_4.out (by omega)
      rw [show fqz (iv ga xsa) (iv gb xsb) = 0 from if_pos HY.out, show frz (iv ga xsa) (iv gb xsb) = 0 from if_pos HY.out, show ez (iv gb xsb) = 2 from if_pos HY.out] at cc
      refine cc.mono ?_
      rintro e w5 ⟨Af, nf, cf, As, ns, cs, rfl, r, r2, b⟩
      have Rf := hid r
      have Rs := hid r2
      have pf := Rf.out.2.1
      have tf := Rf.out.2.2.1
      have ps := Rs.out.2.1
      have ts := Rs.out.2.2.1
      clear r r2 cc
      have Ra_5 := hid (Ra_4.out.keep b)
      have Ka_5 := hid (Ka_4.out.keep b)
      have Rb_5 := hid (Rb_4.out.keep b)
      have Kb_5 := hid (Kb_4.out.keep b)
      have Rq_5 := hid (Rq_4.out.keep b)
      have Rr_5 := hid (Rr_4.out.keep b)
      have Kq_5 := hid (Kq.out.keep b)
      have Kr_5 := hid (Kr.out.keep b)
      have X_5 := hid (bx_call X_4.out b)
      clear b Ra_4 Ka_4 Rb_4 Kb_4 Rq_4 Rr_4 Kq Kr X_4
      have G3 : iq + 1 < w5.heap.size := Kr_5.out.lt
      obtain ⟨ka0, ka1⟩ := blk_two ((Ka_5.out.alloc (.cells #[.bool (sg 0), .slice Af nf cf] 25)).alloc (.cells #[.bool (sg 0), .slice As ns cs] 25))
      obtain ⟨kb0, kb1⟩ := blk_two ((Kb_5.out.alloc (.cells #[.bool (sg 0), .slice Af nf cf] 25)).alloc (.cells #[.bool (sg 0), .slice As ns cs] 25))
      have b := bx_alloc (bx_alloc (bx_refl w5) (.cells #[.bool (sg 0), .slice Af nf cf] 25)) (.cells #[.bool (sg 0), .slice As ns cs] 25)
      go_wp2_with fail
      clear ka0 ka1 kb0 kb1
      have n1 : Hid (Blk ((w5.alloc (.cells #[.bool (sg 0), .slice Af nf cf] 25)).alloc (.cells #[.bool (sg 0), .slice As ns cs] 25)) w5.heap.size [.bool (sg 0), .slice Af nf cf] 25) := hid ((Blk.new w5 [.bool (sg 0), .slice Af nf cf] 25).alloc _)
      have n2 : Hid (Blk ((w5.alloc (.cells #[.bool (sg 0), .slice Af nf cf] 25)).alloc (.cells #[.bool (sg 0), .slice As ns cs] 25)) (w5.heap.size + 1) [.bool (sg 0), .slice As ns cs] 25) := hid (blk_new1 w5 _ [.bool (sg 0), .slice As ns cs] 25)
      have Ra_6 := hid (Ra_5.out.keep b)
      have Ka_6 := hid (Ka_5.out.keep b)
      have Rb_6 := hid (Rb_5.out.keep b)
      have Kb_6 := hid (Kb_5.out.keep b)
      have Rq_6 := hid (Rq_5.out.keep b)
      have Rr_6 := hid (Rr_5.out.keep b)
      have Kq_6 := hid (Kq_5.out.keep b)
      have Kr_6 := hid (Kr_5.out.keep b)
      have Rf_6 := hid (Rf.out.keep b)
      have Rs_6 := hid (Rs.out.keep b)
      have X_6 := hid (bx_call X_5.out b)
      clear b Ra_5 Ka_5 Rb_5 Kb_5 Rq_5 Rr_5 Kq_5 Kr_5 Rf Rs X_5
      obtain ⟨V2, hV⟩ : ∃ V, V = ((w5.alloc (.cells #[.bool (sg 0), .slice Af nf cf] 25)).alloc (.cells #[.bool (sg 0), .slice As ns cs] 25)) := ⟨_, rfl⟩
      obtain ⟨ip, hip⟩ : ∃ i, i = w5.heap.size := ⟨_, rfl⟩
      rw [← hip] at G3
      rw [← hV] at Ra_6 Ka_6 Rb_6 Kb_6 Rq_6 Rr_6 Kq_6 Kr_6 Rf_6 Rs_6 n1 n2 X_6 ⊢
      rw [← hip] at n1 n2 ⊢
      clear hV hip
      have Kf := hid n1.out
      have Ks := hid n2.out
      clear n1 n2
      have cc := risign_any gb Ab nb cb _ V2 Rb_6.out (by omega)
      rw [HY.out, show sgnZ 0 = 0 from rfl] at cc
      refine cc.mono ?_
      rintro e w7 ⟨rfl, b⟩
      clear cc
      have Ra_7 := hid (Ra_6.out.keep b)
      have Ka_7 := hid (Ka_6.out.keep b)
      have Rb_7 := hid (Rb_6.out.keep b)
      have Kb_7 := hid (Kb_6.out.keep b)
      have Rq_7 := hid (Rq_6.out.keep b)
      have Rr_7 := hid (Rr_6.out.keep b)
      have Kq_7 := hid (Kq_6.out.keep b)
      have Kr_7 := hid (Kr_6.out.keep b)
      have Rf_7 := hid (Rf_6.out.keep b)
      have Rs_7 := hid (Rs_6.out.keep b)
      have Kf_7 := hid (Kf.out.keep b)
      have Ks_7 := hid (Ks.out.keep b)
      have X_7 := hid (bx_call X_6.out b)
      clear b Ra_6 Ka_6 Rb_6 Kb_6 Rq_6 Rr_6 Kq_6 Kr_6 Rf_6 Rs_6 Kf Ks X_6
      obtain ⟨kq0, kq1⟩ := blk_two Kq_7.out
      obtain ⟨kr0, kr1⟩ := blk_two Kr_7.out
      obtain ⟨kf0, kf1⟩ := blk_two Kf_7.out
      obtain ⟨ks0, ks1⟩ := blk_two Ks_7.out
      have cc := same_zero Aq nq cq w7 Rq_7.out
      have CC := hid cc
      clear cc
      go_wp2_with fail
      refine (CC.out).mono ?_
      rintro e w8 ⟨rfl, b⟩
      have Ra_8 := hid (Ra_7.out.keep b)
      have Ka_8 := hid (Ka_7.out.keep b)
      have Rb_8 := hid (Rb_7.out.keep b)
      have Kb_8 := hid (Kb_7.out.keep b)
      have Rq_8 := hid (Rq_7.out.keep b)
      have Rr_8 := hid (Rr_7.out.keep b)
      have Kq_8 := hid (Kq_7.out.keep b)
      have Kr_8 := hid (Kr_7.out.keep b)
      have Rf_8 := hid (Rf_7.out.keep b)
      have Rs_8 := hid (Rs_7.out.keep b)
      have Kf_8 := hid (Kf_7.out.keep b)
      have Ks_8 := hid (Ks_7.out.keep b)
      have X_8 := hid (bx_call X_7.out b)
      clear CC b kq0 kq1 kr0 kr1 kf0 kf1 ks0 ks1 Ra_7 Ka_7 Rb_7 Kb_7 Rq_7 Rr_7 Kq_7 Kr_7 Rf_7 Rs_7 Kf_7 Ks_7 X_7
      obtain ⟨kq0, kq1⟩ := blk_two Kq_8.out
      obtain ⟨kr0, kr1⟩ := blk_two Kr_8.out
      obtain ⟨kf0, kf1⟩ := blk_two Kf_8.out
      obtain ⟨ks0, ks1⟩ := blk_two Ks_8.out
      have cc := same_zero Ar nr cr w8 Rr_8.out
      have CC := hid cc
      clear cc
      go_wp2_with fail
      refine (CC.out).mono ?_
      rintro e w9 ⟨rfl, b⟩
      have Ra_9 := hid (Ra_8.out.keep b)
      have Ka_9 := hid (Ka_8.out.keep b)
      have Rb_9 := hid (Rb_8.out.keep b)
      have Kb_9 := hid (Kb_8.out.keep b)
      have Rq_9 := hid (Rq_8.out.keep b)
      have Rr_9 := hid (Rr_8.out.keep b)
      have Kq_9 := hid (Kq_8.out.keep b)
      have Kr_9 := hid (Kr_8.out.keep b)
      have Rf_9 := hid (Rf_8.out.keep b)
      have Rs_9 := hid (Rs_8.out.keep b)
      have Kf_9 := hid (Kf_8.out.keep b)
      have Ks_9 := hid (Ks_8.out.keep b)
      have X_9 := hid (bx_call X_8.out b)
      clear CC b kq0 kq1 kr0 kr1 kf0 kf1 ks0 ks1 Ra_8 Ka_8 Rb_8 Kb_8 Rq_8 Rr_8 Kq_8 Kr_8 Rf_8 Rs_8 Kf_8 Ks_8 X_8
      obtain ⟨kq0, kq1⟩ := blk_two Kq_9.out
      obtain ⟨kr0, kr1⟩ := blk_two Kr_9.out
      obtain ⟨kf0, kf1⟩ := blk_two Kf_9.out
      obtain ⟨ks0, ks1⟩ := blk_two Ks_9.out
      have cc := same_zero Af nf cf w9 Rf_9.out
      have CC := hid cc
      clear cc
      go_wp2_with fail
      refine (CC.out).mono ?_
      rintro e w10 ⟨rfl, b⟩
      have Ra_10 := hid (Ra_9.out.keep b)
      have Ka_10 := hid (Ka_9.out.keep b)
      have Rb_10 := hid (Rb_9.out.keep b)
      have Kb_10 := hid (Kb_9.out.keep b)
      have Rq_10 := hid (Rq_9.out.keep b)
      have Rr_10 := hid (Rr_9.out.keep b)
      have Kq_10 := hid (Kq_9.out.keep b)
      have Kr_10 := hid (Kr_9.out.keep b)
      have Rf_10 := hid (Rf_9.out.keep b)
      have Rs_10 := hid (Rs_9.out.keep b)
      have Kf_10 := hid (Kf_9.out.keep b)
      have Ks_10 := hid (Ks_9.out.keep b)
      have X_10 := hid (bx_call X_9.out b)
      clear CC b kq0 kq1 kr0 kr1 kf0 kf1 ks0 ks1 Ra_9 Ka_9 Rb_9 Kb_9 Rq_9 Rr_9 Kq_9 Kr_9 Rf_9 Rs_9 Kf_9 Ks_9 X_9
      obtain ⟨kq0, kq1⟩ := blk_two Kq_10.out
      obtain ⟨kr0, kr1⟩ := blk_two Kr_10.out
      obtain ⟨kf0, kf1⟩ := blk_two Kf_10.out
      obtain ⟨ks0, ks1⟩ := blk_two Ks_10.out
      have cc := same_zero As ns cs w10 Rs_10.out
      have CC := hid cc
      clear cc
      go_wp2_with fail
      refine (CC.out).mono ?_
      rintro e w11 ⟨rfl, b⟩
      have Ra_11 := hid (Ra_10.out.keep b)
      have Ka_11 := hid (Ka_10.out.keep b)
      have Rb_11 := hid (Rb_10.out.keep b)
      have Kb_11 := hid (Kb_10.out.keep b)
      have Rq_11 := hid (Rq_10.out.keep b)
      have Rr_11 := hid (Rr_10.out.keep b)
      have Kq_11 := hid (Kq_10.out.keep b)
      have Kr_11 := hid (Kr_10.out.keep b)
      have Rf_11 := hid (Rf_10.out.keep b)
      have Rs_11 := hid (Rs_10.out.keep b)
      have Kf_11 := hid (Kf_10.out.keep b)
      have Ks_11 := hid (Ks_10.out.keep b)
      have X_11 := hid (bx_call X_10.out b)
      clear CC b kq0 kq1 kr0 kr1 kf0 kf1 ks0 ks1 Ra_10 Ka_10 Rb_10 Kb_10 Rq_10 Rr_10 Kq_10 Kr_10 Rf_10 Rs_10 Kf_10 Ks_10 X_10
      go_wp2_with fail
      go_ret
      exact ⟨rfl, X_11.out⟩
    · have HY := hid hy
      clear hy
      obtain ⟨ka0, ka1⟩ := blk_two Ka_2.out
      obtain ⟨kb0, kb1⟩ := blk_two Kb_2.out
      have cc := iquo_any ga Aa na ca _ gb Ab nb cb _ w2 Ra_2.out (by omega) Rb_2.out (by omega)
      rw [show qz (iv ga xsa) (iv gb xsb) = (iv ga xsa).tdiv (iv gb xsb) from if_neg HY.out, show rz (iv ga xsa) (iv gb xsb) = (iv ga xsa).tmod (iv gb xsb) from if_neg HY.out, show ez (iv gb xsb) = 0 from if_neg HY.out] at cc
      have CC := hid cc
      clear cc
      go_wp2_with fail
      refine (CC.out).mono ?_
      rintro e w3 ⟨Aq, nq, cq, Ar, nr, cr, rfl, r, r2, b⟩
      have Rq := hid r
      have Rr := hid r2
      have pq := Rq.out.2.1
      have tq := Rq.out.2.2.1
      have pr := Rr.out.2.1
      have tr := Rr.out.2.2.1
      clear r r2
      have Ra_3 := hid (Ra_2.out.keep b)
      have Ka_3 := hid (Ka_2.out.keep b)
      have Rb_3 := hid (Rb_2.out.keep b)
      have Kb_3 := hid (Kb_2.out.keep b)
      have X_3 := hid (bx_call X_2.out b)
      clear CC b ka0 ka1 kb0 kb1 Ra_2 Ka_2 Rb_2 Kb_2 X_2
      obtain ⟨ka0, ka1⟩ := blk_two ((Ka_3.out.alloc (.cells #[.bool (sg ((iv ga xsa).tdiv (iv gb xsb))), .slice Aq nq cq] 25)).alloc (.cells #[.bool (sg ((iv ga xsa).tmod (iv gb xsb))), .slice Ar nr cr] 25))
      obtain ⟨kb0, kb1⟩ := blk_two ((Kb_3.out.alloc (.cells #[.bool (sg ((iv ga xsa).tdiv (iv gb xsb))), .slice Aq nq cq] 25)).alloc (.cells #[.bool (sg ((iv ga xsa).tmod (iv gb xsb))), .slice Ar nr cr] 25))
      have gW : w.heap.size + 1 < w3.heap.size := Kb_3.out.lt
      have b := bx_alloc (bx_alloc (bx_refl w3) (.cells #[.bool (sg ((iv ga xsa).tdiv (iv gb xsb))), .slice Aq nq cq] 25)) (.cells #[.bool (sg ((iv ga xsa).tmod (iv gb xsb))), .slice Ar nr cr] 25)
      go_wp2_with fail
      clear ka0 ka1 kb0 kb1
      have n1 : Hid (Blk ((w3.alloc (.cells #[.bool (sg ((iv ga xsa).tdiv (iv gb xsb))), .slice Aq nq cq] 25)).alloc (.cells #[.bool (sg ((iv ga xsa).tmod (iv gb xsb))), .slice Ar nr cr] 25)) w3.heap.size [.bool (sg ((iv ga xsa).tdiv (iv gb xsb))), .slice Aq nq cq] 25) := hid ((Blk.new w3 [.bool (sg ((iv ga xsa).tdiv (iv gb xsb))), .slice Aq nq cq] 25).alloc _)
      have n2 : Hid (Blk ((w3.alloc (.cells #[.bool (sg ((iv ga xsa).tdiv (iv gb xsb))), .slice Aq nq cq] 25)).alloc (.cells #[.bool (sg ((iv ga xsa).tmod (iv gb xsb))), .slice Ar nr cr] 25)) (w3.heap.size + 1) [.bool (sg ((iv ga xsa).tmod (iv gb xsb))), .slice Ar nr cr] 25) := hid (blk_new1 w3 _ [.bool (sg ((iv ga xsa).tmod (iv gb xsb))), .slice Ar nr cr] 25)
      have Ra_4 := hid (Ra_3.out.keep b)
      have Ka_4 := hid (Ka_3.out.keep b)
      have Rb_4 := hid (Rb_3.out.keep b)
      have Kb_4 := hid (Kb_3.out.keep b)
      have Rq_4 := hid (Rq.out.keep b)
      have Rr_4 := hid (Rr.out.keep b)
      have X_4 := hid (bx_call X_3.out b)
      clear b Ra_3 Ka_3 Rb_3 Kb_3 Rq Rr X_3
      obtain ⟨V1, hV⟩ : ∃ V, V = ((w3.alloc (.cells #[.bool (sg ((iv ga xsa).tdiv (iv gb xsb))), .slice Aq nq cq] 25)).alloc (.cells #[.bool (sg ((iv ga xsa).tmod (iv gb xsb))), .slice Ar nr cr] 25)) := ⟨_, rfl⟩
      obtain ⟨iq, hiq⟩ : ∃ i, i = w3.heap.size := ⟨_, rfl⟩
      have giq : w.heap.size + 1 < iq := by rw [hiq]; exact gW
      clear gW
      rw [← hV] at Ra_4 Ka_4 Rb_4 Kb_4 Rq_4 Rr_4 n1 n2 X_4 ⊢
      rw [← hiq] at n1 n2 ⊢
      clear hV hiq
      have Kq := hid n1.out
      have Kr := hid n2.out
      clear n1 n2
      have cc := ifloor_any ga Aa na ca _ gb Ab nb cb _ V1 Ra_4.out (by omega) Rb_4.out (by omega)
      rw [show fqz (iv ga xsa) (iv gb xsb) = fq (iv ga xsa) (iv gb xsb) from if_neg HY.out, show frz (iv ga xsa) (iv gb xsb) = fr (iv ga xsa) (iv gb xsb) from if_neg HY.out, show ez (iv gb xsb) = 0 from if_neg HY.out] at cc
      refine cc.mono ?_
      rintro e w5 ⟨Af, nf, cf, As, ns, cs, rfl, r, r2, b⟩
      have Rf := hid r
      have Rs := hid r2
      have pf := Rf.out.2.1
      have tf := Rf.out.2.2.1
      have ps := Rs.out.2.1
      have ts := Rs.out.2.2.1
      clear r r2 cc
      have Ra_5 := hid (Ra_4.out.keep b)
      have Ka_5 := hid (Ka_4.out.keep b)
      have Rb_5 := hid (Rb_4.out.keep b)
      have Kb_5 := hid (Kb_4.out.keep b)
      have Rq_5 := hid (Rq_4.out.keep b)
      have Rr_5 := hid (Rr_4.out.keep b)
      have Kq_5 := hid (Kq.out.keep b)
      have Kr_5 := hid (Kr.out.keep b)
      have X_5 := hid (bx_call X_4.out b)
      clear b Ra_4 Ka_4 Rb_4 Kb_4 Rq_4 Rr_4 Kq Kr X_4
      have G3 : iq + 1 < w5.heap.size := Kr_5.out.lt
      obtain ⟨ka0, ka1⟩ := blk_two ((Ka_5.out.alloc (.cells #[.bool (sg (fq (iv ga xsa) (iv gb xsb))), .slice Af nf cf] 25)).alloc (.cells #[.bool (sg (fr (iv ga xsa) (iv gb xsb))), .slice As ns cs] 25))
      obtain ⟨kb0, kb1⟩ := blk_two ((Kb_5.out.alloc (.cells #[.bool (sg (fq (iv ga xsa) (iv gb xsb))), .slice Af nf cf] 25)).alloc (.cells #[.bool (sg (fr (iv ga xsa) (iv gb xsb))), .slice As ns cs] 25))
      have b := bx_alloc (bx_alloc (bx_refl w5) (.cells #[.bool (sg (fq (iv ga xsa) (iv gb xsb))), .slice Af nf cf] 25)) (.cells #[.bool (sg (fr (iv ga xsa) (iv gb xsb))), .slice As ns cs] 25)
      go_wp2_with fail
      clear ka0 ka1 kb0 kb1
      have n1 : Hid (Blk ((w5.alloc (.cells #[.bool (sg (fq (iv ga xsa) (iv gb xsb))), .slice Af nf cf] 25)).alloc (.cells #[.bool (sg (fr (iv ga xsa) (iv gb xsb))), .slice As ns cs] 25)) w5.heap.size [.bool (sg (fq (iv ga xsa) (iv gb xsb))), .slice Af nf cf] 25) := hid ((Blk.new w5 [.bool (sg (fq (iv ga xsa) (iv gb xsb))), .slice Af nf cf] 25).alloc _)
      have n2 : Hid (Blk ((w5.alloc (.cells #[.bool (sg (fq (iv ga xsa) (iv gb xsb))), .slice Af nf cf] 25)).alloc (.cells #[.bool (sg (fr (iv ga xsa) (iv gb xsb))), .slice As ns cs] 25)) (w5.heap.size + 1) [.bool (sg (fr (iv ga xsa) (iv gb xsb))), .slice As ns cs] 25) := hid (blk_new1 w5 _ [.bool (sg (fr (iv ga xsa) (iv gb xsb))), .slice As ns cs] 25)
      have Ra_6 := hid (Ra_5.out.keep b)
      have Ka_6 := hid (Ka_5.out.keep b)
      have Rb_6 := hid (Rb_5.out.keep b)
      have Kb_6 := hid (Kb_5.out.keep b)
      have Rq_6 := hid (Rq_5.out.keep b)
      have Rr_6 := hid (Rr_5.out.keep b)
      have Kq_6 := hid (Kq_5.out.keep b)
      have Kr_6 := hid (Kr_5.out.keep b)
      have Rf_6 := hid (Rf.out.keep b)
      have Rs_6 := hid (Rs.out.keep b)
      have X_6 := hid (bx_call X_5.out b)
      clear b Ra_5 Ka_5 Rb_5 Kb_5 Rq_5 Rr_5 Kq_5 Kr_5 Rf Rs X_5
      obtain ⟨V2, hV⟩ : ∃ V, V = ((w5.alloc (.cells #[.bool (sg (fq (iv ga xsa) (iv gb xsb))), .slice Af nf cf] 25)).alloc (.cells #[.bool (sg (fr (iv ga xsa) (iv gb xsb))), .slice As ns cs] 25)) := ⟨_, rfl⟩
      obtain ⟨ip, hip⟩ : ∃ i, i = w5.heap.size := ⟨_, rfl⟩
      rw [← hip] at G3
      rw [← hV] at Ra_6 Ka_6 Rb_6 Kb_6 Rq_6 Rr_6 Kq_6 Kr_6 Rf_6 Rs_6 n1 n2 X_6 ⊢
      rw [← hip] at n1 n2 ⊢
      clear hV hip
      have Kf := hid n1.out
      have Ks := hid n2.out
      clear n1 n2
      have cc := risign_any gb Ab nb cb _ V2 Rb_6.out (by omega)
      have y0 : (sgnZ (iv gb xsb) == 0) = false := by rw [beq_eq_false_iff_ne]; exact sgnZ_ne HY.out
      refine cc.mono ?_
      rintro e w7 ⟨rfl, b⟩
      clear cc
      have Ra_7 := hid (Ra_6.out.keep b)
      have Ka_7 := hid (Ka_6.out.keep b)
      have Rb_7 := hid (Rb_6.out.keep b)
      have Kb_7 := hid (Kb_6.out.keep b)
      have Rq_7 := hid (Rq_6.out.keep b)
      have Rr_7 := hid (Rr_6.out.keep b)
      have Kq_7 := hid (Kq_6.out.keep b)
      have Kr_7 := hid (Kr_6.out.keep b)
      have Rf_7 := hid (Rf_6.out.keep b)
      have Rs_7 := hid (Rs_6.out.keep b)
      have Kf_7 := hid (Kf.out.keep b)
      have Ks_7 := hid (Ks.out.keep b)
      have X_7 := hid (bx_call X_6.out b)
      clear b Ra_6 Ka_6 Rb_6 Kb_6 Rq_6 Rr_6 Kq_6 Kr_6 Rf_6 Rs_6 Kf Ks X_6
      have lq : nq ≤ 100 := by rw [← Rq_7.out.1]; exact Nat.le_trans (sz_len (natAbs_tq Za.out)) (by omega)
      have lr : nr ≤ 100 := by rw [← Rr_7.out.1]; exact Nat.le_trans (sz_len (natAbs_tr HY.out Zb.out)) (by omega)
      have lf : nf ≤ 100 := by rw [← Rf_7.out.1]; exact Nat.le_trans (sz_len (natAbs_fq Za.out)) (by omega)
      have ls : ns ≤ 100 := by rw [← Rs_7.out.1]; exact Nat.le_trans (sz_len (natAbs_fr HY.out Zb.out)) (by omega)
      have E1 := hid (quo_right (x := iv ga xsa) HY.out)
      have E2 := hid (floor_right (x := iv ga xsa) HY.out)
      obtain ⟨ka0, ka1⟩ := blk_two Ka_7.out
      obtain ⟨kb0, kb1⟩ := blk_two Kb_7.out
      obtain ⟨kq0, kq1⟩ := blk_two Kq_7.out
      obtain ⟨kr0, kr1⟩ := blk_two Kr_7.out
      obtain ⟨kf0, kf1⟩ := blk_two Kf_7.out
      obtain ⟨ks0, ks1⟩ := blk_two Ks_7.out
      go_wp2_with fail
      first
      | (go_region_held3 (fun W => W.cell? ⟨w.heap.size, 0, none⟩ = some (.bool ga) ∧ W.cell? ⟨w.heap.size, 1, none⟩ = some (.slice Aa na ca) ∧ W.cell? ⟨w.heap.size + 1, 0, none⟩ = some (.bool gb) ∧ W.cell? ⟨w.heap.size + 1, 1, none⟩ = some (.slice Ab nb cb) ∧ W.cell? ⟨iq, 0, none⟩ = some (.bool (sg ((iv ga xsa).tdiv (iv gb xsb)))) ∧ W.cell? ⟨iq, 1, none⟩ = some (.slice Aq nq cq) ∧ W.cell? ⟨iq + 1, 0, none⟩ = some (.bool (sg ((iv ga xsa).tmod (iv gb xsb)))) ∧ W.cell? ⟨iq + 1, 1, none⟩ = some (.slice Ar nr cr) ∧ W.cell? ⟨ip, 0, none⟩ = some (.bool (sg (fq (iv ga xsa) (iv gb xsb)))) ∧ W.cell? ⟨ip, 1, none⟩ = some (.slice Af nf cf) ∧ W.cell? ⟨ip + 1, 0, none⟩ = some (.bool (sg (fr (iv ga xsa) (iv gb xsb)))) ∧ W.cell? ⟨ip + 1, 1, none⟩ = some (.slice As ns cs))
          (refine ⟨?_, ?_, ?_, ?_, ?_, ?_, ?_, ?_, ?_, ?_, ?_, ?_⟩ <;> repeat' (first | with_reducible assumption | with_reducible refine cell_dr ?_))
          (first
            | (go_at_call 42; have cc := iright_any Rf_10.out Rs_10.out Ra_10.out Rb_10.out Ka_10.out Kb_10.out lf ls (by omega) (by omega) E2.out; refine cc.mono ?_; rintro e w11 ⟨rfl, b⟩; clear cc; have Ra_11 := hid (Ra_10.out.keep b); have Ka_11 := hid (Ka_10.out.keep b); have Rb_11 := hid (Rb_10.out.keep b); have Kb_11 := hid (Kb_10.out.keep b); have Rq_11 := hid (Rq_10.out.keep b); have Rr_11 := hid (Rr_10.out.keep b); have Kq_11 := hid (Kq_10.out.keep b); have Kr_11 := hid (Kr_10.out.keep b); have Rf_11 := hid (Rf_10.out.keep b); have Rs_11 := hid (Rs_10.out.keep b); have Kf_11 := hid (Kf_10.out.keep b); have Ks_11 := hid (Ks_10.out.keep b); have X_11 := hid (bx_call X_10.out b); obtain ⟨ka0, ka1⟩ := blk_two Ka_11.out; obtain ⟨kb0, kb1⟩ := blk_two Kb_11.out; obtain ⟨kq0, kq1⟩ := blk_two Kq_11.out; obtain ⟨kr0, kr1⟩ := blk_two Kr_11.out; obtain ⟨kf0, kf1⟩ := blk_two Kf_11.out; obtain ⟨ks0, ks1⟩ := blk_two Ks_11.out; clear b Ra_10 Ka_10 Rb_10 Kb_10 Rq_10 Rr_10 Kq_10 Kr_10 Rf_10 Rs_10 Kf_10 Ks_10 X_10)
            | (go_at_call 27; have cc := risign_any gb Ab nb cb _ w9 Rb_9.out (by omega); refine cc.mono ?_; rintro e w10 ⟨rfl, b⟩; clear cc; have Ra_10 := hid (Ra_9.out.keep b); have Ka_10 := hid (Ka_9.out.keep b); have Rb_10 := hid (Rb_9.out.keep b); have Kb_10 := hid (Kb_9.out.keep b); have Rq_10 := hid (Rq_9.out.keep b); have Rr_10 := hid (Rr_9.out.keep b); have Kq_10 := hid (Kq_9.out.keep b); have Kr_10 := hid (Kr_9.out.keep b); have Rf_10 := hid (Rf_9.out.keep b); have Rs_10 := hid (Rs_9.out.keep b); have Kf_10 := hid (Kf_9.out.keep b); have Ks_10 := hid (Ks_9.out.keep b); have X_10 := hid (bx_call X_9.out b); obtain ⟨ka0, ka1⟩ := blk_two Ka_10.out; obtain ⟨kb0, kb1⟩ := blk_two Kb_10.out; obtain ⟨kq0, kq1⟩ := blk_two Kq_10.out; obtain ⟨kr0, kr1⟩ := blk_two Kr_10.out; obtain ⟨kf0, kf1⟩ := blk_two Kf_10.out; obtain ⟨ks0, ks1⟩ := blk_two Ks_10.out; clear b Ra_9 Ka_9 Rb_9 Kb_9 Rq_9 Rr_9 Kq_9 Kr_9 Rf_9 Rs_9 Kf_9 Ks_9 X_9)
            | (go_at_call 42; have cc := iright_any Rq_8.out Rr_8.out Ra_8.out Rb_8.out Ka_8.out Kb_8.out lq lr (by omega) (by omega) E1.out; refine cc.mono ?_; rintro e w9 ⟨rfl, b⟩; clear cc; have Ra_9 := hid (Ra_8.out.keep b); have Ka_9 := hid (Ka_8.out.keep b); have Rb_9 := hid (Rb_8.out.keep b); have Kb_9 := hid (Kb_8.out.keep b); have Rq_9 := hid (Rq_8.out.keep b); have Rr_9 := hid (Rr_8.out.keep b); have Kq_9 := hid (Kq_8.out.keep b); have Kr_9 := hid (Kr_8.out.keep b); have Rf_9 := hid (Rf_8.out.keep b); have Rs_9 := hid (Rs_8.out.keep b); have Kf_9 := hid (Kf_8.out.keep b); have Ks_9 := hid (Ks_8.out.keep b); have X_9 := hid (bx_call X_8.out b); obtain ⟨ka0, ka1⟩ := blk_two Ka_9.out; obtain ⟨kb0, kb1⟩ := blk_two Kb_9.out; obtain ⟨kq0, kq1⟩ := blk_two Kq_9.out; obtain ⟨kr0, kr1⟩ := blk_two Kr_9.out; obtain ⟨kf0, kf1⟩ := blk_two Kf_9.out; obtain ⟨ks0, ks1⟩ := blk_two Ks_9.out; clear b Ra_8 Ka_8 Rb_8 Kb_8 Rq_8 Rr_8 Kq_8 Kr_8 Rf_8 Rs_8 Kf_8 Ks_8 X_8)
            | (go_at_call 27; have cc := risign_any ga Aa na ca _ w7.drew (Ra_7.out.keep (bx_drew (bx_refl _))) (by omega); refine cc.mono ?_; rintro e w8 ⟨rfl, b⟩; clear cc; have Ra_8 := hid (Ra_7.out.keep (bx_call (bx_drew (bx_refl _)) b)); have Ka_8 := hid (Ka_7.out.keep (bx_call (bx_drew (bx_refl _)) b)); have Rb_8 := hid (Rb_7.out.keep (bx_call (bx_drew (bx_refl _)) b)); have Kb_8 := hid (Kb_7.out.keep (bx_call (bx_drew (bx_refl _)) b)); have Rq_8 := hid (Rq_7.out.keep (bx_call (bx_drew (bx_refl _)) b)); have Rr_8 := hid (Rr_7.out.keep (bx_call (bx_drew (bx_refl _)) b)); have Kq_8 := hid (Kq_7.out.keep (bx_call (bx_drew (bx_refl _)) b)); have Kr_8 := hid (Kr_7.out.keep (bx_call (bx_drew (bx_refl _)) b)); have Rf_8 := hid (Rf_7.out.keep (bx_call (bx_drew (bx_refl _)) b)); have Rs_8 := hid (Rs_7.out.keep (bx_call (bx_drew (bx_refl _)) b)); have Kf_8 := hid (Kf_7.out.keep (bx_call (bx_drew (bx_refl _)) b)); have Ks_8 := hid (Ks_7.out.keep (bx_call (bx_drew (bx_refl _)) b)); have X_8 := hid (bx_call X_7.out (bx_call (bx_drew (bx_refl _)) b)); obtain ⟨ka0, ka1⟩ := blk_two Ka_8.out; obtain ⟨kb0, kb1⟩ := blk_two Kb_8.out; obtain ⟨kq0, kq1⟩ := blk_two Kq_8.out; obtain ⟨kr0, kr1⟩ := blk_two Kr_8.out; obtain ⟨kf0, kf1⟩ := blk_two Kf_8.out; obtain ⟨ks0, ks1⟩ := blk_two Ks_8.out; clear b Ra_7 Ka_7 Rb_7 Kb_7 Rq_7 Rr_7 Kq_7 Kr_7 Rf_7 Rs_7 Kf_7 Ks_7 X_7)))
      | fail
      go_wp2_with fail
      go_ret
      exact ⟨rfl, X_11.out⟩
  · have hF := decide_eq_false hf
    clear hf
    go_enter Try.func5, Try.ntmps5
    go_wp2_with fail
    refine (iawake_any _).mono ?_
    rintro e w1 ⟨rfl, b⟩
    have Ra_1 := hid (Ra.out.keep (bx_call X.out b))
    have Ka_1 := hid (Ka.out.keep b)
    have Rb_1 := hid (Rb.out.keep (bx_call X.out b))
    have Kb_1 := hid (Kb.out.keep b)
    have X_1 := hid (bx_call X.out b)
    clear b X Ra Ka Rb Kb
    obtain ⟨ka0, ka1⟩ := blk_two Ka_1.out
    obtain ⟨kb0, kb1⟩ := blk_two Kb_1.out
    have cc := ifew2 (Blk.new w1 [.bool ga, .slice Aa na ca, .bool gb, .slice Ab nb cb] 25) (by omega) (by omega)
    rw [hF] at cc
    have CC := hid cc
    clear cc hF
    go_wp2_with fail
    refine (CC.out).mono ?_
    rintro e w2 ⟨rfl, b0⟩
    have X_2 := hid (bx_call X_1.out (bx_call (bx_alloc (bx_refl w1) (.cells #[.bool ga, .slice Aa na ca, .bool gb, .slice Ab nb cb] 25)) b0))
    clear CC b0 X_1
    go_wp2_with fail
    refine (iawake_any _).mono ?_
    rintro e w3 ⟨rfl, b⟩
    have X_3 := hid (bx_call X_2.out b)
    clear X_2 b
    go_wp2_with fail
    go_ret
    exact ⟨rfl, X_3.out⟩

end Go.Proofs.Ytobnbeeaiidpcaa
