/- Laws of layer 2, walked by contracts. -/
import Derived.Test.YtobnbeeaiidpcaaIaid
import Derived.Deep.DeepCutAuto
namespace Go.Proofs.Ytobnbeeaiidpcaa
open Go.RowKit

theorem sgnZ_neg (z : Int) : sgnZ (-z) = -sgnZ z := by
  unfold sgnZ
  split <;> split <;> (try split) <;> (try split) <;> omega
theorem sgnZ_swap (x y : Int) : sgnZ (y - x) = -sgnZ (x - y) := by rw [← sgnZ_neg, Int.neg_sub]
theorem sgnZ_mul (x y : Int) : sgnZ (x * y) = sgnZ x * sgnZ y := by
  rcases Int.lt_trichotomy x 0 with hx | rfl | hx
  · rcases Int.lt_trichotomy y 0 with hy | rfl | hy
    · have := Int.mul_pos_of_neg_of_neg hx hy
      simp only [sgnZ]
      rw [if_neg (by omega), if_pos this, if_pos hx, if_pos hy]; rfl
    · rw [Int.mul_zero]; simp [sgnZ]
    · have := Int.mul_neg_of_neg_of_pos hx hy
      simp only [sgnZ]
      rw [if_pos this, if_pos hx, if_neg (by omega), if_pos hy]; rfl
  · rw [Int.zero_mul]; simp [sgnZ]
  · rcases Int.lt_trichotomy y 0 with hy | rfl | hy
    · have := Int.mul_neg_of_pos_of_neg hx hy
      simp only [sgnZ]
      rw [if_pos this, if_neg (by omega), if_pos hx, if_pos hy]; rfl
    · rw [Int.mul_zero]; simp [sgnZ]
    · have := Int.mul_pos hx hy
      simp only [sgnZ]
      rw [if_neg (by omega), if_pos this, if_neg (by omega), if_pos hx, if_neg (by omega), if_pos hy]; rfl
/-- What the three comparisons have to do with each other. -/
theorem order_cases (x y z : Int) : sgnZ (x - y) = 1 ∨ (sgnZ (x - y) = 0 ∧ sgnZ (x - z) = sgnZ (y - z)) ∨ (sgnZ (x - y) = -1 ∧ sgnZ (y - z) = 1) ∨ (sgnZ (x - y) = -1 ∧ sgnZ (y - z) ≤ 0 ∧ sgnZ (x - z) ≤ 0) := by
  unfold sgnZ
  rcases Int.lt_trichotomy (x - y) 0 with h | h | h
  · right; right
    rw [if_pos h]
    rcases Int.lt_trichotomy (y - z) 0 with k | k | k
    · right; rw [if_pos k, if_pos (by omega)]; omega
    · right; rw [if_neg (by omega), if_neg (by omega), if_pos (by omega)]; omega
    · left; rw [if_neg (by omega), if_pos k]; omega
  · right; left
    have : x = y := by omega
    subst this
    rw [if_neg (by omega), if_neg (by omega)]
    exact ⟨rfl, rfl⟩
  · left
    rw [if_neg (by omega), if_pos h]
theorem wrap_small {x y : Int} (hx : x = -1 ∨ x = 0 ∨ x = 1) (hy : y = -1 ∨ y = 0 ∨ y = 1) : IntKind.i64.wrap (x * y) = x * y := by
  rcases hx with rfl | rfl | rfl <;> rcases hy with rfl | rfl | rfl <;> rfl
theorem wrap_neg {x : Int} (hx : x = -1 ∨ x = 0 ∨ x = 1) : IntKind.i64.wrap (-x) = -x := by
  rcases hx with rfl | rfl | rfl <;> rfl

set_option maxRecDepth 100000 in
set_option maxHeartbeats 16000000 in
theorem integerOrder_any (ga : Bool) (Aa : Option Addr) (na ca : Nat) (xsa : List Nat) (gb : Bool) (Ab : Option Addr) (nb cb : Nat) (xsb : List Nat) (gc : Bool) (Ac : Option Addr) (nc cc : Nat) (xsc : List Nat) (w : World) (ha : Rd w Aa na ca xsa) (hb : Rd w Ab nb cb xsb) (hc : Rd w Ac nc cc xsc) :
    Calls Try.prog 7 #[.agg #[.bool ga, .slice Aa na ca], .agg #[.bool gb, .slice Ab nb cb], .agg #[.bool gc, .slice Ac nc cc]] w (RetB w true) := by
  have Ra := hid ha
  have ka := ha.2.1
  have ja := ha.2.2.1
  have Rb := hid hb
  have kb := hb.2.1
  have jb := hb.2.2.1
  have Rc := hid hc
  have kc := hc.2.1
  have jc := hc.2.2.1
  have X := hid (bx_alloc (bx_alloc (bx_alloc (bx_refl w) (.cells #[.bool ga, .slice Aa na ca] 25)) (.cells #[.bool gb, .slice Ab nb cb] 25)) (.cells #[.bool gc, .slice Ac nc cc] 25))
  have Ka : Hid (Blk (((w.alloc (.cells #[.bool ga, .slice Aa na ca] 25)).alloc (.cells #[.bool gb, .slice Ab nb cb] 25)).alloc (.cells #[.bool gc, .slice Ac nc cc] 25)) (w.heap.size) [.bool ga, .slice Aa na ca] 25) := hid (by have t := (((Blk.new w [.bool ga, .slice Aa na ca] 25).alloc (.cells #[.bool gb, .slice Ab nb cb] 25)).alloc (.cells #[.bool gc, .slice Ac nc cc] 25)); (try simp only [World.size_alloc] at t); exact t)
  have Kb : Hid (Blk (((w.alloc (.cells #[.bool ga, .slice Aa na ca] 25)).alloc (.cells #[.bool gb, .slice Ab nb cb] 25)).alloc (.cells #[.bool gc, .slice Ac nc cc] 25)) (w.heap.size + 1) [.bool gb, .slice Ab nb cb] 25) := hid (by have t := ((Blk.new (w.alloc (.cells #[.bool ga, .slice Aa na ca] 25)) [.bool gb, .slice Ab nb cb] 25).alloc (.cells #[.bool gc, .slice Ac nc cc] 25)); (try simp only [World.size_alloc] at t); exact t)
  have Kc : Hid (Blk (((w.alloc (.cells #[.bool ga, .slice Aa na ca] 25)).alloc (.cells #[.bool gb, .slice Ab nb cb] 25)).alloc (.cells #[.bool gc, .slice Ac nc cc] 25)) (w.heap.size + 1 + 1) [.bool gc, .slice Ac nc cc] 25) := hid (by have t := (Blk.new ((w.alloc (.cells #[.bool ga, .slice Aa na ca] 25)).alloc (.cells #[.bool gb, .slice Ab nb cb] 25)) [.bool gc, .slice Ac nc cc] 25); (try simp only [World.size_alloc] at t); exact t)
  clear ha hb hc
  by_cases hf : na ≤ 10 ∧ nb ≤ 10 ∧ nc ≤ 10
  · obtain ⟨qa, qb, qc⟩ := hf
    have Za := hid (sz_iv (g := ga) Ra.out qa)
    have la : na ≤ 10 := qa
    have Zb := hid (sz_iv (g := gb) Rb.out qb)
    have lb : nb ≤ 10 := qb
    have Zc := hid (sz_iv (g := gc) Rc.out qc)
    have lc : nc ≤ 10 := qc
    go_enter Try.func7, Try.ntmps7
    go_wp2_with fail
    refine (iawake_any _).mono ?_
    rintro e w1 ⟨rfl, b⟩
    have Ra_1 := hid (Ra.out.keep (bx_call X.out b))
    have Ka_1 := hid (Ka.out.keep b)
    have Rb_1 := hid (Rb.out.keep (bx_call X.out b))
    have Kb_1 := hid (Kb.out.keep b)
    have Rc_1 := hid (Rc.out.keep (bx_call X.out b))
    have Kc_1 := hid (Kc.out.keep b)
    have X_1 := hid (bx_call X.out b)
    clear b X Ra Ka Rb Kb Rc Kc
    obtain ⟨ka0, ka1⟩ := blk_two Ka_1.out
    obtain ⟨kb0, kb1⟩ := blk_two Kb_1.out
    obtain ⟨kc0, kc1⟩ := blk_two Kc_1.out
    have cc := ifew3 (Blk.new w1 [.bool ga, .slice Aa na ca, .bool gb, .slice Ab nb cb, .bool gc, .slice Ac nc cc] 25) (by omega) (by omega) (by omega)
    rw [decide_eq_true ⟨qa, qb, qc⟩] at cc
    have CC := hid cc
    clear cc
    go_wp2_with fail
    refine (CC.out).mono ?_
    rintro e w2 ⟨rfl, b0⟩
    have b := bx_call (bx_alloc (bx_refl w1) (.cells #[.bool ga, .slice Aa na ca, .bool gb, .slice Ab nb cb, .bool gc, .slice Ac nc cc] 25)) b0
    have Ra_2 := hid (Ra_1.out.keep b)
    have Ka_2 := hid (Ka_1.out.keep b)
    have Rb_2 := hid (Rb_1.out.keep b)
    have Kb_2 := hid (Kb_1.out.keep b)
    have Rc_2 := hid (Rc_1.out.keep b)
    have Kc_2 := hid (Kc_1.out.keep b)
    have X_2 := hid (bx_call X_1.out b)
    clear CC b b0 X_1 Ra_1 Ka_1 ka0 ka1 Rb_1 Kb_1 kb0 kb1 Rc_1 Kc_1 kc0 kc1
    have ix := sgnZ_cases (iv ga xsa - iv gb xsb)
    have oc := order_cases (iv ga xsa) (iv gb xsb) (iv gc xsc)
    have hyc := sgnZ_cases (iv gb xsb - iv gc xsc)
    have hzc := sgnZ_cases (iv ga xsa - iv gc xsc)
    obtain ⟨x, hx⟩ : ∃ i, i = sgnZ (iv ga xsa - iv gb xsb) := ⟨_, rfl⟩
    obtain ⟨y, hy⟩ : ∃ i, i = sgnZ (iv gb xsb - iv gc xsc) := ⟨_, rfl⟩
    obtain ⟨z, hz⟩ : ∃ i, i = sgnZ (iv ga xsa - iv gc xsc) := ⟨_, rfl⟩
    rw [← hx] at ix oc
    rw [← hy] at hyc oc
    rw [← hz] at hzc oc
    have HX := hid hx
    have HY := hid hy
    have HZ := hid hz
    have IX := hid ix
    have OC := hid oc
    have IY := hid hyc
    have IZ := hid hzc
    clear hx hy hz ix oc hyc hzc
    obtain ⟨ka0, ka1⟩ := blk_two Ka_2.out
    obtain ⟨kb0, kb1⟩ := blk_two Kb_2.out
    obtain ⟨kc0, kc1⟩ := blk_two Kc_2.out
    go_wp2_with fail
    go_region_held3 (fun W => W.cell? ⟨w.heap.size, 0, none⟩ = some (.bool ga) ∧ W.cell? ⟨w.heap.size, 1, none⟩ = some (.slice Aa na ca) ∧ W.cell? ⟨w.heap.size + 1, 0, none⟩ = some (.bool gb) ∧ W.cell? ⟨w.heap.size + 1, 1, none⟩ = some (.slice Ab nb cb) ∧ W.cell? ⟨w.heap.size + 1 + 1, 0, none⟩ = some (.bool gc) ∧ W.cell? ⟨w.heap.size + 1 + 1, 1, none⟩ = some (.slice Ac nc cc))
      (refine ⟨?_, ?_, ?_, ?_, ?_, ?_⟩ <;> repeat' (first | with_reducible assumption | with_reducible refine cell_dr ?_))
      (first
        | (go_at_call 32; have cc := icmp_any ga Aa na ca _ gc Ac nc cc _ w4 (Ra_4.out) (Rc_4.out); rw [← HZ.out] at cc; refine cc.mono ?_; rintro e w5 ⟨rfl, b⟩; clear cc; have Ra_5 := hid (Ra_4.out.keep b); have Ka_5 := hid (Ka_4.out.keep b); have Rb_5 := hid (Rb_4.out.keep b); have Kb_5 := hid (Kb_4.out.keep b); have Rc_5 := hid (Rc_4.out.keep b); have Kc_5 := hid (Kc_4.out.keep b); have X_5 := hid (bx_call X_4.out b); obtain ⟨ka0, ka1⟩ := blk_two Ka_5.out; obtain ⟨kb0, kb1⟩ := blk_two Kb_5.out; obtain ⟨kc0, kc1⟩ := blk_two Kc_5.out; clear b Ra_4 Ka_4 Rb_4 Kb_4 Rc_4 Kc_4 X_4)
        | (go_at_call 32; have cc := icmp_any gb Ab nb cb _ gc Ac nc cc _ w3 (Rb_3.out) (Rc_3.out); rw [← HY.out] at cc; refine cc.mono ?_; rintro e w4 ⟨rfl, b⟩; clear cc; have Ra_4 := hid (Ra_3.out.keep b); have Ka_4 := hid (Ka_3.out.keep b); have Rb_4 := hid (Rb_3.out.keep b); have Kb_4 := hid (Kb_3.out.keep b); have Rc_4 := hid (Rc_3.out.keep b); have Kc_4 := hid (Kc_3.out.keep b); have X_4 := hid (bx_call X_3.out b); obtain ⟨ka0, ka1⟩ := blk_two Ka_4.out; obtain ⟨kb0, kb1⟩ := blk_two Kb_4.out; obtain ⟨kc0, kc1⟩ := blk_two Kc_4.out; clear b Ra_3 Ka_3 Rb_3 Kb_3 Rc_3 Kc_3 X_3)
        | (go_at_call 32; have cc := icmp_any ga Aa na ca _ gb Ab nb cb _ w2.drew (Ra_2.out.keep (bx_drew (bx_refl _))) (Rb_2.out.keep (bx_drew (bx_refl _))); rw [← HX.out] at cc; refine cc.mono ?_; rintro e w3 ⟨rfl, b⟩; clear cc; have Ra_3 := hid (Ra_2.out.keep (bx_call (bx_drew (bx_refl _)) b)); have Ka_3 := hid (Ka_2.out.keep (bx_call (bx_drew (bx_refl _)) b)); have Rb_3 := hid (Rb_2.out.keep (bx_call (bx_drew (bx_refl _)) b)); have Kb_3 := hid (Kb_2.out.keep (bx_call (bx_drew (bx_refl _)) b)); have Rc_3 := hid (Rc_2.out.keep (bx_call (bx_drew (bx_refl _)) b)); have Kc_3 := hid (Kc_2.out.keep (bx_call (bx_drew (bx_refl _)) b)); have X_3 := hid (bx_call X_2.out (bx_call (bx_drew (bx_refl _)) b)); obtain ⟨ka0, ka1⟩ := blk_two Ka_3.out; obtain ⟨kb0, kb1⟩ := blk_two Kb_3.out; obtain ⟨kc0, kc1⟩ := blk_two Kc_3.out; clear b Ra_2 Ka_2 Rb_2 Kb_2 Rc_2 Kc_2 X_2))
    go_upto_region 4 with fail
    go_cut [56] (fun s56 wx => s56 = .bool false ∧ Hid (Rd wx Aa na ca xsa ∧ Blk wx (w.heap.size) [.bool ga, .slice Aa na ca] 25 ∧ Rd wx Ab nb cb xsb ∧ Blk wx (w.heap.size + 1) [.bool gb, .slice Ab nb cb] 25 ∧ Rd wx Ac nc cc xsc ∧ Blk wx (w.heap.size + 1 + 1) [.bool gc, .slice Ac nc cc] 25 ∧ Below w.heap.size w wx))
    case first =>
      obtain ⟨ka0, ka1⟩ := blk_two Ka_5.out
      obtain ⟨kb0, kb1⟩ := blk_two Kb_5.out
      obtain ⟨kc0, kc1⟩ := blk_two Kc_5.out
      have CB := hid (icmp_any gb Ab nb cb _ ga Aa na ca _ w5 Rb_5.out Ra_5.out)
      rw [sgnZ_swap, ← HX.out] at CB
      have ix := IX.out
      have iy := IY.out
      have iz := IZ.out
      have x1 : -1 ≤ x := by omega
      have x2 : x ≤ 1 := by omega
      have y1 : -1 ≤ y := by omega
      have y2 : y ≤ 1 := by omega
      have z1 : -1 ≤ z := by omega
      have z2 : z ≤ 1 := by omega
      clear ix iy iz
      rcases OC.out with rfl | ⟨rfl, rfl⟩ | ⟨rfl, rfl⟩ | ⟨rfl, yl, zl⟩
      · go_wp2_with fail
        refine (CB.out).mono ?_
        rintro e wf ⟨rfl, b⟩
        have F := hid (And.intro (Ra_5.out.keep b) (And.intro (Ka_5.out.keep b) (And.intro (Rb_5.out.keep b) (And.intro (Kb_5.out.keep b) (And.intro (Rc_5.out.keep b) (And.intro (Kc_5.out.keep b) (bx_call X_5.out b)))))))
        clear b CB
        go_wp2_with fail
        go_meet
        first | exact ⟨rfl, F⟩ | exact ⟨congrArg Value.bool (decide_eq_false (by omega)), F⟩
      · rcases (by omega : z ≤ 0 ∨ 0 < z) with h | h
        all_goals
          go_wp2_with fail
          refine (CB.out).mono ?_
          rintro e wf ⟨rfl, b⟩
          have F := hid (And.intro (Ra_5.out.keep b) (And.intro (Ka_5.out.keep b) (And.intro (Rb_5.out.keep b) (And.intro (Kb_5.out.keep b) (And.intro (Rc_5.out.keep b) (And.intro (Kc_5.out.keep b) (bx_call X_5.out b)))))))
          clear b CB
          go_wp2_with fail
          go_meet
          first | exact ⟨rfl, F⟩ | exact ⟨congrArg Value.bool (decide_eq_false (by omega)), F⟩
      · go_wp2_with fail
        refine (CB.out).mono ?_
        rintro e wf ⟨rfl, b⟩
        have F := hid (And.intro (Ra_5.out.keep b) (And.intro (Ka_5.out.keep b) (And.intro (Rb_5.out.keep b) (And.intro (Kb_5.out.keep b) (And.intro (Rc_5.out.keep b) (And.intro (Kc_5.out.keep b) (bx_call X_5.out b)))))))
        clear b CB
        go_wp2_with fail
        go_meet
        first | exact ⟨rfl, F⟩ | exact ⟨congrArg Value.bool (decide_eq_false (by omega)), F⟩
      · go_wp2_with fail
        refine (CB.out).mono ?_
        rintro e wf ⟨rfl, b⟩
        have F := hid (And.intro (Ra_5.out.keep b) (And.intro (Ka_5.out.keep b) (And.intro (Rb_5.out.keep b) (And.intro (Kb_5.out.keep b) (And.intro (Rc_5.out.keep b) (And.intro (Kc_5.out.keep b) (bx_call X_5.out b)))))))
        clear b CB
        go_wp2_with fail
        go_meet
        first | exact ⟨rfl, F⟩ | exact ⟨congrArg Value.bool (decide_eq_false (by omega)), F⟩
    case rest =>
    obtain ⟨rfl, hF⟩ := hcut
    obtain ⟨v0, rfl⟩ : ∃ W : World, W = wc := ⟨_, rfl⟩
    obtain ⟨tRa, tKa, tRb, tKb, tRc, tKc, tX⟩ := hF.out
    have Ra_9 := hid tRa
    have Ka_9 := hid tKa
    have Rb_9 := hid tRb
    have Kb_9 := hid tKb
    have Rc_9 := hid tRc
    have Kc_9 := hid tKc
    have X_9 := hid tX
    clear hF tX tRa tKa tRb tKb tRc tKc Ra_5 Ka_5 Rb_5 Kb_5 Rc_5 Kc_5 X_5 OC IY IZ HY HZ
    have ix := IX.out
    have x1 : -1 ≤ x := by omega
    have x2 : x ≤ 1 := by omega
    have wn := wrap_neg ix
    have sa := sgnZ_cases (iv ga xsa)
    have sb := sgnZ_cases (iv gb xsb)
    obtain ⟨u, hu⟩ : ∃ i, i = sgnZ (iv ga xsa) := ⟨_, rfl⟩
    obtain ⟨v, hv⟩ : ∃ i, i = sgnZ (iv gb xsb) := ⟨_, rfl⟩
    rw [← hu] at sa
    rw [← hv] at sb
    have wm := wrap_small sa sb
    have HU := hid hu
    have HV := hid hv
    clear hu hv sa sb ix
    obtain ⟨ka0, ka1⟩ := blk_two Ka_9.out
    obtain ⟨kb0, kb1⟩ := blk_two Kb_9.out
    obtain ⟨kc0, kc1⟩ := blk_two Kc_9.out
    go_wp2_with fail
    go_region_held3 (fun W => W.cell? ⟨w.heap.size, 0, none⟩ = some (.bool ga) ∧ W.cell? ⟨w.heap.size, 1, none⟩ = some (.slice Aa na ca) ∧ W.cell? ⟨w.heap.size + 1, 0, none⟩ = some (.bool gb) ∧ W.cell? ⟨w.heap.size + 1, 1, none⟩ = some (.slice Ab nb cb) ∧ W.cell? ⟨w.heap.size + 1 + 1, 0, none⟩ = some (.bool gc) ∧ W.cell? ⟨w.heap.size + 1 + 1, 1, none⟩ = some (.slice Ac nc cc))
      (refine ⟨?_, ?_, ?_, ?_, ?_, ?_⟩ <;> repeat' (first | with_reducible assumption | with_reducible refine cell_dr ?_))
      (first
        | (go_at_call 26; have cc := isign_any gb Ab nb cb _ w18 Rb_18.out; rw [← HV.out] at cc; refine cc.mono ?_; rintro e w19 ⟨rfl, b⟩; clear cc; have Ra_19 := hid (Ra_18.out.keep b); have Ka_19 := hid (Ka_18.out.keep b); have Rb_19 := hid (Rb_18.out.keep b); have Kb_19 := hid (Kb_18.out.keep b); have Rc_19 := hid (Rc_18.out.keep b); have Kc_19 := hid (Kc_18.out.keep b); have Rd_19 := hid (Rd_18.out.keep b); have Re_19 := hid (Re_18.out.keep b); have Rf_19 := hid (Rf_18.out.keep b); have Rh_19 := hid (Rh_18.out.keep b); have Rm_19 := hid (Rm_18.out.keep b); have X_19 := hid (bx_call X_18.out b); obtain ⟨ka0, ka1⟩ := blk_two Ka_19.out; obtain ⟨kb0, kb1⟩ := blk_two Kb_19.out; obtain ⟨kc0, kc1⟩ := blk_two Kc_19.out; clear b Ra_18 Ka_18 Rb_18 Kb_18 Rc_18 Kc_18 Rd_18 Re_18 Rf_18 Rh_18 Rm_18 X_18)
        | (go_at_call 26; have cc := isign_any ga Aa na ca _ w17 Ra_17.out; rw [← HU.out] at cc; refine cc.mono ?_; rintro e w18 ⟨rfl, b⟩; clear cc; have Ra_18 := hid (Ra_17.out.keep b); have Ka_18 := hid (Ka_17.out.keep b); have Rb_18 := hid (Rb_17.out.keep b); have Kb_18 := hid (Kb_17.out.keep b); have Rc_18 := hid (Rc_17.out.keep b); have Kc_18 := hid (Kc_17.out.keep b); have Rd_18 := hid (Rd_17.out.keep b); have Re_18 := hid (Re_17.out.keep b); have Rf_18 := hid (Rf_17.out.keep b); have Rh_18 := hid (Rh_17.out.keep b); have Rm_18 := hid (Rm_17.out.keep b); have X_18 := hid (bx_call X_17.out b); obtain ⟨ka0, ka1⟩ := blk_two Ka_18.out; obtain ⟨kb0, kb1⟩ := blk_two Kb_18.out; obtain ⟨kc0, kc1⟩ := blk_two Kc_18.out; clear b Ra_17 Ka_17 Rb_17 Kb_17 Rc_17 Kc_17 Rd_17 Re_17 Rf_17 Rh_17 Rm_17 X_17)
        | (go_at_call 26; have cc := isign_any (sg ((iv ga xsa) * (iv gb xsb))) Am nm cm _ w16 Rm.out; rw [iv_sg, sgnZ_mul, ← HU.out, ← HV.out] at cc; refine cc.mono ?_; rintro e w17 ⟨rfl, b⟩; clear cc; have Ra_17 := hid (Ra_16.out.keep b); have Ka_17 := hid (Ka_16.out.keep b); have Rb_17 := hid (Rb_16.out.keep b); have Kb_17 := hid (Kb_16.out.keep b); have Rc_17 := hid (Rc_16.out.keep b); have Kc_17 := hid (Kc_16.out.keep b); have Rd_17 := hid (Rd_16.out.keep b); have Re_17 := hid (Re_16.out.keep b); have Rf_17 := hid (Rf_16.out.keep b); have Rh_17 := hid (Rh_16.out.keep b); have Rm_17 := hid (Rm.out.keep b); have X_17 := hid (bx_call X_16.out b); obtain ⟨ka0, ka1⟩ := blk_two Ka_17.out; obtain ⟨kb0, kb1⟩ := blk_two Kb_17.out; obtain ⟨kc0, kc1⟩ := blk_two Kc_17.out; clear b Ra_16 Ka_16 Rb_16 Kb_16 Rc_16 Kc_16 Rd_16 Re_16 Rf_16 Rh_16 Rm X_16)
        | (go_at_call 38; have cc := imul_any ga Aa na ca _ gb Ab nb cb _ w15 (Ra_15.out) (by have := la; omega) (Rb_15.out) (by have := lb; omega); refine cc.mono ?_; rintro e w16 ⟨Am, nm, cm, rfl, r, b⟩; clear cc; have lm : nm ≤ 20 := (by rw [← r.1]; exact sz_len (sz_mul Za.out Zb.out)); have Rm := hid r; clear r; have Ra_16 := hid (Ra_15.out.keep b); have Ka_16 := hid (Ka_15.out.keep b); have Rb_16 := hid (Rb_15.out.keep b); have Kb_16 := hid (Kb_15.out.keep b); have Rc_16 := hid (Rc_15.out.keep b); have Kc_16 := hid (Kc_15.out.keep b); have Rd_16 := hid (Rd_15.out.keep b); have Re_16 := hid (Re_15.out.keep b); have Rf_16 := hid (Rf_15.out.keep b); have Rh_16 := hid (Rh_15.out.keep b); have X_16 := hid (bx_call X_15.out b); obtain ⟨ka0, ka1⟩ := blk_two Ka_16.out; obtain ⟨kb0, kb1⟩ := blk_two Kb_16.out; obtain ⟨kc0, kc1⟩ := blk_two Kc_16.out; clear b Ra_15 Ka_15 Rb_15 Kb_15 Rc_15 Kc_15 Rd_15 Re_15 Rf_15 Rh_15 X_15)
        | (go_at_call 32; have cc := icmp_any (sg (-(iv ga xsa))) Af nf cf _ (sg (-(iv gb xsb))) Ah nh ch _ w14 (Rf_14.out) (Rh.out); rw [iv_sg, iv_sg, show -iv ga xsa - -iv gb xsb = -(iv ga xsa - iv gb xsb) from by omega, sgnZ_neg, ← HX.out] at cc; refine cc.mono ?_; rintro e w15 ⟨rfl, b⟩; clear cc; have Ra_15 := hid (Ra_14.out.keep b); have Ka_15 := hid (Ka_14.out.keep b); have Rb_15 := hid (Rb_14.out.keep b); have Kb_15 := hid (Kb_14.out.keep b); have Rc_15 := hid (Rc_14.out.keep b); have Kc_15 := hid (Kc_14.out.keep b); have Rd_15 := hid (Rd_14.out.keep b); have Re_15 := hid (Re_14.out.keep b); have Rf_15 := hid (Rf_14.out.keep b); have Rh_15 := hid (Rh.out.keep b); have X_15 := hid (bx_call X_14.out b); obtain ⟨ka0, ka1⟩ := blk_two Ka_15.out; obtain ⟨kb0, kb1⟩ := blk_two Kb_15.out; obtain ⟨kc0, kc1⟩ := blk_two Kc_15.out; clear b Ra_14 Ka_14 Rb_14 Kb_14 Rc_14 Kc_14 Rd_14 Re_14 Rf_14 Rh X_14)
        | (go_at_call 28; have cc := ineg_any gb Ab nb cb _ w13 (Rb_13.out) (by have := lb; omega); refine cc.mono ?_; rintro e w14 ⟨Ah, nh, ch, rfl, r, b⟩; clear cc; have lh : nh ≤ 10 := (by rw [← r.1]; exact sz_len (sz_neg Zb.out)); have Rh := hid r; clear r; have Ra_14 := hid (Ra_13.out.keep b); have Ka_14 := hid (Ka_13.out.keep b); have Rb_14 := hid (Rb_13.out.keep b); have Kb_14 := hid (Kb_13.out.keep b); have Rc_14 := hid (Rc_13.out.keep b); have Kc_14 := hid (Kc_13.out.keep b); have Rd_14 := hid (Rd_13.out.keep b); have Re_14 := hid (Re_13.out.keep b); have Rf_14 := hid (Rf.out.keep b); have X_14 := hid (bx_call X_13.out b); obtain ⟨ka0, ka1⟩ := blk_two Ka_14.out; obtain ⟨kb0, kb1⟩ := blk_two Kb_14.out; obtain ⟨kc0, kc1⟩ := blk_two Kc_14.out; clear b Ra_13 Ka_13 Rb_13 Kb_13 Rc_13 Kc_13 Rd_13 Re_13 Rf X_13)
        | (go_at_call 28; have cc := ineg_any ga Aa na ca _ w12 (Ra_12.out) (by have := la; omega); refine cc.mono ?_; rintro e w13 ⟨Af, nf, cf, rfl, r, b⟩; clear cc; have lf : nf ≤ 10 := (by rw [← r.1]; exact sz_len (sz_neg Za.out)); have Rf := hid r; clear r; have Ra_13 := hid (Ra_12.out.keep b); have Ka_13 := hid (Ka_12.out.keep b); have Rb_13 := hid (Rb_12.out.keep b); have Kb_13 := hid (Kb_12.out.keep b); have Rc_13 := hid (Rc_12.out.keep b); have Kc_13 := hid (Kc_12.out.keep b); have Rd_13 := hid (Rd_12.out.keep b); have Re_13 := hid (Re_12.out.keep b); have X_13 := hid (bx_call X_12.out b); obtain ⟨ka0, ka1⟩ := blk_two Ka_13.out; obtain ⟨kb0, kb1⟩ := blk_two Kb_13.out; obtain ⟨kc0, kc1⟩ := blk_two Kc_13.out; clear b Ra_12 Ka_12 Rb_12 Kb_12 Rc_12 Kc_12 Rd_12 Re_12 X_12)
        | (go_at_call 32; have cc := icmp_any (sg ((iv ga xsa) + (iv gc xsc))) Ad nd cd _ (sg ((iv gb xsb) + (iv gc xsc))) Ae ne ce _ w11 (Rd_11.out) (Re.out); rw [iv_sg, iv_sg, show iv ga xsa + iv gc xsc - (iv gb xsb + iv gc xsc) = iv ga xsa - iv gb xsb from by omega, ← HX.out] at cc; refine cc.mono ?_; rintro e w12 ⟨rfl, b⟩; clear cc; have Ra_12 := hid (Ra_11.out.keep b); have Ka_12 := hid (Ka_11.out.keep b); have Rb_12 := hid (Rb_11.out.keep b); have Kb_12 := hid (Kb_11.out.keep b); have Rc_12 := hid (Rc_11.out.keep b); have Kc_12 := hid (Kc_11.out.keep b); have Rd_12 := hid (Rd_11.out.keep b); have Re_12 := hid (Re.out.keep b); have X_12 := hid (bx_call X_11.out b); obtain ⟨ka0, ka1⟩ := blk_two Ka_12.out; obtain ⟨kb0, kb1⟩ := blk_two Kb_12.out; obtain ⟨kc0, kc1⟩ := blk_two Kc_12.out; clear b Ra_11 Ka_11 Rb_11 Kb_11 Rc_11 Kc_11 Rd_11 Re X_11)
        | (go_at_call 34; have cc := iadd_any gb Ab nb cb _ gc Ac nc cc _ w10 (Rb_10.out) (by have := lb; omega) (Rc_10.out) (by have := lc; omega); refine cc.mono ?_; rintro e w11 ⟨Ae, ne, ce, rfl, r, b⟩; clear cc; have le : ne ≤ 11 := (by rw [← r.1]; exact sz_len (sz_add Zb.out Zc.out)); have Re := hid r; clear r; have Ra_11 := hid (Ra_10.out.keep b); have Ka_11 := hid (Ka_10.out.keep b); have Rb_11 := hid (Rb_10.out.keep b); have Kb_11 := hid (Kb_10.out.keep b); have Rc_11 := hid (Rc_10.out.keep b); have Kc_11 := hid (Kc_10.out.keep b); have Rd_11 := hid (Rd.out.keep b); have X_11 := hid (bx_call X_10.out b); obtain ⟨ka0, ka1⟩ := blk_two Ka_11.out; obtain ⟨kb0, kb1⟩ := blk_two Kb_11.out; obtain ⟨kc0, kc1⟩ := blk_two Kc_11.out; clear b Ra_10 Ka_10 Rb_10 Kb_10 Rc_10 Kc_10 Rd X_10)
        | (go_at_call 34; have cc := iadd_any ga Aa na ca _ gc Ac nc cc _ v0.drew (Ra_9.out.keep (bx_drew (bx_refl _))) (by have := la; omega) (Rc_9.out.keep (bx_drew (bx_refl _))) (by have := lc; omega); refine cc.mono ?_; rintro e w10 ⟨Ad, nd, cd, rfl, r, b⟩; clear cc; have ld : nd ≤ 11 := (by rw [← r.1]; exact sz_len (sz_add Za.out Zc.out)); have Rd := hid r; clear r; have Ra_10 := hid (Ra_9.out.keep (bx_call (bx_drew (bx_refl _)) b)); have Ka_10 := hid (Ka_9.out.keep (bx_call (bx_drew (bx_refl _)) b)); have Rb_10 := hid (Rb_9.out.keep (bx_call (bx_drew (bx_refl _)) b)); have Kb_10 := hid (Kb_9.out.keep (bx_call (bx_drew (bx_refl _)) b)); have Rc_10 := hid (Rc_9.out.keep (bx_call (bx_drew (bx_refl _)) b)); have Kc_10 := hid (Kc_9.out.keep (bx_call (bx_drew (bx_refl _)) b)); have X_10 := hid (bx_call X_9.out (bx_call (bx_drew (bx_refl _)) b)); obtain ⟨ka0, ka1⟩ := blk_two Ka_10.out; obtain ⟨kb0, kb1⟩ := blk_two Kb_10.out; obtain ⟨kc0, kc1⟩ := blk_two Kc_10.out; clear b Ra_9 Ka_9 Rb_9 Kb_9 Rc_9 Kc_9 X_9))
    go_wp2_with fail
    go_ret
    exact ⟨rfl, X_19.out⟩
  · have hF := decide_eq_false hf
    clear hf
    go_enter Try.func7, Try.ntmps7
    go_wp2_with fail
    refine (iawake_any _).mono ?_
    rintro e w1 ⟨rfl, b⟩
    have Ra_1 := hid (Ra.out.keep (bx_call X.out b))
    have Ka_1 := hid (Ka.out.keep b)
    have Rb_1 := hid (Rb.out.keep (bx_call X.out b))
    have Kb_1 := hid (Kb.out.keep b)
    have Rc_1 := hid (Rc.out.keep (bx_call X.out b))
    have Kc_1 := hid (Kc.out.keep b)
    have X_1 := hid (bx_call X.out b)
    clear b X Ra Ka Rb Kb Rc Kc
    obtain ⟨ka0, ka1⟩ := blk_two Ka_1.out
    obtain ⟨kb0, kb1⟩ := blk_two Kb_1.out
    obtain ⟨kc0, kc1⟩ := blk_two Kc_1.out
    have cc := ifew3 (Blk.new w1 [.bool ga, .slice Aa na ca, .bool gb, .slice Ab nb cb, .bool gc, .slice Ac nc cc] 25) (by omega) (by omega) (by omega)
    rw [hF] at cc
    have CC := hid cc
    clear cc hF
    go_wp2_with fail
    refine (CC.out).mono ?_
    rintro e w2 ⟨rfl, b0⟩
    have X_2 := hid (bx_call X_1.out (bx_call (bx_alloc (bx_refl w1) (.cells #[.bool ga, .slice Aa na ca, .bool gb, .slice Ab nb cb, .bool gc, .slice Ac nc cc] 25)) b0))
    clear CC b0 X_1
    go_wp2_with fail
    refine (iawake_any _).mono ?_
    rintro e w3 ⟨rfl, b⟩
    have X_3 := hid (bx_call X_2.out b)
    clear X_2 b
    go_wp2_with fail
    go_ret
    exact ⟨rfl, X_3.out⟩

end Go.Proofs.Ytobnbeeaiidpcaa
