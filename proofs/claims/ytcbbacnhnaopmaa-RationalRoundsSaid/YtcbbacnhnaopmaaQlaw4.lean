/- Laws of layer 3, walked by contracts. -/
import Derived.Test.YtcbbacnhnaopmaaQaw
import Derived.Test.YtcbbacnhnaopmaaQsgn
import Derived.Deep.DeepCutAuto
namespace Go.Proofs.Ytcbbacnhnaopmaa
open Go.RowKit

/-- A fraction is stored in its block. -/
theorem rat_made {w W : World} {p k : Nat} {q : Rat} {b0 : Bool} {A A0 D D0 : Option Addr} {n c n0 c0 m d m0 d0 : Nat} (hB : Below w.heap.size w W) (hp : w.heap.size ≤ p)
    (bp : Blk W p [.bool b0, .slice A0 n0 c0, .slice D0 m0 d0] 50) (r : FrL W A n c D m d k q) :
    Blk (((W.setCell ⟨p, 0, none⟩ (.bool (sg q.num))).setCell ⟨p, 1, none⟩ (.slice A n c)).setCell ⟨p, 2, none⟩ (.slice D m d)) p [.bool (sg q.num), .slice A n c, .slice D m d] 50 ∧ FrL (((W.setCell ⟨p, 0, none⟩ (.bool (sg q.num))).setCell ⟨p, 1, none⟩ (.slice A n c)).setCell ⟨p, 2, none⟩ (.slice D m d)) A n c D m d k q ∧
    Below w.heap.size w (((W.setCell ⟨p, 0, none⟩ (.bool (sg q.num))).setCell ⟨p, 1, none⟩ (.slice A n c)).setCell ⟨p, 2, none⟩ (.slice D m d)) :=
  ⟨((bp.set_ 0 _).set_ 1 _).set_ 2 _, ⟨rd_cell_far3 r.1 bp _ _ _, r.2.1, rd_cell_far3 r.2.2.1 bp _ _ _, r.2.2.2⟩, bx_set (bx_set (bx_set hB hp) hp) hp⟩
theorem far_rat {W : World} {p t o q B : Nat} (bp : Blk W p [.bool false, .slice none 0 0, .slice none 0 0] t) (hp : B ≤ p) (ho : o < B) (hq : q < B) :
    (W.cell? ⟨p, 0, none⟩ = some (.bool false) ∧ W.cell? ⟨p, 1, none⟩ = some (.slice none 0 0) ∧ W.cell? ⟨p, 2, none⟩ = some (.slice none 0 0) ∧ W.frozen? ⟨p, 0, none⟩ = false ∧ W.frozen? ⟨p, 1, none⟩ = false ∧ W.frozen? ⟨p, 2, none⟩ = false) ∧ Hid (o ≠ p ∧ q ≠ p) :=
  ⟨⟨Blk.cell bp 0, Blk.cell bp 1, Blk.cell bp 2, Blk.free bp 0, Blk.free bp 1, Blk.free bp 2⟩, hid ⟨by omega, by omega⟩⟩

theorem frl_int {w : World} {A : Option Addr} {n c k : Nat} {z : Int} (h : Rd w A n c (dg z.natAbs)) (hn : n ≤ k) (hk : 1 ≤ k) : FrL w A n c none 0 0 k (z : Rat) := ⟨h, hn, Rd.nil w none, Nat.zero_le _, hk⟩
theorem floor_len {w : World} {g : Bool} {A : Option Addr} {n c : Nat} {D : Option Addr} {m d k : Nat} {q : Rat} (hv : FrV w g A n c D m d k q) : (dg q.floor.natAbs).length ≤ k := by
  obtain ⟨xs, ds, h, hn, kk, hm, h1, rfl⟩ := hv
  rw [floor_mkRat _ (dv1_pos ds)]
  exact Nat.le_trans (dg_len_mono (Int.natAbs_ediv_le_natAbs _ _)) (iv_ln (g := g) h hn)
theorem ceil_len {w : World} {g : Bool} {A : Option Addr} {n c : Nat} {D : Option Addr} {m d k : Nat} {q : Rat} (hv : FrV w g A n c D m d k q) : (dg q.ceil.natAbs).length ≤ k := by
  obtain ⟨xs, ds, h, hn, kk, hm, h1, rfl⟩ := hv
  rw [← ceil_neg_floor, Int.natAbs_neg, Rat.neg_mkRat, floor_mkRat _ (dv1_pos ds)]
  have h3 : ((-iv g xs) / ((dv1 ds : Nat) : Int)).natAbs ≤ (iv g xs).natAbs := by
    rw [← Int.natAbs_neg (iv g xs)]
    exact Int.natAbs_ediv_le_natAbs _ _
  exact Nat.le_trans (dg_len_mono h3) (iv_ln (g := g) h hn)
theorem rd_len {w : World} {A : Option Addr} {n c k : Nat} {z : Int} (h : Rd w A n c (dg z.natAbs)) (hz : (dg z.natAbs).length ≤ k) : n ≤ k := by rw [← h.1]; exact hz
theorem rivalid_true (z : Int) (A : Option Addr) (n c : Nat) (w : World) (h : Rd w A n c (dg z.natAbs)) :
    Calls Try.prog 23 #[.agg #[.bool (sg z), .slice A n c]] w (RetB w true) := by
  have t := rivalid_any (sg z) A n c _ w h
  have e : (fullB (dg z.natAbs) && !(sg z && decide (n = 0))) = true := by
    rw [fullB_dg]
    by_cases hz : z < 0
    · have hn : ¬n = 0 := by
        rw [← h.1]
        have := dg_len_pos (n := z.natAbs) (by omega)
        omega
      rw [decide_eq_false hn, Bool.and_false]
      rfl
    · rw [show sg z = false from decide_eq_false hz]
      rfl
  rwa [e] at t
theorem risame_dec {x y : Int} (A : Option Addr) (n c : Nat) (B : Option Addr) (m d : Nat) (w : World) (h : Rd w A n c (dg x.natAbs)) (k : Rd w B m d (dg y.natAbs)) :
    Calls Try.prog 24 #[.agg #[.bool (sg x), .slice A n c], .agg #[.bool (sg y), .slice B m d]] w (RetB w (decide (x = y))) := by
  have t := risame_any (sg x) A n c _ (sg y) B m d _ w h k
  have e : (decide (sg x = sg y) && decide (dg x.natAbs = dg y.natAbs)) = decide (x = y) := by
    by_cases he : x = y
    · subst he; simp
    · rw [decide_eq_false he]
      by_cases e1 : sg x = sg y
      · by_cases e2 : dg x.natAbs = dg y.natAbs
        · exfalso
          have e4 := dg_inj e2
          unfold sg at e1
          have e6 : x < 0 ↔ y < 0 := by simpa using e1
          exact he (by omega)
        · rw [decide_eq_false e2, Bool.and_false]
      · rw [decide_eq_false e1, Bool.false_and]
  rwa [e] at t
theorem floor_ceil_iff (q : Rat) : (q.floor = q.ceil) ↔ (q.floor : Rat) = q := by
  have h1 := Rat.floor_le q
  have h2 := @Rat.le_ceil q
  constructor
  · intro h
    rw [← h] at h2
    grind
  · intro h
    have : (q.floor : Rat).ceil = q.floor := Rat.ceil_intCast _
    rw [h] at this
    exact this.symm
/-- The blocks of two integers are stored. -/
theorem far_ints {W : World} {p q t o B : Nat} (bp : Blk W p [.bool false, .slice none 0 0] t) (bq : Blk W q [.bool false, .slice none 0 0] t) (hp : B ≤ p) (hq : B ≤ q) (ho : o < B) :
    ((W.cell? ⟨p, 0, none⟩ = some (.bool false) ∧ W.cell? ⟨p, 1, none⟩ = some (.slice none 0 0) ∧ W.frozen? ⟨p, 0, none⟩ = false ∧ W.frozen? ⟨p, 1, none⟩ = false) ∧ (W.cell? ⟨q, 0, none⟩ = some (.bool false) ∧ W.cell? ⟨q, 1, none⟩ = some (.slice none 0 0) ∧ W.frozen? ⟨q, 0, none⟩ = false ∧ W.frozen? ⟨q, 1, none⟩ = false)) ∧ Hid (o ≠ p ∧ o ≠ q) :=
  ⟨⟨⟨Blk.cell bp 0, Blk.cell bp 1, Blk.free bp 0, Blk.free bp 1⟩, ⟨Blk.cell bq 0, Blk.cell bq 1, Blk.free bq 0, Blk.free bq 1⟩⟩, hid ⟨by omega, by omega⟩⟩

/-- A fraction's blocks are stored: two of them. -/
theorem rats_made {w W : World} {p q : Nat} {x0 x1 x2 y0 y1 y2 a0 a1 a2 b0 b1 b2 : Value} (hB : Below w.heap.size w W) (hp : w.heap.size ≤ p) (hq : w.heap.size ≤ q) (ne : p ≠ q)
    (bp : Blk W p [a0, a1, a2] 50) (bq : Blk W q [b0, b1, b2] 50) :
    Blk ((((((W.setCell ⟨p, 0, none⟩ x0).setCell ⟨p, 1, none⟩ x1).setCell ⟨p, 2, none⟩ x2).setCell ⟨q, 0, none⟩ y0).setCell ⟨q, 1, none⟩ y1).setCell ⟨q, 2, none⟩ y2) p [x0, x1, x2] 50 ∧ Blk ((((((W.setCell ⟨p, 0, none⟩ x0).setCell ⟨p, 1, none⟩ x1).setCell ⟨p, 2, none⟩ x2).setCell ⟨q, 0, none⟩ y0).setCell ⟨q, 1, none⟩ y1).setCell ⟨q, 2, none⟩ y2) q [y0, y1, y2] 50 ∧
    Below w.heap.size w ((((((W.setCell ⟨p, 0, none⟩ x0).setCell ⟨p, 1, none⟩ x1).setCell ⟨p, 2, none⟩ x2).setCell ⟨q, 0, none⟩ y0).setCell ⟨q, 1, none⟩ y1).setCell ⟨q, 2, none⟩ y2) :=
  ⟨((((((bp.set_ 0 _).set_ 1 _).set_ 2 _).far ne _).far ne _).far ne _), (((((bq.far (Ne.symm ne) _).far (Ne.symm ne) _).far (Ne.symm ne) _).set_ 0 _).set_ 1 _).set_ 2 _, bx_set (bx_set (bx_set (bx_set (bx_set (bx_set hB hp) hp) hp) hq) hq) hq⟩

set_option maxRecDepth 100000 in
set_option maxHeartbeats 8000000 in
theorem rationalRounds_any (ga : Bool) (Aa : Option Addr) (na ca : Nat) (xsa : List Nat) (Da : Option Addr) (ma da : Nat) (dsa : List Nat) (w : World) (ha : Rd w Aa na ca xsa) (ea : Rd w Da ma da dsa) :
    Calls Try.prog 14 #[.agg #[.bool ga, .slice Aa na ca, .slice Da ma da]] w (RetB w true) := by
  have j1a := ha.2.1
  have j2a := ha.2.2.1
  have j3a := ea.2.1
  have j4a := ea.2.2.1
  have X := hid (bx_alloc (bx_refl w) (.cells #[.bool ga, .slice Aa na ca, .slice Da ma da] 50))
  have Ka : Hid (Blk (w.alloc (.cells #[.bool ga, .slice Aa na ca, .slice Da ma da] 50)) (w.heap.size) [.bool ga, .slice Aa na ca, .slice Da ma da] 50) := hid (by have t := (Blk.new w [.bool ga, .slice Aa na ca, .slice Da ma da] 50); (try simp only [World.size_alloc] at t); exact t)
  have Ra := hid (ha.keep X.out)
  have Sa := hid (ea.keep X.out)
  clear ha ea
  by_cases hf : na ≤ 6 ∧ ma ≤ 6
  · obtain ⟨qa, ua⟩ := hf
    go_enter Try.func14, Try.ntmps14
    go_wp2_with fail
    refine (qawake_any _).mono ?_
    rintro e w1 ⟨rfl, b⟩
    have Ra_1 := hid (Ra.out.keep b)
    have Sa_1 := hid (Sa.out.keep b)
    have Ka_1 := hid (Ka.out.keep b)
    have X_1 := hid (bx_call X.out b)
    clear b X Ra Sa Ka
    obtain ⟨ka0, ka1, ka2⟩ := blk_three Ka_1.out
    have cc := qfew1 (k := 6) (by omega) (Blk.new w1 [.bool ga, .slice Aa na ca, .slice Da ma da] 50) (by omega) (by omega)
    rw [decide_eq_true ⟨qa, ua⟩] at cc
    have CC := hid cc
    clear cc
    go_wp2_with fail
    refine (CC.out).mono ?_
    rintro e w2 ⟨rfl, b0⟩
    have b := bx_call (bx_alloc (bx_refl w1) (.cells #[.bool ga, .slice Aa na ca, .slice Da ma da] 50)) b0
    have Ka_2 := hid (Ka_1.out.keep b)
    obtain ⟨za, hza⟩ : ∃ z, z = mkRat (iv ga xsa) (dv1 dsa) := ⟨_, rfl⟩
    have Va_2 := hid (show FrV w2 ga Aa na ca Da ma da 6 za from ⟨xsa, dsa, Ra_1.out.keep b, qa, Sa_1.out.keep b, ua, by omega, hza.symm⟩)
    have X_2 := hid (bx_call X_1.out b)
    clear CC b b0 X_1 Ra_1 Sa_1 Ka_1 hza ka0 ka1 ka2
    obtain ⟨lo, hlo⟩ : ∃ z, z = za.floor := ⟨_, rfl⟩
    obtain ⟨hi, hhi⟩ : ∃ z, z = za.ceil := ⟨_, rfl⟩
    have llo : (dg lo.natAbs).length ≤ 6 := by rw [hlo]; exact floor_len Va_2.out
    have lhi : (dg hi.natAbs).length ≤ 6 := by rw [hhi]; exact ceil_len Va_2.out
    have HLO := hid hlo
    have HHI := hid hhi
    clear hlo hhi
    have FL := hid (fun (W : World) (hw : Below w2.heap.size w2 W) => vfloor ga Aa na ca Da ma da 6 za W (Va_2.out.keep hw) (by omega))
    have CE := hid (fun (W : World) (hw : Below w2.heap.size w2 W) => vceil ga Aa na ca Da ma da 6 za W (Va_2.out.keep hw) (by omega))
    rw [← HLO.out] at FL
    rw [← HHI.out] at CE
    have nw := hid (show w.heap.size < w2.heap.size from Ka_2.out.lt)
    go_upto_region 3 with fail
    go_cut [3, 4] (fun s3 s4 wx => ∃ (p q : Nat) (A3 : Option Addr) (n3 c3 : Nat) (A4 : Option Addr) (n4 c4 : Nat), s3 = .pointer (some ⟨p, 0, none⟩) ∧ s4 = .pointer (some ⟨q, 0, none⟩) ∧ Hid (Two lo hi p q A3 n3 c3 A4 n4 c4 wx ∧ Below w2.heap.size w2 wx))
    case first =>
       refine wp_region_noPanic ?_
       refine wp_region_held_drew (S := (fun W => W.cell? ⟨w.heap.size, 0, none⟩ = some (.bool ga) ∧ W.cell? ⟨w.heap.size, 1, none⟩ = some (.slice Aa na ca) ∧ W.cell? ⟨w.heap.size, 2, none⟩ = some (.slice Da ma da))) (by kernel_rfl) ?_ (fun hH => ?_)
       exact blk_three Ka_2.out
       refine wpAnyH_take (i := 0) (v := ?_) (by simp only [gx0, gx2]; rfl) (by kernel_rfl) (by kernel_rfl) (by kernel_rfl) (fun _ _ _ h => h) (.inl ⟨by rfl, ?_⟩) hH ?_
       rotate_left
       · intro w hSw; (try dsimp only at hSw); first | (go_simp; done) | (go_simp; with_reducible rfl)
       (try simp only [Act.put, gy0, gy1, gy2])
       refine wpAnyH_take (i := 2) (v := ?_) (by simp only [gx0, gx1, gx2]; rfl) (by kernel_rfl) (by kernel_rfl) (by kernel_rfl) (fun _ _ _ h => h) (.inl ⟨by rfl, ?_⟩) hH ?_
       rotate_left
       · intro w hSw; (try dsimp only at hSw); first | (go_simp; done) | (go_simp; with_reducible rfl)
       (try simp only [Act.put, gy0, gy1, gy2])
       have bd := bx_drew (bx_refl w2)
       obtain ⟨W0, hW0⟩ : ∃ W, W = w2.drew := ⟨_, rfl⟩
       rw [← hW0] at bd hH ⊢
       clear hW0
       have BW_0 := hid bd
       clear bd
       refine wpAnyH_ready (rs := [1, 4, 5]) (by kernel_rfl) (by simp) ?_
       refine AllReadyH.cons (by simp only [gx0, gx1, gx2]; rfl) (fun K hK => ?_) ?_
       go_simp
       refine (FL.out _ BW_0.out).mono ?_
       rintro e W1 ⟨A3, n3, c3, rfl, r3, b⟩
       have R3 := hid r3
       clear r3
       have BW_1 := hid (bx_call BW_0.out b)
       clear BW_0
       have H2 := (And.intro (cell_bx hH.1 b) (And.intro (cell_bx hH.2.1 b) (cell_bx hH.2.2 b)))
       clear hH b
       (try go_wp2_with fail)
       refine hK.out _ _ ?_ (fun hH => ?_)
       exact H2
       clear hK K H2
       (try simp only [Act.put, gy0, gy1, gy2])
       refine wpAnyH_ready (rs := [3, 4, 5]) (by kernel_rfl) (by simp) ?_
       refine AllReadyH.cons (by simp only [gx0, gx1, gx2]; rfl) (fun K hK => ?_) ?_
       go_simp
       refine (CE.out _ BW_1.out).mono ?_
       rintro e W2 ⟨A4, n4, c4, rfl, r4, b⟩
       have R4 := hid r4
       clear r4
       have R3_2 := hid (R3.out.keep b)
       have BW_2 := hid (bx_call BW_1.out b)
       clear R3 BW_1
       have H2 := (And.intro (cell_bx hH.1 b) (And.intro (cell_bx hH.2.1 b) (cell_bx hH.2.2 b)))
       clear hH b
       (try go_wp2_with fail)
       refine hK.out _ _ ?_ (fun hH => ?_)
       exact H2
       clear hK K H2
       (try simp only [Act.put, gy0, gy1, gy2])
       refine wpAnyH_ready (rs := [4, 5]) (by kernel_rfl) (by simp) ?_
       refine AllReadyH.cons (by simp only [gx0, gx1, gx2]; rfl) (fun K hK => ?_) ?_
       go_simp
       obtain ⟨W3, p, hW, hp, b, kk⟩ := mk_int W2
       have gp : w2.heap.size ≤ p := by rw [hp]; exact BW_2.out.size
       rw [← hW, ← hp]
       clear hW hp
       have Kp := hid kk
       clear kk
       have R3_3 := hid (R3_2.out.keep b)
       have R4_3 := hid (R4.out.keep b)
       have BW_3 := hid (bx_call BW_2.out b)
       clear R3_2 R4 BW_2
       have H2 := (And.intro (cell_bx hH.1 b) (And.intro (cell_bx hH.2.1 b) (cell_bx hH.2.2 b)))
       clear hH b
       refine hK.out _ _ ?_ (fun hH => ?_)
       exact H2
       clear hK K H2
       (try simp only [Act.put, gy0, gy1, gy2])
       refine wpAnyH_ready (rs := [5]) (by kernel_rfl) (by simp) ?_
       refine AllReadyH.cons (by simp only [gx0, gx1, gx2]; rfl) (fun K hK => ?_) ?_
       go_simp
       obtain ⟨W4, q, hW, hp, b, kk⟩ := mk_int W3
       have gq : w2.heap.size ≤ q := by rw [hp]; exact BW_3.out.size
       have ne : p ≠ q := by rw [hp]; exact Nat.ne_of_lt Kp.out.lt
       rw [← hW, ← hp]
       clear hW hp
       have Kq := hid kk
       clear kk
       have R3_4 := hid (R3_3.out.keep b)
       have R4_4 := hid (R4_3.out.keep b)
       have Kp_4 := hid (Kp.out.keep b)
       have BW_4 := hid (bx_call BW_3.out b)
       clear R3_3 R4_3 Kp BW_3
       have H2 := (And.intro (cell_bx hH.1 b) (And.intro (cell_bx hH.2.1 b) (cell_bx hH.2.2 b)))
       clear hH b
       refine hK.out _ _ ?_ (fun hH => ?_)
       exact H2
       clear hK K H2
       (try simp only [Act.put, gy0, gy1, gy2])
       have ne2 := Ne.symm ne
       have TM := hid (two_made (z1 := lo) (z2 := hi) BW_4.out gp gq ne rfl rfl Kp_4.out Kq.out R3_4.out R4_4.out)
       obtain ⟨⟨⟨a1, a2, a3, a4⟩, ⟨d1, d2, d3, d4⟩⟩, O⟩ := far_ints Kp_4.out Kq.out gp gq nw.out
       refine wpAnyH_ready (rs := [6]) (by kernel_rfl) (by simp) ?_
       refine AllReadyH.cons (by simp only [gx0, gx1, gx2]; rfl) (fun K hK => ?_) AllReadyH.nil
       go_simp
       refine hK.out _ _ (And.intro (cell_fr (cell_fr hH.1 O.out.1) O.out.1) (And.intro (cell_fr (cell_fr hH.2.1 O.out.1) O.out.1) (cell_fr (cell_fr hH.2.2 O.out.1) O.out.1))) (fun hH2 => ?_)
       clear hK K hH
       (try simp only [Act.put, gy0, gy1, gy2])
       refine wpAnyH_ready (rs := [7]) (by kernel_rfl) (by simp) ?_
       refine AllReadyH.cons (by simp only [gx0, gx1, gx2]; rfl) (fun K hK => ?_) AllReadyH.nil
       go_simp
       refine hK.out _ _ (And.intro (cell_fr (cell_fr hH2.1 O.out.2) O.out.2) (And.intro (cell_fr (cell_fr hH2.2.1 O.out.2) O.out.2) (cell_fr (cell_fr hH2.2.2 O.out.2) O.out.2))) (fun hH => ?_)
       clear hK K hH hH2 a1 a2 a3 a4 d1 d2 d3 d4
       refine wpAnyH_done (by kernel_rfl) ?_ _
       refine NoPanic.normal ?_
       go_wp2_with fail
       go_meet
       exact ⟨p, q, A3, n3, c3, A4, n4, c4, rfl, rfl, hid ⟨TM.out.1, TM.out.2⟩⟩
       exact AllReadyH.nil
       refine AllReadyH.cons (by simp only [gx0, gx1, gx2]; rfl) (fun K hK => ?_) ?_
       go_simp
       obtain ⟨W3, q, hW, hp, b, kk⟩ := mk_int W2
       have gq : w2.heap.size ≤ q := by rw [hp]; exact BW_2.out.size
       rw [← hW, ← hp]
       clear hW hp
       have Kq := hid kk
       clear kk
       have R3_3 := hid (R3_2.out.keep b)
       have R4_3 := hid (R4.out.keep b)
       have BW_3 := hid (bx_call BW_2.out b)
       clear R3_2 R4 BW_2
       have H2 := (And.intro (cell_bx hH.1 b) (And.intro (cell_bx hH.2.1 b) (cell_bx hH.2.2 b)))
       clear hH b
       refine hK.out _ _ ?_ (fun hH => ?_)
       exact H2
       clear hK K H2
       (try simp only [Act.put, gy0, gy1, gy2])
       refine wpAnyH_ready (rs := [4]) (by kernel_rfl) (by simp) ?_
       refine AllReadyH.cons (by simp only [gx0, gx1, gx2]; rfl) (fun K hK => ?_) ?_
       go_simp
       obtain ⟨W4, p, hW, hp, b, kk⟩ := mk_int W3
       have gp : w2.heap.size ≤ p := by rw [hp]; exact BW_3.out.size
       have ne : p ≠ q := by rw [hp]; exact Nat.ne_of_gt Kq.out.lt
       rw [← hW, ← hp]
       clear hW hp
       have Kp := hid kk
       clear kk
       have R3_4 := hid (R3_3.out.keep b)
       have R4_4 := hid (R4_3.out.keep b)
       have Kq_4 := hid (Kq.out.keep b)
       have BW_4 := hid (bx_call BW_3.out b)
       clear R3_3 R4_3 Kq BW_3
       have H2 := (And.intro (cell_bx hH.1 b) (And.intro (cell_bx hH.2.1 b) (cell_bx hH.2.2 b)))
       clear hH b
       refine hK.out _ _ ?_ (fun hH => ?_)
       exact H2
       clear hK K H2
       (try simp only [Act.put, gy0, gy1, gy2])
       have ne2 := Ne.symm ne
       have TM := hid (two_made (z1 := lo) (z2 := hi) BW_4.out gp gq ne rfl rfl Kp.out Kq_4.out R3_4.out R4_4.out)
       obtain ⟨⟨⟨a1, a2, a3, a4⟩, ⟨d1, d2, d3, d4⟩⟩, O⟩ := far_ints Kp.out Kq_4.out gp gq nw.out
       refine wpAnyH_ready (rs := [6]) (by kernel_rfl) (by simp) ?_
       refine AllReadyH.cons (by simp only [gx0, gx1, gx2]; rfl) (fun K hK => ?_) AllReadyH.nil
       go_simp
       refine hK.out _ _ (And.intro (cell_fr (cell_fr hH.1 O.out.1) O.out.1) (And.intro (cell_fr (cell_fr hH.2.1 O.out.1) O.out.1) (cell_fr (cell_fr hH.2.2 O.out.1) O.out.1))) (fun hH2 => ?_)
       clear hK K hH
       (try simp only [Act.put, gy0, gy1, gy2])
       refine wpAnyH_ready (rs := [7]) (by kernel_rfl) (by simp) ?_
       refine AllReadyH.cons (by simp only [gx0, gx1, gx2]; rfl) (fun K hK => ?_) AllReadyH.nil
       go_simp
       refine hK.out _ _ (And.intro (cell_fr (cell_fr hH2.1 O.out.2) O.out.2) (And.intro (cell_fr (cell_fr hH2.2.1 O.out.2) O.out.2) (cell_fr (cell_fr hH2.2.2 O.out.2) O.out.2))) (fun hH => ?_)
       clear hK K hH hH2 a1 a2 a3 a4 d1 d2 d3 d4
       refine wpAnyH_done (by kernel_rfl) ?_ _
       refine NoPanic.normal ?_
       go_wp2_with fail
       go_meet
       exact ⟨p, q, A3, n3, c3, A4, n4, c4, rfl, rfl, hid ⟨TM.out.1, TM.out.2⟩⟩
       exact AllReadyH.nil
       exact AllReadyH.nil
       refine AllReadyH.cons (by simp only [gx0, gx1, gx2]; rfl) (fun K hK => ?_) ?_
       go_simp
       obtain ⟨W2, p, hW, hp, b, kk⟩ := mk_int W1
       have gp : w2.heap.size ≤ p := by rw [hp]; exact BW_1.out.size
       rw [← hW, ← hp]
       clear hW hp
       have Kp := hid kk
       clear kk
       have R3_2 := hid (R3.out.keep b)
       have BW_2 := hid (bx_call BW_1.out b)
       clear R3 BW_1
       have H2 := (And.intro (cell_bx hH.1 b) (And.intro (cell_bx hH.2.1 b) (cell_bx hH.2.2 b)))
       clear hH b
       refine hK.out _ _ ?_ (fun hH => ?_)
       exact H2
       clear hK K H2
       (try simp only [Act.put, gy0, gy1, gy2])
       refine wpAnyH_ready (rs := [3, 5]) (by kernel_rfl) (by simp) ?_
       refine AllReadyH.cons (by simp only [gx0, gx1, gx2]; rfl) (fun K hK => ?_) ?_
       go_simp
       refine (CE.out _ BW_2.out).mono ?_
       rintro e W3 ⟨A4, n4, c4, rfl, r4, b⟩
       have R4 := hid r4
       clear r4
       have R3_3 := hid (R3_2.out.keep b)
       have Kp_3 := hid (Kp.out.keep b)
       have BW_3 := hid (bx_call BW_2.out b)
       clear R3_2 Kp BW_2
       have H2 := (And.intro (cell_bx hH.1 b) (And.intro (cell_bx hH.2.1 b) (cell_bx hH.2.2 b)))
       clear hH b
       (try go_wp2_with fail)
       refine hK.out _ _ ?_ (fun hH => ?_)
       exact H2
       clear hK K H2
       (try simp only [Act.put, gy0, gy1, gy2])
       refine wpAnyH_ready (rs := [5]) (by kernel_rfl) (by simp) ?_
       refine AllReadyH.cons (by simp only [gx0, gx1, gx2]; rfl) (fun K hK => ?_) ?_
       go_simp
       obtain ⟨W4, q, hW, hp, b, kk⟩ := mk_int W3
       have gq : w2.heap.size ≤ q := by rw [hp]; exact BW_3.out.size
       have ne : p ≠ q := by rw [hp]; exact Nat.ne_of_lt Kp_3.out.lt
       rw [← hW, ← hp]
       clear hW hp
       have Kq := hid kk
       clear kk
       have R3_4 := hid (R3_3.out.keep b)
       have Kp_4 := hid (Kp_3.out.keep b)
       have R4_4 := hid (R4.out.keep b)
       have BW_4 := hid (bx_call BW_3.out b)
       clear R3_3 Kp_3 R4 BW_3
       have H2 := (And.intro (cell_bx hH.1 b) (And.intro (cell_bx hH.2.1 b) (cell_bx hH.2.2 b)))
       clear hH b
       refine hK.out _ _ ?_ (fun hH => ?_)
       exact H2
       clear hK K H2
       (try simp only [Act.put, gy0, gy1, gy2])
       have ne2 := Ne.symm ne
       have TM := hid (two_made (z1 := lo) (z2 := hi) BW_4.out gp gq ne rfl rfl Kp_4.out Kq.out R3_4.out R4_4.out)
       obtain ⟨⟨⟨a1, a2, a3, a4⟩, ⟨d1, d2, d3, d4⟩⟩, O⟩ := far_ints Kp_4.out Kq.out gp gq nw.out
       refine wpAnyH_ready (rs := [6]) (by kernel_rfl) (by simp) ?_
       refine AllReadyH.cons (by simp only [gx0, gx1, gx2]; rfl) (fun K hK => ?_) AllReadyH.nil
       go_simp
       refine hK.out _ _ (And.intro (cell_fr (cell_fr hH.1 O.out.1) O.out.1) (And.intro (cell_fr (cell_fr hH.2.1 O.out.1) O.out.1) (cell_fr (cell_fr hH.2.2 O.out.1) O.out.1))) (fun hH2 => ?_)
       clear hK K hH
       (try simp only [Act.put, gy0, gy1, gy2])
       refine wpAnyH_ready (rs := [7]) (by kernel_rfl) (by simp) ?_
       refine AllReadyH.cons (by simp only [gx0, gx1, gx2]; rfl) (fun K hK => ?_) AllReadyH.nil
       go_simp
       refine hK.out _ _ (And.intro (cell_fr (cell_fr hH2.1 O.out.2) O.out.2) (And.intro (cell_fr (cell_fr hH2.2.1 O.out.2) O.out.2) (cell_fr (cell_fr hH2.2.2 O.out.2) O.out.2))) (fun hH => ?_)
       clear hK K hH hH2 a1 a2 a3 a4 d1 d2 d3 d4
       refine wpAnyH_done (by kernel_rfl) ?_ _
       refine NoPanic.normal ?_
       go_wp2_with fail
       go_meet
       exact ⟨p, q, A3, n3, c3, A4, n4, c4, rfl, rfl, hid ⟨TM.out.1, TM.out.2⟩⟩
       exact AllReadyH.nil
       refine AllReadyH.cons (by simp only [gx0, gx1, gx2]; rfl) (fun K hK => ?_) ?_
       go_simp
       obtain ⟨W3, q, hW, hp, b, kk⟩ := mk_int W2
       have gq : w2.heap.size ≤ q := by rw [hp]; exact BW_2.out.size
       have ne : p ≠ q := by rw [hp]; exact Nat.ne_of_lt Kp.out.lt
       rw [← hW, ← hp]
       clear hW hp
       have Kq := hid kk
       clear kk
       have R3_3 := hid (R3_2.out.keep b)
       have Kp_3 := hid (Kp.out.keep b)
       have BW_3 := hid (bx_call BW_2.out b)
       clear R3_2 Kp BW_2
       have H2 := (And.intro (cell_bx hH.1 b) (And.intro (cell_bx hH.2.1 b) (cell_bx hH.2.2 b)))
       clear hH b
       refine hK.out _ _ ?_ (fun hH => ?_)
       exact H2
       clear hK K H2
       (try simp only [Act.put, gy0, gy1, gy2])
       refine wpAnyH_ready (rs := [3]) (by kernel_rfl) (by simp) ?_
       refine AllReadyH.cons (by simp only [gx0, gx1, gx2]; rfl) (fun K hK => ?_) ?_
       go_simp
       refine (CE.out _ BW_3.out).mono ?_
       rintro e W4 ⟨A4, n4, c4, rfl, r4, b⟩
       have R4 := hid r4
       clear r4
       have R3_4 := hid (R3_3.out.keep b)
       have Kp_4 := hid (Kp_3.out.keep b)
       have Kq_4 := hid (Kq.out.keep b)
       have BW_4 := hid (bx_call BW_3.out b)
       clear R3_3 Kp_3 Kq BW_3
       have H2 := (And.intro (cell_bx hH.1 b) (And.intro (cell_bx hH.2.1 b) (cell_bx hH.2.2 b)))
       clear hH b
       (try go_wp2_with fail)
       refine hK.out _ _ ?_ (fun hH => ?_)
       exact H2
       clear hK K H2
       (try simp only [Act.put, gy0, gy1, gy2])
       have ne2 := Ne.symm ne
       have TM := hid (two_made (z1 := lo) (z2 := hi) BW_4.out gp gq ne rfl rfl Kp_4.out Kq_4.out R3_4.out R4.out)
       obtain ⟨⟨⟨a1, a2, a3, a4⟩, ⟨d1, d2, d3, d4⟩⟩, O⟩ := far_ints Kp_4.out Kq_4.out gp gq nw.out
       refine wpAnyH_ready (rs := [6]) (by kernel_rfl) (by simp) ?_
       refine AllReadyH.cons (by simp only [gx0, gx1, gx2]; rfl) (fun K hK => ?_) AllReadyH.nil
       go_simp
       refine hK.out _ _ (And.intro (cell_fr (cell_fr hH.1 O.out.1) O.out.1) (And.intro (cell_fr (cell_fr hH.2.1 O.out.1) O.out.1) (cell_fr (cell_fr hH.2.2 O.out.1) O.out.1))) (fun hH2 => ?_)
       clear hK K hH
       (try simp only [Act.put, gy0, gy1, gy2])
       refine wpAnyH_ready (rs := [7]) (by kernel_rfl) (by simp) ?_
       refine AllReadyH.cons (by simp only [gx0, gx1, gx2]; rfl) (fun K hK => ?_) AllReadyH.nil
       go_simp
       refine hK.out _ _ (And.intro (cell_fr (cell_fr hH2.1 O.out.2) O.out.2) (And.intro (cell_fr (cell_fr hH2.2.1 O.out.2) O.out.2) (cell_fr (cell_fr hH2.2.2 O.out.2) O.out.2))) (fun hH => ?_)
       clear hK K hH hH2 a1 a2 a3 a4 d1 d2 d3 d4
       refine wpAnyH_done (by kernel_rfl) ?_ _
       refine NoPanic.normal ?_
       go_wp2_with fail
       go_meet
       exact ⟨p, q, A3, n3, c3, A4, n4, c4, rfl, rfl, hid ⟨TM.out.1, TM.out.2⟩⟩
       exact AllReadyH.nil
       exact AllReadyH.nil
       refine AllReadyH.cons (by simp only [gx0, gx1, gx2]; rfl) (fun K hK => ?_) ?_
       go_simp
       obtain ⟨W2, q, hW, hp, b, kk⟩ := mk_int W1
       have gq : w2.heap.size ≤ q := by rw [hp]; exact BW_1.out.size
       rw [← hW, ← hp]
       clear hW hp
       have Kq := hid kk
       clear kk
       have R3_2 := hid (R3.out.keep b)
       have BW_2 := hid (bx_call BW_1.out b)
       clear R3 BW_1
       have H2 := (And.intro (cell_bx hH.1 b) (And.intro (cell_bx hH.2.1 b) (cell_bx hH.2.2 b)))
       clear hH b
       refine hK.out _ _ ?_ (fun hH => ?_)
       exact H2
       clear hK K H2
       (try simp only [Act.put, gy0, gy1, gy2])
       refine wpAnyH_ready (rs := [3, 4]) (by kernel_rfl) (by simp) ?_
       refine AllReadyH.cons (by simp only [gx0, gx1, gx2]; rfl) (fun K hK => ?_) ?_
       go_simp
       refine (CE.out _ BW_2.out).mono ?_
       rintro e W3 ⟨A4, n4, c4, rfl, r4, b⟩
       have R4 := hid r4
       clear r4
       have R3_3 := hid (R3_2.out.keep b)
       have Kq_3 := hid (Kq.out.keep b)
       have BW_3 := hid (bx_call BW_2.out b)
       clear R3_2 Kq BW_2
       have H2 := (And.intro (cell_bx hH.1 b) (And.intro (cell_bx hH.2.1 b) (cell_bx hH.2.2 b)))
       clear hH b
       (try go_wp2_with fail)
       refine hK.out _ _ ?_ (fun hH => ?_)
       exact H2
       clear hK K H2
       (try simp only [Act.put, gy0, gy1, gy2])
       refine wpAnyH_ready (rs := [4]) (by kernel_rfl) (by simp) ?_
       refine AllReadyH.cons (by simp only [gx0, gx1, gx2]; rfl) (fun K hK => ?_) ?_
       go_simp
       obtain ⟨W4, p, hW, hp, b, kk⟩ := mk_int W3
       have gp : w2.heap.size ≤ p := by rw [hp]; exact BW_3.out.size
       have ne : p ≠ q := by rw [hp]; exact Nat.ne_of_gt Kq_3.out.lt
       rw [← hW, ← hp]
       clear hW hp
       have Kp := hid kk
       clear kk
       have R3_4 := hid (R3_3.out.keep b)
       have Kq_4 := hid (Kq_3.out.keep b)
       have R4_4 := hid (R4.out.keep b)
       have BW_4 := hid (bx_call BW_3.out b)
       clear R3_3 Kq_3 R4 BW_3
       have H2 := (And.intro (cell_bx hH.1 b) (And.intro (cell_bx hH.2.1 b) (cell_bx hH.2.2 b)))
       clear hH b
       refine hK.out _ _ ?_ (fun hH => ?_)
       exact H2
       clear hK K H2
       (try simp only [Act.put, gy0, gy1, gy2])
       have ne2 := Ne.symm ne
       have TM := hid (two_made (z1 := lo) (z2 := hi) BW_4.out gp gq ne rfl rfl Kp.out Kq_4.out R3_4.out R4_4.out)
       obtain ⟨⟨⟨a1, a2, a3, a4⟩, ⟨d1, d2, d3, d4⟩⟩, O⟩ := far_ints Kp.out Kq_4.out gp gq nw.out
       refine wpAnyH_ready (rs := [6]) (by kernel_rfl) (by simp) ?_
       refine AllReadyH.cons (by simp only [gx0, gx1, gx2]; rfl) (fun K hK => ?_) AllReadyH.nil
       go_simp
       refine hK.out _ _ (And.intro (cell_fr (cell_fr hH.1 O.out.1) O.out.1) (And.intro (cell_fr (cell_fr hH.2.1 O.out.1) O.out.1) (cell_fr (cell_fr hH.2.2 O.out.1) O.out.1))) (fun hH2 => ?_)
       clear hK K hH
       (try simp only [Act.put, gy0, gy1, gy2])
       refine wpAnyH_ready (rs := [7]) (by kernel_rfl) (by simp) ?_
       refine AllReadyH.cons (by simp only [gx0, gx1, gx2]; rfl) (fun K hK => ?_) AllReadyH.nil
       go_simp
       refine hK.out _ _ (And.intro (cell_fr (cell_fr hH2.1 O.out.2) O.out.2) (And.intro (cell_fr (cell_fr hH2.2.1 O.out.2) O.out.2) (cell_fr (cell_fr hH2.2.2 O.out.2) O.out.2))) (fun hH => ?_)
       clear hK K hH hH2 a1 a2 a3 a4 d1 d2 d3 d4
       refine wpAnyH_done (by kernel_rfl) ?_ _
       refine NoPanic.normal ?_
       go_wp2_with fail
       go_meet
       exact ⟨p, q, A3, n3, c3, A4, n4, c4, rfl, rfl, hid ⟨TM.out.1, TM.out.2⟩⟩
       exact AllReadyH.nil
       refine AllReadyH.cons (by simp only [gx0, gx1, gx2]; rfl) (fun K hK => ?_) ?_
       go_simp
       obtain ⟨W3, p, hW, hp, b, kk⟩ := mk_int W2
       have gp : w2.heap.size ≤ p := by rw [hp]; exact BW_2.out.size
       have ne : p ≠ q := by rw [hp]; exact Nat.ne_of_gt Kq.out.lt
       rw [← hW, ← hp]
       clear hW hp
       have Kp := hid kk
       clear kk
       have R3_3 := hid (R3_2.out.keep b)
       have Kq_3 := hid (Kq.out.keep b)
       have BW_3 := hid (bx_call BW_2.out b)
       clear R3_2 Kq BW_2
       have H2 := (And.intro (cell_bx hH.1 b) (And.intro (cell_bx hH.2.1 b) (cell_bx hH.2.2 b)))
       clear hH b
       refine hK.out _ _ ?_ (fun hH => ?_)
       exact H2
       clear hK K H2
       (try simp only [Act.put, gy0, gy1, gy2])
       refine wpAnyH_ready (rs := [3]) (by kernel_rfl) (by simp) ?_
       refine AllReadyH.cons (by simp only [gx0, gx1, gx2]; rfl) (fun K hK => ?_) ?_
       go_simp
       refine (CE.out _ BW_3.out).mono ?_
       rintro e W4 ⟨A4, n4, c4, rfl, r4, b⟩
       have R4 := hid r4
       clear r4
       have R3_4 := hid (R3_3.out.keep b)
       have Kq_4 := hid (Kq_3.out.keep b)
       have Kp_4 := hid (Kp.out.keep b)
       have BW_4 := hid (bx_call BW_3.out b)
       clear R3_3 Kq_3 Kp BW_3
       have H2 := (And.intro (cell_bx hH.1 b) (And.intro (cell_bx hH.2.1 b) (cell_bx hH.2.2 b)))
       clear hH b
       (try go_wp2_with fail)
       refine hK.out _ _ ?_ (fun hH => ?_)
       exact H2
       clear hK K H2
       (try simp only [Act.put, gy0, gy1, gy2])
       have ne2 := Ne.symm ne
       have TM := hid (two_made (z1 := lo) (z2 := hi) BW_4.out gp gq ne rfl rfl Kp_4.out Kq_4.out R3_4.out R4.out)
       obtain ⟨⟨⟨a1, a2, a3, a4⟩, ⟨d1, d2, d3, d4⟩⟩, O⟩ := far_ints Kp_4.out Kq_4.out gp gq nw.out
       refine wpAnyH_ready (rs := [6]) (by kernel_rfl) (by simp) ?_
       refine AllReadyH.cons (by simp only [gx0, gx1, gx2]; rfl) (fun K hK => ?_) AllReadyH.nil
       go_simp
       refine hK.out _ _ (And.intro (cell_fr (cell_fr hH.1 O.out.1) O.out.1) (And.intro (cell_fr (cell_fr hH.2.1 O.out.1) O.out.1) (cell_fr (cell_fr hH.2.2 O.out.1) O.out.1))) (fun hH2 => ?_)
       clear hK K hH
       (try simp only [Act.put, gy0, gy1, gy2])
       refine wpAnyH_ready (rs := [7]) (by kernel_rfl) (by simp) ?_
       refine AllReadyH.cons (by simp only [gx0, gx1, gx2]; rfl) (fun K hK => ?_) AllReadyH.nil
       go_simp
       refine hK.out _ _ (And.intro (cell_fr (cell_fr hH2.1 O.out.2) O.out.2) (And.intro (cell_fr (cell_fr hH2.2.1 O.out.2) O.out.2) (cell_fr (cell_fr hH2.2.2 O.out.2) O.out.2))) (fun hH => ?_)
       clear hK K hH hH2 a1 a2 a3 a4 d1 d2 d3 d4
       refine wpAnyH_done (by kernel_rfl) ?_ _
       refine NoPanic.normal ?_
       go_wp2_with fail
       go_meet
       exact ⟨p, q, A3, n3, c3, A4, n4, c4, rfl, rfl, hid ⟨TM.out.1, TM.out.2⟩⟩
       exact AllReadyH.nil
       exact AllReadyH.nil
       exact AllReadyH.nil
       refine AllReadyH.cons (by simp only [gx0, gx1, gx2]; rfl) (fun K hK => ?_) ?_
       go_simp
       obtain ⟨W1, p, hW, hp, b, kk⟩ := mk_int W0
       have gp : w2.heap.size ≤ p := by rw [hp]; exact BW_0.out.size
       rw [← hW, ← hp]
       clear hW hp
       have Kp := hid kk
       clear kk
       have BW_1 := hid (bx_call BW_0.out b)
       clear BW_0
       have H2 := (And.intro (cell_bx hH.1 b) (And.intro (cell_bx hH.2.1 b) (cell_bx hH.2.2 b)))
       clear hH b
       refine hK.out _ _ ?_ (fun hH => ?_)
       exact H2
       clear hK K H2
       (try simp only [Act.put, gy0, gy1, gy2])
       refine wpAnyH_ready (rs := [1, 5]) (by kernel_rfl) (by simp) ?_
       refine AllReadyH.cons (by simp only [gx0, gx1, gx2]; rfl) (fun K hK => ?_) ?_
       go_simp
       refine (FL.out _ BW_1.out).mono ?_
       rintro e W2 ⟨A3, n3, c3, rfl, r3, b⟩
       have R3 := hid r3
       clear r3
       have Kp_2 := hid (Kp.out.keep b)
       have BW_2 := hid (bx_call BW_1.out b)
       clear Kp BW_1
       have H2 := (And.intro (cell_bx hH.1 b) (And.intro (cell_bx hH.2.1 b) (cell_bx hH.2.2 b)))
       clear hH b
       (try go_wp2_with fail)
       refine hK.out _ _ ?_ (fun hH => ?_)
       exact H2
       clear hK K H2
       (try simp only [Act.put, gy0, gy1, gy2])
       refine wpAnyH_ready (rs := [3, 5]) (by kernel_rfl) (by simp) ?_
       refine AllReadyH.cons (by simp only [gx0, gx1, gx2]; rfl) (fun K hK => ?_) ?_
       go_simp
       refine (CE.out _ BW_2.out).mono ?_
       rintro e W3 ⟨A4, n4, c4, rfl, r4, b⟩
       have R4 := hid r4
       clear r4
       have Kp_3 := hid (Kp_2.out.keep b)
       have R3_3 := hid (R3.out.keep b)
       have BW_3 := hid (bx_call BW_2.out b)
       clear Kp_2 R3 BW_2
       have H2 := (And.intro (cell_bx hH.1 b) (And.intro (cell_bx hH.2.1 b) (cell_bx hH.2.2 b)))
       clear hH b
       (try go_wp2_with fail)
       refine hK.out _ _ ?_ (fun hH => ?_)
       exact H2
       clear hK K H2
       (try simp only [Act.put, gy0, gy1, gy2])
       refine wpAnyH_ready (rs := [5]) (by kernel_rfl) (by simp) ?_
       refine AllReadyH.cons (by simp only [gx0, gx1, gx2]; rfl) (fun K hK => ?_) ?_
       go_simp
       obtain ⟨W4, q, hW, hp, b, kk⟩ := mk_int W3
       have gq : w2.heap.size ≤ q := by rw [hp]; exact BW_3.out.size
       have ne : p ≠ q := by rw [hp]; exact Nat.ne_of_lt Kp_3.out.lt
       rw [← hW, ← hp]
       clear hW hp
       have Kq := hid kk
       clear kk
       have Kp_4 := hid (Kp_3.out.keep b)
       have R3_4 := hid (R3_3.out.keep b)
       have R4_4 := hid (R4.out.keep b)
       have BW_4 := hid (bx_call BW_3.out b)
       clear Kp_3 R3_3 R4 BW_3
       have H2 := (And.intro (cell_bx hH.1 b) (And.intro (cell_bx hH.2.1 b) (cell_bx hH.2.2 b)))
       clear hH b
       refine hK.out _ _ ?_ (fun hH => ?_)
       exact H2
       clear hK K H2
       (try simp only [Act.put, gy0, gy1, gy2])
       have ne2 := Ne.symm ne
       have TM := hid (two_made (z1 := lo) (z2 := hi) BW_4.out gp gq ne rfl rfl Kp_4.out Kq.out R3_4.out R4_4.out)
       obtain ⟨⟨⟨a1, a2, a3, a4⟩, ⟨d1, d2, d3, d4⟩⟩, O⟩ := far_ints Kp_4.out Kq.out gp gq nw.out
       refine wpAnyH_ready (rs := [6]) (by kernel_rfl) (by simp) ?_
       refine AllReadyH.cons (by simp only [gx0, gx1, gx2]; rfl) (fun K hK => ?_) AllReadyH.nil
       go_simp
       refine hK.out _ _ (And.intro (cell_fr (cell_fr hH.1 O.out.1) O.out.1) (And.intro (cell_fr (cell_fr hH.2.1 O.out.1) O.out.1) (cell_fr (cell_fr hH.2.2 O.out.1) O.out.1))) (fun hH2 => ?_)
       clear hK K hH
       (try simp only [Act.put, gy0, gy1, gy2])
       refine wpAnyH_ready (rs := [7]) (by kernel_rfl) (by simp) ?_
       refine AllReadyH.cons (by simp only [gx0, gx1, gx2]; rfl) (fun K hK => ?_) AllReadyH.nil
       go_simp
       refine hK.out _ _ (And.intro (cell_fr (cell_fr hH2.1 O.out.2) O.out.2) (And.intro (cell_fr (cell_fr hH2.2.1 O.out.2) O.out.2) (cell_fr (cell_fr hH2.2.2 O.out.2) O.out.2))) (fun hH => ?_)
       clear hK K hH hH2 a1 a2 a3 a4 d1 d2 d3 d4
       refine wpAnyH_done (by kernel_rfl) ?_ _
       refine NoPanic.normal ?_
       go_wp2_with fail
       go_meet
       exact ⟨p, q, A3, n3, c3, A4, n4, c4, rfl, rfl, hid ⟨TM.out.1, TM.out.2⟩⟩
       exact AllReadyH.nil
       refine AllReadyH.cons (by simp only [gx0, gx1, gx2]; rfl) (fun K hK => ?_) ?_
       go_simp
       obtain ⟨W3, q, hW, hp, b, kk⟩ := mk_int W2
       have gq : w2.heap.size ≤ q := by rw [hp]; exact BW_2.out.size
       have ne : p ≠ q := by rw [hp]; exact Nat.ne_of_lt Kp_2.out.lt
       rw [← hW, ← hp]
       clear hW hp
       have Kq := hid kk
       clear kk
       have Kp_3 := hid (Kp_2.out.keep b)
       have R3_3 := hid (R3.out.keep b)
       have BW_3 := hid (bx_call BW_2.out b)
       clear Kp_2 R3 BW_2
       have H2 := (And.intro (cell_bx hH.1 b) (And.intro (cell_bx hH.2.1 b) (cell_bx hH.2.2 b)))
       clear hH b
       refine hK.out _ _ ?_ (fun hH => ?_)
       exact H2
       clear hK K H2
       (try simp only [Act.put, gy0, gy1, gy2])
       refine wpAnyH_ready (rs := [3]) (by kernel_rfl) (by simp) ?_
       refine AllReadyH.cons (by simp only [gx0, gx1, gx2]; rfl) (fun K hK => ?_) ?_
       go_simp
       refine (CE.out _ BW_3.out).mono ?_
       rintro e W4 ⟨A4, n4, c4, rfl, r4, b⟩
       have R4 := hid r4
       clear r4
       have Kp_4 := hid (Kp_3.out.keep b)
       have R3_4 := hid (R3_3.out.keep b)
       have Kq_4 := hid (Kq.out.keep b)
       have BW_4 := hid (bx_call BW_3.out b)
       clear Kp_3 R3_3 Kq BW_3
       have H2 := (And.intro (cell_bx hH.1 b) (And.intro (cell_bx hH.2.1 b) (cell_bx hH.2.2 b)))
       clear hH b
       (try go_wp2_with fail)
       refine hK.out _ _ ?_ (fun hH => ?_)
       exact H2
       clear hK K H2
       (try simp only [Act.put, gy0, gy1, gy2])
       have ne2 := Ne.symm ne
       have TM := hid (two_made (z1 := lo) (z2 := hi) BW_4.out gp gq ne rfl rfl Kp_4.out Kq_4.out R3_4.out R4.out)
       obtain ⟨⟨⟨a1, a2, a3, a4⟩, ⟨d1, d2, d3, d4⟩⟩, O⟩ := far_ints Kp_4.out Kq_4.out gp gq nw.out
       refine wpAnyH_ready (rs := [6]) (by kernel_rfl) (by simp) ?_
       refine AllReadyH.cons (by simp only [gx0, gx1, gx2]; rfl) (fun K hK => ?_) AllReadyH.nil
       go_simp
       refine hK.out _ _ (And.intro (cell_fr (cell_fr hH.1 O.out.1) O.out.1) (And.intro (cell_fr (cell_fr hH.2.1 O.out.1) O.out.1) (cell_fr (cell_fr hH.2.2 O.out.1) O.out.1))) (fun hH2 => ?_)
       clear hK K hH
       (try simp only [Act.put, gy0, gy1, gy2])
       refine wpAnyH_ready (rs := [7]) (by kernel_rfl) (by simp) ?_
       refine AllReadyH.cons (by simp only [gx0, gx1, gx2]; rfl) (fun K hK => ?_) AllReadyH.nil
       go_simp
       refine hK.out _ _ (And.intro (cell_fr (cell_fr hH2.1 O.out.2) O.out.2) (And.intro (cell_fr (cell_fr hH2.2.1 O.out.2) O.out.2) (cell_fr (cell_fr hH2.2.2 O.out.2) O.out.2))) (fun hH => ?_)
       clear hK K hH hH2 a1 a2 a3 a4 d1 d2 d3 d4
       refine wpAnyH_done (by kernel_rfl) ?_ _
       refine NoPanic.normal ?_
       go_wp2_with fail
       go_meet
       exact ⟨p, q, A3, n3, c3, A4, n4, c4, rfl, rfl, hid ⟨TM.out.1, TM.out.2⟩⟩
       exact AllReadyH.nil
       exact AllReadyH.nil
       refine AllReadyH.cons (by simp only [gx0, gx1, gx2]; rfl) (fun K hK => ?_) ?_
       go_simp
       obtain ⟨W2, q, hW, hp, b, kk⟩ := mk_int W1
       have gq : w2.heap.size ≤ q := by rw [hp]; exact BW_1.out.size
       have ne : p ≠ q := by rw [hp]; exact Nat.ne_of_lt Kp.out.lt
       rw [← hW, ← hp]
       clear hW hp
       have Kq := hid kk
       clear kk
       have Kp_2 := hid (Kp.out.keep b)
       have BW_2 := hid (bx_call BW_1.out b)
       clear Kp BW_1
       have H2 := (And.intro (cell_bx hH.1 b) (And.intro (cell_bx hH.2.1 b) (cell_bx hH.2.2 b)))
       clear hH b
       refine hK.out _ _ ?_ (fun hH => ?_)
       exact H2
       clear hK K H2
       (try simp only [Act.put, gy0, gy1, gy2])
       refine wpAnyH_ready (rs := [1]) (by kernel_rfl) (by simp) ?_
       refine AllReadyH.cons (by simp only [gx0, gx1, gx2]; rfl) (fun K hK => ?_) ?_
       go_simp
       refine (FL.out _ BW_2.out).mono ?_
       rintro e W3 ⟨A3, n3, c3, rfl, r3, b⟩
       have R3 := hid r3
       clear r3
       have Kp_3 := hid (Kp_2.out.keep b)
       have Kq_3 := hid (Kq.out.keep b)
       have BW_3 := hid (bx_call BW_2.out b)
       clear Kp_2 Kq BW_2
       have H2 := (And.intro (cell_bx hH.1 b) (And.intro (cell_bx hH.2.1 b) (cell_bx hH.2.2 b)))
       clear hH b
       (try go_wp2_with fail)
       refine hK.out _ _ ?_ (fun hH => ?_)
       exact H2
       clear hK K H2
       (try simp only [Act.put, gy0, gy1, gy2])
       refine wpAnyH_ready (rs := [3]) (by kernel_rfl) (by simp) ?_
       refine AllReadyH.cons (by simp only [gx0, gx1, gx2]; rfl) (fun K hK => ?_) ?_
       go_simp
       refine (CE.out _ BW_3.out).mono ?_
       rintro e W4 ⟨A4, n4, c4, rfl, r4, b⟩
       have R4 := hid r4
       clear r4
       have Kp_4 := hid (Kp_3.out.keep b)
       have Kq_4 := hid (Kq_3.out.keep b)
       have R3_4 := hid (R3.out.keep b)
       have BW_4 := hid (bx_call BW_3.out b)
       clear Kp_3 Kq_3 R3 BW_3
       have H2 := (And.intro (cell_bx hH.1 b) (And.intro (cell_bx hH.2.1 b) (cell_bx hH.2.2 b)))
       clear hH b
       (try go_wp2_with fail)
       refine hK.out _ _ ?_ (fun hH => ?_)
       exact H2
       clear hK K H2
       (try simp only [Act.put, gy0, gy1, gy2])
       have ne2 := Ne.symm ne
       have TM := hid (two_made (z1 := lo) (z2 := hi) BW_4.out gp gq ne rfl rfl Kp_4.out Kq_4.out R3_4.out R4.out)
       obtain ⟨⟨⟨a1, a2, a3, a4⟩, ⟨d1, d2, d3, d4⟩⟩, O⟩ := far_ints Kp_4.out Kq_4.out gp gq nw.out
       refine wpAnyH_ready (rs := [6]) (by kernel_rfl) (by simp) ?_
       refine AllReadyH.cons (by simp only [gx0, gx1, gx2]; rfl) (fun K hK => ?_) AllReadyH.nil
       go_simp
       refine hK.out _ _ (And.intro (cell_fr (cell_fr hH.1 O.out.1) O.out.1) (And.intro (cell_fr (cell_fr hH.2.1 O.out.1) O.out.1) (cell_fr (cell_fr hH.2.2 O.out.1) O.out.1))) (fun hH2 => ?_)
       clear hK K hH
       (try simp only [Act.put, gy0, gy1, gy2])
       refine wpAnyH_ready (rs := [7]) (by kernel_rfl) (by simp) ?_
       refine AllReadyH.cons (by simp only [gx0, gx1, gx2]; rfl) (fun K hK => ?_) AllReadyH.nil
       go_simp
       refine hK.out _ _ (And.intro (cell_fr (cell_fr hH2.1 O.out.2) O.out.2) (And.intro (cell_fr (cell_fr hH2.2.1 O.out.2) O.out.2) (cell_fr (cell_fr hH2.2.2 O.out.2) O.out.2))) (fun hH => ?_)
       clear hK K hH hH2 a1 a2 a3 a4 d1 d2 d3 d4
       refine wpAnyH_done (by kernel_rfl) ?_ _
       refine NoPanic.normal ?_
       go_wp2_with fail
       go_meet
       exact ⟨p, q, A3, n3, c3, A4, n4, c4, rfl, rfl, hid ⟨TM.out.1, TM.out.2⟩⟩
       exact AllReadyH.nil
       exact AllReadyH.nil
       exact AllReadyH.nil
       refine AllReadyH.cons (by simp only [gx0, gx1, gx2]; rfl) (fun K hK => ?_) ?_
       go_simp
       obtain ⟨W1, q, hW, hp, b, kk⟩ := mk_int W0
       have gq : w2.heap.size ≤ q := by rw [hp]; exact BW_0.out.size
       rw [← hW, ← hp]
       clear hW hp
       have Kq := hid kk
       clear kk
       have BW_1 := hid (bx_call BW_0.out b)
       clear BW_0
       have H2 := (And.intro (cell_bx hH.1 b) (And.intro (cell_bx hH.2.1 b) (cell_bx hH.2.2 b)))
       clear hH b
       refine hK.out _ _ ?_ (fun hH => ?_)
       exact H2
       clear hK K H2
       (try simp only [Act.put, gy0, gy1, gy2])
       refine wpAnyH_ready (rs := [1, 4]) (by kernel_rfl) (by simp) ?_
       refine AllReadyH.cons (by simp only [gx0, gx1, gx2]; rfl) (fun K hK => ?_) ?_
       go_simp
       refine (FL.out _ BW_1.out).mono ?_
       rintro e W2 ⟨A3, n3, c3, rfl, r3, b⟩
       have R3 := hid r3
       clear r3
       have Kq_2 := hid (Kq.out.keep b)
       have BW_2 := hid (bx_call BW_1.out b)
       clear Kq BW_1
       have H2 := (And.intro (cell_bx hH.1 b) (And.intro (cell_bx hH.2.1 b) (cell_bx hH.2.2 b)))
       clear hH b
       (try go_wp2_with fail)
       refine hK.out _ _ ?_ (fun hH => ?_)
       exact H2
       clear hK K H2
       (try simp only [Act.put, gy0, gy1, gy2])
       refine wpAnyH_ready (rs := [3, 4]) (by kernel_rfl) (by simp) ?_
       refine AllReadyH.cons (by simp only [gx0, gx1, gx2]; rfl) (fun K hK => ?_) ?_
       go_simp
       refine (CE.out _ BW_2.out).mono ?_
       rintro e W3 ⟨A4, n4, c4, rfl, r4, b⟩
       have R4 := hid r4
       clear r4
       have Kq_3 := hid (Kq_2.out.keep b)
       have R3_3 := hid (R3.out.keep b)
       have BW_3 := hid (bx_call BW_2.out b)
       clear Kq_2 R3 BW_2
       have H2 := (And.intro (cell_bx hH.1 b) (And.intro (cell_bx hH.2.1 b) (cell_bx hH.2.2 b)))
       clear hH b
       (try go_wp2_with fail)
       refine hK.out _ _ ?_ (fun hH => ?_)
       exact H2
       clear hK K H2
       (try simp only [Act.put, gy0, gy1, gy2])
       refine wpAnyH_ready (rs := [4]) (by kernel_rfl) (by simp) ?_
       refine AllReadyH.cons (by simp only [gx0, gx1, gx2]; rfl) (fun K hK => ?_) ?_
       go_simp
       obtain ⟨W4, p, hW, hp, b, kk⟩ := mk_int W3
       have gp : w2.heap.size ≤ p := by rw [hp]; exact BW_3.out.size
       have ne : p ≠ q := by rw [hp]; exact Nat.ne_of_gt Kq_3.out.lt
       rw [← hW, ← hp]
       clear hW hp
       have Kp := hid kk
       clear kk
       have Kq_4 := hid (Kq_3.out.keep b)
       have R3_4 := hid (R3_3.out.keep b)
       have R4_4 := hid (R4.out.keep b)
       have BW_4 := hid (bx_call BW_3.out b)
       clear Kq_3 R3_3 R4 BW_3
       have H2 := (And.intro (cell_bx hH.1 b) (And.intro (cell_bx hH.2.1 b) (cell_bx hH.2.2 b)))
       clear hH b
       refine hK.out _ _ ?_ (fun hH => ?_)
       exact H2
       clear hK K H2
       (try simp only [Act.put, gy0, gy1, gy2])
       have ne2 := Ne.symm ne
       have TM := hid (two_made (z1 := lo) (z2 := hi) BW_4.out gp gq ne rfl rfl Kp.out Kq_4.out R3_4.out R4_4.out)
       obtain ⟨⟨⟨a1, a2, a3, a4⟩, ⟨d1, d2, d3, d4⟩⟩, O⟩ := far_ints Kp.out Kq_4.out gp gq nw.out
       refine wpAnyH_ready (rs := [6]) (by kernel_rfl) (by simp) ?_
       refine AllReadyH.cons (by simp only [gx0, gx1, gx2]; rfl) (fun K hK => ?_) AllReadyH.nil
       go_simp
       refine hK.out _ _ (And.intro (cell_fr (cell_fr hH.1 O.out.1) O.out.1) (And.intro (cell_fr (cell_fr hH.2.1 O.out.1) O.out.1) (cell_fr (cell_fr hH.2.2 O.out.1) O.out.1))) (fun hH2 => ?_)
       clear hK K hH
       (try simp only [Act.put, gy0, gy1, gy2])
       refine wpAnyH_ready (rs := [7]) (by kernel_rfl) (by simp) ?_
       refine AllReadyH.cons (by simp only [gx0, gx1, gx2]; rfl) (fun K hK => ?_) AllReadyH.nil
       go_simp
       refine hK.out _ _ (And.intro (cell_fr (cell_fr hH2.1 O.out.2) O.out.2) (And.intro (cell_fr (cell_fr hH2.2.1 O.out.2) O.out.2) (cell_fr (cell_fr hH2.2.2 O.out.2) O.out.2))) (fun hH => ?_)
       clear hK K hH hH2 a1 a2 a3 a4 d1 d2 d3 d4
       refine wpAnyH_done (by kernel_rfl) ?_ _
       refine NoPanic.normal ?_
       go_wp2_with fail
       go_meet
       exact ⟨p, q, A3, n3, c3, A4, n4, c4, rfl, rfl, hid ⟨TM.out.1, TM.out.2⟩⟩
       exact AllReadyH.nil
       refine AllReadyH.cons (by simp only [gx0, gx1, gx2]; rfl) (fun K hK => ?_) ?_
       go_simp
       obtain ⟨W3, p, hW, hp, b, kk⟩ := mk_int W2
       have gp : w2.heap.size ≤ p := by rw [hp]; exact BW_2.out.size
       have ne : p ≠ q := by rw [hp]; exact Nat.ne_of_gt Kq_2.out.lt
       rw [← hW, ← hp]
       clear hW hp
       have Kp := hid kk
       clear kk
       have Kq_3 := hid (Kq_2.out.keep b)
       have R3_3 := hid (R3.out.keep b)
       have BW_3 := hid (bx_call BW_2.out b)
       clear Kq_2 R3 BW_2
       have H2 := (And.intro (cell_bx hH.1 b) (And.intro (cell_bx hH.2.1 b) (cell_bx hH.2.2 b)))
       clear hH b
       refine hK.out _ _ ?_ (fun hH => ?_)
       exact H2
       clear hK K H2
       (try simp only [Act.put, gy0, gy1, gy2])
       refine wpAnyH_ready (rs := [3]) (by kernel_rfl) (by simp) ?_
       refine AllReadyH.cons (by simp only [gx0, gx1, gx2]; rfl) (fun K hK => ?_) ?_
       go_simp
       refine (CE.out _ BW_3.out).mono ?_
       rintro e W4 ⟨A4, n4, c4, rfl, r4, b⟩
       have R4 := hid r4
       clear r4
       have Kq_4 := hid (Kq_3.out.keep b)
       have R3_4 := hid (R3_3.out.keep b)
       have Kp_4 := hid (Kp.out.keep b)
       have BW_4 := hid (bx_call BW_3.out b)
       clear Kq_3 R3_3 Kp BW_3
       have H2 := (And.intro (cell_bx hH.1 b) (And.intro (cell_bx hH.2.1 b) (cell_bx hH.2.2 b)))
       clear hH b
       (try go_wp2_with fail)
       refine hK.out _ _ ?_ (fun hH => ?_)
       exact H2
       clear hK K H2
       (try simp only [Act.put, gy0, gy1, gy2])
       have ne2 := Ne.symm ne
       have TM := hid (two_made (z1 := lo) (z2 := hi) BW_4.out gp gq ne rfl rfl Kp_4.out Kq_4.out R3_4.out R4.out)
       obtain ⟨⟨⟨a1, a2, a3, a4⟩, ⟨d1, d2, d3, d4⟩⟩, O⟩ := far_ints Kp_4.out Kq_4.out gp gq nw.out
       refine wpAnyH_ready (rs := [6]) (by kernel_rfl) (by simp) ?_
       refine AllReadyH.cons (by simp only [gx0, gx1, gx2]; rfl) (fun K hK => ?_) AllReadyH.nil
       go_simp
       refine hK.out _ _ (And.intro (cell_fr (cell_fr hH.1 O.out.1) O.out.1) (And.intro (cell_fr (cell_fr hH.2.1 O.out.1) O.out.1) (cell_fr (cell_fr hH.2.2 O.out.1) O.out.1))) (fun hH2 => ?_)
       clear hK K hH
       (try simp only [Act.put, gy0, gy1, gy2])
       refine wpAnyH_ready (rs := [7]) (by kernel_rfl) (by simp) ?_
       refine AllReadyH.cons (by simp only [gx0, gx1, gx2]; rfl) (fun K hK => ?_) AllReadyH.nil
       go_simp
       refine hK.out _ _ (And.intro (cell_fr (cell_fr hH2.1 O.out.2) O.out.2) (And.intro (cell_fr (cell_fr hH2.2.1 O.out.2) O.out.2) (cell_fr (cell_fr hH2.2.2 O.out.2) O.out.2))) (fun hH => ?_)
       clear hK K hH hH2 a1 a2 a3 a4 d1 d2 d3 d4
       refine wpAnyH_done (by kernel_rfl) ?_ _
       refine NoPanic.normal ?_
       go_wp2_with fail
       go_meet
       exact ⟨p, q, A3, n3, c3, A4, n4, c4, rfl, rfl, hid ⟨TM.out.1, TM.out.2⟩⟩
       exact AllReadyH.nil
       exact AllReadyH.nil
       refine AllReadyH.cons (by simp only [gx0, gx1, gx2]; rfl) (fun K hK => ?_) ?_
       go_simp
       obtain ⟨W2, p, hW, hp, b, kk⟩ := mk_int W1
       have gp : w2.heap.size ≤ p := by rw [hp]; exact BW_1.out.size
       have ne : p ≠ q := by rw [hp]; exact Nat.ne_of_gt Kq.out.lt
       rw [← hW, ← hp]
       clear hW hp
       have Kp := hid kk
       clear kk
       have Kq_2 := hid (Kq.out.keep b)
       have BW_2 := hid (bx_call BW_1.out b)
       clear Kq BW_1
       have H2 := (And.intro (cell_bx hH.1 b) (And.intro (cell_bx hH.2.1 b) (cell_bx hH.2.2 b)))
       clear hH b
       refine hK.out _ _ ?_ (fun hH => ?_)
       exact H2
       clear hK K H2
       (try simp only [Act.put, gy0, gy1, gy2])
       refine wpAnyH_ready (rs := [1]) (by kernel_rfl) (by simp) ?_
       refine AllReadyH.cons (by simp only [gx0, gx1, gx2]; rfl) (fun K hK => ?_) ?_
       go_simp
       refine (FL.out _ BW_2.out).mono ?_
       rintro e W3 ⟨A3, n3, c3, rfl, r3, b⟩
       have R3 := hid r3
       clear r3
       have Kq_3 := hid (Kq_2.out.keep b)
       have Kp_3 := hid (Kp.out.keep b)
       have BW_3 := hid (bx_call BW_2.out b)
       clear Kq_2 Kp BW_2
       have H2 := (And.intro (cell_bx hH.1 b) (And.intro (cell_bx hH.2.1 b) (cell_bx hH.2.2 b)))
       clear hH b
       (try go_wp2_with fail)
       refine hK.out _ _ ?_ (fun hH => ?_)
       exact H2
       clear hK K H2
       (try simp only [Act.put, gy0, gy1, gy2])
       refine wpAnyH_ready (rs := [3]) (by kernel_rfl) (by simp) ?_
       refine AllReadyH.cons (by simp only [gx0, gx1, gx2]; rfl) (fun K hK => ?_) ?_
       go_simp
       refine (CE.out _ BW_3.out).mono ?_
       rintro e W4 ⟨A4, n4, c4, rfl, r4, b⟩
       have R4 := hid r4
       clear r4
       have Kq_4 := hid (Kq_3.out.keep b)
       have Kp_4 := hid (Kp_3.out.keep b)
       have R3_4 := hid (R3.out.keep b)
       have BW_4 := hid (bx_call BW_3.out b)
       clear Kq_3 Kp_3 R3 BW_3
       have H2 := (And.intro (cell_bx hH.1 b) (And.intro (cell_bx hH.2.1 b) (cell_bx hH.2.2 b)))
       clear hH b
       (try go_wp2_with fail)
       refine hK.out _ _ ?_ (fun hH => ?_)
       exact H2
       clear hK K H2
       (try simp only [Act.put, gy0, gy1, gy2])
       have ne2 := Ne.symm ne
       have TM := hid (two_made (z1 := lo) (z2 := hi) BW_4.out gp gq ne rfl rfl Kp_4.out Kq_4.out R3_4.out R4.out)
       obtain ⟨⟨⟨a1, a2, a3, a4⟩, ⟨d1, d2, d3, d4⟩⟩, O⟩ := far_ints Kp_4.out Kq_4.out gp gq nw.out
       refine wpAnyH_ready (rs := [6]) (by kernel_rfl) (by simp) ?_
       refine AllReadyH.cons (by simp only [gx0, gx1, gx2]; rfl) (fun K hK => ?_) AllReadyH.nil
       go_simp
       refine hK.out _ _ (And.intro (cell_fr (cell_fr hH.1 O.out.1) O.out.1) (And.intro (cell_fr (cell_fr hH.2.1 O.out.1) O.out.1) (cell_fr (cell_fr hH.2.2 O.out.1) O.out.1))) (fun hH2 => ?_)
       clear hK K hH
       (try simp only [Act.put, gy0, gy1, gy2])
       refine wpAnyH_ready (rs := [7]) (by kernel_rfl) (by simp) ?_
       refine AllReadyH.cons (by simp only [gx0, gx1, gx2]; rfl) (fun K hK => ?_) AllReadyH.nil
       go_simp
       refine hK.out _ _ (And.intro (cell_fr (cell_fr hH2.1 O.out.2) O.out.2) (And.intro (cell_fr (cell_fr hH2.2.1 O.out.2) O.out.2) (cell_fr (cell_fr hH2.2.2 O.out.2) O.out.2))) (fun hH => ?_)
       clear hK K hH hH2 a1 a2 a3 a4 d1 d2 d3 d4
       refine wpAnyH_done (by kernel_rfl) ?_ _
       refine NoPanic.normal ?_
       go_wp2_with fail
       go_meet
       exact ⟨p, q, A3, n3, c3, A4, n4, c4, rfl, rfl, hid ⟨TM.out.1, TM.out.2⟩⟩
       exact AllReadyH.nil
       exact AllReadyH.nil
       exact AllReadyH.nil
       exact AllReadyH.nil
    case rest =>
    obtain ⟨p3, p4, A3, n3, c3, A4, n4, c4, rfl, rfl, hT⟩ := hcut
    obtain ⟨v3, rfl⟩ : ∃ W : World, W = wc := ⟨_, rfl⟩
    have Va_r := hid (Va_2.out.keep hT.out.2)
    have Ka_r := hid (Ka_2.out.keep hT.out.2)
    have X_r := hid (bx_call X_2.out hT.out.2)
    have Klo := hid hT.out.1.one
    have Khi := hid hT.out.1.two
    have Rlo := hid hT.out.1.rd1
    have Rhi := hid hT.out.1.rd2
    have l3 : n3 ≤ 6 := rd_len hT.out.1.rd1 llo
    have l4 : n4 ≤ 6 := rd_len hT.out.1.rd2 lhi
    have i3 := hT.out.1.rd1.2.1
    have i4 := hT.out.1.rd1.2.2.1
    have i5 := hT.out.1.rd2.2.1
    have i6 := hT.out.1.rd2.2.2.1
    clear hT nw FL CE Va_2 Ka_2 X_2
    obtain ⟨ka0, ka1, ka2⟩ := blk_three Ka_r.out
    obtain ⟨klo0, klo1⟩ := blk_two Klo.out
    obtain ⟨khi0, khi1⟩ := blk_two Khi.out
    have cc := rifrom_any 1 v3 (by omega) (by omega)
    have CC := hid cc
    clear cc
    go_wp2_with fail
    refine (CC.out).mono ?_
    rintro e w3 ⟨A5, n5, c5, rfl, r, b0⟩
    have i7 := r.2.1
    have i8 := r.2.2.1
    have l5 : n5 ≤ 1 := rd_len r (by decide)
    have o := bx_alloc (bx_refl w3) (.cells #[.bool (sg 1), .slice A5 n5 c5] 25)
    have b := bx_call b0 o
    have Rone := hid (r.keep o)
    have Kone := hid (Blk.new w3 [.bool (sg 1), .slice A5 n5 c5] 25)
    clear r b0 o
    have Va_3 := hid (Va_r.out.keep b)
    have Ka_3 := hid (Ka_r.out.keep b)
    have Klo_3 := hid (Klo.out.keep b)
    have Khi_3 := hid (Khi.out.keep b)
    have Rlo_3 := hid (Rlo.out.keep b)
    have Rhi_3 := hid (Rhi.out.keep b)
    have X_3 := hid (bx_call X_r.out b)
    clear CC b ka0 ka1 ka2 klo0 klo1 khi0 khi1 Va_r Ka_r Klo Khi Rlo Rhi X_r
    obtain ⟨v5, hv⟩ : ∃ W, W = w3.alloc (.cells #[.bool (sg 1), .slice A5 n5 c5] 25) := ⟨_, rfl⟩
    obtain ⟨p5, hbp⟩ : ∃ i, i = w3.heap.size := ⟨_, rfl⟩
    rw [← hv] at Va_3 Ka_3 Klo_3 Khi_3 Rlo_3 Rhi_3 Rone Kone X_3
    rw [← hbp] at Kone
    go_upto_region 5 with fail
    rw [← hv, ← hbp]
    clear hv hbp
    have nw := hid (show p3 < v5.heap.size ∧ p4 < v5.heap.size from ⟨Klo_3.out.lt, Khi_3.out.lt⟩)
    go_cut [6, 7] (fun s6 s7 wx => ∃ (p q : Nat), s6 = .pointer (some ⟨p, 0, none⟩) ∧ s7 = .pointer (some ⟨q, 0, none⟩) ∧ Hid (Blk wx p [.bool (sg lo), .slice A3 n3 c3, .slice none 0 0] 50 ∧ Blk wx q [.bool (sg hi), .slice A4 n4 c4, .slice none 0 0] 50 ∧ Below v5.heap.size v5 wx))
    case first =>
       refine wp_region_noPanic ?_
       refine wp_region_held_drew (S := (fun W => (W.cell? ⟨p3, 0, none⟩ = some (.bool (sg lo)) ∧ W.cell? ⟨p3, 1, none⟩ = some (.slice A3 n3 c3)) ∧ (W.cell? ⟨p4, 0, none⟩ = some (.bool (sg hi)) ∧ W.cell? ⟨p4, 1, none⟩ = some (.slice A4 n4 c4)))) (by kernel_rfl) ?_ (fun hH => ?_)
       exact And.intro (blk_two Klo_3.out) (blk_two Khi_3.out)
       refine wpAnyH_take (i := 0) (v := ?_) (by simp only [gx0, gx2]; rfl) (by kernel_rfl) (by kernel_rfl) (by kernel_rfl) (fun _ _ _ h => h) (.inl ⟨by rfl, ?_⟩) hH ?_
       rotate_left
       · intro w hSw; (try dsimp only at hSw); first | (go_simp; done) | (go_simp; with_reducible rfl)
       (try simp only [Act.put, gy0, gy1, gy2])
       refine wpAnyH_take (i := 1) (v := ?_) (by simp only [gx0, gx1, gx2]; rfl) (by kernel_rfl) (by kernel_rfl) (by kernel_rfl) (fun _ _ _ h => h) (.inl ⟨by rfl, ?_⟩) hH ?_
       rotate_left
       · intro w hSw; (try dsimp only at hSw); first | (go_simp; done) | (go_simp; with_reducible rfl)
       (try simp only [Act.put, gy0, gy1, gy2])
       refine wpAnyH_take (i := 2) (v := ?_) (by simp only [gx0, gx1, gx2]; rfl) (by kernel_rfl) (by kernel_rfl) (by kernel_rfl) (fun _ _ _ h => h) (.inl ⟨by rfl, ?_⟩) hH ?_
       rotate_left
       · intro w hSw; (try dsimp only at hSw); first | (go_simp; done) | (go_simp; with_reducible rfl)
       (try simp only [Act.put, gy0, gy1, gy2])
       refine wpAnyH_take (i := 3) (v := ?_) (by simp only [gx0, gx1, gx2]; rfl) (by kernel_rfl) (by kernel_rfl) (by kernel_rfl) (fun _ _ _ h => h) (.inl ⟨by rfl, ?_⟩) hH ?_
       rotate_left
       · intro w hSw; (try dsimp only at hSw); first | (go_simp; done) | (go_simp; with_reducible rfl)
       (try simp only [Act.put, gy0, gy1, gy2])
       have bd := bx_drew (bx_refl v5)
       obtain ⟨W0, hW0⟩ : ∃ W, W = v5.drew := ⟨_, rfl⟩
       rw [← hW0] at bd hH ⊢
       clear hW0
       have BW_0 := hid bd
       clear bd
       refine wpAnyH_ready (rs := [4, 5]) (by kernel_rfl) (by simp) ?_
       refine AllReadyH.cons (by simp only [gx0, gx1, gx2]; rfl) (fun K hK => ?_) ?_
       go_simp
       obtain ⟨W1, p, hW, hp, b, kk⟩ := mk_cells W0 [.bool false, .slice none 0 0, .slice none 0 0] 50
       have gp : v5.heap.size ≤ p := by rw [hp]; exact BW_0.out.size
       rw [← hW, ← hp]
       clear hW hp
       have Kp := hid kk
       clear kk
       have BW_1 := hid (bx_call BW_0.out b)
       clear BW_0
       have H2 := And.intro (And.intro (cell_bx hH.1.1 b) (cell_bx hH.1.2 b)) (And.intro (cell_bx hH.2.1 b) (cell_bx hH.2.2 b))
       clear hH b
       refine hK.out _ _ ?_ (fun hH => ?_)
       exact H2
       clear hK K H2
       (try simp only [Act.put, gy0, gy1, gy2])
       refine wpAnyH_ready (rs := [5]) (by kernel_rfl) (by simp) ?_
       refine AllReadyH.cons (by simp only [gx0, gx1, gx2]; rfl) (fun K hK => ?_) ?_
       go_simp
       obtain ⟨W2, q, hW, hp, b, kk⟩ := mk_cells W1 [.bool false, .slice none 0 0, .slice none 0 0] 50
       have gq : v5.heap.size ≤ q := by rw [hp]; exact BW_1.out.size
       have ne : p ≠ q := by rw [hp]; exact Nat.ne_of_lt Kp.out.lt
       rw [← hW, ← hp]
       clear hW hp
       have Kq := hid kk
       clear kk
       have Kp_2 := hid (Kp.out.keep b)
       have BW_2 := hid (bx_call BW_1.out b)
       clear Kp BW_1
       have H2 := And.intro (And.intro (cell_bx hH.1.1 b) (cell_bx hH.1.2 b)) (And.intro (cell_bx hH.2.1 b) (cell_bx hH.2.2 b))
       clear hH b
       refine hK.out _ _ ?_ (fun hH => ?_)
       exact H2
       clear hK K H2
       (try simp only [Act.put, gy0, gy1, gy2])
       have ne2 := Ne.symm ne
       obtain ⟨⟨a1, a2, a3, a4, a5, a6⟩, O⟩ := far_rat Kp_2.out gp nw.out.1 nw.out.2
       obtain ⟨⟨d1, d2, d3, d4, d5, d6⟩, Q⟩ := far_rat Kq.out gq nw.out.1 nw.out.2
       have TM := hid (rats_made (x0 := .bool (sg lo)) (x1 := .slice A3 n3 c3) (x2 := .slice none 0 0) (y0 := .bool (sg hi)) (y1 := .slice A4 n4 c4) (y2 := .slice none 0 0) BW_2.out gp gq ne Kp_2.out Kq.out)
       refine wpAnyH_ready (rs := [6]) (by kernel_rfl) (by simp) ?_
       refine AllReadyH.cons (by simp only [gx0, gx1, gx2]; rfl) (fun K hK => ?_) AllReadyH.nil
       go_simp
       refine hK.out _ _ (And.intro (And.intro (cell_fr (cell_fr (cell_fr hH.1.1 O.out.1) O.out.1) O.out.1) (cell_fr (cell_fr (cell_fr hH.1.2 O.out.1) O.out.1) O.out.1)) (And.intro (cell_fr (cell_fr (cell_fr hH.2.1 O.out.2) O.out.2) O.out.2) (cell_fr (cell_fr (cell_fr hH.2.2 O.out.2) O.out.2) O.out.2))) (fun hH2 => ?_)
       clear hK K hH
       (try simp only [Act.put, gy0, gy1, gy2])
       refine wpAnyH_ready (rs := [7]) (by kernel_rfl) (by simp) ?_
       refine AllReadyH.cons (by simp only [gx0, gx1, gx2]; rfl) (fun K hK => ?_) AllReadyH.nil
       go_simp
       refine hK.out _ _ (And.intro (And.intro (cell_fr (cell_fr (cell_fr hH2.1.1 Q.out.1) Q.out.1) Q.out.1) (cell_fr (cell_fr (cell_fr hH2.1.2 Q.out.1) Q.out.1) Q.out.1)) (And.intro (cell_fr (cell_fr (cell_fr hH2.2.1 Q.out.2) Q.out.2) Q.out.2) (cell_fr (cell_fr (cell_fr hH2.2.2 Q.out.2) Q.out.2) Q.out.2))) (fun hH => ?_)
       clear hK K hH hH2 a1 a2 a3 a4 a5 a6 d1 d2 d3 d4 d5 d6
       refine wpAnyH_done (by kernel_rfl) ?_ _
       refine NoPanic.normal ?_
       go_wp2_with fail
       go_meet
       exact ⟨p, q, rfl, rfl, TM⟩
       exact AllReadyH.nil
       refine AllReadyH.cons (by simp only [gx0, gx1, gx2]; rfl) (fun K hK => ?_) ?_
       go_simp
       obtain ⟨W1, q, hW, hp, b, kk⟩ := mk_cells W0 [.bool false, .slice none 0 0, .slice none 0 0] 50
       have gq : v5.heap.size ≤ q := by rw [hp]; exact BW_0.out.size
       rw [← hW, ← hp]
       clear hW hp
       have Kq := hid kk
       clear kk
       have BW_1 := hid (bx_call BW_0.out b)
       clear BW_0
       have H2 := And.intro (And.intro (cell_bx hH.1.1 b) (cell_bx hH.1.2 b)) (And.intro (cell_bx hH.2.1 b) (cell_bx hH.2.2 b))
       clear hH b
       refine hK.out _ _ ?_ (fun hH => ?_)
       exact H2
       clear hK K H2
       (try simp only [Act.put, gy0, gy1, gy2])
       refine wpAnyH_ready (rs := [4]) (by kernel_rfl) (by simp) ?_
       refine AllReadyH.cons (by simp only [gx0, gx1, gx2]; rfl) (fun K hK => ?_) ?_
       go_simp
       obtain ⟨W2, p, hW, hp, b, kk⟩ := mk_cells W1 [.bool false, .slice none 0 0, .slice none 0 0] 50
       have gp : v5.heap.size ≤ p := by rw [hp]; exact BW_1.out.size
       have ne : p ≠ q := by rw [hp]; exact Nat.ne_of_gt Kq.out.lt
       rw [← hW, ← hp]
       clear hW hp
       have Kp := hid kk
       clear kk
       have Kq_2 := hid (Kq.out.keep b)
       have BW_2 := hid (bx_call BW_1.out b)
       clear Kq BW_1
       have H2 := And.intro (And.intro (cell_bx hH.1.1 b) (cell_bx hH.1.2 b)) (And.intro (cell_bx hH.2.1 b) (cell_bx hH.2.2 b))
       clear hH b
       refine hK.out _ _ ?_ (fun hH => ?_)
       exact H2
       clear hK K H2
       (try simp only [Act.put, gy0, gy1, gy2])
       have ne2 := Ne.symm ne
       obtain ⟨⟨a1, a2, a3, a4, a5, a6⟩, O⟩ := far_rat Kp.out gp nw.out.1 nw.out.2
       obtain ⟨⟨d1, d2, d3, d4, d5, d6⟩, Q⟩ := far_rat Kq_2.out gq nw.out.1 nw.out.2
       have TM := hid (rats_made (x0 := .bool (sg lo)) (x1 := .slice A3 n3 c3) (x2 := .slice none 0 0) (y0 := .bool (sg hi)) (y1 := .slice A4 n4 c4) (y2 := .slice none 0 0) BW_2.out gp gq ne Kp.out Kq_2.out)
       refine wpAnyH_ready (rs := [6]) (by kernel_rfl) (by simp) ?_
       refine AllReadyH.cons (by simp only [gx0, gx1, gx2]; rfl) (fun K hK => ?_) AllReadyH.nil
       go_simp
       refine hK.out _ _ (And.intro (And.intro (cell_fr (cell_fr (cell_fr hH.1.1 O.out.1) O.out.1) O.out.1) (cell_fr (cell_fr (cell_fr hH.1.2 O.out.1) O.out.1) O.out.1)) (And.intro (cell_fr (cell_fr (cell_fr hH.2.1 O.out.2) O.out.2) O.out.2) (cell_fr (cell_fr (cell_fr hH.2.2 O.out.2) O.out.2) O.out.2))) (fun hH2 => ?_)
       clear hK K hH
       (try simp only [Act.put, gy0, gy1, gy2])
       refine wpAnyH_ready (rs := [7]) (by kernel_rfl) (by simp) ?_
       refine AllReadyH.cons (by simp only [gx0, gx1, gx2]; rfl) (fun K hK => ?_) AllReadyH.nil
       go_simp
       refine hK.out _ _ (And.intro (And.intro (cell_fr (cell_fr (cell_fr hH2.1.1 Q.out.1) Q.out.1) Q.out.1) (cell_fr (cell_fr (cell_fr hH2.1.2 Q.out.1) Q.out.1) Q.out.1)) (And.intro (cell_fr (cell_fr (cell_fr hH2.2.1 Q.out.2) Q.out.2) Q.out.2) (cell_fr (cell_fr (cell_fr hH2.2.2 Q.out.2) Q.out.2) Q.out.2))) (fun hH => ?_)
       clear hK K hH hH2 a1 a2 a3 a4 a5 a6 d1 d2 d3 d4 d5 d6
       refine wpAnyH_done (by kernel_rfl) ?_ _
       refine NoPanic.normal ?_
       go_wp2_with fail
       go_meet
       exact ⟨p, q, rfl, rfl, TM⟩
       exact AllReadyH.nil
       exact AllReadyH.nil
    case rest =>
    obtain ⟨p6, p7, rfl, rfl, hT⟩ := hcut
    obtain ⟨v7, rfl⟩ : ∃ W : World, W = wc := ⟨_, rfl⟩
    have Va_s := hid (Va_3.out.keep hT.out.2.2)
    have Ka_s := hid (Ka_3.out.keep hT.out.2.2)
    have Klo_s := hid (Klo_3.out.keep hT.out.2.2)
    have Khi_s := hid (Khi_3.out.keep hT.out.2.2)
    have Rlo_s := hid (Rlo_3.out.keep hT.out.2.2)
    have Rhi_s := hid (Rhi_3.out.keep hT.out.2.2)
    have Rone_s := hid (Rone.out.keep hT.out.2.2)
    have Kone_s := hid (Kone.out.keep hT.out.2.2)
    have X_s := hid (bx_call X_3.out hT.out.2.2)
    have Kx := hid hT.out.1
    have Ky := hid hT.out.2.1
    clear hT nw Va_3 Ka_3 Klo_3 Khi_3 Rlo_3 Rhi_3 Rone Kone X_3
    have fl := Rat.floor_le za
    have cl := @Rat.le_ceil za
    have fl2 := Rat.lt_floor_add_one za
    have cl2 := @Rat.ceil_lt za
    rw [← HLO.out] at fl fl2
    rw [← HHI.out] at cl cl2
    have q1 : decide (0 < sgnQ ((lo : Rat) - za)) = false := decide_eq_false (by have := sgnQ_le (q := (lo : Rat) - za) |>.2 (by grind); omega)
    have q2 : decide (0 < sgnQ (za - (hi : Rat))) = false := decide_eq_false (by have := sgnQ_le (q := za - (hi : Rat)) |>.2 (by grind); omega)
    have q3 : sgnQ (za - ((lo + 1 : Int) : Rat)) = -1 := sgnQ_lt.2 (by grind)
    have q4 : sgnQ (((hi - 1 : Int) : Rat) - za) = -1 := sgnQ_lt.2 (by rw [Rat.intCast_sub]; grind)
    have q5 : (decide (lo = hi)) = (sgnQ ((lo : Rat) - za) == 0) := by rw [HLO.out, HHI.out, Bool.eq_iff_iff, decide_eq_true_eq, floor_ceil_iff, beq_iff_eq, sgnQ_zero]; constructor <;> intro h <;> grind
    have H3 := hid q3
    have H4 := hid q4
    clear q3 q4 fl cl fl2 cl2 HLO HHI
    obtain ⟨s1, hs1⟩ : ∃ s, s = sgnQ ((lo : Rat) - za) := ⟨_, rfl⟩
    obtain ⟨s2, hs2⟩ : ∃ s, s = sgnQ (za - (hi : Rat)) := ⟨_, rfl⟩
    rw [← hs1] at q1 q5
    rw [← hs2] at q2
    have S1 := hid hs1
    have S2 := hid hs2
    clear hs1 hs2
    obtain ⟨eb, he⟩ : ∃ b, b = decide (lo = hi) := ⟨_, rfl⟩
    have HE := hid he
    rw [← he] at q5
    have q6 : (eb == (s1 == 0)) = true := by rw [q5]; exact beq_self_eq_true _
    clear he q5
    go_upto_region 6 with fail
    (try simp only [List.append_eq, List.cons_append, List.nil_append])
    refine wp_region_noPanic ?_
    refine wp_region_held_drew (S := (fun W => (W.cell? ⟨w.heap.size, 0, none⟩ = some (.bool ga) ∧ W.cell? ⟨w.heap.size, 1, none⟩ = some (.slice Aa na ca) ∧ W.cell? ⟨w.heap.size, 2, none⟩ = some (.slice Da ma da)) ∧ (W.cell? ⟨p3, 0, none⟩ = some (.bool (sg lo)) ∧ W.cell? ⟨p3, 1, none⟩ = some (.slice A3 n3 c3)) ∧ (W.cell? ⟨p4, 0, none⟩ = some (.bool (sg hi)) ∧ W.cell? ⟨p4, 1, none⟩ = some (.slice A4 n4 c4)) ∧ (W.cell? ⟨p5, 0, none⟩ = some (.bool (sg 1)) ∧ W.cell? ⟨p5, 1, none⟩ = some (.slice A5 n5 c5)) ∧ (W.cell? ⟨p6, 0, none⟩ = some (.bool (sg lo)) ∧ W.cell? ⟨p6, 1, none⟩ = some (.slice A3 n3 c3) ∧ W.cell? ⟨p6, 2, none⟩ = some (.slice none 0 0)) ∧ (W.cell? ⟨p7, 0, none⟩ = some (.bool (sg hi)) ∧ W.cell? ⟨p7, 1, none⟩ = some (.slice A4 n4 c4) ∧ W.cell? ⟨p7, 2, none⟩ = some (.slice none 0 0)))) (by kernel_rfl) ?_ (fun hH => ?_)
    exact (And.intro (blk_three Ka_s.out) (And.intro (blk_two Klo_s.out) (And.intro (blk_two Khi_s.out) (And.intro (blk_two Kone_s.out) (And.intro (blk_three Kx.out) (blk_three Ky.out))))))
    have bd := bx_drew (bx_refl v7)
    obtain ⟨w4, hW0⟩ : ∃ W, W = v7.drew := ⟨_, rfl⟩
    rw [← hW0] at bd hH ⊢
    clear hW0
    have Va_4 := hid (Va_s.out.keep bd)
    have Ka_4 := hid (Ka_s.out.keep bd)
    have Klo_4 := hid (Klo_s.out.keep bd)
    have Khi_4 := hid (Khi_s.out.keep bd)
    have Rlo_4 := hid (Rlo_s.out.keep bd)
    have Rhi_4 := hid (Rhi_s.out.keep bd)
    have Rone_4 := hid (Rone_s.out.keep bd)
    have Kone_4 := hid (Kone_s.out.keep bd)
    have Kx_4 := hid (Kx.out.keep bd)
    have Ky_4 := hid (Ky.out.keep bd)
    have X_4 := hid (bx_call X_s.out bd)
    clear bd Va_s Ka_s Klo_s Khi_s Rlo_s Rhi_s Rone_s Kone_s Kx Ky X_s 
    refine wpAnyH_take (i := 0) (v := ?_) (by simp only [gx0, gx2]; rfl) (by kernel_rfl) (by kernel_rfl) (by kernel_rfl) (fun _ _ _ h => h) (.inl ⟨by rfl, ?_⟩) hH ?_
    rotate_left
    · intro w hSw; (try dsimp only at hSw); first | (go_simp; done) | (go_simp; with_reducible rfl) | (go_simp; decide)
    (try simp only [Act.put, gy0, gy1, gy2])
    refine wpAnyH_ready (rs := [1]) (by kernel_rfl) (by simp) ?_
    refine AllReadyH.cons (by simp only [gx0, gx1, gx2]; rfl) (fun K hK => ?_) AllReadyH.nil
    go_simp
    have cc := rivalid_true lo A3 n3 c3 w4 Rlo_4.out
    refine cc.mono ?_
    rintro e w5 ⟨rfl, b⟩
    clear cc hH
    have Va_5 := hid (Va_4.out.keep b)
    have Ka_5 := hid (Ka_4.out.keep b)
    have Klo_5 := hid (Klo_4.out.keep b)
    have Khi_5 := hid (Khi_4.out.keep b)
    have Rlo_5 := hid (Rlo_4.out.keep b)
    have Rhi_5 := hid (Rhi_4.out.keep b)
    have Rone_5 := hid (Rone_4.out.keep b)
    have Kone_5 := hid (Kone_4.out.keep b)
    have Kx_5 := hid (Kx_4.out.keep b)
    have Ky_5 := hid (Ky_4.out.keep b)
    have X_5 := hid (bx_call X_4.out b)
    clear b Va_4 Ka_4 Klo_4 Khi_4 Rlo_4 Rhi_4 Rone_4 Kone_4 Kx_4 Ky_4 X_4
    (try go_wp2_with fail)
    refine hK.out _ _ ?_ (fun hH => ?_)
    exact (And.intro (blk_three Ka_5.out) (And.intro (blk_two Klo_5.out) (And.intro (blk_two Khi_5.out) (And.intro (blk_two Kone_5.out) (And.intro (blk_three Kx_5.out) (blk_three Ky_5.out))))))
    clear hK K
    (try simp only [Act.put, gy0, gy1, gy2])
    refine wpAnyH_take (i := 2) (v := ?_) (by simp only [gx0, gx1, gx2]; rfl) (by kernel_rfl) (by kernel_rfl) (by kernel_rfl) (fun _ _ _ h => h) (.inl ⟨by rfl, ?_⟩) hH ?_
    rotate_left
    · intro w hSw; (try dsimp only at hSw); first | (go_simp; done) | (go_simp; with_reducible rfl) | (go_simp; decide)
    (try simp only [Act.put, gy0, gy1, gy2])
    refine wpAnyH_take (i := 3) (v := ?_) (by simp only [gx0, gx1, gx2]; rfl) (by kernel_rfl) (by kernel_rfl) (by kernel_rfl) (fun _ _ _ h => h) (.inl ⟨by rfl, ?_⟩) hH ?_
    rotate_left
    · intro w hSw; (try dsimp only at hSw); first | (go_simp; done) | (go_simp; with_reducible rfl) | (go_simp; decide)
    (try simp only [Act.put, gy0, gy1, gy2])
    refine wpAnyH_take (i := 4) (v := ?_) (by simp only [gx0, gx1, gx2]; rfl) (by kernel_rfl) (by kernel_rfl) (by kernel_rfl) (fun _ _ _ h => h) (.inl ⟨by rfl, ?_⟩) hH ?_
    rotate_left
    · intro w hSw; (try dsimp only at hSw); first | (go_simp; done) | (go_simp; with_reducible rfl) | (go_simp; decide)
    (try simp only [Act.put, gy0, gy1, gy2])
    refine wpAnyH_ready (rs := [5]) (by kernel_rfl) (by simp) ?_
    refine AllReadyH.cons (by simp only [gx0, gx1, gx2]; rfl) (fun K hK => ?_) AllReadyH.nil
    go_simp
    have cc := rivalid_true hi A4 n4 c4 w5 Rhi_5.out
    refine cc.mono ?_
    rintro e w6 ⟨rfl, b⟩
    clear cc hH
    have Va_6 := hid (Va_5.out.keep b)
    have Ka_6 := hid (Ka_5.out.keep b)
    have Klo_6 := hid (Klo_5.out.keep b)
    have Khi_6 := hid (Khi_5.out.keep b)
    have Rlo_6 := hid (Rlo_5.out.keep b)
    have Rhi_6 := hid (Rhi_5.out.keep b)
    have Rone_6 := hid (Rone_5.out.keep b)
    have Kone_6 := hid (Kone_5.out.keep b)
    have Kx_6 := hid (Kx_5.out.keep b)
    have Ky_6 := hid (Ky_5.out.keep b)
    have X_6 := hid (bx_call X_5.out b)
    clear b Va_5 Ka_5 Klo_5 Khi_5 Rlo_5 Rhi_5 Rone_5 Kone_5 Kx_5 Ky_5 X_5
    (try go_wp2_with fail)
    refine hK.out _ _ ?_ (fun hH => ?_)
    exact (And.intro (blk_three Ka_6.out) (And.intro (blk_two Klo_6.out) (And.intro (blk_two Khi_6.out) (And.intro (blk_two Kone_6.out) (And.intro (blk_three Kx_6.out) (blk_three Ky_6.out))))))
    clear hK K
    (try simp only [Act.put, gy0, gy1, gy2])
    refine wpAnyH_take (i := 6) (v := ?_) (by simp only [gx0, gx1, gx2]; rfl) (by kernel_rfl) (by kernel_rfl) (by kernel_rfl) (fun _ _ _ h => h) (.inl ⟨by rfl, ?_⟩) hH ?_
    rotate_left
    · intro w hSw; (try dsimp only at hSw); first | (go_simp; done) | (go_simp; with_reducible rfl) | (go_simp; decide)
    (try simp only [Act.put, gy0, gy1, gy2])
    refine wpAnyH_take (i := 7) (v := ?_) (by simp only [gx0, gx1, gx2]; rfl) (by kernel_rfl) (by kernel_rfl) (by kernel_rfl) (fun _ _ _ h => h) (.inl ⟨by rfl, ?_⟩) hH ?_
    rotate_left
    · intro w hSw; (try dsimp only at hSw); first | (go_simp; done) | (go_simp; with_reducible rfl) | (go_simp; decide)
    (try simp only [Act.put, gy0, gy1, gy2])
    refine wpAnyH_take (i := 8) (v := ?_) (by simp only [gx0, gx1, gx2]; rfl) (by kernel_rfl) (by kernel_rfl) (by kernel_rfl) (fun _ _ _ h => h) (.inl ⟨by rfl, ?_⟩) hH ?_
    rotate_left
    · intro w hSw; (try dsimp only at hSw); first | (go_simp; done) | (go_simp; with_reducible rfl) | (go_simp; decide)
    (try simp only [Act.put, gy0, gy1, gy2])
    refine wpAnyH_take (i := 9) (v := ?_) (by simp only [gx0, gx1, gx2]; rfl) (by kernel_rfl) (by kernel_rfl) (by kernel_rfl) (fun _ _ _ h => h) (.inl ⟨by rfl, ?_⟩) hH ?_
    rotate_left
    · intro w hSw; (try dsimp only at hSw); first | (go_simp; done) | (go_simp; with_reducible rfl) | (go_simp; decide)
    (try simp only [Act.put, gy0, gy1, gy2])
    refine wpAnyH_take (i := 10) (v := ?_) (by simp only [gx0, gx1, gx2]; rfl) (by kernel_rfl) (by kernel_rfl) (by kernel_rfl) (fun _ _ _ h => h) (.inl ⟨by rfl, ?_⟩) hH ?_
    rotate_left
    · intro w hSw; (try dsimp only at hSw); first | (go_simp; done) | (go_simp; with_reducible rfl) | (go_simp; decide)
    (try simp only [Act.put, gy0, gy1, gy2])
    refine wpAnyH_ready (rs := [11]) (by kernel_rfl) (by simp) ?_
    refine AllReadyH.cons (by simp only [gx0, gx1, gx2]; rfl) (fun K hK => ?_) AllReadyH.nil
    go_simp
    have cc := vrcmp (sg lo) A3 n3 c3 none 0 0 ga Aa na ca Da ma da 6 (lo : Rat) za w6 ((frl_int Rlo_6.out l3 (by omega)).v) Va_6.out (by omega)
    rw [← S1.out] at cc
    refine cc.mono ?_
    rintro e w7 ⟨rfl, b⟩
    clear cc hH
    have Va_7 := hid (Va_6.out.keep b)
    have Ka_7 := hid (Ka_6.out.keep b)
    have Klo_7 := hid (Klo_6.out.keep b)
    have Khi_7 := hid (Khi_6.out.keep b)
    have Rlo_7 := hid (Rlo_6.out.keep b)
    have Rhi_7 := hid (Rhi_6.out.keep b)
    have Rone_7 := hid (Rone_6.out.keep b)
    have Kone_7 := hid (Kone_6.out.keep b)
    have Kx_7 := hid (Kx_6.out.keep b)
    have Ky_7 := hid (Ky_6.out.keep b)
    have X_7 := hid (bx_call X_6.out b)
    clear b Va_6 Ka_6 Klo_6 Khi_6 Rlo_6 Rhi_6 Rone_6 Kone_6 Kx_6 Ky_6 X_6
    (try go_wp2_with fail)
    refine hK.out _ _ ?_ (fun hH => ?_)
    exact (And.intro (blk_three Ka_7.out) (And.intro (blk_two Klo_7.out) (And.intro (blk_two Khi_7.out) (And.intro (blk_two Kone_7.out) (And.intro (blk_three Kx_7.out) (blk_three Ky_7.out))))))
    clear hK K
    (try simp only [Act.put, gy0, gy1, gy2])
    refine wpAnyH_take (i := 12) (v := ?_) (by simp only [gx0, gx1, gx2]; rfl) (by kernel_rfl) (by kernel_rfl) (by kernel_rfl) (fun _ _ _ h => h) (.inl ⟨by rfl, ?_⟩) hH ?_
    rotate_left
    · intro w hSw; (try dsimp only at hSw); first | (go_simp; done) | (go_simp; with_reducible rfl) | (go_simp; decide)
    (try simp only [Act.put, gy0, gy1, gy2])
    refine wpAnyH_take (i := 13) (v := ?_) (by simp only [gx0, gx1, gx2]; rfl) (by kernel_rfl) (by kernel_rfl) (by kernel_rfl) (fun _ _ _ h => h) (.inl ⟨by rfl, ?_⟩) hH ?_
    rotate_left
    · intro w hSw; (try dsimp only at hSw); first | (go_simp; done) | (go_simp; with_reducible rfl) | (go_simp; decide)
    (try simp only [Act.put, gy0, gy1, gy2])
    refine wpAnyH_take (i := 14) (v := ?_) (by simp only [gx0, gx1, gx2]; rfl) (by kernel_rfl) (by kernel_rfl) (by kernel_rfl) (fun _ _ _ h => h) (.inl ⟨by rfl, ?_⟩) hH ?_
    rotate_left
    · intro w hSw; (try dsimp only at hSw); first | (go_simp; done) | (go_simp; with_reducible rfl) | (go_simp; decide)
    (try simp only [Act.put, gy0, gy1, gy2])
    refine wpAnyH_take (i := 15) (v := ?_) (by simp only [gx0, gx1, gx2]; rfl) (by kernel_rfl) (by kernel_rfl) (by kernel_rfl) (fun _ _ _ h => h) (.inl ⟨by rfl, ?_⟩) hH ?_
    rotate_left
    · intro w hSw; (try dsimp only at hSw); first | (go_simp; done) | (go_simp; with_reducible rfl) | (go_simp; decide)
    (try simp only [Act.put, gy0, gy1, gy2])
    refine wpAnyH_take (i := 16) (v := ?_) (by simp only [gx0, gx1, gx2]; rfl) (by kernel_rfl) (by kernel_rfl) (by kernel_rfl) (fun _ _ _ h => h) (.inl ⟨by rfl, ?_⟩) hH ?_
    rotate_left
    · intro w hSw; (try dsimp only at hSw); first | (go_simp; done) | (go_simp; with_reducible rfl) | (go_simp; decide)
    (try simp only [Act.put, gy0, gy1, gy2])
    refine wpAnyH_ready (rs := [17]) (by kernel_rfl) (by simp) ?_
    refine AllReadyH.cons (by simp only [gx0, gx1, gx2]; rfl) (fun K hK => ?_) AllReadyH.nil
    go_simp
    have cc := vrcmp ga Aa na ca Da ma da (sg hi) A4 n4 c4 none 0 0 6 za (hi : Rat) w7 Va_7.out ((frl_int Rhi_7.out l4 (by omega)).v) (by omega)
    rw [← S2.out] at cc
    refine cc.mono ?_
    rintro e w8 ⟨rfl, b⟩
    clear cc hH
    have Va_8 := hid (Va_7.out.keep b)
    have Ka_8 := hid (Ka_7.out.keep b)
    have Klo_8 := hid (Klo_7.out.keep b)
    have Khi_8 := hid (Khi_7.out.keep b)
    have Rlo_8 := hid (Rlo_7.out.keep b)
    have Rhi_8 := hid (Rhi_7.out.keep b)
    have Rone_8 := hid (Rone_7.out.keep b)
    have Kone_8 := hid (Kone_7.out.keep b)
    have Kx_8 := hid (Kx_7.out.keep b)
    have Ky_8 := hid (Ky_7.out.keep b)
    have X_8 := hid (bx_call X_7.out b)
    clear b Va_7 Ka_7 Klo_7 Khi_7 Rlo_7 Rhi_7 Rone_7 Kone_7 Kx_7 Ky_7 X_7
    (try go_wp2_with fail)
    refine hK.out _ _ ?_ (fun hH => ?_)
    exact (And.intro (blk_three Ka_8.out) (And.intro (blk_two Klo_8.out) (And.intro (blk_two Khi_8.out) (And.intro (blk_two Kone_8.out) (And.intro (blk_three Kx_8.out) (blk_three Ky_8.out))))))
    clear hK K
    (try simp only [Act.put, gy0, gy1, gy2])
    refine wpAnyH_take (i := 18) (v := ?_) (by simp only [gx0, gx1, gx2]; rfl) (by kernel_rfl) (by kernel_rfl) (by kernel_rfl) (fun _ _ _ h => h) (.inl ⟨by rfl, ?_⟩) hH ?_
    rotate_left
    · intro w hSw; (try dsimp only at hSw); first | (go_simp; done) | (go_simp; with_reducible rfl) | (go_simp; decide)
    (try simp only [Act.put, gy0, gy1, gy2])
    refine wpAnyH_take (i := 19) (v := ?_) (by simp only [gx0, gx1, gx2]; rfl) (by kernel_rfl) (by kernel_rfl) (by kernel_rfl) (fun _ _ _ h => h) (.inl ⟨by rfl, ?_⟩) hH ?_
    rotate_left
    · intro w hSw; (try dsimp only at hSw); first | (go_simp; done) | (go_simp; with_reducible rfl) | (go_simp; decide)
    (try simp only [Act.put, gy0, gy1, gy2])
    refine wpAnyH_take (i := 20) (v := ?_) (by simp only [gx0, gx1, gx2]; rfl) (by kernel_rfl) (by kernel_rfl) (by kernel_rfl) (fun _ _ _ h => h) (.inl ⟨by rfl, ?_⟩) hH ?_
    rotate_left
    · intro w hSw; (try dsimp only at hSw); first | (go_simp; done) | (go_simp; with_reducible rfl) | (go_simp; decide)
    (try simp only [Act.put, gy0, gy1, gy2])
    refine wpAnyH_take (i := 21) (v := ?_) (by simp only [gx0, gx1, gx2]; rfl) (by kernel_rfl) (by kernel_rfl) (by kernel_rfl) (fun _ _ _ h => h) (.inl ⟨by rfl, ?_⟩) hH ?_
    rotate_left
    · intro w hSw; (try dsimp only at hSw); first | (go_simp; done) | (go_simp; with_reducible rfl) | (go_simp; decide)
    (try simp only [Act.put, gy0, gy1, gy2])
    refine wpAnyH_take (i := 22) (v := ?_) (by simp only [gx0, gx1, gx2]; rfl) (by kernel_rfl) (by kernel_rfl) (by kernel_rfl) (fun _ _ _ h => h) (.inl ⟨by rfl, ?_⟩) hH ?_
    rotate_left
    · intro w hSw; (try dsimp only at hSw); first | (go_simp; done) | (go_simp; with_reducible rfl) | (go_simp; decide)
    (try simp only [Act.put, gy0, gy1, gy2])
    refine wpAnyH_take (i := 23) (v := ?_) (by simp only [gx0, gx1, gx2]; rfl) (by kernel_rfl) (by kernel_rfl) (by kernel_rfl) (fun _ _ _ h => h) (.inl ⟨by rfl, ?_⟩) hH ?_
    rotate_left
    · intro w hSw; (try dsimp only at hSw); first | (go_simp; done) | (go_simp; with_reducible rfl) | (go_simp; decide)
    (try simp only [Act.put, gy0, gy1, gy2])
    refine wpAnyH_ready (rs := [24]) (by kernel_rfl) (by simp) ?_
    refine AllReadyH.cons (by simp only [gx0, gx1, gx2]; rfl) (fun K hK => ?_) AllReadyH.nil
    go_simp
    have cc := riadd_any (sg lo) A3 n3 c3 _ (sg 1) A5 n5 c5 _ w8 Rlo_8.out (by omega) Rone_8.out (by omega)
    rw [iv_sg, iv_sg] at cc
    refine cc.mono ?_
    rintro e w9 ⟨A6, n6, c6, rfl, r, b⟩
    clear cc hH
    have l6 : n6 ≤ 7 := rd_len r (sum_len llo (by decide))
    have Rs := hid r
    clear r
    have Va_9 := hid (Va_8.out.keep b)
    have Ka_9 := hid (Ka_8.out.keep b)
    have Klo_9 := hid (Klo_8.out.keep b)
    have Khi_9 := hid (Khi_8.out.keep b)
    have Rlo_9 := hid (Rlo_8.out.keep b)
    have Rhi_9 := hid (Rhi_8.out.keep b)
    have Rone_9 := hid (Rone_8.out.keep b)
    have Kone_9 := hid (Kone_8.out.keep b)
    have Kx_9 := hid (Kx_8.out.keep b)
    have Ky_9 := hid (Ky_8.out.keep b)
    have X_9 := hid (bx_call X_8.out b)
    clear b Va_8 Ka_8 Klo_8 Khi_8 Rlo_8 Rhi_8 Rone_8 Kone_8 Kx_8 Ky_8 X_8
    (try go_wp2_with fail)
    refine hK.out _ _ ?_ (fun hH => ?_)
    exact (And.intro (blk_three Ka_9.out) (And.intro (blk_two Klo_9.out) (And.intro (blk_two Khi_9.out) (And.intro (blk_two Kone_9.out) (And.intro (blk_three Kx_9.out) (blk_three Ky_9.out))))))
    clear hK K
    (try simp only [Act.put, gy0, gy1, gy2])
    refine wpAnyH_take (i := 25) (v := ?_) (by simp only [gx0, gx1, gx2]; rfl) (by kernel_rfl) (by kernel_rfl) (by kernel_rfl) (fun _ _ _ h => h) (.inl ⟨by rfl, ?_⟩) hH ?_
    rotate_left
    · intro w hSw; (try dsimp only at hSw); first | (go_simp; done) | (go_simp; with_reducible rfl) | (go_simp; decide)
    (try simp only [Act.put, gy0, gy1, gy2])
    refine wpAnyH_ready (rs := [26]) (by kernel_rfl) (by simp) ?_
    refine AllReadyH.cons (by simp only [gx0, gx1, gx2]; rfl) (fun K hK => ?_) AllReadyH.nil
    go_simp
    have cc := vrcmp ga Aa na ca Da ma da (sg (lo + 1)) A6 n6 c6 none 0 0 7 za ((lo + 1 : Int) : Rat) w9 (FrV.up Va_9.out (by omega)) ((frl_int Rs.out l6 (by omega)).v) (by omega)
    rw [H3.out] at cc
    refine cc.mono ?_
    rintro e w10 ⟨rfl, b⟩
    clear cc hH
    have Va_10 := hid (Va_9.out.keep b)
    have Ka_10 := hid (Ka_9.out.keep b)
    have Klo_10 := hid (Klo_9.out.keep b)
    have Khi_10 := hid (Khi_9.out.keep b)
    have Rlo_10 := hid (Rlo_9.out.keep b)
    have Rhi_10 := hid (Rhi_9.out.keep b)
    have Rone_10 := hid (Rone_9.out.keep b)
    have Kone_10 := hid (Kone_9.out.keep b)
    have Kx_10 := hid (Kx_9.out.keep b)
    have Ky_10 := hid (Ky_9.out.keep b)
    have Rs_10 := hid (Rs.out.keep b)
    have X_10 := hid (bx_call X_9.out b)
    clear b Va_9 Ka_9 Klo_9 Khi_9 Rlo_9 Rhi_9 Rone_9 Kone_9 Kx_9 Ky_9 Rs X_9
    (try go_wp2_with fail)
    refine hK.out _ _ ?_ (fun hH => ?_)
    exact (And.intro (blk_three Ka_10.out) (And.intro (blk_two Klo_10.out) (And.intro (blk_two Khi_10.out) (And.intro (blk_two Kone_10.out) (And.intro (blk_three Kx_10.out) (blk_three Ky_10.out))))))
    clear hK K
    (try simp only [Act.put, gy0, gy1, gy2])
    refine wpAnyH_take (i := 27) (v := ?_) (by simp only [gx0, gx1, gx2]; rfl) (by kernel_rfl) (by kernel_rfl) (by kernel_rfl) (fun _ _ _ h => h) (.inl ⟨by rfl, ?_⟩) hH ?_
    rotate_left
    · intro w hSw; (try dsimp only at hSw); first | (go_simp; done) | (go_simp; with_reducible rfl) | (go_simp; decide)
    (try simp only [Act.put, gy0, gy1, gy2])
    refine wpAnyH_take (i := 28) (v := ?_) (by simp only [gx0, gx1, gx2]; rfl) (by kernel_rfl) (by kernel_rfl) (by kernel_rfl) (fun _ _ _ h => h) (.inl ⟨by rfl, ?_⟩) hH ?_
    rotate_left
    · intro w hSw; (try dsimp only at hSw); first | (go_simp; done) | (go_simp; with_reducible rfl) | (go_simp; decide)
    (try simp only [Act.put, gy0, gy1, gy2])
    refine wpAnyH_take (i := 29) (v := ?_) (by simp only [gx0, gx1, gx2]; rfl) (by kernel_rfl) (by kernel_rfl) (by kernel_rfl) (fun _ _ _ h => h) (.inl ⟨by rfl, ?_⟩) hH ?_
    rotate_left
    · intro w hSw; (try dsimp only at hSw); first | (go_simp; done) | (go_simp; with_reducible rfl) | (go_simp; decide)
    (try simp only [Act.put, gy0, gy1, gy2])
    refine wpAnyH_take (i := 30) (v := ?_) (by simp only [gx0, gx1, gx2]; rfl) (by kernel_rfl) (by kernel_rfl) (by kernel_rfl) (fun _ _ _ h => h) (.inl ⟨by rfl, ?_⟩) hH ?_
    rotate_left
    · intro w hSw; (try dsimp only at hSw); first | (go_simp; done) | (go_simp; with_reducible rfl) | (go_simp; decide)
    (try simp only [Act.put, gy0, gy1, gy2])
    refine wpAnyH_take (i := 31) (v := ?_) (by simp only [gx0, gx1, gx2]; rfl) (by kernel_rfl) (by kernel_rfl) (by kernel_rfl) (fun _ _ _ h => h) (.inl ⟨by rfl, ?_⟩) hH ?_
    rotate_left
    · intro w hSw; (try dsimp only at hSw); first | (go_simp; done) | (go_simp; with_reducible rfl) | (go_simp; decide)
    (try simp only [Act.put, gy0, gy1, gy2])
    refine wpAnyH_take (i := 34) (v := ?_) (by simp only [gx0, gx1, gx2]; rfl) (by kernel_rfl) (by kernel_rfl) (by kernel_rfl) (fun _ _ _ h => h) (.inl ⟨by rfl, ?_⟩) hH ?_
    rotate_left
    · intro w hSw; (try dsimp only at hSw); first | (go_simp; done) | (go_simp; with_reducible rfl) | (go_simp; decide)
    (try simp only [Act.put, gy0, gy1, gy2])
    refine wpAnyH_ready (rs := [32]) (by kernel_rfl) (by simp) ?_
    refine AllReadyH.cons (by simp only [gx0, gx1, gx2]; rfl) (fun K hK => ?_) AllReadyH.nil
    go_simp
    have cc := risub_any (sg hi) A4 n4 c4 _ (sg 1) A5 n5 c5 _ w10 Rhi_10.out (by omega) Rone_10.out (by omega)
    rw [iv_sg, iv_sg] at cc
    refine cc.mono ?_
    rintro e w11 ⟨A7, n7, c7, rfl, r, b⟩
    clear cc hH
    have l7 : n7 ≤ 7 := rd_len r (by rw [Int.sub_eq_add_neg]; exact sum_len lhi (by decide))
    have Rt := hid r
    clear r
    have Va_11 := hid (Va_10.out.keep b)
    have Ka_11 := hid (Ka_10.out.keep b)
    have Klo_11 := hid (Klo_10.out.keep b)
    have Khi_11 := hid (Khi_10.out.keep b)
    have Rlo_11 := hid (Rlo_10.out.keep b)
    have Rhi_11 := hid (Rhi_10.out.keep b)
    have Rone_11 := hid (Rone_10.out.keep b)
    have Kone_11 := hid (Kone_10.out.keep b)
    have Kx_11 := hid (Kx_10.out.keep b)
    have Ky_11 := hid (Ky_10.out.keep b)
    have Rs_11 := hid (Rs_10.out.keep b)
    have X_11 := hid (bx_call X_10.out b)
    clear b Va_10 Ka_10 Klo_10 Khi_10 Rlo_10 Rhi_10 Rone_10 Kone_10 Kx_10 Ky_10 Rs_10 X_10
    (try go_wp2_with fail)
    refine hK.out _ _ ?_ (fun hH => ?_)
    exact (And.intro (blk_three Ka_11.out) (And.intro (blk_two Klo_11.out) (And.intro (blk_two Khi_11.out) (And.intro (blk_two Kone_11.out) (And.intro (blk_three Kx_11.out) (blk_three Ky_11.out))))))
    clear hK K
    (try simp only [Act.put, gy0, gy1, gy2])
    refine wpAnyH_take (i := 33) (v := ?_) (by simp only [gx0, gx1, gx2]; rfl) (by kernel_rfl) (by kernel_rfl) (by kernel_rfl) (fun _ _ _ h => h) (.inl ⟨by rfl, ?_⟩) hH ?_
    rotate_left
    · intro w hSw; (try dsimp only at hSw); first | (go_simp; done) | (go_simp; with_reducible rfl) | (go_simp; decide)
    (try simp only [Act.put, gy0, gy1, gy2])
    refine wpAnyH_ready (rs := [35]) (by kernel_rfl) (by simp) ?_
    refine AllReadyH.cons (by simp only [gx0, gx1, gx2]; rfl) (fun K hK => ?_) AllReadyH.nil
    go_simp
    have cc := vrcmp (sg (hi - 1)) A7 n7 c7 none 0 0 ga Aa na ca Da ma da 7 ((hi - 1 : Int) : Rat) za w11 ((frl_int Rt.out l7 (by omega)).v) (FrV.up Va_11.out (by omega)) (by omega)
    rw [H4.out] at cc
    refine cc.mono ?_
    rintro e w12 ⟨rfl, b⟩
    clear cc hH
    have Va_12 := hid (Va_11.out.keep b)
    have Ka_12 := hid (Ka_11.out.keep b)
    have Klo_12 := hid (Klo_11.out.keep b)
    have Khi_12 := hid (Khi_11.out.keep b)
    have Rlo_12 := hid (Rlo_11.out.keep b)
    have Rhi_12 := hid (Rhi_11.out.keep b)
    have Rone_12 := hid (Rone_11.out.keep b)
    have Kone_12 := hid (Kone_11.out.keep b)
    have Kx_12 := hid (Kx_11.out.keep b)
    have Ky_12 := hid (Ky_11.out.keep b)
    have Rs_12 := hid (Rs_11.out.keep b)
    have Rt_12 := hid (Rt.out.keep b)
    have X_12 := hid (bx_call X_11.out b)
    clear b Va_11 Ka_11 Klo_11 Khi_11 Rlo_11 Rhi_11 Rone_11 Kone_11 Kx_11 Ky_11 Rs_11 Rt X_11
    (try go_wp2_with fail)
    refine hK.out _ _ ?_ (fun hH => ?_)
    exact (And.intro (blk_three Ka_12.out) (And.intro (blk_two Klo_12.out) (And.intro (blk_two Khi_12.out) (And.intro (blk_two Kone_12.out) (And.intro (blk_three Kx_12.out) (blk_three Ky_12.out))))))
    clear hK K
    (try simp only [Act.put, gy0, gy1, gy2])
    refine wpAnyH_take (i := 36) (v := ?_) (by simp only [gx0, gx1, gx2]; rfl) (by kernel_rfl) (by kernel_rfl) (by kernel_rfl) (fun _ _ _ h => h) (.inl ⟨by rfl, ?_⟩) hH ?_
    rotate_left
    · intro w hSw; (try dsimp only at hSw); first | (go_simp; done) | (go_simp; with_reducible rfl) | (go_simp; decide)
    (try simp only [Act.put, gy0, gy1, gy2])
    refine wpAnyH_take (i := 37) (v := ?_) (by simp only [gx0, gx1, gx2]; rfl) (by kernel_rfl) (by kernel_rfl) (by kernel_rfl) (fun _ _ _ h => h) (.inl ⟨by rfl, ?_⟩) hH ?_
    rotate_left
    · intro w hSw; (try dsimp only at hSw); first | (go_simp; done) | (go_simp; with_reducible rfl) | (go_simp; decide)
    (try simp only [Act.put, gy0, gy1, gy2])
    refine wpAnyH_done (by kernel_rfl) ?_ _
    refine NoPanic.normal ?_
    clear hH
    go_upto_region 8 with fail
    (try simp only [List.append_eq, List.cons_append, List.nil_append])
    refine wp_region_noPanic ?_
    refine wp_region_held_drew (S := (fun W => (W.cell? ⟨w.heap.size, 0, none⟩ = some (.bool ga) ∧ W.cell? ⟨w.heap.size, 1, none⟩ = some (.slice Aa na ca) ∧ W.cell? ⟨w.heap.size, 2, none⟩ = some (.slice Da ma da)) ∧ (W.cell? ⟨p3, 0, none⟩ = some (.bool (sg lo)) ∧ W.cell? ⟨p3, 1, none⟩ = some (.slice A3 n3 c3)) ∧ (W.cell? ⟨p4, 0, none⟩ = some (.bool (sg hi)) ∧ W.cell? ⟨p4, 1, none⟩ = some (.slice A4 n4 c4)) ∧ (W.cell? ⟨p5, 0, none⟩ = some (.bool (sg 1)) ∧ W.cell? ⟨p5, 1, none⟩ = some (.slice A5 n5 c5)) ∧ (W.cell? ⟨p6, 0, none⟩ = some (.bool (sg lo)) ∧ W.cell? ⟨p6, 1, none⟩ = some (.slice A3 n3 c3) ∧ W.cell? ⟨p6, 2, none⟩ = some (.slice none 0 0)) ∧ (W.cell? ⟨p7, 0, none⟩ = some (.bool (sg hi)) ∧ W.cell? ⟨p7, 1, none⟩ = some (.slice A4 n4 c4) ∧ W.cell? ⟨p7, 2, none⟩ = some (.slice none 0 0)))) (by kernel_rfl) ?_ (fun hH => ?_)
    exact (And.intro (blk_three Ka_12.out) (And.intro (blk_two Klo_12.out) (And.intro (blk_two Khi_12.out) (And.intro (blk_two Kone_12.out) (And.intro (blk_three Kx_12.out) (blk_three Ky_12.out))))))
    have bd := bx_drew (bx_refl w12)
    obtain ⟨w13, hW0⟩ : ∃ W, W = w12.drew := ⟨_, rfl⟩
    rw [← hW0] at bd hH ⊢
    clear hW0
    have Va_13 := hid (Va_12.out.keep bd)
    have Ka_13 := hid (Ka_12.out.keep bd)
    have Klo_13 := hid (Klo_12.out.keep bd)
    have Khi_13 := hid (Khi_12.out.keep bd)
    have Rlo_13 := hid (Rlo_12.out.keep bd)
    have Rhi_13 := hid (Rhi_12.out.keep bd)
    have Rone_13 := hid (Rone_12.out.keep bd)
    have Kone_13 := hid (Kone_12.out.keep bd)
    have Kx_13 := hid (Kx_12.out.keep bd)
    have Ky_13 := hid (Ky_12.out.keep bd)
    have Rs_13 := hid (Rs_12.out.keep bd)
    have Rt_13 := hid (Rt_12.out.keep bd)
    have X_13 := hid (bx_call X_12.out bd)
    clear bd Va_12 Ka_12 Klo_12 Khi_12 Rlo_12 Rhi_12 Rone_12 Kone_12 Kx_12 Ky_12 Rs_12 Rt_12 X_12 
    refine wpAnyH_take (i := 0) (v := ?_) (by simp only [gx0, gx2]; rfl) (by kernel_rfl) (by kernel_rfl) (by kernel_rfl) (fun _ _ _ h => h) (.inl ⟨by rfl, ?_⟩) hH ?_
    rotate_left
    · intro w hSw; (try dsimp only at hSw); first | (go_simp; done) | (go_simp; with_reducible rfl) | (go_simp; decide)
    (try simp only [Act.put, gy0, gy1, gy2])
    refine wpAnyH_take (i := 1) (v := ?_) (by simp only [gx0, gx1, gx2]; rfl) (by kernel_rfl) (by kernel_rfl) (by kernel_rfl) (fun _ _ _ h => h) (.inl ⟨by rfl, ?_⟩) hH ?_
    rotate_left
    · intro w hSw; (try dsimp only at hSw); first | (go_simp; done) | (go_simp; with_reducible rfl) | (go_simp; decide)
    (try simp only [Act.put, gy0, gy1, gy2])
    refine wpAnyH_take (i := 3) (v := ?_) (by simp only [gx0, gx1, gx2]; rfl) (by kernel_rfl) (by kernel_rfl) (by kernel_rfl) (fun _ _ _ h => h) (.inl ⟨by rfl, ?_⟩) hH ?_
    rotate_left
    · intro w hSw; (try dsimp only at hSw); first | (go_simp; done) | (go_simp; with_reducible rfl) | (go_simp; decide)
    (try simp only [Act.put, gy0, gy1, gy2])
    refine wpAnyH_take (i := 4) (v := ?_) (by simp only [gx0, gx1, gx2]; rfl) (by kernel_rfl) (by kernel_rfl) (by kernel_rfl) (fun _ _ _ h => h) (.inl ⟨by rfl, ?_⟩) hH ?_
    rotate_left
    · intro w hSw; (try dsimp only at hSw); first | (go_simp; done) | (go_simp; with_reducible rfl) | (go_simp; decide)
    (try simp only [Act.put, gy0, gy1, gy2])
    refine wpAnyH_ready (rs := [2]) (by kernel_rfl) (by simp) ?_
    refine AllReadyH.cons (by simp only [gx0, gx1, gx2]; rfl) (fun K hK => ?_) AllReadyH.nil
    go_simp
    have cc := risame_dec A3 n3 c3 A4 n4 c4 w13 Rlo_13.out Rhi_13.out
    rw [← HE.out] at cc
    refine cc.mono ?_
    rintro e w14 ⟨rfl, b⟩
    clear cc hH
    have Va_14 := hid (Va_13.out.keep b)
    have Ka_14 := hid (Ka_13.out.keep b)
    have Klo_14 := hid (Klo_13.out.keep b)
    have Khi_14 := hid (Khi_13.out.keep b)
    have Rlo_14 := hid (Rlo_13.out.keep b)
    have Rhi_14 := hid (Rhi_13.out.keep b)
    have Rone_14 := hid (Rone_13.out.keep b)
    have Kone_14 := hid (Kone_13.out.keep b)
    have Kx_14 := hid (Kx_13.out.keep b)
    have Ky_14 := hid (Ky_13.out.keep b)
    have Rs_14 := hid (Rs_13.out.keep b)
    have Rt_14 := hid (Rt_13.out.keep b)
    have X_14 := hid (bx_call X_13.out b)
    clear b Va_13 Ka_13 Klo_13 Khi_13 Rlo_13 Rhi_13 Rone_13 Kone_13 Kx_13 Ky_13 Rs_13 Rt_13 X_13
    (try go_wp2_with fail)
    refine hK.out _ _ ?_ (fun hH => ?_)
    exact (And.intro (blk_three Ka_14.out) (And.intro (blk_two Klo_14.out) (And.intro (blk_two Khi_14.out) (And.intro (blk_two Kone_14.out) (And.intro (blk_three Kx_14.out) (blk_three Ky_14.out))))))
    clear hK K
    (try simp only [Act.put, gy0, gy1, gy2])
    refine wpAnyH_ready (rs := [5]) (by kernel_rfl) (by simp) ?_
    refine AllReadyH.cons (by simp only [gx0, gx1, gx2]; rfl) (fun K hK => ?_) AllReadyH.nil
    go_simp
    have cc := vrcmp (sg lo) A3 n3 c3 none 0 0 ga Aa na ca Da ma da 6 (lo : Rat) za w14 ((frl_int Rlo_14.out l3 (by omega)).v) Va_14.out (by omega)
    rw [← S1.out] at cc
    refine cc.mono ?_
    rintro e w15 ⟨rfl, b⟩
    clear cc hH
    have Va_15 := hid (Va_14.out.keep b)
    have Ka_15 := hid (Ka_14.out.keep b)
    have Klo_15 := hid (Klo_14.out.keep b)
    have Khi_15 := hid (Khi_14.out.keep b)
    have Rlo_15 := hid (Rlo_14.out.keep b)
    have Rhi_15 := hid (Rhi_14.out.keep b)
    have Rone_15 := hid (Rone_14.out.keep b)
    have Kone_15 := hid (Kone_14.out.keep b)
    have Kx_15 := hid (Kx_14.out.keep b)
    have Ky_15 := hid (Ky_14.out.keep b)
    have Rs_15 := hid (Rs_14.out.keep b)
    have Rt_15 := hid (Rt_14.out.keep b)
    have X_15 := hid (bx_call X_14.out b)
    clear b Va_14 Ka_14 Klo_14 Khi_14 Rlo_14 Rhi_14 Rone_14 Kone_14 Kx_14 Ky_14 Rs_14 Rt_14 X_14
    (try go_wp2_with fail)
    refine hK.out _ _ ?_ (fun hH => ?_)
    exact (And.intro (blk_three Ka_15.out) (And.intro (blk_two Klo_15.out) (And.intro (blk_two Khi_15.out) (And.intro (blk_two Kone_15.out) (And.intro (blk_three Kx_15.out) (blk_three Ky_15.out))))))
    clear hK K
    (try simp only [Act.put, gy0, gy1, gy2])
    refine wpAnyH_take (i := 6) (v := ?_) (by simp only [gx0, gx1, gx2]; rfl) (by kernel_rfl) (by kernel_rfl) (by kernel_rfl) (fun _ _ _ h => h) (.inl ⟨by rfl, ?_⟩) hH ?_
    rotate_left
    · intro w hSw; (try dsimp only at hSw); first | (go_simp; done) | (go_simp; with_reducible rfl) | (go_simp; decide)
    (try simp only [Act.put, gy0, gy1, gy2])
    refine wpAnyH_take (i := 7) (v := ?_) (by simp only [gx0, gx1, gx2]; rfl) (by kernel_rfl) (by kernel_rfl) (by kernel_rfl) (fun _ _ _ h => h) (.inl ⟨by rfl, ?_⟩) hH ?_
    rotate_left
    · intro w hSw; (try dsimp only at hSw); first | (go_simp; done) | (go_simp; with_reducible rfl) | (go_simp; decide)
    (try simp only [Act.put, gy0, gy1, gy2])
    refine wpAnyH_take (i := 8) (v := ?_) (by simp only [gx0, gx1, gx2]; rfl) (by kernel_rfl) (by kernel_rfl) (by kernel_rfl) (fun _ _ _ h => h) (.inl ⟨by rfl, ?_⟩) hH ?_
    rotate_left
    · intro w hSw; (try dsimp only at hSw); first | (go_simp; done) | (go_simp; with_reducible rfl) | (go_simp; decide)
    (try simp only [Act.put, gy0, gy1, gy2])
    refine wpAnyH_done (by kernel_rfl) ?_ _
    refine NoPanic.normal ?_
    clear hH
    go_wp2_with fail
    go_ret
    exact ⟨rfl, X_15.out⟩
  · have hF := decide_eq_false hf
    clear hf
    go_enter Try.func14, Try.ntmps14
    go_wp2_with fail
    refine (qawake_any _).mono ?_
    rintro e w1 ⟨rfl, b⟩
    have Ra_1 := hid (Ra.out.keep b)
    have Sa_1 := hid (Sa.out.keep b)
    have Ka_1 := hid (Ka.out.keep b)
    have X_1 := hid (bx_call X.out b)
    clear b X Ra Sa Ka
    obtain ⟨ka0, ka1, ka2⟩ := blk_three Ka_1.out
    have cc := qfew1 (k := 6) (by omega) (Blk.new w1 [.bool ga, .slice Aa na ca, .slice Da ma da] 50) (by omega) (by omega)
    rw [hF] at cc
    have CC := hid cc
    clear cc hF
    go_wp2_with fail
    refine (CC.out).mono ?_
    rintro e w2 ⟨rfl, b0⟩
    have X_2 := hid (bx_call X_1.out (bx_call (bx_alloc (bx_refl w1) (.cells #[.bool ga, .slice Aa na ca, .slice Da ma da] 50)) b0))
    clear CC b0 X_1
    go_wp2_with fail
    refine (qawake_any _).mono ?_
    rintro e w3 ⟨rfl, b⟩
    have X_3 := hid (bx_call X_2.out b)
    clear X_2 b
    go_wp2_with fail
    go_ret
    exact ⟨rfl, X_3.out⟩

end Go.Proofs.Ytcbbacnhnaopmaa
