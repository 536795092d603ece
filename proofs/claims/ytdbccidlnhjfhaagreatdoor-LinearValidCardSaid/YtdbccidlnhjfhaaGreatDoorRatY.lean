/- RatY: RatF, RatG, RatH, RatI, RatJ, RatK in one text. -/
import Derived.Test.YtdbccidlnhjfhaaGreatDoorRatX
namespace Go.Proofs.YtdbccidlnhjfhaaGreatDoor
open Go.RowKit
set_option maxRecDepth 100000
set_option maxHeartbeats 4000000 in
theorem vfloor (g : Bool) (A : Option Addr) (n c : Nat) (D : Option Addr) (m d k : Nat) (q : Rat) (w : World) (hv : FrV w g A n c D m d k q) (hk : k ≤ 274877906943) :
    Calls Tryz.prog 76 #[.agg #[.bool g, .slice A n c, .slice D m d]] w (RetInt w q.floor) := by
  obtain ⟨xs, ds, h, hn, kk, hm, h1, rfl⟩ := hv
  have bx : Below w.heap.size w ((w.alloc (.cells #[.bool g, .slice A n c, .slice D m d] 41)).alloc (.cells #[.bool false, .slice none 0 0] 39)) := bx_alloc (bx_alloc (bx_refl w) _) _
  have K1 := hid ((Blk.new w [.bool g, .slice A n c, .slice D m d] 41).alloc (.cells #[.bool false, .slice none 0 0] 39))
  have K2 := hid (blk_new1 w (.cells #[.bool g, .slice A n c, .slice D m d] 41) [.bool false, .slice none 0 0] 39)
  have PA := hid (parts_any g A n c xs D m d ds k _ (h.keep bx) hn (kk.keep bx) hm h1)
  have X := hid bx
  have dp := dv1_pos ds
  rw [← fq_floor (iv g xs) dp]
  have hq : ((dv1 ds : Nat) : Int) ≠ 0 := by omega
  obtain ⟨p, hp⟩ : ∃ p, p = iv g xs := ⟨_, rfl⟩
  obtain ⟨y, hy⟩ : ∃ y : Int, y = (dv1 ds : Int) := ⟨_, rfl⟩
  rw [← hp, ← hy] at PA
  rw [← hp, ← hy]
  rw [← hy] at hq
  have e0 : fq p y = fqz p y := (if_neg hq).symm
  rw [e0]
  obtain ⟨V, hV⟩ : ∃ V, V = fqz p y := ⟨_, rfl⟩
  obtain ⟨V2, hV2⟩ : ∃ V, V = frz p y := ⟨_, rfl⟩
  obtain ⟨V3, hV3⟩ : ∃ V, V = ez y := ⟨_, rfl⟩
  have FL := hid (fun (W : World) g1 A1 n1 c1 xs1 g2 D1 m1 d1 ys1 (r1 : Rd W A1 n1 c1 xs1) (e1 : iv g1 xs1 = p) (l1 : n1 ≤ k) (r2 : Rd W D1 m1 d1 ys1) (e2 : iv g2 ys1 = y) (l2 : m1 ≤ k) => (show Calls Tryz.prog 118 #[.agg #[.bool g1, .slice A1 n1 c1], .agg #[.bool g2, .slice D1 m1 d1]] W (RetQR W V V2 V3) from by
    have t := ifloor_any g1 A1 n1 c1 xs1 g2 D1 m1 d1 ys1 W r1 (by omega) r2 (by omega)
    rw [e1, e2, ← hV, ← hV2, ← hV3] at t
    exact t))
  rw [← hV]
  obtain ⟨s1, s2, s3⟩ := blk_three K1.out
  clear bx h kk hp hy hV hV2 hV3 dp e0 hq
  go_enter Tryz.func76, Tryz.ntmps76
  go_wp2_with fail
  refine (PA.out).mono ?_
  rintro e w1 ⟨g1, A1, n1, c1, xs1, g2, D1, m1, d1, ys1, rfl, r1, e1, l1, r2, e2, l2, b⟩
  have p1 := r1.2.1
  have p2 := r1.2.2.1
  have p3 := r2.2.1
  have p4 := r2.2.2.1
  have o := bx_alloc (bx_refl w1) (.cells #[.bool g1, .slice A1 n1 c1, .bool g2, .slice D1 m1 d1] 130)
  have C2 := hid (FL.out _ g1 A1 n1 c1 xs1 g2 D1 m1 d1 ys1 (r1.keep o) e1 l1 (r2.keep o) e2 l2)
  have X2 := hid (bx_call X.out (bx_call b o))
  have K3 := hid (K2.out.keep (bx_call b o))
  clear r1 e1 l1 r2 e2 l2 b o PA FL K1 K2 X s1 s2 s3
  go_wp2_with fail
  refine (C2.out).mono ?_
  rintro e w3 ⟨Az, nz, cz, Ar, nr, cr, rfl, rzz, rr, b⟩
  have q1 := rzz.2.1
  have q2 := rzz.2.2.1
  have q3 := rr.2.1
  have q4 := rr.2.2.1
  have o := bx_alloc (bx_alloc (bx_refl w3) (.cells #[.bool (sg V), .slice Az nz cz] 39)) (.cells #[.bool (sg V2), .slice Ar nr cr] 39)
  have K4 := hid (K3.out.keep (bx_call b o))
  have EE := hid (ret_int_end (rzz.keep o) K4.out (bx_call X2.out (bx_call b o)) (by omega))
  obtain ⟨x0, x1⟩ := blk_two K4.out
  have f0 := Blk.free K4.out 0
  have f1 := Blk.free K4.out 1
  clear rzz rr b o C2 K3 X2 K4
  go_wp2_with fail
  exact bodyPost_ret (v := .agg #[.bool (sg V), .slice Az nz cz]) (by simp [results, Tryz.results76, go_sem, x0, x1]) rfl EE.out
set_option maxHeartbeats 2000000 in
theorem vceil (g : Bool) (A : Option Addr) (n c : Nat) (D : Option Addr) (m d k : Nat) (q : Rat) (w : World) (hv : FrV w g A n c D m d k q) (hk : k ≤ 274877906943) :
    Calls Tryz.prog 77 #[.agg #[.bool g, .slice A n c, .slice D m d]] w (RetInt w q.ceil) := by
  have lf : ∀ z : Int, z = (-q).floor → (dg z.natAbs).length ≤ k + 1 := by
    intro z hz
    obtain ⟨xs, ds, h, hn, kk, hm, h1, rfl⟩ := hv
    rw [hz, Rat.neg_mkRat, floor_mkRat _ (dv1_pos ds)]
    have h2 := iv_ln (g := g) h hn
    have h3 : ((-iv g xs) / ((dv1 ds : Nat) : Int)).natAbs ≤ (iv g xs).natAbs := by
      rw [← Int.natAbs_neg (iv g xs)]
      exact Int.natAbs_ediv_le_natAbs _ _
    exact Nat.le_trans (dg_len_mono h3) (by omega)
  have bx : Below w.heap.size w ((w.alloc (.cells #[.bool g, .slice A n c, .slice D m d] 41)).alloc (.cells #[.bool false, .slice none 0 0] 39)) := bx_alloc (bx_alloc (bx_refl w) _) _
  have K1 := hid ((Blk.new w [.bool g, .slice A n c, .slice D m d] 41).alloc (.cells #[.bool false, .slice none 0 0] 39))
  have K2 := hid (blk_new1 w (.cells #[.bool g, .slice A n c, .slice D m d] 41) [.bool false, .slice none 0 0] 39)
  have NE := hid (vneg g A n c D m d k q _ (hv.keep bx) hk)
  have X := hid bx
  rw [← ceil_neg_floor]
  obtain ⟨V, hV⟩ : ∃ V, V = -q := ⟨_, rfl⟩
  rw [← hV] at NE lf ⊢
  have FL := hid (fun (W : World) A2 n2 c2 D2 m2 d2 (f : FrL W A2 n2 c2 D2 m2 d2 k V) => vfloor (sg V.num) A2 n2 c2 D2 m2 d2 k V W f.v hk)
  obtain ⟨Z, hZ⟩ : ∃ Z, Z = V.floor := ⟨_, rfl⟩
  rw [← hZ] at FL ⊢
  have lz := lf Z hZ
  have NG := hid (fun (W : World) A2 n2 c2 (r : Rd W A2 n2 c2 (dg Z.natAbs)) => ineg_any (sg Z) A2 n2 c2 _ W r (by have := r.1; omega))
  simp only [iv_sg] at NG
  obtain ⟨s1, s2, s3⟩ := blk_three K1.out
  clear bx hv hV hZ lf lz
  go_enter Tryz.func77, Tryz.ntmps77
  go_wp2_with fail
  refine (NE.out).mono ?_
  rintro e w1 ⟨A2, n2, c2, D2, m2, d2, rfl, r, b⟩
  have F2 := hid (FL.out w1 A2 n2 c2 D2 m2 d2 r)
  have X1 := hid (bx_call X.out b)
  have K3 := hid (K2.out.keep b)
  clear r b NE FL X K1 K2 s1 s2 s3
  go_wp2_with fail
  refine (F2.out).mono ?_
  rintro e w2 ⟨A3, n3, c3, rfl, r, b⟩
  have N2 := hid (NG.out w2 A3 n3 c3 r)
  have X2 := hid (bx_call X1.out b)
  have K4 := hid (K3.out.keep b)
  clear r b F2 NG X1 K3
  go_wp2_with fail
  refine (N2.out).mono ?_
  rintro e w3 ⟨A4, n4, c4, rfl, r, b⟩
  have K5 := hid (K4.out.keep b)
  have EE := hid (ret_int_end r K5.out (bx_call X2.out b) (by omega))
  obtain ⟨x0, x1⟩ := blk_two K5.out
  have f0 := Blk.free K5.out 0
  have f1 := Blk.free K5.out 1
  clear r b N2 X2 K4 K5
  go_wp2_with fail
  exact bodyPost_ret (v := .agg #[.bool (sg (-Z)), .slice A4 n4 c4]) (by simp [results, Tryz.results77, go_sem, x0, x1]) rfl EE.out
theorem pv_zr (p : Int) : pv p 0 = 0 := by
  unfold pv
  rw [Rat.intCast_zero]
  grind
theorem dn_one {y : Nat} (h : y = 1) : dn y = [] := if_pos h
theorem dn_ne {y : Nat} (h : y ≠ 1) : dn y = dg y := if_neg h
theorem dn_ln0 {w : World} {D : Option Addr} {m d y : Nat} (h : Rd w D m d (dn y)) (hy : y = 1) : m = 0 := by
  rw [← h.1, dn_one hy]; rfl
theorem dn_ln1 {w : World} {D : Option Addr} {m d y : Nat} (h : Rd w D m d (dn y)) (hy : y ≠ 1) (h0 : 0 < y) : 0 < m := by
  rw [← h.1, dn_ne hy]
  exact dg_len_pos h0
set_option maxHeartbeats 8000000 in
theorem vrmake (g1 : Bool) (A : Option Addr) (n c : Nat) (xs : List Nat) (g2 : Bool) (B : Option Addr) (m d : Nat) (ys : List Nat) (k : Nat) (w : World) (h : Rd w A n c xs) (hn : n ≤ k) (q : Rd w B m d ys) (hm : m ≤ k) (h1 : 1 ≤ k) (hk : k ≤ 1099511627774) :
    Calls Tryz.prog 96 #[.agg #[.bool g1, .slice A n c], .agg #[.bool g2, .slice B m d]] w (RetQ2 w (pv (iv g1 xs) (iv g2 ys)) k (if iv g2 ys = 0 then 2 else 0)) := by
  have bx : Below w.heap.size w (((w.alloc (.cells #[.bool g1, .slice A n c] 39)).alloc (.cells #[.bool g2, .slice B m d] 39)).alloc (.cells #[.bool false, .slice none 0 0, .slice none 0 0] 41)) := bx_alloc (bx_alloc (bx_alloc (bx_refl w) _) _) _
  have K1 := hid (((Blk.new w [.bool g1, .slice A n c] 39).alloc (.cells #[.bool g2, .slice B m d] 39)).alloc (.cells #[.bool false, .slice none 0 0, .slice none 0 0] 41))
  have K2 := hid ((blk_new1 w (.cells #[.bool g1, .slice A n c] 39) [.bool g2, .slice B m d] 39).alloc (.cells #[.bool false, .slice none 0 0, .slice none 0 0] 41))
  have k3 := blk_new1 (w.alloc (.cells #[.bool g1, .slice A n c] 39)) (.cells #[.bool g2, .slice B m d] 39) [.bool false, .slice none 0 0, .slice none 0 0] 41
  rw [World.size_alloc] at k3
  have K3 := hid k3
  have FX := hid (rfix_any g2 B m d ys _ (q.keep bx) (by omega))
  have RA := hid (h.keep bx)
  have lx := iv_ln (g := g1) h hn
  have ly0 := iv_ln (g := g2) q hm
  have X := hid bx
  obtain ⟨x, hx⟩ : ∃ x, x = iv g1 xs := ⟨_, rfl⟩
  obtain ⟨y, hy⟩ : ∃ y, y = iv g2 ys := ⟨_, rfl⟩
  rw [← hx] at lx
  rw [← hy] at FX ly0
  rw [← hx, ← hy]
  have HX := hid hx
  obtain ⟨z, hz⟩ : ∃ z : Int, z = if y = 0 then 2 else 0 := ⟨_, rfl⟩
  obtain ⟨V, hV⟩ : ∃ V, V = pv x y := ⟨_, rfl⟩
  rw [← hz, ← hV]
  have HZ := hid hz
  have HV := hid hV
  clear bx k3 h q hx hy hz hV
  obtain ⟨s0, s1⟩ := blk_two K2.out
  go_enter Tryz.func96, Tryz.ntmps96
  go_wp2_with fail
  refine (FX.out).mono ?_
  rintro e w1 ⟨A2, n2, c2, rfl, r2, b⟩
  have K20 := K2.out.keep b
  obtain ⟨v, hvv⟩ : ∃ W, W = (w1.setCell ⟨w.heap.size + 1, 0, none⟩ (.bool (sg y))).setCell ⟨w.heap.size + 1, 1, none⟩ (.slice A2 n2 c2) := ⟨_, rfl⟩
  have L1 : Hid (Blk v w.heap.size [.bool g1, .slice A n c] 39) := hid (by rw [hvv]; exact ((K1.out.keep b).far (by omega) _).far (by omega) _)
  have L2 : Hid (Blk v (w.heap.size + 1) [.bool (sg y), .slice A2 n2 c2] 39) := hid (by rw [hvv]; exact K20.reset)
  have L3 : Hid (Blk v (w.heap.size + 1 + 1) [.bool false, .slice none 0 0, .slice none 0 0] 41) := hid (by rw [hvv]; exact ((K3.out.keep b).far (by omega) _).far (by omega) _)
  have R2 : Hid (Rd v A2 n2 c2 (dg y.natAbs)) := hid (by rw [hvv]; exact rd_cell_far r2 K20 _ _)
  have R1 : Hid (Rd v A n c xs) := hid (by rw [hvv]; exact rd_cell_far (RA.out.keep b) K20 _ _)
  have X2 : Hid (Below w.heap.size w v) := hid (by rw [hvv]; exact bx_set (bx_set (bx_call X.out b) (by omega)) (by omega))
  have l2 : n2 ≤ k := by rw [← r2.1]; exact ly0
  obtain ⟨x0, x1⟩ := blk_two K20
  have f0 := Blk.free K20 0
  have f1 := Blk.free K20 1
  clear r2 b K20 K1 K2 K3 RA X FX s0 s1
  go_upto_region 2 with fail
  rw [← hvv]
  clear hvv x0 x1 f0 f1
  have p1 := R2.out.2.1
  have p2 := R2.out.2.2.1
  by_cases hy : y = 0
  · have hn0 : n2 = 0 := by rw [← R2.out.1, hy]; rfl
    subst hn0
    have e1 : z = 2 := by rw [HZ.out, if_pos hy]
    have e2 : V = 0 := by rw [HV.out, hy, pv_zr]
    clear HZ HV
    subst e1 e2
    have EE := hid (retq2_end (z := 2) (frl_zero v h1) L3.out X2.out (by omega))
    obtain ⟨s0, s1⟩ := blk_two L2.out
    obtain ⟨x0, x1, x2⟩ := blk_three L3.out
    have f0 := Blk.free L3.out 0
    have f1 := Blk.free L3.out 1
    have f2 := Blk.free L3.out 2
    clear L1 L2 L3 R1 R2 X2 HX hy
    go_wp2_with fail
    exact bodyPost_ret (v := .tuple #[.agg #[.bool (sg (0 : Rat).num), .slice none 0 0, .slice none 0 0], .int .i64 2]) (by simp [results, Tryz.results96, go_sem, x0, x1, x2, sg]) rfl EE.out
  have hn0 : ((n2 : Int) == 0) = false := by
    rw [beq_eq_false_iff_ne]
    have := dg_len_pos (n := y.natAbs) (by omega)
    have := R2.out.1
    omega
  have e1 : z = 0 := by rw [HZ.out, if_neg hy]
  have hV := HV.out
  clear HZ HV
  subst e1
  rcases Int.lt_or_le y 0 with hlt | hge
  · have hs : sg y = true := decide_eq_true hlt
    rw [hs] at L2
    have NG := hid (rineg_any g1 A n c xs v R1.out (by omega))
    rw [← HX.out] at NG
    have BU := hid (fun (W : World) A3 n3 c3 (r3 : Rd W A3 n3 c3 (dg (-x).natAbs)) (r4 : Rd W A2 n2 c2 (dg y.natAbs)) => (qrbuild_any (sg (-x)) A3 n3 c3 _ A2 n2 c2 _ W r3 (by have := r3.1; rw [Int.natAbs_neg] at this; omega) r4 (by omega) (by rw [val_dg]; omega)).mono (fun e w' hr => (show RetQ W V k e w' from by
      rw [iv_sg, val_dg] at hr
      exact retQ_of hr (by omega) (by rw [Int.natAbs_neg]; exact lx) ly0 h1 (by rw [hV, ← pv_np]; unfold np; rw [if_pos hlt]))))
    obtain ⟨s0, s1⟩ := blk_two L2.out
    obtain ⟨u0, u1⟩ := blk_two L1.out
    clear HX hV hs
    go_wp2_with fail
    refine (NG.out).mono ?_
    rintro e w3 ⟨A3, n3, c3, rfl, r3, b⟩
    have K10 := L1.out.keep b
    obtain ⟨v3, hv3⟩ : ∃ W, W = (w3.setCell ⟨w.heap.size, 0, none⟩ (.bool (sg (-x)))).setCell ⟨w.heap.size, 1, none⟩ (.slice A3 n3 c3) := ⟨_, rfl⟩
    have M1 : Hid (Blk v3 w.heap.size [.bool (sg (-x)), .slice A3 n3 c3] 39) := hid (by rw [hv3]; exact K10.reset)
    have M2 : Hid (Blk v3 (w.heap.size + 1) [.bool true, .slice A2 n2 c2] 39) := hid (by rw [hv3]; exact ((L2.out.keep b).far (by omega) _).far (by omega) _)
    have M3 : Hid (Blk v3 (w.heap.size + 1 + 1) [.bool false, .slice none 0 0, .slice none 0 0] 41) := hid (by rw [hv3]; exact ((L3.out.keep b).far (by omega) _).far (by omega) _)
    have S2 : Hid (Rd v3 A2 n2 c2 (dg y.natAbs)) := hid (by rw [hv3]; exact rd_cell_far (R2.out.keep b) K10 _ _)
    have S3 : Hid (Rd v3 A3 n3 c3 (dg (-x).natAbs)) := hid (by rw [hv3]; exact rd_cell_far r3 K10 _ _)
    have Y2 : Hid (Below w.heap.size w v3) := hid (by rw [hv3]; exact bx_set (bx_set (bx_call X2.out b) (by omega)) (by omega))
    have B3 := hid (BU.out v3 A3 n3 c3 S3.out S2.out)
    obtain ⟨x0, x1⟩ := blk_two K10
    have f0 := Blk.free K10 0
    have f1 := Blk.free K10 1
    clear r3 b K10 L1 L2 L3 R1 R2 X2 NG BU s0 s1 u0 u1
    go_upto_region 6 with fail
    rw [← hv3]
    clear hv3 x0 x1 f0 f1
    obtain ⟨u0, u1⟩ := blk_two M1.out
    obtain ⟨s0, s1⟩ := blk_two M2.out
    clear S2 S3
    go_wp2_with fail
    refine (B3.out).mono ?_
    rintro e w4 ⟨A5, n5, c5, D5, m5, d5, rfl, rr, b⟩
    have KR := hid (M3.out.keep b)
    have XR := hid (bx_call Y2.out b)
    have EE := hid (retq2_end (z := 0) rr KR.out XR.out (by omega))
    obtain ⟨x0, x1, x2⟩ := blk_three KR.out
    have f0 := Blk.free KR.out 0
    have f1 := Blk.free KR.out 1
    have f2 := Blk.free KR.out 2
    clear rr b M1 M2 M3 Y2 B3 KR XR u0 u1 s0 s1
    go_wp2_with fail
    exact bodyPost_ret (v := .tuple #[.agg #[.bool (sg V.num), .slice A5 n5 c5, .slice D5 m5 d5], .int .i64 0]) (by simp [results, Tryz.results96, go_sem, x0, x1, x2]) rfl EE.out
  · have hs : sg y = false := decide_eq_false (by omega)
    rw [hs] at L2
    have BU := hid ((qrbuild_any g1 A n c xs A2 n2 c2 _ v R1.out (by omega) R2.out (by omega) (by rw [val_dg]; omega)).mono (fun e w' hr => (show RetQ v V k e w' from by
      rw [← HX.out, val_dg] at hr
      exact retQ_of hr (by omega) lx ly0 h1 (by rw [hV, ← pv_np]; unfold np; rw [if_neg (by omega)]))))
    obtain ⟨s0, s1⟩ := blk_two L2.out
    obtain ⟨u0, u1⟩ := blk_two L1.out
    clear HX hV hs R1 R2
    go_wp2_with fail
    refine (BU.out).mono ?_
    rintro e w4 ⟨A5, n5, c5, D5, m5, d5, rfl, rr, b⟩
    have KR := hid (L3.out.keep b)
    have XR := hid (bx_call X2.out b)
    have EE := hid (retq2_end (z := 0) rr KR.out XR.out (by omega))
    obtain ⟨x0, x1, x2⟩ := blk_three KR.out
    have f0 := Blk.free KR.out 0
    have f1 := Blk.free KR.out 1
    have f2 := Blk.free KR.out 2
    clear rr b L1 L2 L3 X2 BU KR XR u0 u1 s0 s1
    go_wp2_with fail
    exact bodyPost_ret (v := .tuple #[.agg #[.bool (sg V.num), .slice A5 n5 c5, .slice D5 m5 d5], .int .i64 0]) (by simp [results, Tryz.results96, go_sem, x0, x1, x2]) rfl EE.out
set_option maxHeartbeats 2000000 in
theorem vrfrac (p q : Int) (w : World) (h1 : -9223372036854775808 ≤ p) (h2 : p ≤ 9223372036854775807) (h3 : -9223372036854775808 ≤ q) (h4 : q ≤ 9223372036854775807) :
    Calls Tryz.prog 50 #[.int .i64 p, .int .i64 q] w (RetQ2 w (pv p q) 2 (if q = 0 then 2 else 0)) := by
  have K := hid (Blk.new w [.bool false, .slice none 0 0, .slice none 0 0] 41)
  have B := hid (bx_alloc (bx_refl w) (.cells #[.bool false, .slice none 0 0, .slice none 0 0] 41))
  have F1 := hid (fun (W : World) => rifrom_any p W h1 h2)
  have F2 := hid (fun (W : World) => rifrom_any q W h3 h4)
  have lp := len_i64 h1 h2
  have lq := len_i64 h3 h4
  have MK := hid (fun (W : World) A1 n1 c1 A2 n2 c2 (r1 : Rd W A1 n1 c1 (dg p.natAbs)) (r2 : Rd W A2 n2 c2 (dg q.natAbs)) => vrmake (sg p) A1 n1 c1 _ (sg q) A2 n2 c2 _ 2 W r1 (by have := r1.1; omega) r2 (by have := r2.1; omega) (by omega) (by omega))
  simp only [iv_sg] at MK
  obtain ⟨z, hz⟩ : ∃ z : Int, z = if q = 0 then 2 else 0 := ⟨_, rfl⟩
  obtain ⟨V, hV⟩ : ∃ V, V = pv p q := ⟨_, rfl⟩
  rw [← hz, ← hV] at MK
  rw [← hz, ← hV]
  clear h1 h2 h3 h4 lp lq hz hV
  go_enter Tryz.func50, Tryz.ntmps50
  go_wp2_with fail
  refine (F1.out _).mono ?_
  rintro e w1 ⟨A1, n1, c1, rfl, r1, b⟩
  have K1 := hid (K.out.keep b)
  have B1 := hid (bx_call B.out b)
  have R1 := hid r1
  clear b r1 K B F1
  go_wp2_with fail
  refine (F2.out _).mono ?_
  rintro e w2 ⟨A2, n2, c2, rfl, r2, b⟩
  have K2 := hid (K1.out.keep b)
  have B2 := hid (bx_call B1.out b)
  have M2 := hid (MK.out w2 A1 n1 c1 A2 n2 c2 (R1.out.keep b) r2)
  clear b r2 K1 B1 F2 R1 MK
  go_wp2_with fail
  refine (M2.out).mono ?_
  rintro e w3 ⟨A3, n3, c3, D3, m3, d3, rfl, r, b⟩
  have K3 := hid (K2.out.keep b)
  have EE := hid (retq2_end (z := z) r K3.out (bx_call B2.out b) (Nat.le_refl _))
  obtain ⟨x0, x1, x2⟩ := blk_three K3.out
  have f0 := Blk.free K3.out 0
  have f1 := Blk.free K3.out 1
  have f2 := Blk.free K3.out 2
  clear b r K2 B2 M2 K3
  go_wp2_with fail
  exact bodyPost_ret (v := .tuple #[.agg #[.bool (sg V.num), .slice A3 n3 c3, .slice D3 m3 d3], .int .i64 z]) (by simp [results, Tryz.results50, go_sem, x0, x1, x2]) rfl EE.out
end Go.Proofs.YtdbccidlnhjfhaaGreatDoor
