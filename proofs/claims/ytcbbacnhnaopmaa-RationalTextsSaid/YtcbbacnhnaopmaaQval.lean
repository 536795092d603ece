/- Contracts: Valid of package rational and of its specification. -/
import Derived.Test.YtcbbacnhnaopmaaQaw
namespace Go.Proofs.Ytcbbacnhnaopmaa
open Go.RowKit

/-- The digits and the sign are those of the only form of their value. -/
def vB (g : Bool) (xs ds : List Nat) : Bool := (decide (g = sg (mkRat (iv g xs) (dv1 ds)).num) && decide (xs = dg (mkRat (iv g xs) (dv1 ds)).num.natAbs)) && decide (ds = dn (mkRat (iv g xs) (dv1 ds)).den)
/-- What Valid looks at. -/
def cB (g : Bool) (xs ds : List Nat) : Bool := (fullB xs && !(g && decide (xs.length = 0))) && (fullB ds && (decide (ds.length = 0) || (decide (1 < val ds) && (Nat.gcd (val xs) (val ds) == 1))))
theorem full_eq {xs : List Nat} (hd : Digs xs) (h : fullB xs = true) : dg (val xs) = xs := by
  rcases hl : xs.length with _ | q
  · rw [List.eq_nil_of_length_eq_zero hl]; rfl
  · rw [fullB_last hd hl] at h
    exact dg_of_full hd (.inr (by rw [hl]; exact of_decide_eq_true h))
theorem cB_eq {g : Bool} {xs ds : List Nat} (hx : Digs xs) (hd : Digs ds) : cB g xs ds = vB g xs ds := by
  rw [Bool.eq_iff_iff]
  unfold cB vB
  simp only [Bool.and_eq_true, Bool.or_eq_true, decide_eq_true_eq, Bool.not_eq_true', Bool.and_eq_false_iff, decide_eq_false_iff_not, beq_iff_eq]
  have dp := dv1_pos ds
  constructor
  · rintro ⟨⟨h1, h2⟩, h3, h4⟩
    have ex := full_eq hx h1
    have ed := full_eq hd h3
    have hsg : g = sg (iv g xs) := by
      unfold sg iv
      rcases g with _ | _
      · exact (decide_eq_false (by simp)).symm
      · refine (decide_eq_true ?_).symm
        have hn : xs.length ≠ 0 := by
          rcases h2 with h2 | h2
          · exact absurd h2 (by decide)
          · exact h2
        have hv : val xs ≠ 0 := fun e => by rw [e] at ex; rw [← ex] at hn; exact hn rfl
        simp
        omega
    have key : (mkRat (iv g xs) (dv1 ds)).num = iv g xs ∧ ds = dn (mkRat (iv g xs) (dv1 ds)).den := by
      rw [← lz_rat dp, ← ly_rat dp]
      unfold lz ly
      rcases h4 with h4 | ⟨h4, h5⟩
      · have e0 : ds = [] := List.eq_nil_of_length_eq_zero h4
        subst e0
        rw [show dv1 [] = 1 from rfl, Nat.gcd_one_right, Nat.div_one]
        refine ⟨?_, rfl⟩
        unfold sg
        split <;> rename_i hh <;> simp at hh <;> omega
      · have e1 : dv1 ds = val ds := by unfold dv1; rw [if_neg (by omega)]
        rw [e1, iv_natAbs, h5, Nat.div_one, Nat.div_one]
        refine ⟨?_, ?_⟩
        · have e2 : (val xs : Int) = (iv g xs).natAbs := by rw [iv_natAbs]
          rw [e2]
          unfold sg
          split <;> rename_i hh <;> simp at hh <;> omega
        · unfold dn
          rw [if_neg (by omega), ed]
    rw [key.1]
    refine ⟨⟨hsg, ?_⟩, key.2⟩
    rw [iv_natAbs, ex]
  · rintro ⟨⟨h1, h2⟩, h3⟩
    generalize hq : mkRat (iv g xs) (dv1 ds) = q at h1 h2 h3
    have hr := q.reduced
    have hp := q.den_pos
    refine ⟨⟨?_, ?_⟩, ?_, ?_⟩
    · rw [h2]; exact fullB_dg _
    · rcases g with _ | _
      · exact .inl rfl
      · right
        have : q.num < 0 := of_decide_eq_true h1.symm
        rw [h2]
        have := dg_len_pos (n := q.num.natAbs) (by omega)
        omega
    · rw [h3]
      unfold dn
      split
      · rfl
      · exact fullB_dg _
    · by_cases h : q.den = 1
      · left; rw [h3, dn_one h]; rfl
      · right
        rw [h3, dn_ne h, val_dg, h2, val_dg]
        exact ⟨by omega, hr⟩
theorem vB_low {w : World} {A : Option Addr} {n c : Nat} {D : Option Addr} {m d k : Nat} {q : Rat} (_h : FrL w A n c D m d k q) : vB (sg q.num) (dg q.num.natAbs) (dn q.den) = true := by
  unfold vB
  rw [iv_sg, val_dn q.den_pos, Rat.mkRat_self]
  simp

set_option maxRecDepth 100000 in
set_option maxHeartbeats 2000000 in
theorem vrvalid (g : Bool) (A : Option Addr) (n c : Nat) (xs : List Nat) (D : Option Addr) (m d : Nat) (ds : List Nat) (k : Nat) (w : World) (h : Rd w A n c xs) (hn : n ≤ k) (q : Rd w D m d ds) (hm : m ≤ k) (h1 : 1 ≤ k) (hk : k ≤ 274877906943) :
    Calls Try.prog 57 #[.agg #[.bool g, .slice A n c, .slice D m d]] w (RetB w (vB g xs ds)) := by
  have bx : Below w.heap.size w (w.alloc (.cells #[.bool g, .slice A n c, .slice D m d] 50)) := bx_alloc (bx_refl w) _
  have K := hid (Blk.new w [.bool g, .slice A n c, .slice D m d] 50)
  obtain ⟨V0, hW⟩ : ∃ W, W = w.alloc (.cells #[.bool g, .slice A n c, .slice D m d] 50) := ⟨_, rfl⟩
  rw [← hW] at bx K
  obtain ⟨z, hz⟩ : ∃ z, z = mkRat (iv g xs) (dv1 ds) := ⟨_, rfl⟩
  have F := hid (fun (W : World) (hw : Below V0.heap.size V0 W) => vrfix g A n c D m d k z W ((show FrV V0 g A n c D m d k z from ⟨xs, ds, h.keep bx, hn, q.keep bx, hm, h1, hz.symm⟩).keep hw) hk)
  have S := hid (fun (W : World) A2 n2 c2 D2 m2 d2 (hw : Below V0.heap.size V0 W) (r : FrL W A2 n2 c2 D2 m2 d2 k z) => qrsame_any g A n c xs D m d ds (sg z.num) A2 n2 c2 _ D2 m2 d2 _ W ((h.keep bx).keep hw) ((q.keep bx).keep hw) r.1 r.2.2.1)
  have e : vB g xs ds = ((decide (g = sg z.num) && decide (xs = dg z.num.natAbs)) && decide (ds = dn z.den)) := by rw [hz]; rfl
  rw [e]
  obtain ⟨B, hB⟩ : ∃ B, B = ((decide (g = sg z.num) && decide (xs = dg z.num.natAbs)) && decide (ds = dn z.den)) := ⟨_, rfl⟩
  rw [← hB] at S ⊢
  have X := hid bx
  clear bx h q hz e hB
  go_enter Try.func57, Try.ntmps57
  go_upto_region 1 with fail
  rw [← hW]
  clear hW
  obtain ⟨s0, s1, s2⟩ := blk_three K.out
  go_region_held3 (fun W => W.cell? ⟨w.heap.size, 0, none⟩ = some (.bool g) ∧ W.cell? ⟨w.heap.size, 1, none⟩ = some (.slice A n c) ∧ W.cell? ⟨w.heap.size, 2, none⟩ = some (.slice D m d))
    (refine ⟨?_, ?_, ?_⟩ <;> repeat' (first | with_reducible assumption | with_reducible refine cell_dr ?_))
    (first
      | (go_at_call 58; refine (S.out w1 A2 n2 c2 D2 m2 d2 X1.out R.out).mono ?_; rintro e w2 ⟨rfl, b⟩; have u0 := cell_bx t0 b; have u1 := cell_bx t1 b; have u2 := cell_bx t2 b; have X2 := hid (bx_call X1.out b); clear b)
      | (go_at_call 110; refine (F.out _ (bx_drew (bx_refl _))).mono ?_; rintro e w1 ⟨A2, n2, c2, D2, m2, d2, rfl, r, b⟩; have t0 := cell_bx (cell_dr s0) b; have t1 := cell_bx (cell_dr s1) b; have t2 := cell_bx (cell_dr s2) b; have R := hid r; have X1 := hid (bx_call (bx_drew (bx_refl _)) b); clear b r))
  go_wp2_with fail
  go_ret
  exact ⟨rfl, bx_call X.out X2.out⟩

set_option maxRecDepth 100000 in
set_option maxHeartbeats 4000000 in
theorem vvalid (g : Bool) (A : Option Addr) (n c : Nat) (xs : List Nat) (D : Option Addr) (m d : Nat) (ds : List Nat) (w : World) (h : Rd w A n c xs) (hn : n ≤ 1099511627776) (q : Rd w D m d ds) (hm : m ≤ 1099511627776) :
    Calls Try.prog 56 #[.agg #[.bool g, .slice A n c, .slice D m d]] w (RetB w (vB g xs ds)) := by
  rw [← cB_eq h.2.2.2.1 q.2.2.2.1]
  have j1 := q.2.1
  have j2 := q.2.2.1
  have bx : Below w.heap.size w (w.alloc (.cells #[.bool g, .slice A n c, .slice D m d] 50)) := bx_alloc (bx_refl w) _
  have K := hid (Blk.new w [.bool g, .slice A n c, .slice D m d] 50)
  obtain ⟨V0, hW⟩ : ∃ W, W = w.alloc (.cells #[.bool g, .slice A n c, .slice D m d] 50) := ⟨_, rfl⟩
  rw [← hW] at bx K
  have lx : xs.length = n := h.1
  have ld : ds.length = m := q.1
  have hc : cB g xs ds = ((fullB xs && !(g && decide (n = 0))) && (fullB ds && (decide (m = 0) || (decide (1 < val ds) && (Nat.gcd (val xs) (val ds) == 1))))) := by unfold cB; rw [lx, ld]
  have IV := hid (ivalid_any g A n c xs V0 (h.keep bx))
  have NV := hid (fun (W : World) (hw : Below V0.heap.size V0 W) => valid_any D m d ds W ((q.keep bx).keep hw))
  have F1 := hid (fun (W : World) => from_any 1 W (by omega))
  have CM := hid (fun (W : World) A1 n1 c1 (hw : Below V0.heap.size V0 W) (r : Rd W A1 n1 c1 (dg 1)) => cmp_any D A1 m d n1 c1 ds _ W ((q.keep bx).keep hw) r)
  have GC := hid (fun (W : World) (hw : Below V0.heap.size V0 W) => gcd_any A D n c m d xs ds W ((h.keep bx).keep hw) ((q.keep bx).keep hw) hn hm)
  have CG := hid (fun (W : World) G A1 n1 c1 A2 n2 c2 (r : Rd W A1 n1 c1 (dg G)) (r2 : Rd W A2 n2 c2 (dg 1)) => cmp_any A1 A2 n1 c1 n2 c2 _ _ W r r2)
  simp only [val_dg] at CM CG
  have X := hid bx
  obtain ⟨bi, hbi⟩ : ∃ b, b = (fullB xs && !(g && decide (n = 0))) := ⟨_, rfl⟩
  obtain ⟨bd, hbd⟩ : ∃ b, b = fullB ds := ⟨_, rfl⟩
  obtain ⟨G, hG⟩ : ∃ G, G = Nat.gcd (val xs) (val ds) := ⟨_, rfl⟩
  obtain ⟨vd, hvd⟩ : ∃ v, v = val ds := ⟨_, rfl⟩
  obtain ⟨R, hR⟩ : ∃ R, R = cB g xs ds := ⟨_, rfl⟩
  rw [← hR] at hc ⊢
  rw [← hbi] at IV hc
  rw [← hbd] at NV hc
  rw [← hG] at GC hc
  rw [← hvd] at CM hc
  clear bx h q lx ld hbi hbd hG hvd hR hn hm
  rcases bi with _ | _
  · obtain rfl : R = false := by rw [hc]; rfl
    clear hc
    go_enter Try.func56, Try.ntmps56
    go_upto_region 1 with fail
    rw [← hW]
    clear hW
    obtain ⟨s0, s1, s2⟩ := blk_three K.out
    go_wp2_with fail
    refine (IV.out).mono ?_
    rintro e w1 ⟨rfl, b⟩
    have B := hid (bx_call X.out b)
    clear b IV K X
    go_wp2_with fail
    go_ret
    exact ⟨rfl, B.out⟩
  rcases bd with _ | _
  · obtain rfl : R = false := by rw [hc]; rfl
    clear hc
    go_enter Try.func56, Try.ntmps56
    go_upto_region 1 with fail
    rw [← hW]
    clear hW
    obtain ⟨s0, s1, s2⟩ := blk_three K.out
    go_wp2_with fail
    refine (IV.out).mono ?_
    rintro e w1 ⟨rfl, b⟩
    have B := hid (bx_call X.out b)
    have N := hid (NV.out w1 b)
    obtain ⟨t0, t1, t2⟩ := blk_three (K.out.keep b)
    clear b IV K X NV s0 s1 s2
    go_wp2_with fail
    refine (N.out).mono ?_
    rintro e w2 ⟨rfl, rfl⟩
    clear N
    go_wp2_with fail
    go_ret
    exact ⟨rfl, B.out⟩
  rw [Bool.true_and, Bool.true_and] at hc
  rcases Nat.eq_zero_or_pos m with rfl | hm0
  · obtain rfl : R = true := by rw [hc]; rfl
    clear hc
    go_enter Try.func56, Try.ntmps56
    go_upto_region 1 with fail
    rw [← hW]
    clear hW
    obtain ⟨s0, s1, s2⟩ := blk_three K.out
    go_wp2_with fail
    refine (IV.out).mono ?_
    rintro e w1 ⟨rfl, b⟩
    have B := hid (bx_call X.out b)
    have N := hid (NV.out w1 b)
    have K1 := hid (K.out.keep b)
    obtain ⟨t0, t1, t2⟩ := blk_three K1.out
    clear b IV K X NV s0 s1 s2
    go_wp2_with fail
    refine (N.out).mono ?_
    rintro e w2 ⟨rfl, rfl⟩
    clear N
    go_wp2_with fail
    refine (F1.out _).mono ?_
    rintro e w3 ⟨v1, rfl, ⟨A1, n1, c1, rfl, r1⟩, b⟩
    have B3 := hid (bx_call B.out b)
    obtain ⟨u0, u1, u2⟩ := blk_three (K1.out.keep b)
    clear b B K1 t0 t1 t2 r1
    go_wp2_with fail
    go_ret
    exact ⟨rfl, B3.out⟩
  have em : ((m : Int) == 0) = false := beq_eq_false_iff_ne.2 (by omega)
  have hc2 : R = (decide (1 < vd) && (G == 1)) := by rw [hc, decide_eq_false (by omega : ¬m = 0), Bool.false_or]
  clear hc
  rcases Nat.lt_or_ge 1 vd with hv | hv
  · have e1 : cmpN vd 1 = 1 := by unfold cmpN; rw [if_neg (by omega), if_pos hv]
    simp only [e1] at CM
    rw [decide_eq_true hv, Bool.true_and] at hc2
    have e2 : (cmpN G 1 == 0) = R := by
      rw [hc2, Bool.eq_iff_iff, beq_iff_eq, beq_iff_eq]
      unfold cmpN
      split
      · constructor <;> intro h <;> omega
      · split
        · constructor <;> intro h <;> omega
        · constructor <;> intro h <;> omega
    obtain ⟨cg, hcg⟩ : ∃ c, c = cmpN G 1 := ⟨_, rfl⟩
    rw [← hcg] at e2
    have HCG := hid hcg
    clear hc2 e1 hcg hv
    go_enter Try.func56, Try.ntmps56
    go_upto_region 1 with fail
    rw [← hW]
    clear hW
    obtain ⟨s0, s1, s2⟩ := blk_three K.out
    go_wp2_with fail
    refine (IV.out).mono ?_
    rintro e w1 ⟨rfl, b⟩
    have B := hid (bx_call X.out b)
    have Y := hid b
    have N := hid (NV.out w1 b)
    have K1 := hid (K.out.keep b)
    obtain ⟨t0, t1, t2⟩ := blk_three K1.out
    clear b IV K X NV s0 s1 s2
    go_wp2_with fail
    refine (N.out).mono ?_
    rintro e w2 ⟨rfl, rfl⟩
    clear N
    go_wp2_with fail
    refine (F1.out _).mono ?_
    rintro e w3 ⟨v1, rfl, ⟨A1, n1, c1, rfl, r1⟩, b⟩
    have B3 := hid (bx_call B.out b)
    have Y3 := hid (bx_call Y.out b)
    have K3 := hid (K1.out.keep b)
    have R1 := hid r1
    have C3 := hid (CM.out w3 A1 n1 c1 Y3.out r1)
    have G3 := hid (GC.out w3 Y3.out)
    obtain ⟨u0, u1, u2⟩ := blk_three K3.out
    clear b B Y K1 t0 t1 t2 r1 CM GC F1
    go_wp2_with fail
    refine (C3.out).mono ?_
    rintro e w4 ⟨rfl, rfl⟩
    clear C3
    go_wp2_with fail
    refine (G3.out).mono ?_
    rintro e w5 ⟨v2, rfl, ⟨A2, n2, c2, rfl, r2⟩, b⟩
    have B5 := hid (bx_call B3.out b)
    have C5 := hid (CG.out w5 G A2 n2 c2 A1 n1 c1 r2 (R1.out.keep b))
    rw [← HCG.out] at C5
    clear b G3 B3 Y3 K3 u0 u1 u2 r2 CG R1 HCG
    go_wp2_with fail
    refine (C5.out).mono ?_
    rintro e w6 ⟨rfl, rfl⟩
    clear C5
    go_wp2_with fail
    go_ret
    exact ⟨by rw [← e2]; rfl, B5.out⟩
  · have e1 : decide (0 < cmpN vd 1) = false := by
      unfold cmpN
      split
      · rfl
      · rw [if_neg (by omega)]; rfl
    obtain rfl : R = false := by rw [hc2, decide_eq_false (by omega), Bool.false_and]
    obtain ⟨cg, hcg⟩ : ∃ c, c = cmpN vd 1 := ⟨_, rfl⟩
    rw [← hcg] at e1
    simp only [← hcg] at CM
    clear hc2 hcg hv
    go_enter Try.func56, Try.ntmps56
    go_upto_region 1 with fail
    rw [← hW]
    clear hW
    obtain ⟨s0, s1, s2⟩ := blk_three K.out
    go_wp2_with fail
    refine (IV.out).mono ?_
    rintro e w1 ⟨rfl, b⟩
    have B := hid (bx_call X.out b)
    have Y := hid b
    have N := hid (NV.out w1 b)
    have K1 := hid (K.out.keep b)
    obtain ⟨t0, t1, t2⟩ := blk_three K1.out
    clear b IV K X NV s0 s1 s2
    go_wp2_with fail
    refine (N.out).mono ?_
    rintro e w2 ⟨rfl, rfl⟩
    clear N
    go_wp2_with fail
    refine (F1.out _).mono ?_
    rintro e w3 ⟨v1, rfl, ⟨A1, n1, c1, rfl, r1⟩, b⟩
    have B3 := hid (bx_call B.out b)
    have Y3 := hid (bx_call Y.out b)
    have C3 := hid (CM.out w3 A1 n1 c1 Y3.out r1)
    obtain ⟨u0, u1, u2⟩ := blk_three (K1.out.keep b)
    clear b B Y K1 t0 t1 t2 r1 CM GC F1
    go_wp2_with fail
    refine (C3.out).mono ?_
    rintro e w4 ⟨rfl, rfl⟩
    clear C3
    go_wp2_with fail
    go_ret
    exact ⟨rfl, B3.out⟩

end Go.Proofs.Ytcbbacnhnaopmaa
