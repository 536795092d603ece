/- Sums in the valid form. -/
import Derived.Test.YtdbccidlnhjfhaaGreatDoorLinA
import Derived.Deep.DeepCutAuto
import Derived.BigQuiet
namespace Go.Proofs.YtdbccidlnhjfhaaGreatDoor
open Go.RowKit
set_option maxRecDepth 100000
structure FrW (w : World) (g : Bool) (A : Option Addr) (n c : Nat) (D : Option Addr) (m d k : Nat) (q : Rat) : Prop where
  e : g = sg q.num
  l : FrL w A n c D m d k q
section
variable {w w' : World} {g : Bool} {A : Option Addr} {n c : Nat} {D : Option Addr} {m d k : Nat} {q : Rat}
theorem FrW.keep (h : FrW w g A n c D m d k q) (b : Below w.heap.size w w') : FrW w' g A n c D m d k q := ⟨h.e, h.l.keep b⟩
theorem FrW.v (h : FrW w g A n c D m d k q) : FrV w g A n c D m d k q := by
  obtain ⟨rfl, l⟩ := h
  exact l.v
theorem FrW.of (h : FrL w A n c D m d k q) : FrW w (sg q.num) A n c D m d k q := ⟨rfl, h⟩
end
theorem FrW.zero (w : World) {k : Nat} (hk : 1 ≤ k) : FrW w false none 0 0 none 0 0 k 0 := ⟨by decide, Rd.nil w none, Nat.zero_le _, Rd.nil w none, Nat.zero_le _, hk⟩
def RetW (w : World) (q : Rat) (k : Nat) (e : Ending) (w' : World) : Prop := ∃ g A n c D m d, e = .returned (.agg #[.bool g, .slice A n c, .slice D m d]) ∧ FrW w' g A n c D m d k q ∧ Below w.heap.size w w'
theorem RetW.q {w w' : World} {q : Rat} {k : Nat} {e : Ending} (h : RetW w q k e w') : RetQ w q k e w' := by
  obtain ⟨g, A, n, c, D, m, d, he, ⟨rfl, hf⟩, b⟩ := h
  exact ⟨A, n, c, D, m, d, he, hf, b⟩
theorem frw_far3 {W : World} {g : Nat} {gg : Bool} {A D : Option Addr} {n c m d k : Nat} {q : Rat} {b0 : Bool} {A0 D0 : Option Addr} {n0 c0 m0 d0 : Nat} (h : FrW W gg A n c D m d k q) (K : Blk W g [.bool b0, .slice A0 n0 c0, .slice D0 m0 d0] 41) (u v x : Value) : FrW (((W.setCell ⟨g, 0, none⟩ u).setCell ⟨g, 1, none⟩ v).setCell ⟨g, 2, none⟩ x) gg A n c D m d k q :=
  ⟨h.e, rd_cell_far3 h.l.1 K _ _ _, h.l.2.1, rd_cell_far3 h.l.2.2.1 K _ _ _, h.l.2.2.2⟩
theorem retw_end {w w2 : World} {q : Rat} {g1 : Bool} {A A0 D D0 : Option Addr} {n c n0 c0 m d m0 d0 g k : Nat} {b0 : Bool} (h : FrW w2 g1 A n c D m d k q) (K : Blk w2 g [.bool b0, .slice A0 n0 c0, .slice D0 m0 d0] 41) (hb : Below w.heap.size w w2) (hg : w.heap.size ≤ g) :
    RetW w q k (.returned (.agg #[.bool g1, .slice A n c, .slice D m d])) (((w2.setCell ⟨g, 0, none⟩ (.bool g1)).setCell ⟨g, 1, none⟩ (.slice A n c)).setCell ⟨g, 2, none⟩ (.slice D m d)) :=
  ⟨g1, A, n, c, D, m, d, rfl, frw_far3 h K _ _ _, bx_set (bx_set (bx_set hb hg) hg) hg⟩
def AccW (w : World) (k : Nat) (q : Rat) (W : World) : Prop := Below w.heap.size w W ∧ Blk W w.heap.size [.bool false, .slice none 0 0, .slice none 0 0] 41 ∧ ∃ g A n c D m d, Blk W (w.heap.size + 1) [.bool g, .slice A n c, .slice D m d] 41 ∧ FrW W g A n c D m d k q
theorem AccW.start (w : World) {k : Nat} (hk : 1 ≤ k) : AccW w k 0 ((w.alloc (.cells #[.bool false, .slice none 0 0, .slice none 0 0] 41)).alloc (.cells #[.bool false, .slice none 0 0, .slice none 0 0] 41)) := 
  ⟨bx_alloc (bx_alloc (bx_refl w) _) _, (Blk.new w [.bool false, .slice none 0 0, .slice none 0 0] 41).alloc (.cells #[.bool false, .slice none 0 0, .slice none 0 0] 41), false, none, 0, 0, none, 0, 0, blk_new1 w (.cells #[.bool false, .slice none 0 0, .slice none 0 0] 41) [.bool false, .slice none 0 0, .slice none 0 0] 41, FrW.zero _ hk⟩
theorem AccW.keep {w W W' : World} {k : Nat} {q : Rat} (h : AccW w k q W) (b : Below W.heap.size W W') : AccW w k q W' := by
  obtain ⟨h1, h2, g, A, n, c, D, m, d, h3, h4⟩ := h
  exact ⟨bx_call h1 b, h2.keep b, g, A, n, c, D, m, d, h3.keep b, h4.keep b⟩
theorem AccW.next {w W : World} {k k' : Nat} {q q' : Rat} {g : Bool} {A D : Option Addr} {n c m d : Nat} (h : AccW w k q W) (f : FrW W g A n c D m d k' q') : AccW w k' q' (((W.setCell ⟨w.heap.size + 1, 0, none⟩ (.bool g)).setCell ⟨w.heap.size + 1, 1, none⟩ (.slice A n c)).setCell ⟨w.heap.size + 1, 2, none⟩ (.slice D m d)) := by
  obtain ⟨h1, h2, g0, A0, n0, c0, D0, m0, d0, h3, h4⟩ := h
  have hg : w.heap.size ≤ w.heap.size + 1 := Nat.le_succ _
  exact ⟨bx_set (bx_set (bx_set h1 hg) hg) hg, ((h2.far (by omega) _).far (by omega) _).far (by omega) _, g, A, n, c, D, m, d, ((h3.set_ 0 _).set_ 1 _).set_ 2 _, frw_far3 f h3 _ _ _⟩
theorem AccW.done {w W : World} {k : Nat} {q : Rat} {g : Bool} {A D : Option Addr} {n c m d : Nat} (h1 : Below w.heap.size w W) (h2 : Blk W w.heap.size [.bool false, .slice none 0 0, .slice none 0 0] 41) (f : FrW W g A n c D m d k q) : RetW w q k (.returned (.agg #[.bool g, .slice A n c, .slice D m d])) (((W.setCell ⟨w.heap.size, 0, none⟩ (.bool g)).setCell ⟨w.heap.size, 1, none⟩ (.slice A n c)).setCell ⟨w.heap.size, 2, none⟩ (.slice D m d)) :=
  retw_end f h2 h1 (Nat.le_refl _)
set_option maxHeartbeats 4000000 in
theorem vsumL (Ta : Option Addr) (nt tc : Nat) (v cf : Nat → Int) (A : Option Addr) (n c k m bn bl : Nat) (qs : Nat → Rat) (w : World) (hT : Ts w Ta nt tc v cf) (hQ : Qs w A n c k qs) (kn : Blk w bn [.int .i64 m] 3) (kl : Blk w bl [.slice A n c] 32) (hm : m ≤ n) (hk : nt * (k + 3) + 1 + (k + 2) ≤ 274877906943) :
    Calls Tryz.prog 66 #[.slice Ta nt tc, El bn bl] w (RetW w (sumN (fun j => (cf j : Rat) * atQ m qs (v j)) nt) (nt * (k + 3) + 1)) := by
  unfold El
  have hc := hT.1
  have hc2 := hT.2.1
  obtain ⟨f, hf⟩ : ∃ f : Nat → Rat, f = fun j => (cf j : Rat) * atQ m qs (v j) := ⟨_, rfl⟩
  rw [← hf]
  obtain ⟨K, hK⟩ : ∃ K, K = nt * (k + 3) + 1 := ⟨_, rfl⟩
  rw [← hK] at hk ⊢
  have k1 := hQ.2.2.1
  have ST := hid (AccW.start w (k := K) (by omega))
  have AT := hid (fun (W : World) (b : Below w.heap.size w W) (j : Nat) => velem1 bn bl A n c k m qs (v j) W (hQ.keep b) (kn.keep b) (kl.keep b) hm)
  have HT := hid hT
  have AQ := hid (fun i => atQ_lqm hQ hm i)
  clear hT hQ kn kl hm
  go_enter Tryz.func66, Tryz.ntmps66
  go_wp2_with fail
  go_loopw [12] (fun i wr => ∃ j : Nat, j ≤ nt ∧ i = .int .i64 j ∧ Hid (AccW w K (sumN f j) wr)) (fun i _ => nt - (intOf i).toNat)
  case atStart => exact ⟨0, Nat.zero_le _, rfl, ST⟩
  case round =>
    obtain ⟨j, hj, rfl, hz⟩ := hrel
    have PR := hid hz.out
    obtain ⟨g0, A0, n0, c0, D0, m0, d0, KA, FA⟩ := hz.out.2.2
    have BR := hid hz.out.1
    have FR := hid FA
    rcases Nat.lt_or_ge j nt with hlt | hge
    · obtain ⟨⟨v1, v2⟩, cf1, cf2⟩ := HT.out.2.2.1 j hlt
      obtain ⟨b, o, rfl, hb, hcell⟩ := HT.out.2.2.2 (by omega)
      have z0 := cell_bx (hcell j hlt).1 hz.out.1
      have z1 := cell_bx (hcell j hlt).2 hz.out.1
      obtain ⟨S, hS⟩ : ∃ S, S = sumN f j := ⟨_, rfl⟩
      obtain ⟨F, hF⟩ : ∃ F, F = atQ m qs (v j) := ⟨_, rfl⟩
      obtain ⟨V, hV⟩ : ∃ V, V = (cf j : Rat) * F := ⟨_, rfl⟩
      have NX := hid (show sumN f (j + 1) = S + V by rw [hS, hV, hF]; show sumN f j + f j = _; rw [hf])
      have lf : LQ k F := by rw [hF]; exact AQ.out (v j)
      have lv : LQ (2 + k) V := by rw [hV]; exact LQ_mul (LQ_int cf1 cf2) lf
      have LS := hid (show LQ K (S + V) by
        have h1 := sumN_lq (f := f) (k := k + 2) (n := j + 1) (fun i hi => by rw [hf]; exact (LQ_mul (LQ_int (HT.out.2.2.1 i (by omega)).2.1 (HT.out.2.2.1 i (by omega)).2.2) (show LQ k (atQ m qs (v i)) from AQ.out (v i))).up (by omega))
        rw [NX.out] at h1
        refine h1.up ?_
        rw [hK]
        exact Nat.add_le_add_right (Nat.mul_le_mul_right _ (by omega)) 1)
      rw [← hS] at FR PR
      have lt1 := KA.lt
      have AJ := AT.out
      have B1 := bx_alloc (bx_refl wr) (.cells #[.int .i64 (v j), .int .i64 (cf j)] 94)
      have C1 := hid (AT.out _ (bx_call hz.out.1 B1) j)
      rw [← hF] at C1
      have kt := hid (Blk.new wr [.int .i64 (v j), .int .i64 (cf j)] 94)
      have P1 := hid (PR.out.keep B1)
      clear hz KA FA HT hcell ST hK AQ AT AJ hF B1 PR BR FR
      have VF := hid (fun (W : World) => vfrom (cf j) W cf1 cf2)
      have VT := hid (fun (W : World) (ga : Bool) (A1 : Option Addr) (n1 c1 : Nat) (D1 : Option Addr) (m1 d1 : Nat) (L : FrV W ga A1 n1 c1 D1 m1 d1 k F) (A2 : Option Addr) (n2 c2 : Nat) (D2 : Option Addr) (m2 d2 : Nat) (M : FrL W A2 n2 c2 D2 m2 d2 2 (cf j : Rat)) => (vmul (sg (cf j : Rat).num) A2 n2 c2 D2 m2 d2 ga A1 n1 c1 D1 m1 d1 (2 + k) (cf j : Rat) F W (M.v.up (by omega)) (L.up (by omega)) (by omega)).mono fun _ _ r => r.fit (hV ▸ lv))
      rw [← hV] at VT
      have AD := hid (fun (W : World) (g0 : Bool) (A0 : Option Addr) (n0 c0 : Nat) (D0 : Option Addr) (m0 d0 : Nat) (L : FrW W g0 A0 n0 c0 D0 m0 d0 K S) (A2 : Option Addr) (n2 c2 : Nat) (D2 : Option Addr) (m2 d2 : Nat) (M : FrL W A2 n2 c2 D2 m2 d2 (2 + k) V) => (vadd g0 A0 n0 c0 D0 m0 d0 (sg V.num) A2 n2 c2 D2 m2 d2 (K + (k + 2)) S V W (L.v.up (by omega)) (M.v.up (by omega)) hk).mono fun _ _ r => r.fit LS.out)
      have VZ := hid (show F = 0 → S + V = S by intro h; rw [hV, h]; grind)
      obtain ⟨U, hU⟩ : ∃ U, U = S + V := ⟨_, rfl⟩
      rw [← hU] at AD NX VZ
      clear LS hU hS hV lf lv
      go_wp2_with fail
      refine (C1.out).mono ?_
      rintro e w1 ⟨gf, Af, nf, cf', Df, mf, df, rfl, rf, b1⟩
      have kt1 := hid (kt.out.keep b1)
      have lt2 := kt1.out.lt
      have P2 := hid (P1.out.keep b1)
      obtain ⟨W2, hW2⟩ : ∃ W, W = w1.alloc (.cells #[.bool gf, .slice Af nf cf', .slice Df mf df] 41) := ⟨_, rfl⟩
      have B2 := bx_alloc (bx_refl w1) (.cells #[.bool gf, .slice Af nf cf', .slice Df mf df] 41)
      have K8 := Blk.new w1 [.bool gf, .slice Af nf cf', .slice Df mf df] 41
      change Blk (w1.alloc (.cells #[.bool gf, .slice Af nf cf', .slice Df mf df] 41)) _ _ _ at K8
      rw [← hW2] at B2 K8
      have kt2 := hid (kt1.out.keep B2)
      have P3 := hid (P2.out.keep B2)
      have KK8 := hid K8
      have FF8 := rf.keep B2
      have SG := hid (vsign gf Af nf cf' Df mf df k F W2 FF8)
      have GG := hid FF8
      clear rf b1 C1 kt kt1 P1 P2 B2 K8 FF8
      by_cases hF : F = 0
      · have s0 : sgnQ F = 0 := sgnQ_zero.2 hF
        have t0 : decide (sgnQ F = 0) = true := decide_eq_true s0
        have VE := VZ.out hF
        go_wp2_with fail
        rw [← hW2]
        clear hW2
        refine (SG.out).mono ?_
        rintro e w3 ⟨rfl, b3⟩
        have P4 := hid (P3.out.keep b3)
        clear b3 SG P3
        go_wp2_with fail
        go_roundw
        case rel => exact ⟨j + 1, by omega, by go_num, by rw [NX.out, VE]; exact P4⟩
        case measure => simp [intOf]; omega
      · have s0 : ¬sgnQ F = 0 := fun h => hF (sgnQ_zero.1 h)
        have t0 : decide (sgnQ F = 0) = false := decide_eq_false s0
        go_wp2_with fail
        rw [← hW2]
        clear hW2
        refine (SG.out).mono ?_
        rintro e w3 ⟨rfl, b3⟩
        have P5 := hid (P3.out.keep b3)
        have kt3 := kt2.out.keep b3
        have k83 := KK8.out.keep b3
        have G5 := hid (GG.out.keep b3)
        obtain ⟨g0, A0, n0, c0, D0, m0, d0, KA, FA⟩ := P5.out.2.2
        have F5 := hid FA
        obtain ⟨y0, y1, y2⟩ := blk_three KA
        have z1 := (blk_two kt3).2
        obtain ⟨q0, q1, q2⟩ := blk_three k83
        clear b3 SG P3 KA FA kt3 k83 GG KK8 kt2
        go_wp2_with fail
        refine wp_region_noPanic ?_
        refine wp_region_held_drew (S := (fun W => W.cell? ⟨wr.heap.size, 1, none⟩ = some (.int .i64 (cf j)) ∧ W.cell? ⟨w1.heap.size, 0, none⟩ = some (.bool gf) ∧ W.cell? ⟨w1.heap.size, 1, none⟩ = some (.slice Af nf cf') ∧ W.cell? ⟨w1.heap.size, 2, none⟩ = some (.slice Df mf df))) (by kernel_rfl) ?_ (fun hH => ?_)
        · (try dsimp only); (refine ⟨?_, ?_, ?_, ?_⟩ <;> repeat' (first | with_reducible assumption | with_reducible refine cell_dr ?_ | with_reducible refine cell_al ?_ | with_reducible refine cell_fr ?_ (by omega)))
        refine tk 1 hH ?_
        (try simp only [Act.put, gy0, gy1, gy2])
        refine tk 2 hH ?_
        (try simp only [Act.put, gy0, gy1, gy2])
        refine tk 4 hH ?_
        (try simp only [Act.put, gy0, gy1, gy2])
        refine wpAnyH_ready (rs := [0, 3]) (by kernel_rfl) (by simp) ?_
        refine rdy (fun K hK => ?_) ?_
        go_simp
        refine hK.out _ _ ?_ (fun hH2 => ?_)
        · (try dsimp only); (refine ⟨?_, ?_, ?_, ?_⟩ <;> repeat' (first | with_reducible assumption | with_reducible refine cell_dr ?_ | with_reducible refine cell_al ?_ | with_reducible refine cell_fr ?_ (by omega)))
        clear hK K hH
        have hH := hH2
        clear hH2
        (try simp only [Act.put, gy0, gy1, gy2])
        refine wpAnyH_ready (rs := [3]) (by kernel_rfl) (by simp) ?_
        refine rdy (fun K hK => ?_) ?_
        go_simp
        (first | (go_at_call 107; refine (AD.out w5 g0 A0 n0 c0 D0 m0 d0 F7.out A2 n2 c2 D2 m2 d2 R2.out).mono ?_; rintro e w6 ⟨A3, n3, c3, D3, m3, d3, rfl, r, b⟩; have y0_3 := cell_bx y0_2 b; have y1_3 := cell_bx y1_2 b; have y2_3 := cell_bx y2_2 b; have z1_3 := cell_bx z1_2 b; have q0_3 := cell_bx q0_2 b; have q1_3 := cell_bx q1_2 b; have q2_3 := cell_bx q2_2 b; have P8 := hid (P7.out.keep b); have F8 := hid (F7.out.keep b); have G8 := hid (G7.out.keep b); have NN := hid (P8.out.next (FrW.of r)); obtain ⟨_, _, _, _, _, _, _, _, _, K3, _⟩ := P8.out; have f0 := Blk.free K3 0; have f1 := Blk.free K3 1; have f2 := Blk.free K3 2; clear b r K3) | (go_at_call 108; refine (VT.out w4 gf Af nf cf' Df mf df G6.out A1 n1 c1 D1 m1 d1 R1.out).mono ?_; rintro e w5 ⟨A2, n2, c2, D2, m2, d2, rfl, r, b⟩; have y0_2 := cell_bx y0_1 b; have y1_2 := cell_bx y1_1 b; have y2_2 := cell_bx y2_1 b; have z1_2 := cell_bx z1_1 b; have q0_2 := cell_bx q0_1 b; have q1_2 := cell_bx q1_1 b; have q2_2 := cell_bx q2_1 b; have P7 := hid (P6.out.keep b); have F7 := hid (F6.out.keep b); have G7 := hid (G6.out.keep b); have R2 := hid r; clear b r) | (go_at_call 74; refine (VF.out _).mono ?_; rintro e w4 ⟨A1, n1, c1, D1, m1, d1, rfl, r, b⟩; have y0_1 := cell_bx (cell_dr y0) b; have y1_1 := cell_bx (cell_dr y1) b; have y2_1 := cell_bx (cell_dr y2) b; have z1_1 := cell_bx (cell_dr z1) b; have q0_1 := cell_bx (cell_dr q0) b; have q1_1 := cell_bx (cell_dr q1) b; have q2_1 := cell_bx (cell_dr q2) b; have P6 := hid (P5.out.keep (bx_call (bx_drew (bx_refl _)) b)); have F6 := hid (F5.out.keep (bx_call (bx_drew (bx_refl _)) b)); have G6 := hid (G5.out.keep (bx_call (bx_drew (bx_refl _)) b)); have R1 := hid r; clear b r))
        (try go_wp2_with fail)
        refine hK.out _ _ ?_ (fun hH2 => ?_)
        · (try dsimp only); (refine ⟨?_, ?_, ?_, ?_⟩ <;> repeat' (first | with_reducible assumption | with_reducible refine cell_dr ?_ | with_reducible refine cell_al ?_ | with_reducible refine cell_fr ?_ (by omega)))
        clear hK K hH
        have hH := hH2
        clear hH2
        (try simp only [Act.put, gy0, gy1, gy2])
        refine wpAnyH_ready (rs := [5]) (by kernel_rfl) (by simp) ?_
        refine rdy (fun K hK => ?_) ?_
        go_simp
        (first | (go_at_call 107; refine (AD.out w5 g0 A0 n0 c0 D0 m0 d0 F7.out A2 n2 c2 D2 m2 d2 R2.out).mono ?_; rintro e w6 ⟨A3, n3, c3, D3, m3, d3, rfl, r, b⟩; have y0_3 := cell_bx y0_2 b; have y1_3 := cell_bx y1_2 b; have y2_3 := cell_bx y2_2 b; have z1_3 := cell_bx z1_2 b; have q0_3 := cell_bx q0_2 b; have q1_3 := cell_bx q1_2 b; have q2_3 := cell_bx q2_2 b; have P8 := hid (P7.out.keep b); have F8 := hid (F7.out.keep b); have G8 := hid (G7.out.keep b); have NN := hid (P8.out.next (FrW.of r)); obtain ⟨_, _, _, _, _, _, _, _, _, K3, _⟩ := P8.out; have f0 := Blk.free K3 0; have f1 := Blk.free K3 1; have f2 := Blk.free K3 2; clear b r K3) | (go_at_call 108; refine (VT.out w4 gf Af nf cf' Df mf df G6.out A1 n1 c1 D1 m1 d1 R1.out).mono ?_; rintro e w5 ⟨A2, n2, c2, D2, m2, d2, rfl, r, b⟩; have y0_2 := cell_bx y0_1 b; have y1_2 := cell_bx y1_1 b; have y2_2 := cell_bx y2_1 b; have z1_2 := cell_bx z1_1 b; have q0_2 := cell_bx q0_1 b; have q1_2 := cell_bx q1_1 b; have q2_2 := cell_bx q2_1 b; have P7 := hid (P6.out.keep b); have F7 := hid (F6.out.keep b); have G7 := hid (G6.out.keep b); have R2 := hid r; clear b r) | (go_at_call 74; refine (VF.out _).mono ?_; rintro e w4 ⟨A1, n1, c1, D1, m1, d1, rfl, r, b⟩; have y0_1 := cell_bx (cell_dr y0) b; have y1_1 := cell_bx (cell_dr y1) b; have y2_1 := cell_bx (cell_dr y2) b; have z1_1 := cell_bx (cell_dr z1) b; have q0_1 := cell_bx (cell_dr q0) b; have q1_1 := cell_bx (cell_dr q1) b; have q2_1 := cell_bx (cell_dr q2) b; have P6 := hid (P5.out.keep (bx_call (bx_drew (bx_refl _)) b)); have F6 := hid (F5.out.keep (bx_call (bx_drew (bx_refl _)) b)); have G6 := hid (G5.out.keep (bx_call (bx_drew (bx_refl _)) b)); have R1 := hid r; clear b r))
        (try go_wp2_with fail)
        refine hK.out _ _ ?_ (fun hH2 => ?_)
        · (try dsimp only); (refine ⟨?_, ?_, ?_, ?_⟩ <;> repeat' (first | with_reducible assumption | with_reducible refine cell_dr ?_ | with_reducible refine cell_al ?_ | with_reducible refine cell_fr ?_ (by omega)))
        clear hK K hH
        have hH := hH2
        clear hH2
        (try simp only [Act.put, gy0, gy1, gy2])
        refine wpAnyH_ready (rs := [6]) (by kernel_rfl) (by simp) ?_
        refine rdy (fun K hK => ?_) ?_
        go_simp
        (first | (go_at_call 107; refine (AD.out w5 g0 A0 n0 c0 D0 m0 d0 F7.out A2 n2 c2 D2 m2 d2 R2.out).mono ?_; rintro e w6 ⟨A3, n3, c3, D3, m3, d3, rfl, r, b⟩; have y0_3 := cell_bx y0_2 b; have y1_3 := cell_bx y1_2 b; have y2_3 := cell_bx y2_2 b; have z1_3 := cell_bx z1_2 b; have q0_3 := cell_bx q0_2 b; have q1_3 := cell_bx q1_2 b; have q2_3 := cell_bx q2_2 b; have P8 := hid (P7.out.keep b); have F8 := hid (F7.out.keep b); have G8 := hid (G7.out.keep b); have NN := hid (P8.out.next (FrW.of r)); obtain ⟨_, _, _, _, _, _, _, _, _, K3, _⟩ := P8.out; have f0 := Blk.free K3 0; have f1 := Blk.free K3 1; have f2 := Blk.free K3 2; clear b r K3) | (go_at_call 108; refine (VT.out w4 gf Af nf cf' Df mf df G6.out A1 n1 c1 D1 m1 d1 R1.out).mono ?_; rintro e w5 ⟨A2, n2, c2, D2, m2, d2, rfl, r, b⟩; have y0_2 := cell_bx y0_1 b; have y1_2 := cell_bx y1_1 b; have y2_2 := cell_bx y2_1 b; have z1_2 := cell_bx z1_1 b; have q0_2 := cell_bx q0_1 b; have q1_2 := cell_bx q1_1 b; have q2_2 := cell_bx q2_1 b; have P7 := hid (P6.out.keep b); have F7 := hid (F6.out.keep b); have G7 := hid (G6.out.keep b); have R2 := hid r; clear b r) | (go_at_call 74; refine (VF.out _).mono ?_; rintro e w4 ⟨A1, n1, c1, D1, m1, d1, rfl, r, b⟩; have y0_1 := cell_bx (cell_dr y0) b; have y1_1 := cell_bx (cell_dr y1) b; have y2_1 := cell_bx (cell_dr y2) b; have z1_1 := cell_bx (cell_dr z1) b; have q0_1 := cell_bx (cell_dr q0) b; have q1_1 := cell_bx (cell_dr q1) b; have q2_1 := cell_bx (cell_dr q2) b; have P6 := hid (P5.out.keep (bx_call (bx_drew (bx_refl _)) b)); have F6 := hid (F5.out.keep (bx_call (bx_drew (bx_refl _)) b)); have G6 := hid (G5.out.keep (bx_call (bx_drew (bx_refl _)) b)); have R1 := hid r; clear b r))
        (try go_wp2_with fail)
        refine hK.out _ _ ?_ (fun hH2 => ?_)
        · (try dsimp only); (refine ⟨?_, ?_, ?_, ?_⟩ <;> repeat' (first | with_reducible assumption | with_reducible refine cell_dr ?_ | with_reducible refine cell_al ?_ | with_reducible refine cell_fr ?_ (by omega)))
        clear hK K hH
        have hH := hH2
        clear hH2
        (try simp only [Act.put, gy0, gy1, gy2])
        refine wpAnyH_ready (rs := [7]) (by kernel_rfl) (by simp) ?_
        refine rdy (fun K hK => ?_) ?_
        go_simp
        refine hK.out _ _ ?_ (fun hH2 => ?_)
        · (try dsimp only); (refine ⟨?_, ?_, ?_, ?_⟩ <;> repeat' (first | with_reducible assumption | with_reducible refine cell_dr ?_ | with_reducible refine cell_al ?_ | with_reducible refine cell_fr ?_ (by omega)))
        clear hK K hH
        have hH := hH2
        clear hH2
        (try simp only [Act.put, gy0, gy1, gy2])
        refine wpAnyH_done (by kernel_rfl) ?_ _
        refine NoPanic.normal ?_
        clear hH
        rotate_left
        exact AllReadyH.nil
        exact AllReadyH.nil
        exact AllReadyH.nil
        exact AllReadyH.nil
        refine rdy (fun K hK => ?_) ?_
        go_simp
        (first | (go_at_call 107; refine (AD.out w5 g0 A0 n0 c0 D0 m0 d0 F7.out A2 n2 c2 D2 m2 d2 R2.out).mono ?_; rintro e w6 ⟨A3, n3, c3, D3, m3, d3, rfl, r, b⟩; have y0_3 := cell_bx y0_2 b; have y1_3 := cell_bx y1_2 b; have y2_3 := cell_bx y2_2 b; have z1_3 := cell_bx z1_2 b; have q0_3 := cell_bx q0_2 b; have q1_3 := cell_bx q1_2 b; have q2_3 := cell_bx q2_2 b; have P8 := hid (P7.out.keep b); have F8 := hid (F7.out.keep b); have G8 := hid (G7.out.keep b); have NN := hid (P8.out.next (FrW.of r)); obtain ⟨_, _, _, _, _, _, _, _, _, K3, _⟩ := P8.out; have f0 := Blk.free K3 0; have f1 := Blk.free K3 1; have f2 := Blk.free K3 2; clear b r K3) | (go_at_call 108; refine (VT.out w4 gf Af nf cf' Df mf df G6.out A1 n1 c1 D1 m1 d1 R1.out).mono ?_; rintro e w5 ⟨A2, n2, c2, D2, m2, d2, rfl, r, b⟩; have y0_2 := cell_bx y0_1 b; have y1_2 := cell_bx y1_1 b; have y2_2 := cell_bx y2_1 b; have z1_2 := cell_bx z1_1 b; have q0_2 := cell_bx q0_1 b; have q1_2 := cell_bx q1_1 b; have q2_2 := cell_bx q2_1 b; have P7 := hid (P6.out.keep b); have F7 := hid (F6.out.keep b); have G7 := hid (G6.out.keep b); have R2 := hid r; clear b r) | (go_at_call 74; refine (VF.out _).mono ?_; rintro e w4 ⟨A1, n1, c1, D1, m1, d1, rfl, r, b⟩; have y0_1 := cell_bx (cell_dr y0) b; have y1_1 := cell_bx (cell_dr y1) b; have y2_1 := cell_bx (cell_dr y2) b; have z1_1 := cell_bx (cell_dr z1) b; have q0_1 := cell_bx (cell_dr q0) b; have q1_1 := cell_bx (cell_dr q1) b; have q2_1 := cell_bx (cell_dr q2) b; have P6 := hid (P5.out.keep (bx_call (bx_drew (bx_refl _)) b)); have F6 := hid (F5.out.keep (bx_call (bx_drew (bx_refl _)) b)); have G6 := hid (G5.out.keep (bx_call (bx_drew (bx_refl _)) b)); have R1 := hid r; clear b r))
        (try go_wp2_with fail)
        refine hK.out _ _ ?_ (fun hH2 => ?_)
        · (try dsimp only); (refine ⟨?_, ?_, ?_, ?_⟩ <;> repeat' (first | with_reducible assumption | with_reducible refine cell_dr ?_ | with_reducible refine cell_al ?_ | with_reducible refine cell_fr ?_ (by omega)))
        clear hK K hH
        have hH := hH2
        clear hH2
        (try simp only [Act.put, gy0, gy1, gy2])
        refine wpAnyH_ready (rs := [0, 5]) (by kernel_rfl) (by simp) ?_
        refine rdy (fun K hK => ?_) ?_
        go_simp
        refine hK.out _ _ ?_ (fun hH2 => ?_)
        · (try dsimp only); (refine ⟨?_, ?_, ?_, ?_⟩ <;> repeat' (first | with_reducible assumption | with_reducible refine cell_dr ?_ | with_reducible refine cell_al ?_ | with_reducible refine cell_fr ?_ (by omega)))
        clear hK K hH
        have hH := hH2
        clear hH2
        (try simp only [Act.put, gy0, gy1, gy2])
        refine wpAnyH_ready (rs := [5]) (by kernel_rfl) (by simp) ?_
        refine rdy (fun K hK => ?_) ?_
        go_simp
        (first | (go_at_call 107; refine (AD.out w5 g0 A0 n0 c0 D0 m0 d0 F7.out A2 n2 c2 D2 m2 d2 R2.out).mono ?_; rintro e w6 ⟨A3, n3, c3, D3, m3, d3, rfl, r, b⟩; have y0_3 := cell_bx y0_2 b; have y1_3 := cell_bx y1_2 b; have y2_3 := cell_bx y2_2 b; have z1_3 := cell_bx z1_2 b; have q0_3 := cell_bx q0_2 b; have q1_3 := cell_bx q1_2 b; have q2_3 := cell_bx q2_2 b; have P8 := hid (P7.out.keep b); have F8 := hid (F7.out.keep b); have G8 := hid (G7.out.keep b); have NN := hid (P8.out.next (FrW.of r)); obtain ⟨_, _, _, _, _, _, _, _, _, K3, _⟩ := P8.out; have f0 := Blk.free K3 0; have f1 := Blk.free K3 1; have f2 := Blk.free K3 2; clear b r K3) | (go_at_call 108; refine (VT.out w4 gf Af nf cf' Df mf df G6.out A1 n1 c1 D1 m1 d1 R1.out).mono ?_; rintro e w5 ⟨A2, n2, c2, D2, m2, d2, rfl, r, b⟩; have y0_2 := cell_bx y0_1 b; have y1_2 := cell_bx y1_1 b; have y2_2 := cell_bx y2_1 b; have z1_2 := cell_bx z1_1 b; have q0_2 := cell_bx q0_1 b; have q1_2 := cell_bx q1_1 b; have q2_2 := cell_bx q2_1 b; have P7 := hid (P6.out.keep b); have F7 := hid (F6.out.keep b); have G7 := hid (G6.out.keep b); have R2 := hid r; clear b r) | (go_at_call 74; refine (VF.out _).mono ?_; rintro e w4 ⟨A1, n1, c1, D1, m1, d1, rfl, r, b⟩; have y0_1 := cell_bx (cell_dr y0) b; have y1_1 := cell_bx (cell_dr y1) b; have y2_1 := cell_bx (cell_dr y2) b; have z1_1 := cell_bx (cell_dr z1) b; have q0_1 := cell_bx (cell_dr q0) b; have q1_1 := cell_bx (cell_dr q1) b; have q2_1 := cell_bx (cell_dr q2) b; have P6 := hid (P5.out.keep (bx_call (bx_drew (bx_refl _)) b)); have F6 := hid (F5.out.keep (bx_call (bx_drew (bx_refl _)) b)); have G6 := hid (G5.out.keep (bx_call (bx_drew (bx_refl _)) b)); have R1 := hid r; clear b r))
        (try go_wp2_with fail)
        refine hK.out _ _ ?_ (fun hH2 => ?_)
        · (try dsimp only); (refine ⟨?_, ?_, ?_, ?_⟩ <;> repeat' (first | with_reducible assumption | with_reducible refine cell_dr ?_ | with_reducible refine cell_al ?_ | with_reducible refine cell_fr ?_ (by omega)))
        clear hK K hH
        have hH := hH2
        clear hH2
        (try simp only [Act.put, gy0, gy1, gy2])
        refine wpAnyH_ready (rs := [6]) (by kernel_rfl) (by simp) ?_
        refine rdy (fun K hK => ?_) ?_
        go_simp
        (first | (go_at_call 107; refine (AD.out w5 g0 A0 n0 c0 D0 m0 d0 F7.out A2 n2 c2 D2 m2 d2 R2.out).mono ?_; rintro e w6 ⟨A3, n3, c3, D3, m3, d3, rfl, r, b⟩; have y0_3 := cell_bx y0_2 b; have y1_3 := cell_bx y1_2 b; have y2_3 := cell_bx y2_2 b; have z1_3 := cell_bx z1_2 b; have q0_3 := cell_bx q0_2 b; have q1_3 := cell_bx q1_2 b; have q2_3 := cell_bx q2_2 b; have P8 := hid (P7.out.keep b); have F8 := hid (F7.out.keep b); have G8 := hid (G7.out.keep b); have NN := hid (P8.out.next (FrW.of r)); obtain ⟨_, _, _, _, _, _, _, _, _, K3, _⟩ := P8.out; have f0 := Blk.free K3 0; have f1 := Blk.free K3 1; have f2 := Blk.free K3 2; clear b r K3) | (go_at_call 108; refine (VT.out w4 gf Af nf cf' Df mf df G6.out A1 n1 c1 D1 m1 d1 R1.out).mono ?_; rintro e w5 ⟨A2, n2, c2, D2, m2, d2, rfl, r, b⟩; have y0_2 := cell_bx y0_1 b; have y1_2 := cell_bx y1_1 b; have y2_2 := cell_bx y2_1 b; have z1_2 := cell_bx z1_1 b; have q0_2 := cell_bx q0_1 b; have q1_2 := cell_bx q1_1 b; have q2_2 := cell_bx q2_1 b; have P7 := hid (P6.out.keep b); have F7 := hid (F6.out.keep b); have G7 := hid (G6.out.keep b); have R2 := hid r; clear b r) | (go_at_call 74; refine (VF.out _).mono ?_; rintro e w4 ⟨A1, n1, c1, D1, m1, d1, rfl, r, b⟩; have y0_1 := cell_bx (cell_dr y0) b; have y1_1 := cell_bx (cell_dr y1) b; have y2_1 := cell_bx (cell_dr y2) b; have z1_1 := cell_bx (cell_dr z1) b; have q0_1 := cell_bx (cell_dr q0) b; have q1_1 := cell_bx (cell_dr q1) b; have q2_1 := cell_bx (cell_dr q2) b; have P6 := hid (P5.out.keep (bx_call (bx_drew (bx_refl _)) b)); have F6 := hid (F5.out.keep (bx_call (bx_drew (bx_refl _)) b)); have G6 := hid (G5.out.keep (bx_call (bx_drew (bx_refl _)) b)); have R1 := hid r; clear b r))
        (try go_wp2_with fail)
        refine hK.out _ _ ?_ (fun hH2 => ?_)
        · (try dsimp only); (refine ⟨?_, ?_, ?_, ?_⟩ <;> repeat' (first | with_reducible assumption | with_reducible refine cell_dr ?_ | with_reducible refine cell_al ?_ | with_reducible refine cell_fr ?_ (by omega)))
        clear hK K hH
        have hH := hH2
        clear hH2
        (try simp only [Act.put, gy0, gy1, gy2])
        refine wpAnyH_ready (rs := [7]) (by kernel_rfl) (by simp) ?_
        refine rdy (fun K hK => ?_) ?_
        go_simp
        refine hK.out _ _ ?_ (fun hH2 => ?_)
        · (try dsimp only); (refine ⟨?_, ?_, ?_, ?_⟩ <;> repeat' (first | with_reducible assumption | with_reducible refine cell_dr ?_ | with_reducible refine cell_al ?_ | with_reducible refine cell_fr ?_ (by omega)))
        clear hK K hH
        have hH := hH2
        clear hH2
        (try simp only [Act.put, gy0, gy1, gy2])
        refine wpAnyH_done (by kernel_rfl) ?_ _
        refine NoPanic.normal ?_
        clear hH
        rotate_left
        exact AllReadyH.nil
        exact AllReadyH.nil
        exact AllReadyH.nil
        refine rdy (fun K hK => ?_) ?_
        go_simp
        (first | (go_at_call 107; refine (AD.out w5 g0 A0 n0 c0 D0 m0 d0 F7.out A2 n2 c2 D2 m2 d2 R2.out).mono ?_; rintro e w6 ⟨A3, n3, c3, D3, m3, d3, rfl, r, b⟩; have y0_3 := cell_bx y0_2 b; have y1_3 := cell_bx y1_2 b; have y2_3 := cell_bx y2_2 b; have z1_3 := cell_bx z1_2 b; have q0_3 := cell_bx q0_2 b; have q1_3 := cell_bx q1_2 b; have q2_3 := cell_bx q2_2 b; have P8 := hid (P7.out.keep b); have F8 := hid (F7.out.keep b); have G8 := hid (G7.out.keep b); have NN := hid (P8.out.next (FrW.of r)); obtain ⟨_, _, _, _, _, _, _, _, _, K3, _⟩ := P8.out; have f0 := Blk.free K3 0; have f1 := Blk.free K3 1; have f2 := Blk.free K3 2; clear b r K3) | (go_at_call 108; refine (VT.out w4 gf Af nf cf' Df mf df G6.out A1 n1 c1 D1 m1 d1 R1.out).mono ?_; rintro e w5 ⟨A2, n2, c2, D2, m2, d2, rfl, r, b⟩; have y0_2 := cell_bx y0_1 b; have y1_2 := cell_bx y1_1 b; have y2_2 := cell_bx y2_1 b; have z1_2 := cell_bx z1_1 b; have q0_2 := cell_bx q0_1 b; have q1_2 := cell_bx q1_1 b; have q2_2 := cell_bx q2_1 b; have P7 := hid (P6.out.keep b); have F7 := hid (F6.out.keep b); have G7 := hid (G6.out.keep b); have R2 := hid r; clear b r) | (go_at_call 74; refine (VF.out _).mono ?_; rintro e w4 ⟨A1, n1, c1, D1, m1, d1, rfl, r, b⟩; have y0_1 := cell_bx (cell_dr y0) b; have y1_1 := cell_bx (cell_dr y1) b; have y2_1 := cell_bx (cell_dr y2) b; have z1_1 := cell_bx (cell_dr z1) b; have q0_1 := cell_bx (cell_dr q0) b; have q1_1 := cell_bx (cell_dr q1) b; have q2_1 := cell_bx (cell_dr q2) b; have P6 := hid (P5.out.keep (bx_call (bx_drew (bx_refl _)) b)); have F6 := hid (F5.out.keep (bx_call (bx_drew (bx_refl _)) b)); have G6 := hid (G5.out.keep (bx_call (bx_drew (bx_refl _)) b)); have R1 := hid r; clear b r))
        (try go_wp2_with fail)
        refine hK.out _ _ ?_ (fun hH2 => ?_)
        · (try dsimp only); (refine ⟨?_, ?_, ?_, ?_⟩ <;> repeat' (first | with_reducible assumption | with_reducible refine cell_dr ?_ | with_reducible refine cell_al ?_ | with_reducible refine cell_fr ?_ (by omega)))
        clear hK K hH
        have hH := hH2
        clear hH2
        (try simp only [Act.put, gy0, gy1, gy2])
        refine wpAnyH_ready (rs := [0]) (by kernel_rfl) (by simp) ?_
        refine rdy (fun K hK => ?_) ?_
        go_simp
        refine hK.out _ _ ?_ (fun hH2 => ?_)
        · (try dsimp only); (refine ⟨?_, ?_, ?_, ?_⟩ <;> repeat' (first | with_reducible assumption | with_reducible refine cell_dr ?_ | with_reducible refine cell_al ?_ | with_reducible refine cell_fr ?_ (by omega)))
        clear hK K hH
        have hH := hH2
        clear hH2
        (try simp only [Act.put, gy0, gy1, gy2])
        refine wpAnyH_ready (rs := [6]) (by kernel_rfl) (by simp) ?_
        refine rdy (fun K hK => ?_) ?_
        go_simp
        (first | (go_at_call 107; refine (AD.out w5 g0 A0 n0 c0 D0 m0 d0 F7.out A2 n2 c2 D2 m2 d2 R2.out).mono ?_; rintro e w6 ⟨A3, n3, c3, D3, m3, d3, rfl, r, b⟩; have y0_3 := cell_bx y0_2 b; have y1_3 := cell_bx y1_2 b; have y2_3 := cell_bx y2_2 b; have z1_3 := cell_bx z1_2 b; have q0_3 := cell_bx q0_2 b; have q1_3 := cell_bx q1_2 b; have q2_3 := cell_bx q2_2 b; have P8 := hid (P7.out.keep b); have F8 := hid (F7.out.keep b); have G8 := hid (G7.out.keep b); have NN := hid (P8.out.next (FrW.of r)); obtain ⟨_, _, _, _, _, _, _, _, _, K3, _⟩ := P8.out; have f0 := Blk.free K3 0; have f1 := Blk.free K3 1; have f2 := Blk.free K3 2; clear b r K3) | (go_at_call 108; refine (VT.out w4 gf Af nf cf' Df mf df G6.out A1 n1 c1 D1 m1 d1 R1.out).mono ?_; rintro e w5 ⟨A2, n2, c2, D2, m2, d2, rfl, r, b⟩; have y0_2 := cell_bx y0_1 b; have y1_2 := cell_bx y1_1 b; have y2_2 := cell_bx y2_1 b; have z1_2 := cell_bx z1_1 b; have q0_2 := cell_bx q0_1 b; have q1_2 := cell_bx q1_1 b; have q2_2 := cell_bx q2_1 b; have P7 := hid (P6.out.keep b); have F7 := hid (F6.out.keep b); have G7 := hid (G6.out.keep b); have R2 := hid r; clear b r) | (go_at_call 74; refine (VF.out _).mono ?_; rintro e w4 ⟨A1, n1, c1, D1, m1, d1, rfl, r, b⟩; have y0_1 := cell_bx (cell_dr y0) b; have y1_1 := cell_bx (cell_dr y1) b; have y2_1 := cell_bx (cell_dr y2) b; have z1_1 := cell_bx (cell_dr z1) b; have q0_1 := cell_bx (cell_dr q0) b; have q1_1 := cell_bx (cell_dr q1) b; have q2_1 := cell_bx (cell_dr q2) b; have P6 := hid (P5.out.keep (bx_call (bx_drew (bx_refl _)) b)); have F6 := hid (F5.out.keep (bx_call (bx_drew (bx_refl _)) b)); have G6 := hid (G5.out.keep (bx_call (bx_drew (bx_refl _)) b)); have R1 := hid r; clear b r))
        (try go_wp2_with fail)
        refine hK.out _ _ ?_ (fun hH2 => ?_)
        · (try dsimp only); (refine ⟨?_, ?_, ?_, ?_⟩ <;> repeat' (first | with_reducible assumption | with_reducible refine cell_dr ?_ | with_reducible refine cell_al ?_ | with_reducible refine cell_fr ?_ (by omega)))
        clear hK K hH
        have hH := hH2
        clear hH2
        (try simp only [Act.put, gy0, gy1, gy2])
        refine wpAnyH_ready (rs := [7]) (by kernel_rfl) (by simp) ?_
        refine rdy (fun K hK => ?_) ?_
        go_simp
        refine hK.out _ _ ?_ (fun hH2 => ?_)
        · (try dsimp only); (refine ⟨?_, ?_, ?_, ?_⟩ <;> repeat' (first | with_reducible assumption | with_reducible refine cell_dr ?_ | with_reducible refine cell_al ?_ | with_reducible refine cell_fr ?_ (by omega)))
        clear hK K hH
        have hH := hH2
        clear hH2
        (try simp only [Act.put, gy0, gy1, gy2])
        refine wpAnyH_done (by kernel_rfl) ?_ _
        refine NoPanic.normal ?_
        clear hH
        rotate_left
        exact AllReadyH.nil
        exact AllReadyH.nil
        exact AllReadyH.nil
        exact AllReadyH.nil
        exact AllReadyH.nil
        all_goals
          go_wp2_with fail
          go_roundw
          case rel => exact ⟨j + 1, by omega, by go_num, by rw [NX.out]; exact NN⟩
          case measure => simp [intOf]; omega
    · obtain rfl : j = nt := by omega
      clear HT AT ST hge AQ
      have DD := hid (AccW.done hz.out.1 hz.out.2.1 FA)
      have y0 := Blk.cell KA 0
      have y1 := Blk.cell KA 1
      have y2 := Blk.cell KA 2
      have f0 := Blk.free hz.out.2.1 0
      have f1 := Blk.free hz.out.2.1 1
      have f2 := Blk.free hz.out.2.1 2
      have e0 := Blk.cell hz.out.2.1 0
      have e1 := Blk.cell hz.out.2.1 1
      have e2 := Blk.cell hz.out.2.1 2
      clear KA FA hz BR FR PR
      go_wp2_with fail
      exact bodyPost_ret (v := .agg #[.bool g0, .slice A0 n0 c0, .slice D0 m0 d0]) (by simp [results, Tryz.results66, go_sem, e0, e1, e2]) rfl DD.out
set_option maxHeartbeats 4000000 in
theorem vdotL (Ta : Option Addr) (nt tc : Nat) (v cf : Nat → Int) (A : Option Addr) (n c k : Nat) (qs : Nat → Rat) (w : World) (hT : Ts w Ta nt tc v cf) (hQ : Qs w A n c k qs) (hk : nt * (k + 3) + 1 + (k + 2) ≤ 274877906943) :
    Calls Tryz.prog 19 #[.slice Ta nt tc, .slice A n c] w (RetW w (sumN (fun j => (cf j : Rat) * atQ n qs (v j)) nt) (nt * (k + 3) + 1)) := by
  have hqn : n ≤ 9223372036854775807 := Nat.le_trans hQ.1 hQ.2.1
  have htn : nt ≤ 9223372036854775807 := Nat.le_trans hT.1 hT.2.1
  obtain ⟨W0, hW⟩ : ∃ W, W = w.alloc (.cells #[.bool false, .slice none 0 0, .slice none 0 0] 41) := ⟨_, rfl⟩
  have B0 := bx_alloc (bx_refl w) (.cells #[.bool false, .slice none 0 0, .slice none 0 0] 41)
  have K0 := Blk.new w [.bool false, .slice none 0 0, .slice none 0 0] 41
  change Blk (w.alloc (.cells #[.bool false, .slice none 0 0, .slice none 0 0] 41)) _ _ _ at K0
  rw [← hW] at B0 K0
  have EL := hid (velem A n c n n W0 hqn (by omega))
  have SM := hid (fun (W : World) (b : Below W0.heap.size W0 W) (bn bl : Nat) (kn : Blk W bn [.int .i64 n] 3) (kl : Blk W bl [.slice A n c] 32) => vsumL Ta nt tc v cf A n c k n bn bl qs W (hT.keep (bx_call B0 b)) (hQ.keep (bx_call B0 b)) kn kl (Nat.le_refl _) hk)
  have BB := hid B0
  have KK := hid K0
  obtain ⟨S, hS⟩ : ∃ S, S = sumN (fun j => (cf j : Rat) * atQ n qs (v j)) nt := ⟨_, rfl⟩
  rw [← hS] at SM ⊢
  clear hT hQ B0 K0 hS
  go_enter Tryz.func19, Tryz.ntmps19
  go_upto_region 1 with fail
  rw [← hW]
  clear hW
  go_wp2_with fail
  refine (EL.out).mono ?_
  rintro e w1 ⟨bn, bl, rfl, kn, kl, _, _, b⟩
  have SC := hid (SM.out w1 b bn bl kn kl)
  have B1 := hid (bx_call BB.out b)
  have K1 := hid (KK.out.keep b)
  clear kn kl b SM EL BB KK
  unfold El
  unfold El at SC
  go_wp2_with fail
  refine (SC.out).mono ?_
  rintro e w2 ⟨g1, A1, n1, c1, D1, m1, d1, rfl, r, b⟩
  have K2 := K1.out.keep b
  have EE := hid (retw_end r K2 (bx_call B1.out b) (Nat.le_refl _))
  obtain ⟨x0, x1, x2⟩ := blk_three K2
  have f0 := Blk.free K2 0
  have f1 := Blk.free K2 1
  have f2 := Blk.free K2 2
  clear r b SC K1 K2 B1
  go_wp2_with fail
  exact bodyPost_ret (v := .agg #[.bool g1, .slice A1 n1 c1, .slice D1 m1 d1]) (by simp [results, Tryz.results19, go_sem, x0, x1, x2]) rfl EE.out
end Go.Proofs.YtdbccidlnhjfhaaGreatDoor
