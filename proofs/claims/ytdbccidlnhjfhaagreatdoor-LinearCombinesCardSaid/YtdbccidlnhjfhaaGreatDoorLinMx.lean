/- LinMx. -/
import Derived.Test.YtdbccidlnhjfhaaGreatDoorLinB
import Derived.Test.YtdbccidlnhjfhaaGreatDoorLinL
import Derived.Deep.DeepCutAuto
import Derived.BigQuiet
import Derived.Test.YtdbccidlnhjfhaaGreatDoorLinM
namespace Go.Proofs.YtdbccidlnhjfhaaGreatDoor
open Go.RowKit
set_option maxRecDepth 100000
def AccV (w : World) (pb : Nat) (cs : List Value) (t : TypeId) (g a : Nat) (k : Nat) (q : Rat) (W : World) : Prop := (w.heap.size ≤ pb ∧ w.heap.size ≤ g ∧ w.heap.size ≤ a ∧ pb ≠ a ∧ g ≠ a) ∧ Below w.heap.size w W ∧ Blk W pb cs t ∧ Blk W g [.bool false, .slice none 0 0, .slice none 0 0] 41 ∧ ∃ g1 A n c D m d, Blk W a [.bool g1, .slice A n c, .slice D m d] 41 ∧ FrW W g1 A n c D m d k q
theorem AccV.keep {w W W' : World} {pb : Nat} {cs : List Value} {t : TypeId} {g a k : Nat} {q : Rat} (h : AccV w pb cs t g a k q W) (b : Below W.heap.size W W') : AccV w pb cs t g a k q W' := by
  obtain ⟨hh, h1, h0, h2, g1, A, n, c, D, m, d, h3, h4⟩ := h
  exact ⟨hh, bx_call h1 b, h0.keep b, h2.keep b, g1, A, n, c, D, m, d, h3.keep b, h4.keep b⟩
theorem AccV.next {w W : World} {pb : Nat} {cs : List Value} {t : TypeId} {g a k k' : Nat} {q q' : Rat} {g1 : Bool} {A D : Option Addr} {n c m d : Nat} (h : AccV w pb cs t g a k q W) (f : FrW W g1 A n c D m d k' q') : AccV w pb cs t g a k' q' (((W.setCell ⟨a, 0, none⟩ (.bool g1)).setCell ⟨a, 1, none⟩ (.slice A n c)).setCell ⟨a, 2, none⟩ (.slice D m d)) := by
  obtain ⟨hh, h1, h0, h2, g0, A0, n0, c0, D0, m0, d0, h3, h4⟩ := h
  have hg := hh.2.2.1
  exact ⟨hh, bx_set (bx_set (bx_set h1 hg) hg) hg, ((h0.far (by omega) _).far (by omega) _).far (by omega) _, ((h2.far (by omega) _).far (by omega) _).far (by omega) _, g1, A, n, c, D, m, d, ((h3.set_ 0 _).set_ 1 _).set_ 2 _, frw_far3 f h3 _ _ _⟩
set_option maxHeartbeats 4000000 in
theorem rleastL (V0 : Option Addr) (vn vc : Nat) (R0 : Option Addr) (rn rc : Nat) (lo up : Nat → Int) (op it : Nat → Bool) (co : Nat → Int) (A : Option Addr) (n c k : Nat) (qs : Nat → Rat) (w : World) (hT : Vs w V0 vn vc lo up op it co) (hQ : Qs w A n c k qs) (hk : vn * (k + 3) + 1 + (k + 2) ≤ 274877906943) :
    Calls Tryz.prog 33 #[.agg #[.slice V0 vn vc, .slice R0 rn rc], .slice A n c] w (RetWB w (lstV vn lo up op (fun j : Nat => atQ n qs (j : Int))) (vn * (k + 3) + 1) (lstB vn lo up op (fun j : Nat => atQ n qs (j : Int)))) := by
  have hc := hT.1
  have hc2 := hT.2.1
  obtain ⟨q, hq⟩ : ∃ q : Nat → Rat, q = fun j : Nat => atQ n qs (j : Int) := ⟨_, rfl⟩
  rw [← hq]
  obtain ⟨f, hf⟩ : ∃ f : Nat → Rat, f = fun j => ((endZ (q j) (lo j) (up j) : Int) : Rat) * q j := ⟨_, rfl⟩
  have k1 := hQ.2.2.1
  obtain ⟨K, hK⟩ : ∃ K, K = vn * (k + 3) + 1 := ⟨_, rfl⟩
  have kp : 1 ≤ K := by omega
  rw [← hK] at hk ⊢
  have AQ := hid (fun j : Nat => (show LQ k (q j) by rw [hq]; exact atQ_lq hQ (j : Int)))
  have AT := hid (fun (W : World) (b : Below w.heap.size w W) (j : Nat) => (show Calls Tryz.prog 39 #[.slice A n c, .int .i64 (j : Int)] W (RetV W (q j) k) by rw [hq]; exact qat A n c k qs (j : Int) W (hQ.keep b)))
  obtain ⟨W0, hW⟩ : ∃ W, W = (w.alloc (.cells #[.slice V0 vn vc, .slice R0 rn rc] 25)).alloc (.cells #[.bool false, .slice none 0 0, .slice none 0 0] 41) := ⟨_, rfl⟩
  have B0 := bx_alloc (bx_alloc (bx_refl w) (.cells #[.slice V0 vn vc, .slice R0 rn rc] 25)) (.cells #[.bool false, .slice none 0 0, .slice none 0 0] 41)
  have KP := (Blk.new w [.slice V0 vn vc, .slice R0 rn rc] 25).alloc (.cells #[.bool false, .slice none 0 0, .slice none 0 0] 41)
  have KR := blk_new1 w (.cells #[.slice V0 vn vc, .slice R0 rn rc] 25) [.bool false, .slice none 0 0, .slice none 0 0] 41
  change Blk ((w.alloc (.cells #[.slice V0 vn vc, .slice R0 rn rc] 25)).alloc (.cells #[.bool false, .slice none 0 0, .slice none 0 0] 41)) _ _ _ at KP KR
  rw [← hW] at B0 KP KR
  have EM := hid (rempty V0 vn vc R0 rn rc lo up op it co W0 (hT.keep B0))
  have HT := hid hT
  obtain ⟨z0, z0'⟩ := blk_two KP
  have BB := hid B0
  have KKP := hid KP
  have KKR := hid KR
  clear hT hQ hq KP KR B0
  go_enter Tryz.func33, Tryz.ntmps33
  go_upto_region 1 with fail
  rw [← hW]
  clear hW
  go_wp2_with fail
  refine (EM.out).mono ?_
  rintro e w1 ⟨rfl, b⟩
  have K1 := hid (KKP.out.keep b)
  have R1 := KKR.out.keep b
  have B1 := bx_call BB.out b
  obtain ⟨x0, x1, x2⟩ := blk_three R1
  have f0 := Blk.free R1 0
  have f1 := Blk.free R1 1
  have f2 := Blk.free R1 2
  by_cases he : empB vn lo up op = true
  · have hb : lstB vn lo up op q = false := by unfold lstB; rw [he]; rfl
    have hv : lstV vn lo up op q = 0 := by unfold lstV; rw [hb]; rfl
    have EE := hid (retwb_as (retwb_end (b := false) (FrW.zero w1 (k := K) kp) R1 B1 (Nat.le_succ _)) hv hb)
    rw [he]
    clear EM KKP KKR b K1 R1 B1 BB HT AT AQ
    go_wp2_with fail
    exact bodyPost_ret (v := .tuple #[.agg #[.bool false, .slice none 0 0, .slice none 0 0], .bool false]) (by simp [results, Tryz.results33, go_sem, x0, x1, x2]) rfl EE.out
  have he' : empB vn lo up op = false := by simpa using he
  rw [he']
  have ST := hid (show AccV w w.heap.size [.slice V0 vn vc, .slice R0 rn rc] 25 (w.heap.size + 1) w1.heap.size K 0 (w1.alloc (.cells #[.bool false, .slice none 0 0, .slice none 0 0] 41)) from
    ⟨⟨Nat.le_refl _, Nat.le_succ _, B1.size, by have := K1.out.lt; omega, by have := R1.lt; omega⟩, bx_alloc B1 _, K1.out.alloc _, R1.alloc _, false, none, 0, 0, none, 0, 0, Blk.new w1 [.bool false, .slice none 0 0, .slice none 0 0] 41, FrW.zero _ (by omega)⟩)
  obtain ⟨z0, _⟩ := blk_two K1.out
  clear EM KKP KKR b K1 R1 B1 BB z0' x0 x1 x2 f0 f1 f2
  go_wp2_with fail
  go_loopw [7] (fun i wr => ∃ j : Nat, j ≤ vn ∧ i = .int .i64 j ∧ Hid (shut j op q ∧ AccV w w.heap.size [.slice V0 vn vc, .slice R0 rn rc] 25 (w.heap.size + 1) w1.heap.size K (sumN f j) wr)) (fun i _ => vn - (intOf i).toNat)
  case atStart => exact ⟨0, Nat.zero_le _, rfl, hid ⟨fun i hi => absurd hi (by omega), ST.out⟩⟩
  case round =>
    clear z0
    obtain ⟨j, hj, rfl, hz⟩ := hrel
    obtain ⟨z0, _⟩ := blk_two hz.out.2.2.2.1
    rcases Nat.lt_or_ge j vn with hlt | hge
    · obtain ⟨⟨l1, l2⟩, ⟨u1, u2⟩, _⟩ := HT.out.2.2.1 j hlt
      obtain ⟨b, o, rfl, hb, hcell⟩ := HT.out.2.2.2 (by omega)
      have x0 := cell_bx (hcell j hlt).1 hz.out.2.2.1
      have x1 := cell_bx (hcell j hlt).2.1 hz.out.2.2.1
      have x2 := cell_bx (hcell j hlt).2.2.1 hz.out.2.2.1
      have x3 := cell_bx (hcell j hlt).2.2.2.1 hz.out.2.2.1
      have x4 := cell_bx (hcell j hlt).2.2.2.2 hz.out.2.2.1
      have B1 := bx_alloc (bx_refl wr) (.cells #[.int .i64 (lo j), .int .i64 (up j), .bool (op j), .bool (it j), .int .i64 (co j)] 60)
      have CA := hid (AT.out _ (bx_call hz.out.2.2.1 B1) j)
      have KT := hid (Blk.new wr [.int .i64 (lo j), .int .i64 (up j), .bool (op j), .bool (it j), .int .i64 (co j)] 60)
      have Z1 := hid (hz.out.2.keep B1)
      have SH := hid hz.out.1
      obtain ⟨S, hS⟩ : ∃ S, S = sumN f j := ⟨_, rfl⟩
      obtain ⟨V, hV⟩ : ∃ V, V = ((endZ (q j) (lo j) (up j) : Int) : Rat) * q j := ⟨_, rfl⟩
      have ebd : ∀ i, i < vn → -9223372036854775808 ≤ endZ (q i) (lo i) (up i) ∧ endZ (q i) (lo i) (up i) ≤ 9223372036854775807 := fun i hi => by
        obtain ⟨a, b, _⟩ := HT.out.2.2.1 i hi
        unfold endZ
        split
        · exact b
        · exact a
      have NX := hid (show sumN f (j + 1) = S + V by rw [hS, hV]; show sumN f j + f j = _; rw [hf])
      have LS := hid (show LQ K (S + V) by
        have h1 := sumN_lq (f := f) (k := k + 2) (n := j + 1) (fun i hi => by rw [hf]; exact (LQ_mul (LQ_int (ebd i (by omega)).1 (ebd i (by omega)).2) (AQ.out i)).up (by omega))
        rw [NX.out] at h1
        refine h1.up ?_
        rw [hK]
        exact Nat.add_le_add_right (Nat.mul_le_mul_right _ (by omega)) 1)
      rw [← hS] at Z1
      have AD := hid (fun (W : World) (g0 : Bool) (A0 : Option Addr) (n0 c0 : Nat) (D0 : Option Addr) (m0 d0 : Nat) (L : FrW W g0 A0 n0 c0 D0 m0 d0 K S) (A2 : Option Addr) (n2 c2 : Nat) (D2 : Option Addr) (m2 d2 : Nat) (M : FrL W A2 n2 c2 D2 m2 d2 (2 + k) V) => (vradd g0 A0 n0 c0 D0 m0 d0 (sg V.num) A2 n2 c2 D2 m2 d2 (K + (k + 2)) S V W (L.v.up (by omega)) (M.v.up (by omega)) hk).mono fun _ _ r => r.fit LS.out)
      obtain ⟨U, hU⟩ : ∃ U, U = S + V := ⟨_, rfl⟩
      rw [← hU] at AD NX
      clear ST hz B1 HT hcell LS ebd hU hS hK AQ
      go_wp2_with fail
      refine (CA.out).mono ?_
      rintro e w2 ⟨ga, A1, n1, c1, D1, m1, d1, rfl, r, b1⟩
      have SG := hid (vrsign ga A1 n1 c1 D1 m1 d1 k (q j) w2 r (by omega))
      have Z2 := hid (Z1.out.keep b1)
      have KT2 := hid (KT.out.keep b1)
      clear r b1 CA Z1 KT x0 x1 x2 x3 x4
      go_wp2_with fail
      refine (SG.out).mono ?_
      rintro e w3 ⟨rfl, b2⟩
      have Z3 := hid (Z2.out.keep b2)
      have BR := hid Z3.out.2.1
      obtain ⟨_, z1, z2, _, _⟩ := blk_five (KT2.out.keep b2)
      obtain ⟨g0, A0, n0, c0, D0, m0, d0, KA, FA⟩ := Z3.out.2.2.2.2
      clear SG b2 Z2 KT2
      by_cases s : sgnQ (q j) < 0
      · have t1 : decide (sgnQ (q j) < 0) = true := decide_eq_true s
        by_cases k2 : op j = true
        · have hb : lstB vn lo up op q = false := by unfold lstB; rw [decide_eq_false fun h : shut vn op q => h j hlt ⟨s, k2⟩]; simp
          have hv : lstV vn lo up op q = 0 := by unfold lstV; rw [hb]; rfl
          have EE := hid (retwb_as (retwb_end (b := false) (FrW.zero w3 (k := K) kp) Z3.out.2.2.2.1 BR.out (Nat.le_succ _)) hv hb)
          obtain ⟨x0, x1, x2⟩ := blk_three Z3.out.2.2.2.1
          have f0 := Blk.free Z3.out.2.2.2.1 0
          have f1 := Blk.free Z3.out.2.2.2.1 1
          have f2 := Blk.free Z3.out.2.2.2.1 2
          rw [k2] at z2
          clear Z3 BR KA FA AT AD NX SH hV
          go_wp2_with fail
          exact bodyPost_ret (v := .tuple #[.agg #[.bool false, .slice none 0 0, .slice none 0 0], .bool false]) (by simp [results, Tryz.results33, go_sem, x0, x1, x2]) rfl EE.out
        · have k3 : op j = false := by simpa using k2
          have SJ := hid (show shut (j + 1) op q from fun i hi => by
            rcases Nat.lt_or_ge i j with h1 | h1
            · exact SH.out i h1
            · obtain rfl : i = j := by omega
              exact fun h => k2 h.2)
          rw [k3] at z2
          have ez : endZ (q j) (lo j) (up j) = up j := if_pos s
          have lz : -9223372036854775808 ≤ up j ∧ up j ≤ 9223372036854775807 := ⟨u1, u2⟩
          have VT := hid (fun (W : World) (ga : Bool) (A1 : Option Addr) (n1 c1 : Nat) (D1 : Option Addr) (m1 d1 : Nat) (L : FrV W ga A1 n1 c1 D1 m1 d1 k (q j)) => vtimes (up j) ga A1 n1 c1 D1 m1 d1 k _ W lz.1 lz.2 L (by omega))
          rw [show ((up j : Int) : Rat) * q j = V by rw [hV, ez]] at VT
          have FR := hid FA
          have PR := hid Z3.out
          obtain ⟨y0, y1, y2⟩ := blk_three KA
          clear FA KA Z3 k2 ez hV lz
          go_wp2_with fail
          refine wp_region_noPanic ?_
          refine wp_region_held_drew (S := (fun _ => True)) (by kernel_rfl) ?_ (fun hH => ?_)
          · trivial
          refine tk 1 hH ?_
          (try simp only [Act.put, gy0, gy1, gy2])
          refine tk 2 hH ?_
          (try simp only [Act.put, gy0, gy1, gy2])
          refine tk 3 hH ?_
          (try simp only [Act.put, gy0, gy1, gy2])
          refine wpAnyH_ready (rs := [0, 4]) (by kernel_rfl) (by simp) ?_
          refine rdy (fun K hK => ?_) ?_
          go_simp
          refine hK.out _ _ ?_ (fun hH2 => ?_)
          · trivial
          clear hK K hH
          have hH := hH2
          clear hH2
          (try simp only [Act.put, gy0, gy1, gy2])
          refine wpAnyH_ready (rs := [4]) (by kernel_rfl) (by simp) ?_
          refine rdy (fun K hK => ?_) ?_
          go_simp
          (first | (go_at_call 37; refine (AD.out v2 g0 A0 n0 c0 D0 m0 d0 F2.out A2 n2 c2 D2 m2 d2 R2.out).mono ?_; rintro e v3 ⟨A3, n3, c3, D3, m3, d3, rfl, r, b⟩; have y0_3 := cell_bx y0_2 b; have y1_3 := cell_bx y1_2 b; have y2_3 := cell_bx y2_2 b; have P3 := hid (P2.out.keep b); have F3 := hid (F2.out.keep b); have NN := hid (P3.out.next (FrW.of r)); obtain ⟨_, _, _, _, _, _, _, _, _, _, _, K3, _⟩ := P3.out; have f0 := Blk.free K3 0; have f1 := Blk.free K3 1; have f2 := Blk.free K3 2; clear b r K3) | (go_at_call 68; refine (VT.out v1 gc Ac nc cc Dc mc dc R1.out).mono ?_; rintro e v2 ⟨A2, n2, c2, D2, m2, d2, rfl, r, b⟩; have y0_2 := cell_bx y0_1 b; have y1_2 := cell_bx y1_1 b; have y2_2 := cell_bx y2_1 b; have P2 := hid (P1.out.keep b); have F2 := hid (F1.out.keep b); have R2 := hid r; clear b r) | (go_at_call 39; refine (AT.out _ (bx_call BR.out (bx_drew (bx_refl _))) j).mono ?_; rintro e v1 ⟨gc, Ac, nc, cc, Dc, mc, dc, rfl, r, b⟩; have y0_1 := cell_bx (cell_dr y0) b; have y1_1 := cell_bx (cell_dr y1) b; have y2_1 := cell_bx (cell_dr y2) b; have P1 := hid (PR.out.keep (bx_call (bx_drew (bx_refl _)) b)); have F1 := hid (FR.out.keep (bx_call (bx_drew (bx_refl _)) b)); have R1 := hid r; clear b r))
          (try go_wp2_with fail)
          refine hK.out _ _ ?_ (fun hH2 => ?_)
          · trivial
          clear hK K hH
          have hH := hH2
          clear hH2
          (try simp only [Act.put, gy0, gy1, gy2])
          refine wpAnyH_ready (rs := [5]) (by kernel_rfl) (by simp) ?_
          refine rdy (fun K hK => ?_) ?_
          go_simp
          (first | (go_at_call 37; refine (AD.out v2 g0 A0 n0 c0 D0 m0 d0 F2.out A2 n2 c2 D2 m2 d2 R2.out).mono ?_; rintro e v3 ⟨A3, n3, c3, D3, m3, d3, rfl, r, b⟩; have y0_3 := cell_bx y0_2 b; have y1_3 := cell_bx y1_2 b; have y2_3 := cell_bx y2_2 b; have P3 := hid (P2.out.keep b); have F3 := hid (F2.out.keep b); have NN := hid (P3.out.next (FrW.of r)); obtain ⟨_, _, _, _, _, _, _, _, _, _, _, K3, _⟩ := P3.out; have f0 := Blk.free K3 0; have f1 := Blk.free K3 1; have f2 := Blk.free K3 2; clear b r K3) | (go_at_call 68; refine (VT.out v1 gc Ac nc cc Dc mc dc R1.out).mono ?_; rintro e v2 ⟨A2, n2, c2, D2, m2, d2, rfl, r, b⟩; have y0_2 := cell_bx y0_1 b; have y1_2 := cell_bx y1_1 b; have y2_2 := cell_bx y2_1 b; have P2 := hid (P1.out.keep b); have F2 := hid (F1.out.keep b); have R2 := hid r; clear b r) | (go_at_call 39; refine (AT.out _ (bx_call BR.out (bx_drew (bx_refl _))) j).mono ?_; rintro e v1 ⟨gc, Ac, nc, cc, Dc, mc, dc, rfl, r, b⟩; have y0_1 := cell_bx (cell_dr y0) b; have y1_1 := cell_bx (cell_dr y1) b; have y2_1 := cell_bx (cell_dr y2) b; have P1 := hid (PR.out.keep (bx_call (bx_drew (bx_refl _)) b)); have F1 := hid (FR.out.keep (bx_call (bx_drew (bx_refl _)) b)); have R1 := hid r; clear b r))
          (try go_wp2_with fail)
          refine hK.out _ _ ?_ (fun hH2 => ?_)
          · trivial
          clear hK K hH
          have hH := hH2
          clear hH2
          (try simp only [Act.put, gy0, gy1, gy2])
          refine wpAnyH_ready (rs := [6]) (by kernel_rfl) (by simp) ?_
          refine rdy (fun K hK => ?_) ?_
          go_simp
          (first | (go_at_call 37; refine (AD.out v2 g0 A0 n0 c0 D0 m0 d0 F2.out A2 n2 c2 D2 m2 d2 R2.out).mono ?_; rintro e v3 ⟨A3, n3, c3, D3, m3, d3, rfl, r, b⟩; have y0_3 := cell_bx y0_2 b; have y1_3 := cell_bx y1_2 b; have y2_3 := cell_bx y2_2 b; have P3 := hid (P2.out.keep b); have F3 := hid (F2.out.keep b); have NN := hid (P3.out.next (FrW.of r)); obtain ⟨_, _, _, _, _, _, _, _, _, _, _, K3, _⟩ := P3.out; have f0 := Blk.free K3 0; have f1 := Blk.free K3 1; have f2 := Blk.free K3 2; clear b r K3) | (go_at_call 68; refine (VT.out v1 gc Ac nc cc Dc mc dc R1.out).mono ?_; rintro e v2 ⟨A2, n2, c2, D2, m2, d2, rfl, r, b⟩; have y0_2 := cell_bx y0_1 b; have y1_2 := cell_bx y1_1 b; have y2_2 := cell_bx y2_1 b; have P2 := hid (P1.out.keep b); have F2 := hid (F1.out.keep b); have R2 := hid r; clear b r) | (go_at_call 39; refine (AT.out _ (bx_call BR.out (bx_drew (bx_refl _))) j).mono ?_; rintro e v1 ⟨gc, Ac, nc, cc, Dc, mc, dc, rfl, r, b⟩; have y0_1 := cell_bx (cell_dr y0) b; have y1_1 := cell_bx (cell_dr y1) b; have y2_1 := cell_bx (cell_dr y2) b; have P1 := hid (PR.out.keep (bx_call (bx_drew (bx_refl _)) b)); have F1 := hid (FR.out.keep (bx_call (bx_drew (bx_refl _)) b)); have R1 := hid r; clear b r))
          (try go_wp2_with fail)
          refine hK.out _ _ ?_ (fun hH2 => ?_)
          · trivial
          clear hK K hH
          have hH := hH2
          clear hH2
          (try simp only [Act.put, gy0, gy1, gy2])
          refine wpAnyH_ready (rs := [7]) (by kernel_rfl) (by simp) ?_
          refine rdy (fun K hK => ?_) ?_
          go_simp
          refine hK.out _ _ ?_ (fun hH2 => ?_)
          · trivial
          clear hK K hH
          have hH := hH2
          clear hH2
          (try simp only [Act.put, gy0, gy1, gy2])
          refine wpAnyH_done (by kernel_rfl) ?_ _
          refine NoPanic.normal ?_
          clear hH
          rotate_left
          exact AllReadyH.nil
          exact AllReadyH.nil
          exact AllReadyH.nil
          exact AllReadyH.nil
          refine rdy (fun K hK => ?_) ?_
          go_simp
          (first | (go_at_call 37; refine (AD.out v2 g0 A0 n0 c0 D0 m0 d0 F2.out A2 n2 c2 D2 m2 d2 R2.out).mono ?_; rintro e v3 ⟨A3, n3, c3, D3, m3, d3, rfl, r, b⟩; have y0_3 := cell_bx y0_2 b; have y1_3 := cell_bx y1_2 b; have y2_3 := cell_bx y2_2 b; have P3 := hid (P2.out.keep b); have F3 := hid (F2.out.keep b); have NN := hid (P3.out.next (FrW.of r)); obtain ⟨_, _, _, _, _, _, _, _, _, _, _, K3, _⟩ := P3.out; have f0 := Blk.free K3 0; have f1 := Blk.free K3 1; have f2 := Blk.free K3 2; clear b r K3) | (go_at_call 68; refine (VT.out v1 gc Ac nc cc Dc mc dc R1.out).mono ?_; rintro e v2 ⟨A2, n2, c2, D2, m2, d2, rfl, r, b⟩; have y0_2 := cell_bx y0_1 b; have y1_2 := cell_bx y1_1 b; have y2_2 := cell_bx y2_1 b; have P2 := hid (P1.out.keep b); have F2 := hid (F1.out.keep b); have R2 := hid r; clear b r) | (go_at_call 39; refine (AT.out _ (bx_call BR.out (bx_drew (bx_refl _))) j).mono ?_; rintro e v1 ⟨gc, Ac, nc, cc, Dc, mc, dc, rfl, r, b⟩; have y0_1 := cell_bx (cell_dr y0) b; have y1_1 := cell_bx (cell_dr y1) b; have y2_1 := cell_bx (cell_dr y2) b; have P1 := hid (PR.out.keep (bx_call (bx_drew (bx_refl _)) b)); have F1 := hid (FR.out.keep (bx_call (bx_drew (bx_refl _)) b)); have R1 := hid r; clear b r))
          (try go_wp2_with fail)
          refine hK.out _ _ ?_ (fun hH2 => ?_)
          · trivial
          clear hK K hH
          have hH := hH2
          clear hH2
          (try simp only [Act.put, gy0, gy1, gy2])
          refine wpAnyH_ready (rs := [0, 5]) (by kernel_rfl) (by simp) ?_
          refine rdy (fun K hK => ?_) ?_
          go_simp
          refine hK.out _ _ ?_ (fun hH2 => ?_)
          · trivial
          clear hK K hH
          have hH := hH2
          clear hH2
          (try simp only [Act.put, gy0, gy1, gy2])
          refine wpAnyH_ready (rs := [5]) (by kernel_rfl) (by simp) ?_
          refine rdy (fun K hK => ?_) ?_
          go_simp
          (first | (go_at_call 37; refine (AD.out v2 g0 A0 n0 c0 D0 m0 d0 F2.out A2 n2 c2 D2 m2 d2 R2.out).mono ?_; rintro e v3 ⟨A3, n3, c3, D3, m3, d3, rfl, r, b⟩; have y0_3 := cell_bx y0_2 b; have y1_3 := cell_bx y1_2 b; have y2_3 := cell_bx y2_2 b; have P3 := hid (P2.out.keep b); have F3 := hid (F2.out.keep b); have NN := hid (P3.out.next (FrW.of r)); obtain ⟨_, _, _, _, _, _, _, _, _, _, _, K3, _⟩ := P3.out; have f0 := Blk.free K3 0; have f1 := Blk.free K3 1; have f2 := Blk.free K3 2; clear b r K3) | (go_at_call 68; refine (VT.out v1 gc Ac nc cc Dc mc dc R1.out).mono ?_; rintro e v2 ⟨A2, n2, c2, D2, m2, d2, rfl, r, b⟩; have y0_2 := cell_bx y0_1 b; have y1_2 := cell_bx y1_1 b; have y2_2 := cell_bx y2_1 b; have P2 := hid (P1.out.keep b); have F2 := hid (F1.out.keep b); have R2 := hid r; clear b r) | (go_at_call 39; refine (AT.out _ (bx_call BR.out (bx_drew (bx_refl _))) j).mono ?_; rintro e v1 ⟨gc, Ac, nc, cc, Dc, mc, dc, rfl, r, b⟩; have y0_1 := cell_bx (cell_dr y0) b; have y1_1 := cell_bx (cell_dr y1) b; have y2_1 := cell_bx (cell_dr y2) b; have P1 := hid (PR.out.keep (bx_call (bx_drew (bx_refl _)) b)); have F1 := hid (FR.out.keep (bx_call (bx_drew (bx_refl _)) b)); have R1 := hid r; clear b r))
          (try go_wp2_with fail)
          refine hK.out _ _ ?_ (fun hH2 => ?_)
          · trivial
          clear hK K hH
          have hH := hH2
          clear hH2
          (try simp only [Act.put, gy0, gy1, gy2])
          refine wpAnyH_ready (rs := [6]) (by kernel_rfl) (by simp) ?_
          refine rdy (fun K hK => ?_) ?_
          go_simp
          (first | (go_at_call 37; refine (AD.out v2 g0 A0 n0 c0 D0 m0 d0 F2.out A2 n2 c2 D2 m2 d2 R2.out).mono ?_; rintro e v3 ⟨A3, n3, c3, D3, m3, d3, rfl, r, b⟩; have y0_3 := cell_bx y0_2 b; have y1_3 := cell_bx y1_2 b; have y2_3 := cell_bx y2_2 b; have P3 := hid (P2.out.keep b); have F3 := hid (F2.out.keep b); have NN := hid (P3.out.next (FrW.of r)); obtain ⟨_, _, _, _, _, _, _, _, _, _, _, K3, _⟩ := P3.out; have f0 := Blk.free K3 0; have f1 := Blk.free K3 1; have f2 := Blk.free K3 2; clear b r K3) | (go_at_call 68; refine (VT.out v1 gc Ac nc cc Dc mc dc R1.out).mono ?_; rintro e v2 ⟨A2, n2, c2, D2, m2, d2, rfl, r, b⟩; have y0_2 := cell_bx y0_1 b; have y1_2 := cell_bx y1_1 b; have y2_2 := cell_bx y2_1 b; have P2 := hid (P1.out.keep b); have F2 := hid (F1.out.keep b); have R2 := hid r; clear b r) | (go_at_call 39; refine (AT.out _ (bx_call BR.out (bx_drew (bx_refl _))) j).mono ?_; rintro e v1 ⟨gc, Ac, nc, cc, Dc, mc, dc, rfl, r, b⟩; have y0_1 := cell_bx (cell_dr y0) b; have y1_1 := cell_bx (cell_dr y1) b; have y2_1 := cell_bx (cell_dr y2) b; have P1 := hid (PR.out.keep (bx_call (bx_drew (bx_refl _)) b)); have F1 := hid (FR.out.keep (bx_call (bx_drew (bx_refl _)) b)); have R1 := hid r; clear b r))
          (try go_wp2_with fail)
          refine hK.out _ _ ?_ (fun hH2 => ?_)
          · trivial
          clear hK K hH
          have hH := hH2
          clear hH2
          (try simp only [Act.put, gy0, gy1, gy2])
          refine wpAnyH_ready (rs := [7]) (by kernel_rfl) (by simp) ?_
          refine rdy (fun K hK => ?_) ?_
          go_simp
          refine hK.out _ _ ?_ (fun hH2 => ?_)
          · trivial
          clear hK K hH
          have hH := hH2
          clear hH2
          (try simp only [Act.put, gy0, gy1, gy2])
          refine wpAnyH_done (by kernel_rfl) ?_ _
          refine NoPanic.normal ?_
          clear hH
          rotate_left
          exact AllReadyH.nil
          exact AllReadyH.nil
          exact AllReadyH.nil
          refine rdy (fun K hK => ?_) ?_
          go_simp
          (first | (go_at_call 37; refine (AD.out v2 g0 A0 n0 c0 D0 m0 d0 F2.out A2 n2 c2 D2 m2 d2 R2.out).mono ?_; rintro e v3 ⟨A3, n3, c3, D3, m3, d3, rfl, r, b⟩; have y0_3 := cell_bx y0_2 b; have y1_3 := cell_bx y1_2 b; have y2_3 := cell_bx y2_2 b; have P3 := hid (P2.out.keep b); have F3 := hid (F2.out.keep b); have NN := hid (P3.out.next (FrW.of r)); obtain ⟨_, _, _, _, _, _, _, _, _, _, _, K3, _⟩ := P3.out; have f0 := Blk.free K3 0; have f1 := Blk.free K3 1; have f2 := Blk.free K3 2; clear b r K3) | (go_at_call 68; refine (VT.out v1 gc Ac nc cc Dc mc dc R1.out).mono ?_; rintro e v2 ⟨A2, n2, c2, D2, m2, d2, rfl, r, b⟩; have y0_2 := cell_bx y0_1 b; have y1_2 := cell_bx y1_1 b; have y2_2 := cell_bx y2_1 b; have P2 := hid (P1.out.keep b); have F2 := hid (F1.out.keep b); have R2 := hid r; clear b r) | (go_at_call 39; refine (AT.out _ (bx_call BR.out (bx_drew (bx_refl _))) j).mono ?_; rintro e v1 ⟨gc, Ac, nc, cc, Dc, mc, dc, rfl, r, b⟩; have y0_1 := cell_bx (cell_dr y0) b; have y1_1 := cell_bx (cell_dr y1) b; have y2_1 := cell_bx (cell_dr y2) b; have P1 := hid (PR.out.keep (bx_call (bx_drew (bx_refl _)) b)); have F1 := hid (FR.out.keep (bx_call (bx_drew (bx_refl _)) b)); have R1 := hid r; clear b r))
          (try go_wp2_with fail)
          refine hK.out _ _ ?_ (fun hH2 => ?_)
          · trivial
          clear hK K hH
          have hH := hH2
          clear hH2
          (try simp only [Act.put, gy0, gy1, gy2])
          refine wpAnyH_ready (rs := [0]) (by kernel_rfl) (by simp) ?_
          refine rdy (fun K hK => ?_) ?_
          go_simp
          refine hK.out _ _ ?_ (fun hH2 => ?_)
          · trivial
          clear hK K hH
          have hH := hH2
          clear hH2
          (try simp only [Act.put, gy0, gy1, gy2])
          refine wpAnyH_ready (rs := [6]) (by kernel_rfl) (by simp) ?_
          refine rdy (fun K hK => ?_) ?_
          go_simp
          (first | (go_at_call 37; refine (AD.out v2 g0 A0 n0 c0 D0 m0 d0 F2.out A2 n2 c2 D2 m2 d2 R2.out).mono ?_; rintro e v3 ⟨A3, n3, c3, D3, m3, d3, rfl, r, b⟩; have y0_3 := cell_bx y0_2 b; have y1_3 := cell_bx y1_2 b; have y2_3 := cell_bx y2_2 b; have P3 := hid (P2.out.keep b); have F3 := hid (F2.out.keep b); have NN := hid (P3.out.next (FrW.of r)); obtain ⟨_, _, _, _, _, _, _, _, _, _, _, K3, _⟩ := P3.out; have f0 := Blk.free K3 0; have f1 := Blk.free K3 1; have f2 := Blk.free K3 2; clear b r K3) | (go_at_call 68; refine (VT.out v1 gc Ac nc cc Dc mc dc R1.out).mono ?_; rintro e v2 ⟨A2, n2, c2, D2, m2, d2, rfl, r, b⟩; have y0_2 := cell_bx y0_1 b; have y1_2 := cell_bx y1_1 b; have y2_2 := cell_bx y2_1 b; have P2 := hid (P1.out.keep b); have F2 := hid (F1.out.keep b); have R2 := hid r; clear b r) | (go_at_call 39; refine (AT.out _ (bx_call BR.out (bx_drew (bx_refl _))) j).mono ?_; rintro e v1 ⟨gc, Ac, nc, cc, Dc, mc, dc, rfl, r, b⟩; have y0_1 := cell_bx (cell_dr y0) b; have y1_1 := cell_bx (cell_dr y1) b; have y2_1 := cell_bx (cell_dr y2) b; have P1 := hid (PR.out.keep (bx_call (bx_drew (bx_refl _)) b)); have F1 := hid (FR.out.keep (bx_call (bx_drew (bx_refl _)) b)); have R1 := hid r; clear b r))
          (try go_wp2_with fail)
          refine hK.out _ _ ?_ (fun hH2 => ?_)
          · trivial
          clear hK K hH
          have hH := hH2
          clear hH2
          (try simp only [Act.put, gy0, gy1, gy2])
          refine wpAnyH_ready (rs := [7]) (by kernel_rfl) (by simp) ?_
          refine rdy (fun K hK => ?_) ?_
          go_simp
          refine hK.out _ _ ?_ (fun hH2 => ?_)
          · trivial
          clear hK K hH
          have hH := hH2
          clear hH2
          (try simp only [Act.put, gy0, gy1, gy2])
          refine wpAnyH_done (by kernel_rfl) ?_ _
          refine NoPanic.normal ?_
          clear hH
          rotate_left
          exact AllReadyH.nil
          exact AllReadyH.nil
          exact AllReadyH.nil
          exact AllReadyH.nil
          exact AllReadyH.nil
          all_goals
            go_wp2_with fail
            go_roundw
            case rel => exact ⟨j + 1, by omega, by go_num, hid ⟨SJ.out, by rw [NX.out]; exact NN.out⟩⟩
            case measure => simp [intOf]; omega
      · have t1 : decide (sgnQ (q j) < 0) = false := decide_eq_false s
        have SJ := hid (show shut (j + 1) op q from fun i hi => by
          rcases Nat.lt_or_ge i j with h1 | h1
          · exact SH.out i h1
          · obtain rfl : i = j := by omega
            exact fun h => s h.1)
        have k2 := s
        have ez : endZ (q j) (lo j) (up j) = lo j := if_neg s
        have lz : -9223372036854775808 ≤ lo j ∧ lo j ≤ 9223372036854775807 := ⟨l1, l2⟩
        have VT := hid (fun (W : World) (ga : Bool) (A1 : Option Addr) (n1 c1 : Nat) (D1 : Option Addr) (m1 d1 : Nat) (L : FrV W ga A1 n1 c1 D1 m1 d1 k (q j)) => vtimes (lo j) ga A1 n1 c1 D1 m1 d1 k _ W lz.1 lz.2 L (by omega))
        rw [show ((lo j : Int) : Rat) * q j = V by rw [hV, ez]] at VT
        have FR := hid FA
        have PR := hid Z3.out
        obtain ⟨y0, y1, y2⟩ := blk_three KA
        clear FA KA Z3 k2 ez hV lz
        go_wp2_with fail
        refine wp_region_noPanic ?_
        refine wp_region_held_drew (S := (fun _ => True)) (by kernel_rfl) ?_ (fun hH => ?_)
        · trivial
        refine tk 1 hH ?_
        (try simp only [Act.put, gy0, gy1, gy2])
        refine tk 2 hH ?_
        (try simp only [Act.put, gy0, gy1, gy2])
        refine tk 3 hH ?_
        (try simp only [Act.put, gy0, gy1, gy2])
        refine wpAnyH_ready (rs := [0, 4]) (by kernel_rfl) (by simp) ?_
        refine rdy (fun K hK => ?_) ?_
        go_simp
        refine hK.out _ _ ?_ (fun hH2 => ?_)
        · trivial
        clear hK K hH
        have hH := hH2
        clear hH2
        (try simp only [Act.put, gy0, gy1, gy2])
        refine wpAnyH_ready (rs := [4]) (by kernel_rfl) (by simp) ?_
        refine rdy (fun K hK => ?_) ?_
        go_simp
        (first | (go_at_call 37; refine (AD.out v2 g0 A0 n0 c0 D0 m0 d0 F2.out A2 n2 c2 D2 m2 d2 R2.out).mono ?_; rintro e v3 ⟨A3, n3, c3, D3, m3, d3, rfl, r, b⟩; have y0_3 := cell_bx y0_2 b; have y1_3 := cell_bx y1_2 b; have y2_3 := cell_bx y2_2 b; have P3 := hid (P2.out.keep b); have F3 := hid (F2.out.keep b); have NN := hid (P3.out.next (FrW.of r)); obtain ⟨_, _, _, _, _, _, _, _, _, _, _, K3, _⟩ := P3.out; have f0 := Blk.free K3 0; have f1 := Blk.free K3 1; have f2 := Blk.free K3 2; clear b r K3) | (go_at_call 68; refine (VT.out v1 gc Ac nc cc Dc mc dc R1.out).mono ?_; rintro e v2 ⟨A2, n2, c2, D2, m2, d2, rfl, r, b⟩; have y0_2 := cell_bx y0_1 b; have y1_2 := cell_bx y1_1 b; have y2_2 := cell_bx y2_1 b; have P2 := hid (P1.out.keep b); have F2 := hid (F1.out.keep b); have R2 := hid r; clear b r) | (go_at_call 39; refine (AT.out _ (bx_call BR.out (bx_drew (bx_refl _))) j).mono ?_; rintro e v1 ⟨gc, Ac, nc, cc, Dc, mc, dc, rfl, r, b⟩; have y0_1 := cell_bx (cell_dr y0) b; have y1_1 := cell_bx (cell_dr y1) b; have y2_1 := cell_bx (cell_dr y2) b; have P1 := hid (PR.out.keep (bx_call (bx_drew (bx_refl _)) b)); have F1 := hid (FR.out.keep (bx_call (bx_drew (bx_refl _)) b)); have R1 := hid r; clear b r))
        (try go_wp2_with fail)
        refine hK.out _ _ ?_ (fun hH2 => ?_)
        · trivial
        clear hK K hH
        have hH := hH2
        clear hH2
        (try simp only [Act.put, gy0, gy1, gy2])
        refine wpAnyH_ready (rs := [5]) (by kernel_rfl) (by simp) ?_
        refine rdy (fun K hK => ?_) ?_
        go_simp
        (first | (go_at_call 37; refine (AD.out v2 g0 A0 n0 c0 D0 m0 d0 F2.out A2 n2 c2 D2 m2 d2 R2.out).mono ?_; rintro e v3 ⟨A3, n3, c3, D3, m3, d3, rfl, r, b⟩; have y0_3 := cell_bx y0_2 b; have y1_3 := cell_bx y1_2 b; have y2_3 := cell_bx y2_2 b; have P3 := hid (P2.out.keep b); have F3 := hid (F2.out.keep b); have NN := hid (P3.out.next (FrW.of r)); obtain ⟨_, _, _, _, _, _, _, _, _, _, _, K3, _⟩ := P3.out; have f0 := Blk.free K3 0; have f1 := Blk.free K3 1; have f2 := Blk.free K3 2; clear b r K3) | (go_at_call 68; refine (VT.out v1 gc Ac nc cc Dc mc dc R1.out).mono ?_; rintro e v2 ⟨A2, n2, c2, D2, m2, d2, rfl, r, b⟩; have y0_2 := cell_bx y0_1 b; have y1_2 := cell_bx y1_1 b; have y2_2 := cell_bx y2_1 b; have P2 := hid (P1.out.keep b); have F2 := hid (F1.out.keep b); have R2 := hid r; clear b r) | (go_at_call 39; refine (AT.out _ (bx_call BR.out (bx_drew (bx_refl _))) j).mono ?_; rintro e v1 ⟨gc, Ac, nc, cc, Dc, mc, dc, rfl, r, b⟩; have y0_1 := cell_bx (cell_dr y0) b; have y1_1 := cell_bx (cell_dr y1) b; have y2_1 := cell_bx (cell_dr y2) b; have P1 := hid (PR.out.keep (bx_call (bx_drew (bx_refl _)) b)); have F1 := hid (FR.out.keep (bx_call (bx_drew (bx_refl _)) b)); have R1 := hid r; clear b r))
        (try go_wp2_with fail)
        refine hK.out _ _ ?_ (fun hH2 => ?_)
        · trivial
        clear hK K hH
        have hH := hH2
        clear hH2
        (try simp only [Act.put, gy0, gy1, gy2])
        refine wpAnyH_ready (rs := [6]) (by kernel_rfl) (by simp) ?_
        refine rdy (fun K hK => ?_) ?_
        go_simp
        (first | (go_at_call 37; refine (AD.out v2 g0 A0 n0 c0 D0 m0 d0 F2.out A2 n2 c2 D2 m2 d2 R2.out).mono ?_; rintro e v3 ⟨A3, n3, c3, D3, m3, d3, rfl, r, b⟩; have y0_3 := cell_bx y0_2 b; have y1_3 := cell_bx y1_2 b; have y2_3 := cell_bx y2_2 b; have P3 := hid (P2.out.keep b); have F3 := hid (F2.out.keep b); have NN := hid (P3.out.next (FrW.of r)); obtain ⟨_, _, _, _, _, _, _, _, _, _, _, K3, _⟩ := P3.out; have f0 := Blk.free K3 0; have f1 := Blk.free K3 1; have f2 := Blk.free K3 2; clear b r K3) | (go_at_call 68; refine (VT.out v1 gc Ac nc cc Dc mc dc R1.out).mono ?_; rintro e v2 ⟨A2, n2, c2, D2, m2, d2, rfl, r, b⟩; have y0_2 := cell_bx y0_1 b; have y1_2 := cell_bx y1_1 b; have y2_2 := cell_bx y2_1 b; have P2 := hid (P1.out.keep b); have F2 := hid (F1.out.keep b); have R2 := hid r; clear b r) | (go_at_call 39; refine (AT.out _ (bx_call BR.out (bx_drew (bx_refl _))) j).mono ?_; rintro e v1 ⟨gc, Ac, nc, cc, Dc, mc, dc, rfl, r, b⟩; have y0_1 := cell_bx (cell_dr y0) b; have y1_1 := cell_bx (cell_dr y1) b; have y2_1 := cell_bx (cell_dr y2) b; have P1 := hid (PR.out.keep (bx_call (bx_drew (bx_refl _)) b)); have F1 := hid (FR.out.keep (bx_call (bx_drew (bx_refl _)) b)); have R1 := hid r; clear b r))
        (try go_wp2_with fail)
        refine hK.out _ _ ?_ (fun hH2 => ?_)
        · trivial
        clear hK K hH
        have hH := hH2
        clear hH2
        (try simp only [Act.put, gy0, gy1, gy2])
        refine wpAnyH_ready (rs := [7]) (by kernel_rfl) (by simp) ?_
        refine rdy (fun K hK => ?_) ?_
        go_simp
        refine hK.out _ _ ?_ (fun hH2 => ?_)
        · trivial
        clear hK K hH
        have hH := hH2
        clear hH2
        (try simp only [Act.put, gy0, gy1, gy2])
        refine wpAnyH_done (by kernel_rfl) ?_ _
        refine NoPanic.normal ?_
        clear hH
        rotate_left
        exact AllReadyH.nil
        exact AllReadyH.nil
        exact AllReadyH.nil
        exact AllReadyH.nil
        refine rdy (fun K hK => ?_) ?_
        go_simp
        (first | (go_at_call 37; refine (AD.out v2 g0 A0 n0 c0 D0 m0 d0 F2.out A2 n2 c2 D2 m2 d2 R2.out).mono ?_; rintro e v3 ⟨A3, n3, c3, D3, m3, d3, rfl, r, b⟩; have y0_3 := cell_bx y0_2 b; have y1_3 := cell_bx y1_2 b; have y2_3 := cell_bx y2_2 b; have P3 := hid (P2.out.keep b); have F3 := hid (F2.out.keep b); have NN := hid (P3.out.next (FrW.of r)); obtain ⟨_, _, _, _, _, _, _, _, _, _, _, K3, _⟩ := P3.out; have f0 := Blk.free K3 0; have f1 := Blk.free K3 1; have f2 := Blk.free K3 2; clear b r K3) | (go_at_call 68; refine (VT.out v1 gc Ac nc cc Dc mc dc R1.out).mono ?_; rintro e v2 ⟨A2, n2, c2, D2, m2, d2, rfl, r, b⟩; have y0_2 := cell_bx y0_1 b; have y1_2 := cell_bx y1_1 b; have y2_2 := cell_bx y2_1 b; have P2 := hid (P1.out.keep b); have F2 := hid (F1.out.keep b); have R2 := hid r; clear b r) | (go_at_call 39; refine (AT.out _ (bx_call BR.out (bx_drew (bx_refl _))) j).mono ?_; rintro e v1 ⟨gc, Ac, nc, cc, Dc, mc, dc, rfl, r, b⟩; have y0_1 := cell_bx (cell_dr y0) b; have y1_1 := cell_bx (cell_dr y1) b; have y2_1 := cell_bx (cell_dr y2) b; have P1 := hid (PR.out.keep (bx_call (bx_drew (bx_refl _)) b)); have F1 := hid (FR.out.keep (bx_call (bx_drew (bx_refl _)) b)); have R1 := hid r; clear b r))
        (try go_wp2_with fail)
        refine hK.out _ _ ?_ (fun hH2 => ?_)
        · trivial
        clear hK K hH
        have hH := hH2
        clear hH2
        (try simp only [Act.put, gy0, gy1, gy2])
        refine wpAnyH_ready (rs := [0, 5]) (by kernel_rfl) (by simp) ?_
        refine rdy (fun K hK => ?_) ?_
        go_simp
        refine hK.out _ _ ?_ (fun hH2 => ?_)
        · trivial
        clear hK K hH
        have hH := hH2
        clear hH2
        (try simp only [Act.put, gy0, gy1, gy2])
        refine wpAnyH_ready (rs := [5]) (by kernel_rfl) (by simp) ?_
        refine rdy (fun K hK => ?_) ?_
        go_simp
        (first | (go_at_call 37; refine (AD.out v2 g0 A0 n0 c0 D0 m0 d0 F2.out A2 n2 c2 D2 m2 d2 R2.out).mono ?_; rintro e v3 ⟨A3, n3, c3, D3, m3, d3, rfl, r, b⟩; have y0_3 := cell_bx y0_2 b; have y1_3 := cell_bx y1_2 b; have y2_3 := cell_bx y2_2 b; have P3 := hid (P2.out.keep b); have F3 := hid (F2.out.keep b); have NN := hid (P3.out.next (FrW.of r)); obtain ⟨_, _, _, _, _, _, _, _, _, _, _, K3, _⟩ := P3.out; have f0 := Blk.free K3 0; have f1 := Blk.free K3 1; have f2 := Blk.free K3 2; clear b r K3) | (go_at_call 68; refine (VT.out v1 gc Ac nc cc Dc mc dc R1.out).mono ?_; rintro e v2 ⟨A2, n2, c2, D2, m2, d2, rfl, r, b⟩; have y0_2 := cell_bx y0_1 b; have y1_2 := cell_bx y1_1 b; have y2_2 := cell_bx y2_1 b; have P2 := hid (P1.out.keep b); have F2 := hid (F1.out.keep b); have R2 := hid r; clear b r) | (go_at_call 39; refine (AT.out _ (bx_call BR.out (bx_drew (bx_refl _))) j).mono ?_; rintro e v1 ⟨gc, Ac, nc, cc, Dc, mc, dc, rfl, r, b⟩; have y0_1 := cell_bx (cell_dr y0) b; have y1_1 := cell_bx (cell_dr y1) b; have y2_1 := cell_bx (cell_dr y2) b; have P1 := hid (PR.out.keep (bx_call (bx_drew (bx_refl _)) b)); have F1 := hid (FR.out.keep (bx_call (bx_drew (bx_refl _)) b)); have R1 := hid r; clear b r))
        (try go_wp2_with fail)
        refine hK.out _ _ ?_ (fun hH2 => ?_)
        · trivial
        clear hK K hH
        have hH := hH2
        clear hH2
        (try simp only [Act.put, gy0, gy1, gy2])
        refine wpAnyH_ready (rs := [6]) (by kernel_rfl) (by simp) ?_
        refine rdy (fun K hK => ?_) ?_
        go_simp
        (first | (go_at_call 37; refine (AD.out v2 g0 A0 n0 c0 D0 m0 d0 F2.out A2 n2 c2 D2 m2 d2 R2.out).mono ?_; rintro e v3 ⟨A3, n3, c3, D3, m3, d3, rfl, r, b⟩; have y0_3 := cell_bx y0_2 b; have y1_3 := cell_bx y1_2 b; have y2_3 := cell_bx y2_2 b; have P3 := hid (P2.out.keep b); have F3 := hid (F2.out.keep b); have NN := hid (P3.out.next (FrW.of r)); obtain ⟨_, _, _, _, _, _, _, _, _, _, _, K3, _⟩ := P3.out; have f0 := Blk.free K3 0; have f1 := Blk.free K3 1; have f2 := Blk.free K3 2; clear b r K3) | (go_at_call 68; refine (VT.out v1 gc Ac nc cc Dc mc dc R1.out).mono ?_; rintro e v2 ⟨A2, n2, c2, D2, m2, d2, rfl, r, b⟩; have y0_2 := cell_bx y0_1 b; have y1_2 := cell_bx y1_1 b; have y2_2 := cell_bx y2_1 b; have P2 := hid (P1.out.keep b); have F2 := hid (F1.out.keep b); have R2 := hid r; clear b r) | (go_at_call 39; refine (AT.out _ (bx_call BR.out (bx_drew (bx_refl _))) j).mono ?_; rintro e v1 ⟨gc, Ac, nc, cc, Dc, mc, dc, rfl, r, b⟩; have y0_1 := cell_bx (cell_dr y0) b; have y1_1 := cell_bx (cell_dr y1) b; have y2_1 := cell_bx (cell_dr y2) b; have P1 := hid (PR.out.keep (bx_call (bx_drew (bx_refl _)) b)); have F1 := hid (FR.out.keep (bx_call (bx_drew (bx_refl _)) b)); have R1 := hid r; clear b r))
        (try go_wp2_with fail)
        refine hK.out _ _ ?_ (fun hH2 => ?_)
        · trivial
        clear hK K hH
        have hH := hH2
        clear hH2
        (try simp only [Act.put, gy0, gy1, gy2])
        refine wpAnyH_ready (rs := [7]) (by kernel_rfl) (by simp) ?_
        refine rdy (fun K hK => ?_) ?_
        go_simp
        refine hK.out _ _ ?_ (fun hH2 => ?_)
        · trivial
        clear hK K hH
        have hH := hH2
        clear hH2
        (try simp only [Act.put, gy0, gy1, gy2])
        refine wpAnyH_done (by kernel_rfl) ?_ _
        refine NoPanic.normal ?_
        clear hH
        rotate_left
        exact AllReadyH.nil
        exact AllReadyH.nil
        exact AllReadyH.nil
        refine rdy (fun K hK => ?_) ?_
        go_simp
        (first | (go_at_call 37; refine (AD.out v2 g0 A0 n0 c0 D0 m0 d0 F2.out A2 n2 c2 D2 m2 d2 R2.out).mono ?_; rintro e v3 ⟨A3, n3, c3, D3, m3, d3, rfl, r, b⟩; have y0_3 := cell_bx y0_2 b; have y1_3 := cell_bx y1_2 b; have y2_3 := cell_bx y2_2 b; have P3 := hid (P2.out.keep b); have F3 := hid (F2.out.keep b); have NN := hid (P3.out.next (FrW.of r)); obtain ⟨_, _, _, _, _, _, _, _, _, _, _, K3, _⟩ := P3.out; have f0 := Blk.free K3 0; have f1 := Blk.free K3 1; have f2 := Blk.free K3 2; clear b r K3) | (go_at_call 68; refine (VT.out v1 gc Ac nc cc Dc mc dc R1.out).mono ?_; rintro e v2 ⟨A2, n2, c2, D2, m2, d2, rfl, r, b⟩; have y0_2 := cell_bx y0_1 b; have y1_2 := cell_bx y1_1 b; have y2_2 := cell_bx y2_1 b; have P2 := hid (P1.out.keep b); have F2 := hid (F1.out.keep b); have R2 := hid r; clear b r) | (go_at_call 39; refine (AT.out _ (bx_call BR.out (bx_drew (bx_refl _))) j).mono ?_; rintro e v1 ⟨gc, Ac, nc, cc, Dc, mc, dc, rfl, r, b⟩; have y0_1 := cell_bx (cell_dr y0) b; have y1_1 := cell_bx (cell_dr y1) b; have y2_1 := cell_bx (cell_dr y2) b; have P1 := hid (PR.out.keep (bx_call (bx_drew (bx_refl _)) b)); have F1 := hid (FR.out.keep (bx_call (bx_drew (bx_refl _)) b)); have R1 := hid r; clear b r))
        (try go_wp2_with fail)
        refine hK.out _ _ ?_ (fun hH2 => ?_)
        · trivial
        clear hK K hH
        have hH := hH2
        clear hH2
        (try simp only [Act.put, gy0, gy1, gy2])
        refine wpAnyH_ready (rs := [0]) (by kernel_rfl) (by simp) ?_
        refine rdy (fun K hK => ?_) ?_
        go_simp
        refine hK.out _ _ ?_ (fun hH2 => ?_)
        · trivial
        clear hK K hH
        have hH := hH2
        clear hH2
        (try simp only [Act.put, gy0, gy1, gy2])
        refine wpAnyH_ready (rs := [6]) (by kernel_rfl) (by simp) ?_
        refine rdy (fun K hK => ?_) ?_
        go_simp
        (first | (go_at_call 37; refine (AD.out v2 g0 A0 n0 c0 D0 m0 d0 F2.out A2 n2 c2 D2 m2 d2 R2.out).mono ?_; rintro e v3 ⟨A3, n3, c3, D3, m3, d3, rfl, r, b⟩; have y0_3 := cell_bx y0_2 b; have y1_3 := cell_bx y1_2 b; have y2_3 := cell_bx y2_2 b; have P3 := hid (P2.out.keep b); have F3 := hid (F2.out.keep b); have NN := hid (P3.out.next (FrW.of r)); obtain ⟨_, _, _, _, _, _, _, _, _, _, _, K3, _⟩ := P3.out; have f0 := Blk.free K3 0; have f1 := Blk.free K3 1; have f2 := Blk.free K3 2; clear b r K3) | (go_at_call 68; refine (VT.out v1 gc Ac nc cc Dc mc dc R1.out).mono ?_; rintro e v2 ⟨A2, n2, c2, D2, m2, d2, rfl, r, b⟩; have y0_2 := cell_bx y0_1 b; have y1_2 := cell_bx y1_1 b; have y2_2 := cell_bx y2_1 b; have P2 := hid (P1.out.keep b); have F2 := hid (F1.out.keep b); have R2 := hid r; clear b r) | (go_at_call 39; refine (AT.out _ (bx_call BR.out (bx_drew (bx_refl _))) j).mono ?_; rintro e v1 ⟨gc, Ac, nc, cc, Dc, mc, dc, rfl, r, b⟩; have y0_1 := cell_bx (cell_dr y0) b; have y1_1 := cell_bx (cell_dr y1) b; have y2_1 := cell_bx (cell_dr y2) b; have P1 := hid (PR.out.keep (bx_call (bx_drew (bx_refl _)) b)); have F1 := hid (FR.out.keep (bx_call (bx_drew (bx_refl _)) b)); have R1 := hid r; clear b r))
        (try go_wp2_with fail)
        refine hK.out _ _ ?_ (fun hH2 => ?_)
        · trivial
        clear hK K hH
        have hH := hH2
        clear hH2
        (try simp only [Act.put, gy0, gy1, gy2])
        refine wpAnyH_ready (rs := [7]) (by kernel_rfl) (by simp) ?_
        refine rdy (fun K hK => ?_) ?_
        go_simp
        refine hK.out _ _ ?_ (fun hH2 => ?_)
        · trivial
        clear hK K hH
        have hH := hH2
        clear hH2
        (try simp only [Act.put, gy0, gy1, gy2])
        refine wpAnyH_done (by kernel_rfl) ?_ _
        refine NoPanic.normal ?_
        clear hH
        rotate_left
        exact AllReadyH.nil
        exact AllReadyH.nil
        exact AllReadyH.nil
        exact AllReadyH.nil
        exact AllReadyH.nil
        all_goals
          go_wp2_with fail
          go_roundw
          case rel => exact ⟨j + 1, by omega, by go_num, hid ⟨SJ.out, by rw [NX.out]; exact NN.out⟩⟩
          case measure => simp [intOf]; omega
    · obtain rfl : j = vn := by omega
      have hb : lstB j lo up op q = true := by unfold lstB; rw [he', decide_eq_true hz.out.1]; rfl
      have hv : lstV j lo up op q = sumN f j := by unfold lstV; rw [hb, hf]; rfl
      obtain ⟨g0, A0, n0, c0, D0, m0, d0, KA, FA⟩ := hz.out.2.2.2.2.2
      have DD := hid (retwb_as (retwb_end (b := true) FA hz.out.2.2.2.2.1 hz.out.2.2.1 (Nat.le_succ _)) hv hb)
      obtain ⟨y0, y1, y2⟩ := blk_three KA
      have f0 := Blk.free hz.out.2.2.2.2.1 0
      have f1 := Blk.free hz.out.2.2.2.2.1 1
      have f2 := Blk.free hz.out.2.2.2.2.1 2
      obtain ⟨e0, e1, e2⟩ := blk_three hz.out.2.2.2.2.1
      clear HT AT ST hge AQ KA FA hz
      go_wp2_with fail
      exact bodyPost_ret (v := .tuple #[.agg #[.bool g0, .slice A0 n0 c0, .slice D0 m0 d0], .bool true]) (by simp [results, Tryz.results33, go_sem, e0, e1, e2]) rfl DD.out
end Go.Proofs.YtdbccidlnhjfhaaGreatDoor
