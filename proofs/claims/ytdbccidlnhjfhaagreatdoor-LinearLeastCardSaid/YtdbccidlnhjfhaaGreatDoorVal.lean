/- The closure of LinearLeast. -/
import Derived.Test.YtdbccidlnhjfhaaGreatDoorLinL
import Derived.Deep.DeepCutAuto
import Derived.BigQuiet
namespace Go.Proofs.YtdbccidlnhjfhaaGreatDoor
open Go.RowKit
set_option maxRecDepth 100000
set_option maxHeartbeats 4000000 in
theorem v_value (pb cb : Nat) (V0 : Option Addr) (vn vc : Nat) (R0 : Option Addr) (rn rc : Nat) (C : Option Addr) (cn cc : Nat) (cs : Nat → Rat) (tc : TypeId) (X : Option Addr) (xn xc k : Nat) (xs : Nat → Rat) (w : World) (hv : vn ≤ 1000) (KP : Blk w pb [.slice V0 vn vc, .slice R0 rn rc] 25) (KC : Blk w cb [.slice C cn cc] tc) (hC : Qs w C cn cc 4 cs) (hX : Qs w X xn xc k xs) (hk : k ≤ 100) :
    Calls Tryz.prog 41 #[.slice X xn xc, .pointer (some ⟨pb, 0, none⟩), .pointer (some ⟨cb, 0, none⟩)] w (RetV w (sumN (fun j => atQ cn cs (j : Int) * atQ xn xs (j : Int)) vn) (vn * (k + 5) + 1)) := by
  have k1 := hX.2.2.1
  obtain ⟨f, hf⟩ : ∃ f : Nat → Rat, f = fun j : Nat => atQ cn cs (j : Int) * atQ xn xs (j : Int) := ⟨_, rfl⟩
  rw [← hf]
  obtain ⟨K, hK⟩ : ∃ K, K = vn * (k + 5) + 1 := ⟨_, rfl⟩
  have hK9 : K ≤ 1000 * 105 + 1 := by rw [hK]; exact Nat.add_le_add_right (Nat.mul_le_mul hv (by omega)) 1
  have hf9 := hf
  rw [← hK]
  obtain ⟨W0, hW⟩ : ∃ W, W = (w.alloc (.cells #[.bool false, .slice none 0 0, .slice none 0 0] 41)).alloc (.cells #[.bool false, .slice none 0 0, .slice none 0 0] 41) := ⟨_, rfl⟩
  have ST := hid (AccP.start w (k := K) (by omega))
  rw [← hW] at ST
  have AT := hid (fun (W : World) (b : Below w.heap.size w W) (j : Nat) => qat C cn cc 4 cs (j : Int) W (hC.keep b))
  have AX := hid (fun (W : World) (b : Below w.heap.size w W) (j : Nat) => qat X xn xc k xs (j : Int) W (hX.keep b))
  have LC := hid (fun j : Nat => (show LQ 4 (atQ cn cs (j : Int)) from atQ_lq hC (j : Int)))
  have LX := hid (fun j : Nat => (show LQ k (atQ xn xs (j : Int)) from atQ_lq hX (j : Int)))
  have HF := hid hf
  have KK := hid KC
  obtain ⟨z0, z1⟩ := blk_two (KP.keep ST.out.1)
  clear hC hX KP KC hf
  go_enter Tryz.func41, Tryz.ntmps41
  go_upto_region 2 with fail
  rw [← hW]
  clear hW
  go_wp2_with fail
  clear z0 z1
  go_loopw [11] (fun i wr => ∃ j : Nat, j ≤ vn ∧ i = .int .i64 j ∧ Hid (AccP w K (sumN f j) wr)) (fun i _ => vn - (intOf i).toNat)
  case atStart => exact ⟨0, Nat.zero_le _, rfl, ST⟩
  case round =>
    clear ST
    obtain ⟨j, hj, rfl, hz⟩ := hrel
    obtain ⟨gs, As, ns, cs9, Ds, ms, ds, KS, FS⟩ := hz.out.2.2
    obtain ⟨y0, y1, y2⟩ := blk_three KS
    rcases Nat.lt_or_ge j vn with hlt | hge
    · obtain ⟨S, hS⟩ : ∃ S, S = sumN f j := ⟨_, rfl⟩
      obtain ⟨xj, hxj⟩ : ∃ z, z = atQ xn xs (j : Int) := ⟨_, rfl⟩
      obtain ⟨cj, hcj⟩ : ∃ z, z = atQ cn cs (j : Int) := ⟨_, rfl⟩
      have LV : LQ (4 + k) (cj * xj) := by rw [hxj, hcj]; exact LQ_mul (LC.out j) (LX.out j)
      have EH : sumN f (j + 1) = S + cj * xj := by rw [hS, hxj, hcj]; show sumN f j + f j = _; rw [HF.out]
      have LH : LQ K (S + cj * xj) := by
        have h1 := sumN_lq (f := f) (k := 4 + k) (n := j + 1) (fun i hi => by rw [HF.out]; exact LQ_mul (LC.out i) (LX.out i))
        rw [EH] at h1
        refine h1.up ?_
        rw [hK, show 4 + k + 1 = k + 5 by omega]
        exact Nat.add_le_add_right (Nat.mul_le_mul_right _ (by omega)) 1
      have AT1 := hid (fun W b => AT.out W b j)
      have AX1 := hid (fun W b => AX.out W b j)
      rw [← hcj] at AT1
      rw [← hxj] at AX1
      rw [← hS] at hz FS
      obtain ⟨V, hV⟩ : ∃ q, q = cj * xj := ⟨_, rfl⟩
      rw [← hV] at LV EH LH
      have VM := hid (fun (W : World) (g0 : Bool) (A0 : Option Addr) (n0 c0 : Nat) (D0 : Option Addr) (m0 d0 : Nat) (L : FrV W g0 A0 n0 c0 D0 m0 d0 4 cj) (g1 : Bool) (A1 : Option Addr) (n1 c1 : Nat) (D1 : Option Addr) (m1 d1 : Nat) (M : FrV W g1 A1 n1 c1 D1 m1 d1 k xj) => (show Calls Tryz.prog 38 #[.agg #[.bool g0, .slice A0 n0 c0, .slice D0 m0 d0], .agg #[.bool g1, .slice A1 n1 c1, .slice D1 m1 d1]] W (RetQ W V (4 + k)) by
        have t := (vrmul g0 A0 n0 c0 D0 m0 d0 g1 A1 n1 c1 D1 m1 d1 (4 + k) cj xj W (L.up (by omega)) (M.up (by omega)) (by omega))
        rw [← hV] at t
        exact t.mono fun _ _ r => r.fit LV))
      have AD := hid (fun (W : World) (L : FrV W gs As ns cs9 Ds ms ds K S) (A2 : Option Addr) (n2 c2 : Nat) (D2 : Option Addr) (m2 d2 : Nat) (M : FrL W A2 n2 c2 D2 m2 d2 (4 + k) V) => (vradd gs As ns cs9 Ds ms ds (sg V.num) A2 n2 c2 D2 m2 d2 (K + (4 + k)) S V W (L.up (by omega)) (M.v.up (by omega)) (by omega)).mono fun _ _ r => r.fit LH)
      obtain ⟨U, hU⟩ : ∃ q, q = S + V := ⟨_, rfl⟩
      rw [← hU] at AD EH
      have q0 := Blk.cell (KK.out.keep hz.out.1) 0
      have PR0 := hid hz.out
      have FS0 := hid FS
      have KS0 := hid KS
      have BB0 := hid hz.out.1
      have EQ := hid EH
      have hcb : cb ≠ w.heap.size + 1 := by have := KK.out.lt; omega
      clear hz FS KS AT AX LC LX HF LV LH EH hS hxj hcj hV hU hf9 hK hK9
      go_upto_region 5 with fail
      (try simp only [List.append_eq, List.cons_append, List.nil_append])
      refine wp_region_noPanic ?_
      refine wp_region_held_drew (S := (fun W => W.cell? ⟨cb, 0, none⟩ = some (.slice C cn cc))) (by kernel_rfl) ?_ (fun hH => ?_)
      · exact cell_dr q0
      refine tk 1 hH ?_
      (try simp only [Act.put, gy0, gy1, gy2])
      refine tk 2 hH ?_
      (try simp only [Act.put, gy0, gy1, gy2])
      refine tk 4 hH ?_
      (try simp only [Act.put, gy0, gy1, gy2])
      refine tk 5 hH ?_
      (try simp only [Act.put, gy0, gy1, gy2])
      refine wpAnyH_ready (rs := [0, 3]) (by kernel_rfl) (by simp) ?_
      refine rdy (fun K hK => ?_) ?_
      go_simp
      refine hK.out _ _ hH (fun hH2 => ?_)
      clear hK K hH
      have hH := hH2
      clear hH2
      (try simp only [Act.put, gy0, gy1, gy2])
      refine wpAnyH_ready (rs := [3]) (by kernel_rfl) (by simp) ?_
      refine rdy (fun K hK => ?_) ?_
      go_simp
      refine (AT1.out _ (bx_call BB0.out (bx_drew (bx_refl _)))).mono ?_
      rintro e w1 ⟨gx, Ax, nx, cx, Dx, mx, dx, rfl, r, b⟩
      have y0_1 := cell_bx (cell_dr y0) b
      have y1_1 := cell_bx (cell_dr y1) b
      have y2_1 := cell_bx (cell_dr y2) b
      have q0_1 := cell_bx (cell_dr q0) b
      have PR1 := hid (PR0.out.keep (bx_call (bx_drew (bx_refl _)) b))
      have FS1 := hid (FS0.out.keep (bx_call (bx_drew (bx_refl _)) b))
      have KS1 := hid (KS0.out.keep (bx_call (bx_drew (bx_refl _)) b))
      have R1 := hid r
      clear r b hH
      (try go_wp2_with fail)
      refine hK.out _ _ ?_ (fun hH => ?_)
      · exact q0_1
      clear hK K
      (try simp only [Act.put, gy0, gy1, gy2])
      refine wpAnyH_ready (rs := [6]) (by kernel_rfl) (by simp) ?_
      refine rdy (fun K hK => ?_) ?_
      go_simp
      refine (AX1.out _ PR1.out.1).mono ?_
      rintro e w2 ⟨gy, Ay, ny, cy, Dy, my, dy, rfl, r, b⟩
      have y0_2 := cell_bx y0_1 b
      have y1_2 := cell_bx y1_1 b
      have y2_2 := cell_bx y2_1 b
      have q0_2 := cell_bx q0_1 b
      have PR2 := hid (PR1.out.keep b)
      have FS2 := hid (FS1.out.keep b)
      have KS2 := hid (KS1.out.keep b)
      have R1b := hid (R1.out.keep b)
      have R2 := hid r
      clear r b hH
      (try go_wp2_with fail)
      refine hK.out _ _ ?_ (fun hH => ?_)
      · exact q0_2
      clear hK K
      (try simp only [Act.put, gy0, gy1, gy2])
      refine wpAnyH_ready (rs := [7]) (by kernel_rfl) (by simp) ?_
      refine rdy (fun K hK => ?_) ?_
      go_simp
      refine (VM.out _ gx Ax nx cx Dx mx dx R1b.out gy Ay ny cy Dy my dy R2.out).mono ?_
      rintro e w3 ⟨Av, nv, cv, Dv, mv, dv, rfl, r, b⟩
      have y0_3 := cell_bx y0_2 b
      have y1_3 := cell_bx y1_2 b
      have y2_3 := cell_bx y2_2 b
      have q0_3 := cell_bx q0_2 b
      have PR3 := hid (PR2.out.keep b)
      have FS3 := hid (FS2.out.keep b)
      have KS3 := hid (KS2.out.keep b)
      have R3 := hid r
      clear r b hH
      (try go_wp2_with fail)
      refine hK.out _ _ ?_ (fun hH => ?_)
      · exact q0_3
      clear hK K
      (try simp only [Act.put, gy0, gy1, gy2])
      refine wpAnyH_ready (rs := [8]) (by kernel_rfl) (by simp) ?_
      refine rdy (fun K hK => ?_) ?_
      go_simp
      refine (AD.out _ FS3.out Av nv cv Dv mv dv R3.out).mono ?_
      rintro e w4 ⟨Ac, nc, cc9, Dc, mc, dc, rfl, r, b⟩
      have y0_4 := cell_bx y0_3 b
      have y1_4 := cell_bx y1_3 b
      have y2_4 := cell_bx y2_3 b
      have q0_4 := cell_bx q0_3 b
      have PR4 := hid (PR3.out.keep b)
      have FS4 := hid (FS3.out.keep b)
      have KS4 := hid (KS3.out.keep b)
      have NN := hid (PR4.out.next r.v)
      have f0 := Blk.free KS4.out 0
      have f1 := Blk.free KS4.out 1
      have f2 := Blk.free KS4.out 2
      clear r b hH
      (try go_wp2_with fail)
      refine hK.out _ _ ?_ (fun hH => ?_)
      · exact q0_4
      clear hK K
      (try simp only [Act.put, gy0, gy1, gy2])
      refine wpAnyH_ready (rs := [9]) (by kernel_rfl) (by simp) ?_
      refine rdy (fun K hK => ?_) ?_
      go_simp
      clear hH
      refine hK.out _ _ ?_ (fun hH => ?_)
      · exact cell_fr (cell_fr (cell_fr q0_4 hcb) hcb) hcb
      clear hK K
      (try simp only [Act.put, gy0, gy1, gy2])
      refine wpAnyH_done (by kernel_rfl) ?_ _
      refine NoPanic.normal ?_
      clear hH
      rotate_left
      exact AllReadyH.nil
      exact AllReadyH.nil
      exact AllReadyH.nil
      exact AllReadyH.nil
      exact AllReadyH.nil
      refine rdy (fun K hK => ?_) ?_
      go_simp
      refine (AT1.out _ (bx_call BB0.out (bx_drew (bx_refl _)))).mono ?_
      rintro e w1 ⟨gx, Ax, nx, cx, Dx, mx, dx, rfl, r, b⟩
      have y0_1 := cell_bx (cell_dr y0) b
      have y1_1 := cell_bx (cell_dr y1) b
      have y2_1 := cell_bx (cell_dr y2) b
      have q0_1 := cell_bx (cell_dr q0) b
      have PR1 := hid (PR0.out.keep (bx_call (bx_drew (bx_refl _)) b))
      have FS1 := hid (FS0.out.keep (bx_call (bx_drew (bx_refl _)) b))
      have KS1 := hid (KS0.out.keep (bx_call (bx_drew (bx_refl _)) b))
      have R1 := hid r
      clear r b hH
      (try go_wp2_with fail)
      refine hK.out _ _ ?_ (fun hH => ?_)
      · exact q0_1
      clear hK K
      (try simp only [Act.put, gy0, gy1, gy2])
      refine wpAnyH_ready (rs := [0, 6]) (by kernel_rfl) (by simp) ?_
      refine rdy (fun K hK => ?_) ?_
      go_simp
      refine hK.out _ _ hH (fun hH2 => ?_)
      clear hK K hH
      have hH := hH2
      clear hH2
      (try simp only [Act.put, gy0, gy1, gy2])
      refine wpAnyH_ready (rs := [6]) (by kernel_rfl) (by simp) ?_
      refine rdy (fun K hK => ?_) ?_
      go_simp
      refine (AX1.out _ PR1.out.1).mono ?_
      rintro e w2 ⟨gy, Ay, ny, cy, Dy, my, dy, rfl, r, b⟩
      have y0_2 := cell_bx y0_1 b
      have y1_2 := cell_bx y1_1 b
      have y2_2 := cell_bx y2_1 b
      have q0_2 := cell_bx q0_1 b
      have PR2 := hid (PR1.out.keep b)
      have FS2 := hid (FS1.out.keep b)
      have KS2 := hid (KS1.out.keep b)
      have R1b := hid (R1.out.keep b)
      have R2 := hid r
      clear r b hH
      (try go_wp2_with fail)
      refine hK.out _ _ ?_ (fun hH => ?_)
      · exact q0_2
      clear hK K
      (try simp only [Act.put, gy0, gy1, gy2])
      refine wpAnyH_ready (rs := [7]) (by kernel_rfl) (by simp) ?_
      refine rdy (fun K hK => ?_) ?_
      go_simp
      refine (VM.out _ gx Ax nx cx Dx mx dx R1b.out gy Ay ny cy Dy my dy R2.out).mono ?_
      rintro e w3 ⟨Av, nv, cv, Dv, mv, dv, rfl, r, b⟩
      have y0_3 := cell_bx y0_2 b
      have y1_3 := cell_bx y1_2 b
      have y2_3 := cell_bx y2_2 b
      have q0_3 := cell_bx q0_2 b
      have PR3 := hid (PR2.out.keep b)
      have FS3 := hid (FS2.out.keep b)
      have KS3 := hid (KS2.out.keep b)
      have R3 := hid r
      clear r b hH
      (try go_wp2_with fail)
      refine hK.out _ _ ?_ (fun hH => ?_)
      · exact q0_3
      clear hK K
      (try simp only [Act.put, gy0, gy1, gy2])
      refine wpAnyH_ready (rs := [8]) (by kernel_rfl) (by simp) ?_
      refine rdy (fun K hK => ?_) ?_
      go_simp
      refine (AD.out _ FS3.out Av nv cv Dv mv dv R3.out).mono ?_
      rintro e w4 ⟨Ac, nc, cc9, Dc, mc, dc, rfl, r, b⟩
      have y0_4 := cell_bx y0_3 b
      have y1_4 := cell_bx y1_3 b
      have y2_4 := cell_bx y2_3 b
      have q0_4 := cell_bx q0_3 b
      have PR4 := hid (PR3.out.keep b)
      have FS4 := hid (FS3.out.keep b)
      have KS4 := hid (KS3.out.keep b)
      have NN := hid (PR4.out.next r.v)
      have f0 := Blk.free KS4.out 0
      have f1 := Blk.free KS4.out 1
      have f2 := Blk.free KS4.out 2
      clear r b hH
      (try go_wp2_with fail)
      refine hK.out _ _ ?_ (fun hH => ?_)
      · exact q0_4
      clear hK K
      (try simp only [Act.put, gy0, gy1, gy2])
      refine wpAnyH_ready (rs := [9]) (by kernel_rfl) (by simp) ?_
      refine rdy (fun K hK => ?_) ?_
      go_simp
      clear hH
      refine hK.out _ _ ?_ (fun hH => ?_)
      · exact cell_fr (cell_fr (cell_fr q0_4 hcb) hcb) hcb
      clear hK K
      (try simp only [Act.put, gy0, gy1, gy2])
      refine wpAnyH_done (by kernel_rfl) ?_ _
      refine NoPanic.normal ?_
      clear hH
      rotate_left
      exact AllReadyH.nil
      exact AllReadyH.nil
      exact AllReadyH.nil
      exact AllReadyH.nil
      refine rdy (fun K hK => ?_) ?_
      go_simp
      refine (AX1.out _ PR1.out.1).mono ?_
      rintro e w2 ⟨gy, Ay, ny, cy, Dy, my, dy, rfl, r, b⟩
      have y0_2 := cell_bx y0_1 b
      have y1_2 := cell_bx y1_1 b
      have y2_2 := cell_bx y2_1 b
      have q0_2 := cell_bx q0_1 b
      have PR2 := hid (PR1.out.keep b)
      have FS2 := hid (FS1.out.keep b)
      have KS2 := hid (KS1.out.keep b)
      have R1b := hid (R1.out.keep b)
      have R2 := hid r
      clear r b hH
      (try go_wp2_with fail)
      refine hK.out _ _ ?_ (fun hH => ?_)
      · exact q0_2
      clear hK K
      (try simp only [Act.put, gy0, gy1, gy2])
      refine wpAnyH_ready (rs := [0, 7]) (by kernel_rfl) (by simp) ?_
      refine rdy (fun K hK => ?_) ?_
      go_simp
      refine hK.out _ _ hH (fun hH2 => ?_)
      clear hK K hH
      have hH := hH2
      clear hH2
      (try simp only [Act.put, gy0, gy1, gy2])
      refine wpAnyH_ready (rs := [7]) (by kernel_rfl) (by simp) ?_
      refine rdy (fun K hK => ?_) ?_
      go_simp
      refine (VM.out _ gx Ax nx cx Dx mx dx R1b.out gy Ay ny cy Dy my dy R2.out).mono ?_
      rintro e w3 ⟨Av, nv, cv, Dv, mv, dv, rfl, r, b⟩
      have y0_3 := cell_bx y0_2 b
      have y1_3 := cell_bx y1_2 b
      have y2_3 := cell_bx y2_2 b
      have q0_3 := cell_bx q0_2 b
      have PR3 := hid (PR2.out.keep b)
      have FS3 := hid (FS2.out.keep b)
      have KS3 := hid (KS2.out.keep b)
      have R3 := hid r
      clear r b hH
      (try go_wp2_with fail)
      refine hK.out _ _ ?_ (fun hH => ?_)
      · exact q0_3
      clear hK K
      (try simp only [Act.put, gy0, gy1, gy2])
      refine wpAnyH_ready (rs := [8]) (by kernel_rfl) (by simp) ?_
      refine rdy (fun K hK => ?_) ?_
      go_simp
      refine (AD.out _ FS3.out Av nv cv Dv mv dv R3.out).mono ?_
      rintro e w4 ⟨Ac, nc, cc9, Dc, mc, dc, rfl, r, b⟩
      have y0_4 := cell_bx y0_3 b
      have y1_4 := cell_bx y1_3 b
      have y2_4 := cell_bx y2_3 b
      have q0_4 := cell_bx q0_3 b
      have PR4 := hid (PR3.out.keep b)
      have FS4 := hid (FS3.out.keep b)
      have KS4 := hid (KS3.out.keep b)
      have NN := hid (PR4.out.next r.v)
      have f0 := Blk.free KS4.out 0
      have f1 := Blk.free KS4.out 1
      have f2 := Blk.free KS4.out 2
      clear r b hH
      (try go_wp2_with fail)
      refine hK.out _ _ ?_ (fun hH => ?_)
      · exact q0_4
      clear hK K
      (try simp only [Act.put, gy0, gy1, gy2])
      refine wpAnyH_ready (rs := [9]) (by kernel_rfl) (by simp) ?_
      refine rdy (fun K hK => ?_) ?_
      go_simp
      clear hH
      refine hK.out _ _ ?_ (fun hH => ?_)
      · exact cell_fr (cell_fr (cell_fr q0_4 hcb) hcb) hcb
      clear hK K
      (try simp only [Act.put, gy0, gy1, gy2])
      refine wpAnyH_done (by kernel_rfl) ?_ _
      refine NoPanic.normal ?_
      clear hH
      rotate_left
      exact AllReadyH.nil
      exact AllReadyH.nil
      exact AllReadyH.nil
      refine rdy (fun K hK => ?_) ?_
      go_simp
      refine (VM.out _ gx Ax nx cx Dx mx dx R1b.out gy Ay ny cy Dy my dy R2.out).mono ?_
      rintro e w3 ⟨Av, nv, cv, Dv, mv, dv, rfl, r, b⟩
      have y0_3 := cell_bx y0_2 b
      have y1_3 := cell_bx y1_2 b
      have y2_3 := cell_bx y2_2 b
      have q0_3 := cell_bx q0_2 b
      have PR3 := hid (PR2.out.keep b)
      have FS3 := hid (FS2.out.keep b)
      have KS3 := hid (KS2.out.keep b)
      have R3 := hid r
      clear r b hH
      (try go_wp2_with fail)
      refine hK.out _ _ ?_ (fun hH => ?_)
      · exact q0_3
      clear hK K
      (try simp only [Act.put, gy0, gy1, gy2])
      refine wpAnyH_ready (rs := [0]) (by kernel_rfl) (by simp) ?_
      refine rdy (fun K hK => ?_) ?_
      go_simp
      refine hK.out _ _ hH (fun hH2 => ?_)
      clear hK K hH
      have hH := hH2
      clear hH2
      (try simp only [Act.put, gy0, gy1, gy2])
      refine wpAnyH_ready (rs := [8]) (by kernel_rfl) (by simp) ?_
      refine rdy (fun K hK => ?_) ?_
      go_simp
      refine (AD.out _ FS3.out Av nv cv Dv mv dv R3.out).mono ?_
      rintro e w4 ⟨Ac, nc, cc9, Dc, mc, dc, rfl, r, b⟩
      have y0_4 := cell_bx y0_3 b
      have y1_4 := cell_bx y1_3 b
      have y2_4 := cell_bx y2_3 b
      have q0_4 := cell_bx q0_3 b
      have PR4 := hid (PR3.out.keep b)
      have FS4 := hid (FS3.out.keep b)
      have KS4 := hid (KS3.out.keep b)
      have NN := hid (PR4.out.next r.v)
      have f0 := Blk.free KS4.out 0
      have f1 := Blk.free KS4.out 1
      have f2 := Blk.free KS4.out 2
      clear r b hH
      (try go_wp2_with fail)
      refine hK.out _ _ ?_ (fun hH => ?_)
      · exact q0_4
      clear hK K
      (try simp only [Act.put, gy0, gy1, gy2])
      refine wpAnyH_ready (rs := [9]) (by kernel_rfl) (by simp) ?_
      refine rdy (fun K hK => ?_) ?_
      go_simp
      clear hH
      refine hK.out _ _ ?_ (fun hH => ?_)
      · exact cell_fr (cell_fr (cell_fr q0_4 hcb) hcb) hcb
      clear hK K
      (try simp only [Act.put, gy0, gy1, gy2])
      refine wpAnyH_done (by kernel_rfl) ?_ _
      refine NoPanic.normal ?_
      clear hH
      rotate_left
      exact AllReadyH.nil
      exact AllReadyH.nil
      exact AllReadyH.nil
      exact AllReadyH.nil
      exact AllReadyH.nil
      exact AllReadyH.nil
      all_goals
        go_wp2_with fail
        go_roundw
        case rel => exact ⟨j + 1, by omega, by go_num, by rw [EQ.out]; exact NN⟩
        case measure => simp [intOf]; omega
    · obtain rfl : j = vn := by omega
      clear AT AX LC LX HF hge KK hf9 hK hK9
      have DD := hid (AccP.done hz.out.1 hz.out.2.1 FS)
      have f0 := Blk.free hz.out.2.1 0
      have f1 := Blk.free hz.out.2.1 1
      have f2 := Blk.free hz.out.2.1 2
      obtain ⟨e0, e1, e2⟩ := blk_three hz.out.2.1
      clear KS FS hz
      go_wp2_with fail
      exact bodyPost_ret (v := .agg #[.bool gs, .slice As ns cs9, .slice Ds ms ds]) (by simp [results, Tryz.results41, go_sem, e0, e1, e2]) rfl DD.out
end Go.Proofs.YtdbccidlnhjfhaaGreatDoor
