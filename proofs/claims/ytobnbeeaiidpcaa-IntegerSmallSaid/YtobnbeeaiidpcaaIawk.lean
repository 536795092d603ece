/- Contracts: awake of the laws of layer 2. -/
import Derived.Test.YtobnbeeaiidpcaaIaw1
import Derived.Test.YtobnbeeaiidpcaaInt11
import Derived.Deep.DeepCutAuto
import Derived.Laws.EntriesVeiled
namespace Go.Proofs.Ytobnbeeaiidpcaa
open Go.RowKit

theorem small_len {z : Int} (h : z.natAbs < 4294967296) : (dg z.natAbs).length ≤ 100 := Nat.le_trans (dg_len_le (k := 1) (by omega)) (by omega)

set_option maxHeartbeats 16000000 in
set_option maxRecDepth 100000 in
theorem iawake_any (w : World) : Calls Try.prog 17 #[] w (RetB w true) := by
  obtain ⟨xa, hxa⟩ : ∃ x : Int, x = (-7) := ⟨_, rfl⟩
  have Fa : Hid (∀ W : World, Calls Try.prog 25 #[.int .i64 (-7)] W (RetInt W xa)) := hid fun W => by rw [hxa]; exact rifrom_any (-7) W (by omega) (by omega)
  have La := hid (show (dg xa.natAbs).length ≤ 100 from small_len (by omega))
  obtain ⟨xb, hxb⟩ : ∃ x : Int, x = 2 := ⟨_, rfl⟩
  have Fb : Hid (∀ W : World, Calls Try.prog 25 #[.int .i64 2] W (RetInt W xb)) := hid fun W => by rw [hxb]; exact rifrom_any 2 W (by omega) (by omega)
  have Lb := hid (show (dg xb.natAbs).length ≤ 100 from small_len (by omega))
  obtain ⟨xc, hxc⟩ : ∃ x : Int, x = 7 := ⟨_, rfl⟩
  have Fc : Hid (∀ W : World, Calls Try.prog 25 #[.int .i64 7] W (RetInt W xc)) := hid fun W => by rw [hxc]; exact rifrom_any 7 W (by omega) (by omega)
  have Lc := hid (show (dg xc.natAbs).length ≤ 100 from small_len (by omega))
  obtain ⟨xd, hxd⟩ : ∃ x : Int, x = (-2) := ⟨_, rfl⟩
  have Fd : Hid (∀ W : World, Calls Try.prog 25 #[.int .i64 (-2)] W (RetInt W xd)) := hid fun W => by rw [hxd]; exact rifrom_any (-2) W (by omega) (by omega)
  have Ld := hid (show (dg xd.natAbs).length ≤ 100 from small_len (by omega))
  obtain ⟨z1, hz1⟩ : ∃ x : Int, x = (-3) := ⟨_, rfl⟩
  obtain ⟨z2, hz2⟩ : ∃ x : Int, x = (-1) := ⟨_, rfl⟩
  have D0 : Hid (∀ (W : World) A n c B m d, Rd W A n c (dg xa.natAbs) → Rd W B m d (dg xb.natAbs) → Calls Try.prog 40 #[.agg #[.bool (sg xa), .slice A n c], .agg #[.bool (sg xb), .slice B m d]] W (RetQR W z1 z2 0)) := hid fun W A n c B m d h k => by
    have t := iquo_any (sg xa) A n c _ (sg xb) B m d _ W h (by have := h.1; have := La.out; omega) k (by have := k.1; have := Lb.out; omega)
    rw [iv_sg, iv_sg, show qz xa xb = z1 from by subst hxa hxb hz1; rfl, show rz xa xb = z2 from by subst hxa hxb hz2; rfl, show ez xb = 0 from by subst hxb; rfl] at t
    exact t
  have Kz1 : Hid (∀ (W : World) A n c fb t, Rd W A n c (dg z1.natAbs) → Blk W fb [.func (.func 25) #[] #[]] t → Calls Try.prog 81 #[.agg #[.bool (sg z1), .slice A n c], .int .i64 (-3), .pointer (some ⟨fb, 0, none⟩)] W (RetB W true)) := hid fun W A n c fb t h k => by
    have t := iawk1_any z1 A n c fb t W h k (by omega) (by omega)
    rw [show (.int .i64 z1 : Value) = .int .i64 (-3) from by rw [hz1]] at t
    exact t
  have Kz2 : Hid (∀ (W : World) A n c fb t, Rd W A n c (dg z2.natAbs) → Blk W fb [.func (.func 25) #[] #[]] t → Calls Try.prog 81 #[.agg #[.bool (sg z2), .slice A n c], .int .i64 (-1), .pointer (some ⟨fb, 0, none⟩)] W (RetB W true)) := hid fun W A n c fb t h k => by
    have t := iawk1_any z2 A n c fb t W h k (by omega) (by omega)
    rw [show (.int .i64 z2 : Value) = .int .i64 (-1) from by rw [hz2]] at t
    exact t
  obtain ⟨z3, hz3⟩ : ∃ x : Int, x = (-4) := ⟨_, rfl⟩
  obtain ⟨z4, hz4⟩ : ∃ x : Int, x = 1 := ⟨_, rfl⟩
  have D1 : Hid (∀ (W : World) A n c B m d, Rd W A n c (dg xa.natAbs) → Rd W B m d (dg xb.natAbs) → Calls Try.prog 41 #[.agg #[.bool (sg xa), .slice A n c], .agg #[.bool (sg xb), .slice B m d]] W (RetQR W z3 z4 0)) := hid fun W A n c B m d h k => by
    have t := ifloor_any (sg xa) A n c _ (sg xb) B m d _ W h (by have := h.1; have := La.out; omega) k (by have := k.1; have := Lb.out; omega)
    rw [iv_sg, iv_sg, show fqz xa xb = z3 from by subst hxa hxb hz3; rfl, show frz xa xb = z4 from by subst hxa hxb hz4; rfl, show ez xb = 0 from by subst hxb; rfl] at t
    exact t
  have Kz3 : Hid (∀ (W : World) A n c fb t, Rd W A n c (dg z3.natAbs) → Blk W fb [.func (.func 25) #[] #[]] t → Calls Try.prog 81 #[.agg #[.bool (sg z3), .slice A n c], .int .i64 (-4), .pointer (some ⟨fb, 0, none⟩)] W (RetB W true)) := hid fun W A n c fb t h k => by
    have t := iawk1_any z3 A n c fb t W h k (by omega) (by omega)
    rw [show (.int .i64 z3 : Value) = .int .i64 (-4) from by rw [hz3]] at t
    exact t
  have Kz4 : Hid (∀ (W : World) A n c fb t, Rd W A n c (dg z4.natAbs) → Blk W fb [.func (.func 25) #[] #[]] t → Calls Try.prog 81 #[.agg #[.bool (sg z4), .slice A n c], .int .i64 1, .pointer (some ⟨fb, 0, none⟩)] W (RetB W true)) := hid fun W A n c fb t h k => by
    have t := iawk1_any z4 A n c fb t W h k (by omega) (by omega)
    rw [show (.int .i64 z4 : Value) = .int .i64 1 from by rw [hz4]] at t
    exact t
  obtain ⟨z5, hz5⟩ : ∃ x : Int, x = (-4) := ⟨_, rfl⟩
  obtain ⟨z6, hz6⟩ : ∃ x : Int, x = (-1) := ⟨_, rfl⟩
  have D2 : Hid (∀ (W : World) A n c B m d, Rd W A n c (dg xc.natAbs) → Rd W B m d (dg xd.natAbs) → Calls Try.prog 41 #[.agg #[.bool (sg xc), .slice A n c], .agg #[.bool (sg xd), .slice B m d]] W (RetQR W z5 z6 0)) := hid fun W A n c B m d h k => by
    have t := ifloor_any (sg xc) A n c _ (sg xd) B m d _ W h (by have := h.1; have := Lc.out; omega) k (by have := k.1; have := Ld.out; omega)
    rw [iv_sg, iv_sg, show fqz xc xd = z5 from by subst hxc hxd hz5; rfl, show frz xc xd = z6 from by subst hxc hxd hz6; rfl, show ez xd = 0 from by subst hxd; rfl] at t
    exact t
  have Kz5 : Hid (∀ (W : World) A n c fb t, Rd W A n c (dg z5.natAbs) → Blk W fb [.func (.func 25) #[] #[]] t → Calls Try.prog 81 #[.agg #[.bool (sg z5), .slice A n c], .int .i64 (-4), .pointer (some ⟨fb, 0, none⟩)] W (RetB W true)) := hid fun W A n c fb t h k => by
    have t := iawk1_any z5 A n c fb t W h k (by omega) (by omega)
    rw [show (.int .i64 z5 : Value) = .int .i64 (-4) from by rw [hz5]] at t
    exact t
  have Kz6 : Hid (∀ (W : World) A n c fb t, Rd W A n c (dg z6.natAbs) → Blk W fb [.func (.func 25) #[] #[]] t → Calls Try.prog 81 #[.agg #[.bool (sg z6), .slice A n c], .int .i64 (-1), .pointer (some ⟨fb, 0, none⟩)] W (RetB W true)) := hid fun W A n c fb t h k => by
    have t := iawk1_any z6 A n c fb t W h k (by omega) (by omega)
    rw [show (.int .i64 z6 : Value) = .int .i64 (-1) from by rw [hz6]] at t
    exact t
  clear hxa La hxb Lb hxc Lc hxd Ld hz1 hz2 hz3 hz4 hz5 hz6
  have N0 := hid (Blk.new w [.func (.func 25) #[] #[]] 30)
  have G0 := hid (bx_alloc (bx_refl w) (.cells #[.func (.func 25) #[] #[]] 30))
  go_enter Try.func17, Try.ntmps17
  go_upto_region 2 with fail
  obtain ⟨w1, hw1⟩ : ∃ W, W = w.alloc (.cells #[.func (.func 25) #[] #[]] 30) := ⟨_, rfl⟩
  rw [← hw1] at N0 G0 ⊢
  clear hw1
  have hS0 := hid (Blk.cell N0.out 0)
  have nw := hid (show w.heap.size < w1.heap.size from N0.out.lt)
  go_cut [2, 3, 4] (fun s2 s3 s4 wx => ∃ (p q : Nat) (A3 : Option Addr) (n3 c3 : Nat) (A4 : Option Addr) (n4 c4 : Nat), s2 = .pointer (some ⟨p, 0, none⟩) ∧ s3 = .pointer (some ⟨q, 0, none⟩) ∧ s4 = .int .i64 0 ∧ Hid (Two z1 z2 p q A3 n3 c3 A4 n4 c4 wx ∧ Below w1.heap.size w1 wx))
  case first =>
   refine wp_region_noPanic ?_
   refine wp_region_held_drew (S := (fun W => W.cell? ⟨w.heap.size, 0, none⟩ = some (.func (.func 25) #[] #[]))) (by kernel_rfl) ?_ (fun hH => ?_)
   exact hS0.out
   refine wpAnyH_take (i := 0) (v := ?_) (by simp only [gx0, gx2]; rfl) (by kernel_rfl) (by kernel_rfl) (by kernel_rfl) (fun _ _ _ h => h) (.inl ⟨by rfl, ?_⟩) hH ?_
   rotate_left
   · intro w hSw; (try dsimp only at hSw); first | (go_simp; done) | (go_simp; with_reducible rfl)
   (try simp only [Act.put, gy0, gy1, gy2])
   refine wpAnyH_take (i := 2) (v := ?_) (by simp only [gx0, gx1, gx2]; rfl) (by kernel_rfl) (by kernel_rfl) (by kernel_rfl) (fun _ _ _ h => h) (.inl ⟨by rfl, ?_⟩) hH ?_
   rotate_left
   · intro w hSw; (try dsimp only at hSw); first | (go_simp; done) | (go_simp; with_reducible rfl)
   (try simp only [Act.put, gy0, gy1, gy2])
   have bd := bx_drew (bx_refl w1)
   obtain ⟨W0, hW0⟩ : ∃ W, W = w1.drew := ⟨_, rfl⟩
   rw [← hW0] at bd hH ⊢
   clear hW0
   have BW_0 := hid bd
   clear bd
   refine wpAnyH_ready (rs := [1, 9, 10]) (by kernel_rfl) (by simp) ?_
   refine AllReadyH.cons (by simp only [gx0, gx1, gx2]; rfl) (fun K hK => ?_) ?_
   go_simp
   refine (Fa.out _).mono ?_
   rintro e W1 ⟨A1, n1, c1, rfl, r1, b⟩
   have RA := hid r1
   clear r1
   have BW_1 := hid (bx_call BW_0.out b)
   clear BW_0
   have H2 := cell_bx hH b
   clear hH b
   (try go_wp2_with fail)
   refine hK.out _ _ ?_ (fun hH => ?_)
   exact H2
   clear hK K H2
   (try simp only [Act.put, gy0, gy1, gy2])
   refine wpAnyH_ready (rs := [3, 9, 10]) (by kernel_rfl) (by simp) ?_
   refine AllReadyH.cons (by simp only [gx0, gx1, gx2]; rfl) (fun K hK => ?_) ?_
   go_simp
   refine (Fb.out _).mono ?_
   rintro e W2 ⟨A2, n2, c2, rfl, r2, b⟩
   have RB := hid r2
   clear r2
   have RA_2 := hid (RA.out.keep b)
   have BW_2 := hid (bx_call BW_1.out b)
   clear RA BW_1
   have H2 := cell_bx hH b
   clear hH b
   (try go_wp2_with fail)
   refine hK.out _ _ ?_ (fun hH => ?_)
   exact H2
   clear hK K H2
   (try simp only [Act.put, gy0, gy1, gy2])
   refine wpAnyH_ready (rs := [4, 9, 10]) (by kernel_rfl) (by simp) ?_
   refine AllReadyH.cons (by simp only [gx0, gx1, gx2]; rfl) (fun K hK => ?_) ?_
   go_simp
   refine (D0.out _ A1 n1 c1 A2 n2 c2 RA_2.out RB.out).mono ?_
   rintro e W3 ⟨AP, nP, cP, AQ, nQ, cQ, rfl, r3, r4, b⟩
   have RP := hid r3
   have RQ := hid r4
   clear r3 r4
   have RA_3 := hid (RA_2.out.keep b)
   have RB_3 := hid (RB.out.keep b)
   have BW_3 := hid (bx_call BW_2.out b)
   clear RA_2 RB BW_2
   have H2 := cell_bx hH b
   clear hH b
   (try go_wp2_with fail)
   refine hK.out _ _ ?_ (fun hH => ?_)
   exact H2
   clear hK K H2
   (try simp only [Act.put, gy0, gy1, gy2])
   clear RA_3
   clear RB_3
   refine wpAnyH_take (i := 5) (v := ?_) (by simp only [gx0, gx1, gx2]; rfl) (by kernel_rfl) (by kernel_rfl) (by kernel_rfl) (fun _ _ _ h => h) (.inl ⟨by rfl, ?_⟩) hH ?_
   rotate_left
   · intro w hSw; (try dsimp only at hSw); first | (go_simp; done) | (go_simp; with_reducible rfl)
   (try simp only [Act.put, gy0, gy1, gy2])
   refine wpAnyH_take (i := 6) (v := ?_) (by simp only [gx0, gx1, gx2]; rfl) (by kernel_rfl) (by kernel_rfl) (by kernel_rfl) (fun _ _ _ h => h) (.inl ⟨by rfl, ?_⟩) hH ?_
   rotate_left
   · intro w hSw; (try dsimp only at hSw); first | (go_simp; done) | (go_simp; with_reducible rfl)
   (try simp only [Act.put, gy0, gy1, gy2])
   refine wpAnyH_take (i := 7) (v := ?_) (by simp only [gx0, gx1, gx2]; rfl) (by kernel_rfl) (by kernel_rfl) (by kernel_rfl) (fun _ _ _ h => h) (.inl ⟨by rfl, ?_⟩) hH ?_
   rotate_left
   · intro w hSw; (try dsimp only at hSw); first | (go_simp; done) | (go_simp; with_reducible rfl)
   (try simp only [Act.put, gy0, gy1, gy2])
   refine wpAnyH_take (i := 8) (v := ?_) (by simp only [gx0, gx1, gx2]; rfl) (by kernel_rfl) (by kernel_rfl) (by kernel_rfl) (fun _ _ _ h => h) (.inl ⟨by rfl, ?_⟩) hH ?_
   rotate_left
   · intro w hSw; (try dsimp only at hSw); first | (go_simp; done) | (go_simp; with_reducible rfl)
   (try simp only [Act.put, gy0, gy1, gy2])
   refine wpAnyH_ready (rs := [9, 10]) (by kernel_rfl) (by simp) ?_
   refine AllReadyH.cons (by simp only [gx0, gx1, gx2]; rfl) (fun K hK => ?_) ?_
   go_simp
   obtain ⟨W4, p, hW, hp, b, kk⟩ := mk_int W3
   have gp : w1.heap.size ≤ p := by rw [hp]; exact BW_3.out.size
   rw [← hW, ← hp]
   clear hW hp
   have Kp := hid kk
   clear kk
   have RP_4 := hid (RP.out.keep b)
   have RQ_4 := hid (RQ.out.keep b)
   have BW_4 := hid (bx_call BW_3.out b)
   clear RP RQ BW_3
   have H2 := cell_bx hH b
   clear hH b
   refine hK.out _ _ ?_ (fun hH => ?_)
   exact H2
   clear hK K H2
   (try simp only [Act.put, gy0, gy1, gy2])
   refine wpAnyH_ready (rs := [10]) (by kernel_rfl) (by simp) ?_
   refine AllReadyH.cons (by simp only [gx0, gx1, gx2]; rfl) (fun K hK => ?_) ?_
   go_simp
   obtain ⟨W5, q, hW, hp, b, kk⟩ := mk_int W4
   have gq : w1.heap.size ≤ q := by rw [hp]; exact BW_4.out.size
   have ne : p ≠ q := by rw [hp]; exact Nat.ne_of_lt Kp.out.lt
   rw [← hW, ← hp]
   clear hW hp
   have Kq := hid kk
   clear kk
   have RP_5 := hid (RP_4.out.keep b)
   have RQ_5 := hid (RQ_4.out.keep b)
   have Kp_5 := hid (Kp.out.keep b)
   have BW_5 := hid (bx_call BW_4.out b)
   clear RP_4 RQ_4 Kp BW_4
   have H2 := cell_bx hH b
   clear hH b
   refine hK.out _ _ ?_ (fun hH => ?_)
   exact H2
   clear hK K H2
   (try simp only [Act.put, gy0, gy1, gy2])
   have TM := hid (two_made (z1 := z1) (z2 := z2) BW_5.out gp gq ne rfl rfl Kp_5.out Kq.out RP_5.out RQ_5.out)
   obtain ⟨⟨a1, a2, a3, a4⟩, ⟨d1, d2, d3, d4⟩, ne2, O⟩ := tail_facts Kp_5.out Kq.out ne gp gq nw.out
   refine wpAnyH_ready (rs := [11]) (by kernel_rfl) (by simp) ?_
   refine AllReadyH.cons (by simp only [gx0, gx1, gx2]; rfl) (fun K hK => ?_) AllReadyH.nil
   go_simp
   refine hK.out _ _ (cell_fr (cell_fr hH O.out.1) O.out.1) (fun hH2 => ?_)
   clear hK K hH
   (try simp only [Act.put, gy0, gy1, gy2])
   refine wpAnyH_ready (rs := [12]) (by kernel_rfl) (by simp) ?_
   refine AllReadyH.cons (by simp only [gx0, gx1, gx2]; rfl) (fun K hK => ?_) AllReadyH.nil
   go_simp
   refine hK.out _ _ (cell_fr (cell_fr hH2 O.out.2) O.out.2) (fun hH => ?_)
   clear hK K hH2 a1 a2 a3 a4 d1 d2 d3 d4
   (try simp only [Act.put, gy0, gy1, gy2])
   refine wpAnyH_ready (rs := [13]) (by kernel_rfl) (by simp) ?_
   refine AllReadyH.cons (by simp only [gx0, gx1, gx2]; rfl) (fun K hK => ?_) AllReadyH.nil
   go_simp
   refine hK.out _ _ hH (fun hH2 => ?_)
   clear hK K hH
   (try simp only [Act.put, gy0, gy1, gy2])
   refine wpAnyH_done (by kernel_rfl) ?_ _
   refine NoPanic.normal ?_
   go_wp2_with fail
   go_meet
   exact ⟨p, q, AP, nP, cP, AQ, nQ, cQ, rfl, rfl, rfl, hid ⟨TM.out.1, TM.out.2⟩⟩
   exact AllReadyH.nil
   refine AllReadyH.cons (by simp only [gx0, gx1, gx2]; rfl) (fun K hK => ?_) ?_
   go_simp
   obtain ⟨W4, q, hW, hp, b, kk⟩ := mk_int W3
   have gq : w1.heap.size ≤ q := by rw [hp]; exact BW_3.out.size
   rw [← hW, ← hp]
   clear hW hp
   have Kq := hid kk
   clear kk
   have RP_4 := hid (RP.out.keep b)
   have RQ_4 := hid (RQ.out.keep b)
   have BW_4 := hid (bx_call BW_3.out b)
   clear RP RQ BW_3
   have H2 := cell_bx hH b
   clear hH b
   refine hK.out _ _ ?_ (fun hH => ?_)
   exact H2
   clear hK K H2
   (try simp only [Act.put, gy0, gy1, gy2])
   refine wpAnyH_ready (rs := [9]) (by kernel_rfl) (by simp) ?_
   refine AllReadyH.cons (by simp only [gx0, gx1, gx2]; rfl) (fun K hK => ?_) ?_
   go_simp
   obtain ⟨W5, p, hW, hp, b, kk⟩ := mk_int W4
   have gp : w1.heap.size ≤ p := by rw [hp]; exact BW_4.out.size
   have ne : p ≠ q := by rw [hp]; exact Nat.ne_of_gt Kq.out.lt
   rw [← hW, ← hp]
   clear hW hp
   have Kp := hid kk
   clear kk
   have RP_5 := hid (RP_4.out.keep b)
   have RQ_5 := hid (RQ_4.out.keep b)
   have Kq_5 := hid (Kq.out.keep b)
   have BW_5 := hid (bx_call BW_4.out b)
   clear RP_4 RQ_4 Kq BW_4
   have H2 := cell_bx hH b
   clear hH b
   refine hK.out _ _ ?_ (fun hH => ?_)
   exact H2
   clear hK K H2
   (try simp only [Act.put, gy0, gy1, gy2])
   have TM := hid (two_made (z1 := z1) (z2 := z2) BW_5.out gp gq ne rfl rfl Kp.out Kq_5.out RP_5.out RQ_5.out)
   obtain ⟨⟨a1, a2, a3, a4⟩, ⟨d1, d2, d3, d4⟩, ne2, O⟩ := tail_facts Kp.out Kq_5.out ne gp gq nw.out
   refine wpAnyH_ready (rs := [11]) (by kernel_rfl) (by simp) ?_
   refine AllReadyH.cons (by simp only [gx0, gx1, gx2]; rfl) (fun K hK => ?_) AllReadyH.nil
   go_simp
   refine hK.out _ _ (cell_fr (cell_fr hH O.out.1) O.out.1) (fun hH2 => ?_)
   clear hK K hH
   (try simp only [Act.put, gy0, gy1, gy2])
   refine wpAnyH_ready (rs := [12]) (by kernel_rfl) (by simp) ?_
   refine AllReadyH.cons (by simp only [gx0, gx1, gx2]; rfl) (fun K hK => ?_) AllReadyH.nil
   go_simp
   refine hK.out _ _ (cell_fr (cell_fr hH2 O.out.2) O.out.2) (fun hH => ?_)
   clear hK K hH2 a1 a2 a3 a4 d1 d2 d3 d4
   (try simp only [Act.put, gy0, gy1, gy2])
   refine wpAnyH_ready (rs := [13]) (by kernel_rfl) (by simp) ?_
   refine AllReadyH.cons (by simp only [gx0, gx1, gx2]; rfl) (fun K hK => ?_) AllReadyH.nil
   go_simp
   refine hK.out _ _ hH (fun hH2 => ?_)
   clear hK K hH
   (try simp only [Act.put, gy0, gy1, gy2])
   refine wpAnyH_done (by kernel_rfl) ?_ _
   refine NoPanic.normal ?_
   go_wp2_with fail
   go_meet
   exact ⟨p, q, AP, nP, cP, AQ, nQ, cQ, rfl, rfl, rfl, hid ⟨TM.out.1, TM.out.2⟩⟩
   exact AllReadyH.nil
   exact AllReadyH.nil
   refine AllReadyH.cons (by simp only [gx0, gx1, gx2]; rfl) (fun K hK => ?_) ?_
   go_simp
   obtain ⟨W3, p, hW, hp, b, kk⟩ := mk_int W2
   have gp : w1.heap.size ≤ p := by rw [hp]; exact BW_2.out.size
   rw [← hW, ← hp]
   clear hW hp
   have Kp := hid kk
   clear kk
   have RA_3 := hid (RA_2.out.keep b)
   have RB_3 := hid (RB.out.keep b)
   have BW_3 := hid (bx_call BW_2.out b)
   clear RA_2 RB BW_2
   have H2 := cell_bx hH b
   clear hH b
   refine hK.out _ _ ?_ (fun hH => ?_)
   exact H2
   clear hK K H2
   (try simp only [Act.put, gy0, gy1, gy2])
   refine wpAnyH_ready (rs := [4, 10]) (by kernel_rfl) (by simp) ?_
   refine AllReadyH.cons (by simp only [gx0, gx1, gx2]; rfl) (fun K hK => ?_) ?_
   go_simp
   refine (D0.out _ A1 n1 c1 A2 n2 c2 RA_3.out RB_3.out).mono ?_
   rintro e W4 ⟨AP, nP, cP, AQ, nQ, cQ, rfl, r3, r4, b⟩
   have RP := hid r3
   have RQ := hid r4
   clear r3 r4
   have RA_4 := hid (RA_3.out.keep b)
   have RB_4 := hid (RB_3.out.keep b)
   have Kp_4 := hid (Kp.out.keep b)
   have BW_4 := hid (bx_call BW_3.out b)
   clear RA_3 RB_3 Kp BW_3
   have H2 := cell_bx hH b
   clear hH b
   (try go_wp2_with fail)
   refine hK.out _ _ ?_ (fun hH => ?_)
   exact H2
   clear hK K H2
   (try simp only [Act.put, gy0, gy1, gy2])
   clear RA_4
   clear RB_4
   refine wpAnyH_take (i := 5) (v := ?_) (by simp only [gx0, gx1, gx2]; rfl) (by kernel_rfl) (by kernel_rfl) (by kernel_rfl) (fun _ _ _ h => h) (.inl ⟨by rfl, ?_⟩) hH ?_
   rotate_left
   · intro w hSw; (try dsimp only at hSw); first | (go_simp; done) | (go_simp; with_reducible rfl)
   (try simp only [Act.put, gy0, gy1, gy2])
   refine wpAnyH_take (i := 6) (v := ?_) (by simp only [gx0, gx1, gx2]; rfl) (by kernel_rfl) (by kernel_rfl) (by kernel_rfl) (fun _ _ _ h => h) (.inl ⟨by rfl, ?_⟩) hH ?_
   rotate_left
   · intro w hSw; (try dsimp only at hSw); first | (go_simp; done) | (go_simp; with_reducible rfl)
   (try simp only [Act.put, gy0, gy1, gy2])
   refine wpAnyH_take (i := 7) (v := ?_) (by simp only [gx0, gx1, gx2]; rfl) (by kernel_rfl) (by kernel_rfl) (by kernel_rfl) (fun _ _ _ h => h) (.inl ⟨by rfl, ?_⟩) hH ?_
   rotate_left
   · intro w hSw; (try dsimp only at hSw); first | (go_simp; done) | (go_simp; with_reducible rfl)
   (try simp only [Act.put, gy0, gy1, gy2])
   refine wpAnyH_take (i := 8) (v := ?_) (by simp only [gx0, gx1, gx2]; rfl) (by kernel_rfl) (by kernel_rfl) (by kernel_rfl) (fun _ _ _ h => h) (.inl ⟨by rfl, ?_⟩) hH ?_
   rotate_left
   · intro w hSw; (try dsimp only at hSw); first | (go_simp; done) | (go_simp; with_reducible rfl)
   (try simp only [Act.put, gy0, gy1, gy2])
   refine wpAnyH_ready (rs := [10]) (by kernel_rfl) (by simp) ?_
   refine AllReadyH.cons (by simp only [gx0, gx1, gx2]; rfl) (fun K hK => ?_) ?_
   go_simp
   obtain ⟨W5, q, hW, hp, b, kk⟩ := mk_int W4
   have gq : w1.heap.size ≤ q := by rw [hp]; exact BW_4.out.size
   have ne : p ≠ q := by rw [hp]; exact Nat.ne_of_lt Kp_4.out.lt
   rw [← hW, ← hp]
   clear hW hp
   have Kq := hid kk
   clear kk
   have Kp_5 := hid (Kp_4.out.keep b)
   have RP_5 := hid (RP.out.keep b)
   have RQ_5 := hid (RQ.out.keep b)
   have BW_5 := hid (bx_call BW_4.out b)
   clear Kp_4 RP RQ BW_4
   have H2 := cell_bx hH b
   clear hH b
   refine hK.out _ _ ?_ (fun hH => ?_)
   exact H2
   clear hK K H2
   (try simp only [Act.put, gy0, gy1, gy2])
   have TM := hid (two_made (z1 := z1) (z2 := z2) BW_5.out gp gq ne rfl rfl Kp_5.out Kq.out RP_5.out RQ_5.out)
   obtain ⟨⟨a1, a2, a3, a4⟩, ⟨d1, d2, d3, d4⟩, ne2, O⟩ := tail_facts Kp_5.out Kq.out ne gp gq nw.out
   refine wpAnyH_ready (rs := [11]) (by kernel_rfl) (by simp) ?_
   refine AllReadyH.cons (by simp only [gx0, gx1, gx2]; rfl) (fun K hK => ?_) AllReadyH.nil
   go_simp
   refine hK.out _ _ (cell_fr (cell_fr hH O.out.1) O.out.1) (fun hH2 => ?_)
   clear hK K hH
   (try simp only [Act.put, gy0, gy1, gy2])
   refine wpAnyH_ready (rs := [12]) (by kernel_rfl) (by simp) ?_
   refine AllReadyH.cons (by simp only [gx0, gx1, gx2]; rfl) (fun K hK => ?_) AllReadyH.nil
   go_simp
   refine hK.out _ _ (cell_fr (cell_fr hH2 O.out.2) O.out.2) (fun hH => ?_)
   clear hK K hH2 a1 a2 a3 a4 d1 d2 d3 d4
   (try simp only [Act.put, gy0, gy1, gy2])
   refine wpAnyH_ready (rs := [13]) (by kernel_rfl) (by simp) ?_
   refine AllReadyH.cons (by simp only [gx0, gx1, gx2]; rfl) (fun K hK => ?_) AllReadyH.nil
   go_simp
   refine hK.out _ _ hH (fun hH2 => ?_)
   clear hK K hH
   (try simp only [Act.put, gy0, gy1, gy2])
   refine wpAnyH_done (by kernel_rfl) ?_ _
   refine NoPanic.normal ?_
   go_wp2_with fail
   go_meet
   exact ⟨p, q, AP, nP, cP, AQ, nQ, cQ, rfl, rfl, rfl, hid ⟨TM.out.1, TM.out.2⟩⟩
   exact AllReadyH.nil
   refine AllReadyH.cons (by simp only [gx0, gx1, gx2]; rfl) (fun K hK => ?_) ?_
   go_simp
   obtain ⟨W4, q, hW, hp, b, kk⟩ := mk_int W3
   have gq : w1.heap.size ≤ q := by rw [hp]; exact BW_3.out.size
   have ne : p ≠ q := by rw [hp]; exact Nat.ne_of_lt Kp.out.lt
   rw [← hW, ← hp]
   clear hW hp
   have Kq := hid kk
   clear kk
   have RA_4 := hid (RA_3.out.keep b)
   have RB_4 := hid (RB_3.out.keep b)
   have Kp_4 := hid (Kp.out.keep b)
   have BW_4 := hid (bx_call BW_3.out b)
   clear RA_3 RB_3 Kp BW_3
   have H2 := cell_bx hH b
   clear hH b
   refine hK.out _ _ ?_ (fun hH => ?_)
   exact H2
   clear hK K H2
   (try simp only [Act.put, gy0, gy1, gy2])
   refine wpAnyH_ready (rs := [4]) (by kernel_rfl) (by simp) ?_
   refine AllReadyH.cons (by simp only [gx0, gx1, gx2]; rfl) (fun K hK => ?_) ?_
   go_simp
   refine (D0.out _ A1 n1 c1 A2 n2 c2 RA_4.out RB_4.out).mono ?_
   rintro e W5 ⟨AP, nP, cP, AQ, nQ, cQ, rfl, r3, r4, b⟩
   have RP := hid r3
   have RQ := hid r4
   clear r3 r4
   have RA_5 := hid (RA_4.out.keep b)
   have RB_5 := hid (RB_4.out.keep b)
   have Kp_5 := hid (Kp_4.out.keep b)
   have Kq_5 := hid (Kq.out.keep b)
   have BW_5 := hid (bx_call BW_4.out b)
   clear RA_4 RB_4 Kp_4 Kq BW_4
   have H2 := cell_bx hH b
   clear hH b
   (try go_wp2_with fail)
   refine hK.out _ _ ?_ (fun hH => ?_)
   exact H2
   clear hK K H2
   (try simp only [Act.put, gy0, gy1, gy2])
   clear RA_5
   clear RB_5
   refine wpAnyH_take (i := 5) (v := ?_) (by simp only [gx0, gx1, gx2]; rfl) (by kernel_rfl) (by kernel_rfl) (by kernel_rfl) (fun _ _ _ h => h) (.inl ⟨by rfl, ?_⟩) hH ?_
   rotate_left
   · intro w hSw; (try dsimp only at hSw); first | (go_simp; done) | (go_simp; with_reducible rfl)
   (try simp only [Act.put, gy0, gy1, gy2])
   refine wpAnyH_take (i := 6) (v := ?_) (by simp only [gx0, gx1, gx2]; rfl) (by kernel_rfl) (by kernel_rfl) (by kernel_rfl) (fun _ _ _ h => h) (.inl ⟨by rfl, ?_⟩) hH ?_
   rotate_left
   · intro w hSw; (try dsimp only at hSw); first | (go_simp; done) | (go_simp; with_reducible rfl)
   (try simp only [Act.put, gy0, gy1, gy2])
   refine wpAnyH_take (i := 7) (v := ?_) (by simp only [gx0, gx1, gx2]; rfl) (by kernel_rfl) (by kernel_rfl) (by kernel_rfl) (fun _ _ _ h => h) (.inl ⟨by rfl, ?_⟩) hH ?_
   rotate_left
   · intro w hSw; (try dsimp only at hSw); first | (go_simp; done) | (go_simp; with_reducible rfl)
   (try simp only [Act.put, gy0, gy1, gy2])
   refine wpAnyH_take (i := 8) (v := ?_) (by simp only [gx0, gx1, gx2]; rfl) (by kernel_rfl) (by kernel_rfl) (by kernel_rfl) (fun _ _ _ h => h) (.inl ⟨by rfl, ?_⟩) hH ?_
   rotate_left
   · intro w hSw; (try dsimp only at hSw); first | (go_simp; done) | (go_simp; with_reducible rfl)
   (try simp only [Act.put, gy0, gy1, gy2])
   have TM := hid (two_made (z1 := z1) (z2 := z2) BW_5.out gp gq ne rfl rfl Kp_5.out Kq_5.out RP.out RQ.out)
   obtain ⟨⟨a1, a2, a3, a4⟩, ⟨d1, d2, d3, d4⟩, ne2, O⟩ := tail_facts Kp_5.out Kq_5.out ne gp gq nw.out
   refine wpAnyH_ready (rs := [11]) (by kernel_rfl) (by simp) ?_
   refine AllReadyH.cons (by simp only [gx0, gx1, gx2]; rfl) (fun K hK => ?_) AllReadyH.nil
   go_simp
   refine hK.out _ _ (cell_fr (cell_fr hH O.out.1) O.out.1) (fun hH2 => ?_)
   clear hK K hH
   (try simp only [Act.put, gy0, gy1, gy2])
   refine wpAnyH_ready (rs := [12]) (by kernel_rfl) (by simp) ?_
   refine AllReadyH.cons (by simp only [gx0, gx1, gx2]; rfl) (fun K hK => ?_) AllReadyH.nil
   go_simp
   refine hK.out _ _ (cell_fr (cell_fr hH2 O.out.2) O.out.2) (fun hH => ?_)
   clear hK K hH2 a1 a2 a3 a4 d1 d2 d3 d4
   (try simp only [Act.put, gy0, gy1, gy2])
   refine wpAnyH_ready (rs := [13]) (by kernel_rfl) (by simp) ?_
   refine AllReadyH.cons (by simp only [gx0, gx1, gx2]; rfl) (fun K hK => ?_) AllReadyH.nil
   go_simp
   refine hK.out _ _ hH (fun hH2 => ?_)
   clear hK K hH
   (try simp only [Act.put, gy0, gy1, gy2])
   refine wpAnyH_done (by kernel_rfl) ?_ _
   refine NoPanic.normal ?_
   go_wp2_with fail
   go_meet
   exact ⟨p, q, AP, nP, cP, AQ, nQ, cQ, rfl, rfl, rfl, hid ⟨TM.out.1, TM.out.2⟩⟩
   exact AllReadyH.nil
   exact AllReadyH.nil
   refine AllReadyH.cons (by simp only [gx0, gx1, gx2]; rfl) (fun K hK => ?_) ?_
   go_simp
   obtain ⟨W3, q, hW, hp, b, kk⟩ := mk_int W2
   have gq : w1.heap.size ≤ q := by rw [hp]; exact BW_2.out.size
   rw [← hW, ← hp]
   clear hW hp
   have Kq := hid kk
   clear kk
   have RA_3 := hid (RA_2.out.keep b)
   have RB_3 := hid (RB.out.keep b)
   have BW_3 := hid (bx_call BW_2.out b)
   clear RA_2 RB BW_2
   have H2 := cell_bx hH b
   clear hH b
   refine hK.out _ _ ?_ (fun hH => ?_)
   exact H2
   clear hK K H2
   (try simp only [Act.put, gy0, gy1, gy2])
   refine wpAnyH_ready (rs := [4, 9]) (by kernel_rfl) (by simp) ?_
   refine AllReadyH.cons (by simp only [gx0, gx1, gx2]; rfl) (fun K hK => ?_) ?_
   go_simp
   refine (D0.out _ A1 n1 c1 A2 n2 c2 RA_3.out RB_3.out).mono ?_
   rintro e W4 ⟨AP, nP, cP, AQ, nQ, cQ, rfl, r3, r4, b⟩
   have RP := hid r3
   have RQ := hid r4
   clear r3 r4
   have RA_4 := hid (RA_3.out.keep b)
   have RB_4 := hid (RB_3.out.keep b)
   have Kq_4 := hid (Kq.out.keep b)
   have BW_4 := hid (bx_call BW_3.out b)
   clear RA_3 RB_3 Kq BW_3
   have H2 := cell_bx hH b
   clear hH b
   (try go_wp2_with fail)
   refine hK.out _ _ ?_ (fun hH => ?_)
   exact H2
   clear hK K H2
   (try simp only [Act.put, gy0, gy1, gy2])
   clear RA_4
   clear RB_4
   refine wpAnyH_take (i := 5) (v := ?_) (by simp only [gx0, gx1, gx2]; rfl) (by kernel_rfl) (by kernel_rfl) (by kernel_rfl) (fun _ _ _ h => h) (.inl ⟨by rfl, ?_⟩) hH ?_
   rotate_left
   · intro w hSw; (try dsimp only at hSw); first | (go_simp; done) | (go_simp; with_reducible rfl)
   (try simp only [Act.put, gy0, gy1, gy2])
   refine wpAnyH_take (i := 6) (v := ?_) (by simp only [gx0, gx1, gx2]; rfl) (by kernel_rfl) (by kernel_rfl) (by kernel_rfl) (fun _ _ _ h => h) (.inl ⟨by rfl, ?_⟩) hH ?_
   rotate_left
   · intro w hSw; (try dsimp only at hSw); first | (go_simp; done) | (go_simp; with_reducible rfl)
   (try simp only [Act.put, gy0, gy1, gy2])
   refine wpAnyH_take (i := 7) (v := ?_) (by simp only [gx0, gx1, gx2]; rfl) (by kernel_rfl) (by kernel_rfl) (by kernel_rfl) (fun _ _ _ h => h) (.inl ⟨by rfl, ?_⟩) hH ?_
   rotate_left
   · intro w hSw; (try dsimp only at hSw); first | (go_simp; done) | (go_simp; with_reducible rfl)
   (try simp only [Act.put, gy0, gy1, gy2])
   refine wpAnyH_take (i := 8) (v := ?_) (by simp only [gx0, gx1, gx2]; rfl) (by kernel_rfl) (by kernel_rfl) (by kernel_rfl) (fun _ _ _ h => h) (.inl ⟨by rfl, ?_⟩) hH ?_
   rotate_left
   · intro w hSw; (try dsimp only at hSw); first | (go_simp; done) | (go_simp; with_reducible rfl)
   (try simp only [Act.put, gy0, gy1, gy2])
   refine wpAnyH_ready (rs := [9]) (by kernel_rfl) (by simp) ?_
   refine AllReadyH.cons (by simp only [gx0, gx1, gx2]; rfl) (fun K hK => ?_) ?_
   go_simp
   obtain ⟨W5, p, hW, hp, b, kk⟩ := mk_int W4
   have gp : w1.heap.size ≤ p := by rw [hp]; exact BW_4.out.size
   have ne : p ≠ q := by rw [hp]; exact Nat.ne_of_gt Kq_4.out.lt
   rw [← hW, ← hp]
   clear hW hp
   have Kp := hid kk
   clear kk
   have Kq_5 := hid (Kq_4.out.keep b)
   have RP_5 := hid (RP.out.keep b)
   have RQ_5 := hid (RQ.out.keep b)
   have BW_5 := hid (bx_call BW_4.out b)
   clear Kq_4 RP RQ BW_4
   have H2 := cell_bx hH b
   clear hH b
   refine hK.out _ _ ?_ (fun hH => ?_)
   exact H2
   clear hK K H2
   (try simp only [Act.put, gy0, gy1, gy2])
   have TM := hid (two_made (z1 := z1) (z2 := z2) BW_5.out gp gq ne rfl rfl Kp.out Kq_5.out RP_5.out RQ_5.out)
   obtain ⟨⟨a1, a2, a3, a4⟩, ⟨d1, d2, d3, d4⟩, ne2, O⟩ := tail_facts Kp.out Kq_5.out ne gp gq nw.out
   refine wpAnyH_ready (rs := [11]) (by kernel_rfl) (by simp) ?_
   refine AllReadyH.cons (by simp only [gx0, gx1, gx2]; rfl) (fun K hK => ?_) AllReadyH.nil
   go_simp
   refine hK.out _ _ (cell_fr (cell_fr hH O.out.1) O.out.1) (fun hH2 => ?_)
   clear hK K hH
   (try simp only [Act.put, gy0, gy1, gy2])
   refine wpAnyH_ready (rs := [12]) (by kernel_rfl) (by simp) ?_
   refine AllReadyH.cons (by simp only [gx0, gx1, gx2]; rfl) (fun K hK => ?_) AllReadyH.nil
   go_simp
   refine hK.out _ _ (cell_fr (cell_fr hH2 O.out.2) O.out.2) (fun hH => ?_)
   clear hK K hH2 a1 a2 a3 a4 d1 d2 d3 d4
   (try simp only [Act.put, gy0, gy1, gy2])
   refine wpAnyH_ready (rs := [13]) (by kernel_rfl) (by simp) ?_
   refine AllReadyH.cons (by simp only [gx0, gx1, gx2]; rfl) (fun K hK => ?_) AllReadyH.nil
   go_simp
   refine hK.out _ _ hH (fun hH2 => ?_)
   clear hK K hH
   (try simp only [Act.put, gy0, gy1, gy2])
   refine wpAnyH_done (by kernel_rfl) ?_ _
   refine NoPanic.normal ?_
   go_wp2_with fail
   go_meet
   exact ⟨p, q, AP, nP, cP, AQ, nQ, cQ, rfl, rfl, rfl, hid ⟨TM.out.1, TM.out.2⟩⟩
   exact AllReadyH.nil
   refine AllReadyH.cons (by simp only [gx0, gx1, gx2]; rfl) (fun K hK => ?_) ?_
   go_simp
   obtain ⟨W4, p, hW, hp, b, kk⟩ := mk_int W3
   have gp : w1.heap.size ≤ p := by rw [hp]; exact BW_3.out.size
   have ne : p ≠ q := by rw [hp]; exact Nat.ne_of_gt Kq.out.lt
   rw [← hW, ← hp]
   clear hW hp
   have Kp := hid kk
   clear kk
   have RA_4 := hid (RA_3.out.keep b)
   have RB_4 := hid (RB_3.out.keep b)
   have Kq_4 := hid (Kq.out.keep b)
   have BW_4 := hid (bx_call BW_3.out b)
   clear RA_3 RB_3 Kq BW_3
   have H2 := cell_bx hH b
   clear hH b
   refine hK.out _ _ ?_ (fun hH => ?_)
   exact H2
   clear hK K H2
   (try simp only [Act.put, gy0, gy1, gy2])
   refine wpAnyH_ready (rs := [4]) (by kernel_rfl) (by simp) ?_
   refine AllReadyH.cons (by simp only [gx0, gx1, gx2]; rfl) (fun K hK => ?_) ?_
   go_simp
   refine (D0.out _ A1 n1 c1 A2 n2 c2 RA_4.out RB_4.out).mono ?_
   rintro e W5 ⟨AP, nP, cP, AQ, nQ, cQ, rfl, r3, r4, b⟩
   have RP := hid r3
   have RQ := hid r4
   clear r3 r4
   have RA_5 := hid (RA_4.out.keep b)
   have RB_5 := hid (RB_4.out.keep b)
   have Kq_5 := hid (Kq_4.out.keep b)
   have Kp_5 := hid (Kp.out.keep b)
   have BW_5 := hid (bx_call BW_4.out b)
   clear RA_4 RB_4 Kq_4 Kp BW_4
   have H2 := cell_bx hH b
   clear hH b
   (try go_wp2_with fail)
   refine hK.out _ _ ?_ (fun hH => ?_)
   exact H2
   clear hK K H2
   (try simp only [Act.put, gy0, gy1, gy2])
   clear RA_5
   clear RB_5
   refine wpAnyH_take (i := 5) (v := ?_) (by simp only [gx0, gx1, gx2]; rfl) (by kernel_rfl) (by kernel_rfl) (by kernel_rfl) (fun _ _ _ h => h) (.inl ⟨by rfl, ?_⟩) hH ?_
   rotate_left
   · intro w hSw; (try dsimp only at hSw); first | (go_simp; done) | (go_simp; with_reducible rfl)
   (try simp only [Act.put, gy0, gy1, gy2])
   refine wpAnyH_take (i := 6) (v := ?_) (by simp only [gx0, gx1, gx2]; rfl) (by kernel_rfl) (by kernel_rfl) (by kernel_rfl) (fun _ _ _ h => h) (.inl ⟨by rfl, ?_⟩) hH ?_
   rotate_left
   · intro w hSw; (try dsimp only at hSw); first | (go_simp; done) | (go_simp; with_reducible rfl)
   (try simp only [Act.put, gy0, gy1, gy2])
   refine wpAnyH_take (i := 7) (v := ?_) (by simp only [gx0, gx1, gx2]; rfl) (by kernel_rfl) (by kernel_rfl) (by kernel_rfl) (fun _ _ _ h => h) (.inl ⟨by rfl, ?_⟩) hH ?_
   rotate_left
   · intro w hSw; (try dsimp only at hSw); first | (go_simp; done) | (go_simp; with_reducible rfl)
   (try simp only [Act.put, gy0, gy1, gy2])
   refine wpAnyH_take (i := 8) (v := ?_) (by simp only [gx0, gx1, gx2]; rfl) (by kernel_rfl) (by kernel_rfl) (by kernel_rfl) (fun _ _ _ h => h) (.inl ⟨by rfl, ?_⟩) hH ?_
   rotate_left
   · intro w hSw; (try dsimp only at hSw); first | (go_simp; done) | (go_simp; with_reducible rfl)
   (try simp only [Act.put, gy0, gy1, gy2])
   have TM := hid (two_made (z1 := z1) (z2 := z2) BW_5.out gp gq ne rfl rfl Kp_5.out Kq_5.out RP.out RQ.out)
   obtain ⟨⟨a1, a2, a3, a4⟩, ⟨d1, d2, d3, d4⟩, ne2, O⟩ := tail_facts Kp_5.out Kq_5.out ne gp gq nw.out
   refine wpAnyH_ready (rs := [11]) (by kernel_rfl) (by simp) ?_
   refine AllReadyH.cons (by simp only [gx0, gx1, gx2]; rfl) (fun K hK => ?_) AllReadyH.nil
   go_simp
   refine hK.out _ _ (cell_fr (cell_fr hH O.out.1) O.out.1) (fun hH2 => ?_)
   clear hK K hH
   (try simp only [Act.put, gy0, gy1, gy2])
   refine wpAnyH_ready (rs := [12]) (by kernel_rfl) (by simp) ?_
   refine AllReadyH.cons (by simp only [gx0, gx1, gx2]; rfl) (fun K hK => ?_) AllReadyH.nil
   go_simp
   refine hK.out _ _ (cell_fr (cell_fr hH2 O.out.2) O.out.2) (fun hH => ?_)
   clear hK K hH2 a1 a2 a3 a4 d1 d2 d3 d4
   (try simp only [Act.put, gy0, gy1, gy2])
   refine wpAnyH_ready (rs := [13]) (by kernel_rfl) (by simp) ?_
   refine AllReadyH.cons (by simp only [gx0, gx1, gx2]; rfl) (fun K hK => ?_) AllReadyH.nil
   go_simp
   refine hK.out _ _ hH (fun hH2 => ?_)
   clear hK K hH
   (try simp only [Act.put, gy0, gy1, gy2])
   refine wpAnyH_done (by kernel_rfl) ?_ _
   refine NoPanic.normal ?_
   go_wp2_with fail
   go_meet
   exact ⟨p, q, AP, nP, cP, AQ, nQ, cQ, rfl, rfl, rfl, hid ⟨TM.out.1, TM.out.2⟩⟩
   exact AllReadyH.nil
   exact AllReadyH.nil
   exact AllReadyH.nil
   refine AllReadyH.cons (by simp only [gx0, gx1, gx2]; rfl) (fun K hK => ?_) ?_
   go_simp
   obtain ⟨W2, p, hW, hp, b, kk⟩ := mk_int W1
   have gp : w1.heap.size ≤ p := by rw [hp]; exact BW_1.out.size
   rw [← hW, ← hp]
   clear hW hp
   have Kp := hid kk
   clear kk
   have RA_2 := hid (RA.out.keep b)
   have BW_2 := hid (bx_call BW_1.out b)
   clear RA BW_1
   have H2 := cell_bx hH b
   clear hH b
   refine hK.out _ _ ?_ (fun hH => ?_)
   exact H2
   clear hK K H2
   (try simp only [Act.put, gy0, gy1, gy2])
   refine wpAnyH_ready (rs := [3, 10]) (by kernel_rfl) (by simp) ?_
   refine AllReadyH.cons (by simp only [gx0, gx1, gx2]; rfl) (fun K hK => ?_) ?_
   go_simp
   refine (Fb.out _).mono ?_
   rintro e W3 ⟨A2, n2, c2, rfl, r2, b⟩
   have RB := hid r2
   clear r2
   have RA_3 := hid (RA_2.out.keep b)
   have Kp_3 := hid (Kp.out.keep b)
   have BW_3 := hid (bx_call BW_2.out b)
   clear RA_2 Kp BW_2
   have H2 := cell_bx hH b
   clear hH b
   (try go_wp2_with fail)
   refine hK.out _ _ ?_ (fun hH => ?_)
   exact H2
   clear hK K H2
   (try simp only [Act.put, gy0, gy1, gy2])
   refine wpAnyH_ready (rs := [4, 10]) (by kernel_rfl) (by simp) ?_
   refine AllReadyH.cons (by simp only [gx0, gx1, gx2]; rfl) (fun K hK => ?_) ?_
   go_simp
   refine (D0.out _ A1 n1 c1 A2 n2 c2 RA_3.out RB.out).mono ?_
   rintro e W4 ⟨AP, nP, cP, AQ, nQ, cQ, rfl, r3, r4, b⟩
   have RP := hid r3
   have RQ := hid r4
   clear r3 r4
   have RA_4 := hid (RA_3.out.keep b)
   have Kp_4 := hid (Kp_3.out.keep b)
   have RB_4 := hid (RB.out.keep b)
   have BW_4 := hid (bx_call BW_3.out b)
   clear RA_3 Kp_3 RB BW_3
   have H2 := cell_bx hH b
   clear hH b
   (try go_wp2_with fail)
   refine hK.out _ _ ?_ (fun hH => ?_)
   exact H2
   clear hK K H2
   (try simp only [Act.put, gy0, gy1, gy2])
   clear RA_4
   clear RB_4
   refine wpAnyH_take (i := 5) (v := ?_) (by simp only [gx0, gx1, gx2]; rfl) (by kernel_rfl) (by kernel_rfl) (by kernel_rfl) (fun _ _ _ h => h) (.inl ⟨by rfl, ?_⟩) hH ?_
   rotate_left
   · intro w hSw; (try dsimp only at hSw); first | (go_simp; done) | (go_simp; with_reducible rfl)
   (try simp only [Act.put, gy0, gy1, gy2])
   refine wpAnyH_take (i := 6) (v := ?_) (by simp only [gx0, gx1, gx2]; rfl) (by kernel_rfl) (by kernel_rfl) (by kernel_rfl) (fun _ _ _ h => h) (.inl ⟨by rfl, ?_⟩) hH ?_
   rotate_left
   · intro w hSw; (try dsimp only at hSw); first | (go_simp; done) | (go_simp; with_reducible rfl)
   (try simp only [Act.put, gy0, gy1, gy2])
   refine wpAnyH_take (i := 7) (v := ?_) (by simp only [gx0, gx1, gx2]; rfl) (by kernel_rfl) (by kernel_rfl) (by kernel_rfl) (fun _ _ _ h => h) (.inl ⟨by rfl, ?_⟩) hH ?_
   rotate_left
   · intro w hSw; (try dsimp only at hSw); first | (go_simp; done) | (go_simp; with_reducible rfl)
   (try simp only [Act.put, gy0, gy1, gy2])
   refine wpAnyH_take (i := 8) (v := ?_) (by simp only [gx0, gx1, gx2]; rfl) (by kernel_rfl) (by kernel_rfl) (by kernel_rfl) (fun _ _ _ h => h) (.inl ⟨by rfl, ?_⟩) hH ?_
   rotate_left
   · intro w hSw; (try dsimp only at hSw); first | (go_simp; done) | (go_simp; with_reducible rfl)
   (try simp only [Act.put, gy0, gy1, gy2])
   refine wpAnyH_ready (rs := [10]) (by kernel_rfl) (by simp) ?_
   refine AllReadyH.cons (by simp only [gx0, gx1, gx2]; rfl) (fun K hK => ?_) ?_
   go_simp
   obtain ⟨W5, q, hW, hp, b, kk⟩ := mk_int W4
   have gq : w1.heap.size ≤ q := by rw [hp]; exact BW_4.out.size
   have ne : p ≠ q := by rw [hp]; exact Nat.ne_of_lt Kp_4.out.lt
   rw [← hW, ← hp]
   clear hW hp
   have Kq := hid kk
   clear kk
   have Kp_5 := hid (Kp_4.out.keep b)
   have RP_5 := hid (RP.out.keep b)
   have RQ_5 := hid (RQ.out.keep b)
   have BW_5 := hid (bx_call BW_4.out b)
   clear Kp_4 RP RQ BW_4
   have H2 := cell_bx hH b
   clear hH b
   refine hK.out _ _ ?_ (fun hH => ?_)
   exact H2
   clear hK K H2
   (try simp only [Act.put, gy0, gy1, gy2])
   have TM := hid (two_made (z1 := z1) (z2 := z2) BW_5.out gp gq ne rfl rfl Kp_5.out Kq.out RP_5.out RQ_5.out)
   obtain ⟨⟨a1, a2, a3, a4⟩, ⟨d1, d2, d3, d4⟩, ne2, O⟩ := tail_facts Kp_5.out Kq.out ne gp gq nw.out
   refine wpAnyH_ready (rs := [11]) (by kernel_rfl) (by simp) ?_
   refine AllReadyH.cons (by simp only [gx0, gx1, gx2]; rfl) (fun K hK => ?_) AllReadyH.nil
   go_simp
   refine hK.out _ _ (cell_fr (cell_fr hH O.out.1) O.out.1) (fun hH2 => ?_)
   clear hK K hH
   (try simp only [Act.put, gy0, gy1, gy2])
   refine wpAnyH_ready (rs := [12]) (by kernel_rfl) (by simp) ?_
   refine AllReadyH.cons (by simp only [gx0, gx1, gx2]; rfl) (fun K hK => ?_) AllReadyH.nil
   go_simp
   refine hK.out _ _ (cell_fr (cell_fr hH2 O.out.2) O.out.2) (fun hH => ?_)
   clear hK K hH2 a1 a2 a3 a4 d1 d2 d3 d4
   (try simp only [Act.put, gy0, gy1, gy2])
   refine wpAnyH_ready (rs := [13]) (by kernel_rfl) (by simp) ?_
   refine AllReadyH.cons (by simp only [gx0, gx1, gx2]; rfl) (fun K hK => ?_) AllReadyH.nil
   go_simp
   refine hK.out _ _ hH (fun hH2 => ?_)
   clear hK K hH
   (try simp only [Act.put, gy0, gy1, gy2])
   refine wpAnyH_done (by kernel_rfl) ?_ _
   refine NoPanic.normal ?_
   go_wp2_with fail
   go_meet
   exact ⟨p, q, AP, nP, cP, AQ, nQ, cQ, rfl, rfl, rfl, hid ⟨TM.out.1, TM.out.2⟩⟩
   exact AllReadyH.nil
   refine AllReadyH.cons (by simp only [gx0, gx1, gx2]; rfl) (fun K hK => ?_) ?_
   go_simp
   obtain ⟨W4, q, hW, hp, b, kk⟩ := mk_int W3
   have gq : w1.heap.size ≤ q := by rw [hp]; exact BW_3.out.size
   have ne : p ≠ q := by rw [hp]; exact Nat.ne_of_lt Kp_3.out.lt
   rw [← hW, ← hp]
   clear hW hp
   have Kq := hid kk
   clear kk
   have RA_4 := hid (RA_3.out.keep b)
   have Kp_4 := hid (Kp_3.out.keep b)
   have RB_4 := hid (RB.out.keep b)
   have BW_4 := hid (bx_call BW_3.out b)
   clear RA_3 Kp_3 RB BW_3
   have H2 := cell_bx hH b
   clear hH b
   refine hK.out _ _ ?_ (fun hH => ?_)
   exact H2
   clear hK K H2
   (try simp only [Act.put, gy0, gy1, gy2])
   refine wpAnyH_ready (rs := [4]) (by kernel_rfl) (by simp) ?_
   refine AllReadyH.cons (by simp only [gx0, gx1, gx2]; rfl) (fun K hK => ?_) ?_
   go_simp
   refine (D0.out _ A1 n1 c1 A2 n2 c2 RA_4.out RB_4.out).mono ?_
   rintro e W5 ⟨AP, nP, cP, AQ, nQ, cQ, rfl, r3, r4, b⟩
   have RP := hid r3
   have RQ := hid r4
   clear r3 r4
   have RA_5 := hid (RA_4.out.keep b)
   have Kp_5 := hid (Kp_4.out.keep b)
   have RB_5 := hid (RB_4.out.keep b)
   have Kq_5 := hid (Kq.out.keep b)
   have BW_5 := hid (bx_call BW_4.out b)
   clear RA_4 Kp_4 RB_4 Kq BW_4
   have H2 := cell_bx hH b
   clear hH b
   (try go_wp2_with fail)
   refine hK.out _ _ ?_ (fun hH => ?_)
   exact H2
   clear hK K H2
   (try simp only [Act.put, gy0, gy1, gy2])
   clear RA_5
   clear RB_5
   refine wpAnyH_take (i := 5) (v := ?_) (by simp only [gx0, gx1, gx2]; rfl) (by kernel_rfl) (by kernel_rfl) (by kernel_rfl) (fun _ _ _ h => h) (.inl ⟨by rfl, ?_⟩) hH ?_
   rotate_left
   · intro w hSw; (try dsimp only at hSw); first | (go_simp; done) | (go_simp; with_reducible rfl)
   (try simp only [Act.put, gy0, gy1, gy2])
   refine wpAnyH_take (i := 6) (v := ?_) (by simp only [gx0, gx1, gx2]; rfl) (by kernel_rfl) (by kernel_rfl) (by kernel_rfl) (fun _ _ _ h => h) (.inl ⟨by rfl, ?_⟩) hH ?_
   rotate_left
   · intro w hSw; (try dsimp only at hSw); first | (go_simp; done) | (go_simp; with_reducible rfl)
   (try simp only [Act.put, gy0, gy1, gy2])
   refine wpAnyH_take (i := 7) (v := ?_) (by simp only [gx0, gx1, gx2]; rfl) (by kernel_rfl) (by kernel_rfl) (by kernel_rfl) (fun _ _ _ h => h) (.inl ⟨by rfl, ?_⟩) hH ?_
   rotate_left
   · intro w hSw; (try dsimp only at hSw); first | (go_simp; done) | (go_simp; with_reducible rfl)
   (try simp only [Act.put, gy0, gy1, gy2])
   refine wpAnyH_take (i := 8) (v := ?_) (by simp only [gx0, gx1, gx2]; rfl) (by kernel_rfl) (by kernel_rfl) (by kernel_rfl) (fun _ _ _ h => h) (.inl ⟨by rfl, ?_⟩) hH ?_
   rotate_left
   · intro w hSw; (try dsimp only at hSw); first | (go_simp; done) | (go_simp; with_reducible rfl)
   (try simp only [Act.put, gy0, gy1, gy2])
   have TM := hid (two_made (z1 := z1) (z2 := z2) BW_5.out gp gq ne rfl rfl Kp_5.out Kq_5.out RP.out RQ.out)
   obtain ⟨⟨a1, a2, a3, a4⟩, ⟨d1, d2, d3, d4⟩, ne2, O⟩ := tail_facts Kp_5.out Kq_5.out ne gp gq nw.out
   refine wpAnyH_ready (rs := [11]) (by kernel_rfl) (by simp) ?_
   refine AllReadyH.cons (by simp only [gx0, gx1, gx2]; rfl) (fun K hK => ?_) AllReadyH.nil
   go_simp
   refine hK.out _ _ (cell_fr (cell_fr hH O.out.1) O.out.1) (fun hH2 => ?_)
   clear hK K hH
   (try simp only [Act.put, gy0, gy1, gy2])
   refine wpAnyH_ready (rs := [12]) (by kernel_rfl) (by simp) ?_
   refine AllReadyH.cons (by simp only [gx0, gx1, gx2]; rfl) (fun K hK => ?_) AllReadyH.nil
   go_simp
   refine hK.out _ _ (cell_fr (cell_fr hH2 O.out.2) O.out.2) (fun hH => ?_)
   clear hK K hH2 a1 a2 a3 a4 d1 d2 d3 d4
   (try simp only [Act.put, gy0, gy1, gy2])
   refine wpAnyH_ready (rs := [13]) (by kernel_rfl) (by simp) ?_
   refine AllReadyH.cons (by simp only [gx0, gx1, gx2]; rfl) (fun K hK => ?_) AllReadyH.nil
   go_simp
   refine hK.out _ _ hH (fun hH2 => ?_)
   clear hK K hH
   (try simp only [Act.put, gy0, gy1, gy2])
   refine wpAnyH_done (by kernel_rfl) ?_ _
   refine NoPanic.normal ?_
   go_wp2_with fail
   go_meet
   exact ⟨p, q, AP, nP, cP, AQ, nQ, cQ, rfl, rfl, rfl, hid ⟨TM.out.1, TM.out.2⟩⟩
   exact AllReadyH.nil
   exact AllReadyH.nil
   refine AllReadyH.cons (by simp only [gx0, gx1, gx2]; rfl) (fun K hK => ?_) ?_
   go_simp
   obtain ⟨W3, q, hW, hp, b, kk⟩ := mk_int W2
   have gq : w1.heap.size ≤ q := by rw [hp]; exact BW_2.out.size
   have ne : p ≠ q := by rw [hp]; exact Nat.ne_of_lt Kp.out.lt
   rw [← hW, ← hp]
   clear hW hp
   have Kq := hid kk
   clear kk
   have RA_3 := hid (RA_2.out.keep b)
   have Kp_3 := hid (Kp.out.keep b)
   have BW_3 := hid (bx_call BW_2.out b)
   clear RA_2 Kp BW_2
   have H2 := cell_bx hH b
   clear hH b
   refine hK.out _ _ ?_ (fun hH => ?_)
   exact H2
   clear hK K H2
   (try simp only [Act.put, gy0, gy1, gy2])
   refine wpAnyH_ready (rs := [3]) (by kernel_rfl) (by simp) ?_
   refine AllReadyH.cons (by simp only [gx0, gx1, gx2]; rfl) (fun K hK => ?_) ?_
   go_simp
   refine (Fb.out _).mono ?_
   rintro e W4 ⟨A2, n2, c2, rfl, r2, b⟩
   have RB := hid r2
   clear r2
   have RA_4 := hid (RA_3.out.keep b)
   have Kp_4 := hid (Kp_3.out.keep b)
   have Kq_4 := hid (Kq.out.keep b)
   have BW_4 := hid (bx_call BW_3.out b)
   clear RA_3 Kp_3 Kq BW_3
   have H2 := cell_bx hH b
   clear hH b
   (try go_wp2_with fail)
   refine hK.out _ _ ?_ (fun hH => ?_)
   exact H2
   clear hK K H2
   (try simp only [Act.put, gy0, gy1, gy2])
   refine wpAnyH_ready (rs := [4]) (by kernel_rfl) (by simp) ?_
   refine AllReadyH.cons (by simp only [gx0, gx1, gx2]; rfl) (fun K hK => ?_) ?_
   go_simp
   refine (D0.out _ A1 n1 c1 A2 n2 c2 RA_4.out RB.out).mono ?_
   rintro e W5 ⟨AP, nP, cP, AQ, nQ, cQ, rfl, r3, r4, b⟩
   have RP := hid r3
   have RQ := hid r4
   clear r3 r4
   have RA_5 := hid (RA_4.out.keep b)
   have Kp_5 := hid (Kp_4.out.keep b)
   have Kq_5 := hid (Kq_4.out.keep b)
   have RB_5 := hid (RB.out.keep b)
   have BW_5 := hid (bx_call BW_4.out b)
   clear RA_4 Kp_4 Kq_4 RB BW_4
   have H2 := cell_bx hH b
   clear hH b
   (try go_wp2_with fail)
   refine hK.out _ _ ?_ (fun hH => ?_)
   exact H2
   clear hK K H2
   (try simp only [Act.put, gy0, gy1, gy2])
   clear RA_5
   clear RB_5
   refine wpAnyH_take (i := 5) (v := ?_) (by simp only [gx0, gx1, gx2]; rfl) (by kernel_rfl) (by kernel_rfl) (by kernel_rfl) (fun _ _ _ h => h) (.inl ⟨by rfl, ?_⟩) hH ?_
   rotate_left
   · intro w hSw; (try dsimp only at hSw); first | (go_simp; done) | (go_simp; with_reducible rfl)
   (try simp only [Act.put, gy0, gy1, gy2])
   refine wpAnyH_take (i := 6) (v := ?_) (by simp only [gx0, gx1, gx2]; rfl) (by kernel_rfl) (by kernel_rfl) (by kernel_rfl) (fun _ _ _ h => h) (.inl ⟨by rfl, ?_⟩) hH ?_
   rotate_left
   · intro w hSw; (try dsimp only at hSw); first | (go_simp; done) | (go_simp; with_reducible rfl)
   (try simp only [Act.put, gy0, gy1, gy2])
   refine wpAnyH_take (i := 7) (v := ?_) (by simp only [gx0, gx1, gx2]; rfl) (by kernel_rfl) (by kernel_rfl) (by kernel_rfl) (fun _ _ _ h => h) (.inl ⟨by rfl, ?_⟩) hH ?_
   rotate_left
   · intro w hSw; (try dsimp only at hSw); first | (go_simp; done) | (go_simp; with_reducible rfl)
   (try simp only [Act.put, gy0, gy1, gy2])
   refine wpAnyH_take (i := 8) (v := ?_) (by simp only [gx0, gx1, gx2]; rfl) (by kernel_rfl) (by kernel_rfl) (by kernel_rfl) (fun _ _ _ h => h) (.inl ⟨by rfl, ?_⟩) hH ?_
   rotate_left
   · intro w hSw; (try dsimp only at hSw); first | (go_simp; done) | (go_simp; with_reducible rfl)
   (try simp only [Act.put, gy0, gy1, gy2])
   have TM := hid (two_made (z1 := z1) (z2 := z2) BW_5.out gp gq ne rfl rfl Kp_5.out Kq_5.out RP.out RQ.out)
   obtain ⟨⟨a1, a2, a3, a4⟩, ⟨d1, d2, d3, d4⟩, ne2, O⟩ := tail_facts Kp_5.out Kq_5.out ne gp gq nw.out
   refine wpAnyH_ready (rs := [11]) (by kernel_rfl) (by simp) ?_
   refine AllReadyH.cons (by simp only [gx0, gx1, gx2]; rfl) (fun K hK => ?_) AllReadyH.nil
   go_simp
   refine hK.out _ _ (cell_fr (cell_fr hH O.out.1) O.out.1) (fun hH2 => ?_)
   clear hK K hH
   (try simp only [Act.put, gy0, gy1, gy2])
   refine wpAnyH_ready (rs := [12]) (by kernel_rfl) (by simp) ?_
   refine AllReadyH.cons (by simp only [gx0, gx1, gx2]; rfl) (fun K hK => ?_) AllReadyH.nil
   go_simp
   refine hK.out _ _ (cell_fr (cell_fr hH2 O.out.2) O.out.2) (fun hH => ?_)
   clear hK K hH2 a1 a2 a3 a4 d1 d2 d3 d4
   (try simp only [Act.put, gy0, gy1, gy2])
   refine wpAnyH_ready (rs := [13]) (by kernel_rfl) (by simp) ?_
   refine AllReadyH.cons (by simp only [gx0, gx1, gx2]; rfl) (fun K hK => ?_) AllReadyH.nil
   go_simp
   refine hK.out _ _ hH (fun hH2 => ?_)
   clear hK K hH
   (try simp only [Act.put, gy0, gy1, gy2])
   refine wpAnyH_done (by kernel_rfl) ?_ _
   refine NoPanic.normal ?_
   go_wp2_with fail
   go_meet
   exact ⟨p, q, AP, nP, cP, AQ, nQ, cQ, rfl, rfl, rfl, hid ⟨TM.out.1, TM.out.2⟩⟩
   exact AllReadyH.nil
   exact AllReadyH.nil
   exact AllReadyH.nil
   refine AllReadyH.cons (by simp only [gx0, gx1, gx2]; rfl) (fun K hK => ?_) ?_
   go_simp
   obtain ⟨W2, q, hW, hp, b, kk⟩ := mk_int W1
   have gq : w1.heap.size ≤ q := by rw [hp]; exact BW_1.out.size
   rw [← hW, ← hp]
   clear hW hp
   have Kq := hid kk
   clear kk
   have RA_2 := hid (RA.out.keep b)
   have BW_2 := hid (bx_call BW_1.out b)
   clear RA BW_1
   have H2 := cell_bx hH b
   clear hH b
   refine hK.out _ _ ?_ (fun hH => ?_)
   exact H2
   clear hK K H2
   (try simp only [Act.put, gy0, gy1, gy2])
   refine wpAnyH_ready (rs := [3, 9]) (by kernel_rfl) (by simp) ?_
   refine AllReadyH.cons (by simp only [gx0, gx1, gx2]; rfl) (fun K hK => ?_) ?_
   go_simp
   refine (Fb.out _).mono ?_
   rintro e W3 ⟨A2, n2, c2, rfl, r2, b⟩
   have RB := hid r2
   clear r2
   have RA_3 := hid (RA_2.out.keep b)
   have Kq_3 := hid (Kq.out.keep b)
   have BW_3 := hid (bx_call BW_2.out b)
   clear RA_2 Kq BW_2
   have H2 := cell_bx hH b
   clear hH b
   (try go_wp2_with fail)
   refine hK.out _ _ ?_ (fun hH => ?_)
   exact H2
   clear hK K H2
   (try simp only [Act.put, gy0, gy1, gy2])
   refine wpAnyH_ready (rs := [4, 9]) (by kernel_rfl) (by simp) ?_
   refine AllReadyH.cons (by simp only [gx0, gx1, gx2]; rfl) (fun K hK => ?_) ?_
   go_simp
   refine (D0.out _ A1 n1 c1 A2 n2 c2 RA_3.out RB.out).mono ?_
   rintro e W4 ⟨AP, nP, cP, AQ, nQ, cQ, rfl, r3, r4, b⟩
   have RP := hid r3
   have RQ := hid r4
   clear r3 r4
   have RA_4 := hid (RA_3.out.keep b)
   have Kq_4 := hid (Kq_3.out.keep b)
   have RB_4 := hid (RB.out.keep b)
   have BW_4 := hid (bx_call BW_3.out b)
   clear RA_3 Kq_3 RB BW_3
   have H2 := cell_bx hH b
   clear hH b
   (try go_wp2_with fail)
   refine hK.out _ _ ?_ (fun hH => ?_)
   exact H2
   clear hK K H2
   (try simp only [Act.put, gy0, gy1, gy2])
   clear RA_4
   clear RB_4
   refine wpAnyH_take (i := 5) (v := ?_) (by simp only [gx0, gx1, gx2]; rfl) (by kernel_rfl) (by kernel_rfl) (by kernel_rfl) (fun _ _ _ h => h) (.inl ⟨by rfl, ?_⟩) hH ?_
   rotate_left
   · intro w hSw; (try dsimp only at hSw); first | (go_simp; done) | (go_simp; with_reducible rfl)
   (try simp only [Act.put, gy0, gy1, gy2])
   refine wpAnyH_take (i := 6) (v := ?_) (by simp only [gx0, gx1, gx2]; rfl) (by kernel_rfl) (by kernel_rfl) (by kernel_rfl) (fun _ _ _ h => h) (.inl ⟨by rfl, ?_⟩) hH ?_
   rotate_left
   · intro w hSw; (try dsimp only at hSw); first | (go_simp; done) | (go_simp; with_reducible rfl)
   (try simp only [Act.put, gy0, gy1, gy2])
   refine wpAnyH_take (i := 7) (v := ?_) (by simp only [gx0, gx1, gx2]; rfl) (by kernel_rfl) (by kernel_rfl) (by kernel_rfl) (fun _ _ _ h => h) (.inl ⟨by rfl, ?_⟩) hH ?_
   rotate_left
   · intro w hSw; (try dsimp only at hSw); first | (go_simp; done) | (go_simp; with_reducible rfl)
   (try simp only [Act.put, gy0, gy1, gy2])
   refine wpAnyH_take (i := 8) (v := ?_) (by simp only [gx0, gx1, gx2]; rfl) (by kernel_rfl) (by kernel_rfl) (by kernel_rfl) (fun _ _ _ h => h) (.inl ⟨by rfl, ?_⟩) hH ?_
   rotate_left
   · intro w hSw; (try dsimp only at hSw); first | (go_simp; done) | (go_simp; with_reducible rfl)
   (try simp only [Act.put, gy0, gy1, gy2])
   refine wpAnyH_ready (rs := [9]) (by kernel_rfl) (by simp) ?_
   refine AllReadyH.cons (by simp only [gx0, gx1, gx2]; rfl) (fun K hK => ?_) ?_
   go_simp
   obtain ⟨W5, p, hW, hp, b, kk⟩ := mk_int W4
   have gp : w1.heap.size ≤ p := by rw [hp]; exact BW_4.out.size
   have ne : p ≠ q := by rw [hp]; exact Nat.ne_of_gt Kq_4.out.lt
   rw [← hW, ← hp]
   clear hW hp
   have Kp := hid kk
   clear kk
   have Kq_5 := hid (Kq_4.out.keep b)
   have RP_5 := hid (RP.out.keep b)
   have RQ_5 := hid (RQ.out.keep b)
   have BW_5 := hid (bx_call BW_4.out b)
   clear Kq_4 RP RQ BW_4
   have H2 := cell_bx hH b
   clear hH b
   refine hK.out _ _ ?_ (fun hH => ?_)
   exact H2
   clear hK K H2
   (try simp only [Act.put, gy0, gy1, gy2])
   have TM := hid (two_made (z1 := z1) (z2 := z2) BW_5.out gp gq ne rfl rfl Kp.out Kq_5.out RP_5.out RQ_5.out)
   obtain ⟨⟨a1, a2, a3, a4⟩, ⟨d1, d2, d3, d4⟩, ne2, O⟩ := tail_facts Kp.out Kq_5.out ne gp gq nw.out
   refine wpAnyH_ready (rs := [11]) (by kernel_rfl) (by simp) ?_
   refine AllReadyH.cons (by simp only [gx0, gx1, gx2]; rfl) (fun K hK => ?_) AllReadyH.nil
   go_simp
   refine hK.out _ _ (cell_fr (cell_fr hH O.out.1) O.out.1) (fun hH2 => ?_)
   clear hK K hH
   (try simp only [Act.put, gy0, gy1, gy2])
   refine wpAnyH_ready (rs := [12]) (by kernel_rfl) (by simp) ?_
   refine AllReadyH.cons (by simp only [gx0, gx1, gx2]; rfl) (fun K hK => ?_) AllReadyH.nil
   go_simp
   refine hK.out _ _ (cell_fr (cell_fr hH2 O.out.2) O.out.2) (fun hH => ?_)
   clear hK K hH2 a1 a2 a3 a4 d1 d2 d3 d4
   (try simp only [Act.put, gy0, gy1, gy2])
   refine wpAnyH_ready (rs := [13]) (by kernel_rfl) (by simp) ?_
   refine AllReadyH.cons (by simp only [gx0, gx1, gx2]; rfl) (fun K hK => ?_) AllReadyH.nil
   go_simp
   refine hK.out _ _ hH (fun hH2 => ?_)
   clear hK K hH
   (try simp only [Act.put, gy0, gy1, gy2])
   refine wpAnyH_done (by kernel_rfl) ?_ _
   refine NoPanic.normal ?_
   go_wp2_with fail
   go_meet
   exact ⟨p, q, AP, nP, cP, AQ, nQ, cQ, rfl, rfl, rfl, hid ⟨TM.out.1, TM.out.2⟩⟩
   exact AllReadyH.nil
   refine AllReadyH.cons (by simp only [gx0, gx1, gx2]; rfl) (fun K hK => ?_) ?_
   go_simp
   obtain ⟨W4, p, hW, hp, b, kk⟩ := mk_int W3
   have gp : w1.heap.size ≤ p := by rw [hp]; exact BW_3.out.size
   have ne : p ≠ q := by rw [hp]; exact Nat.ne_of_gt Kq_3.out.lt
   rw [← hW, ← hp]
   clear hW hp
   have Kp := hid kk
   clear kk
   have RA_4 := hid (RA_3.out.keep b)
   have Kq_4 := hid (Kq_3.out.keep b)
   have RB_4 := hid (RB.out.keep b)
   have BW_4 := hid (bx_call BW_3.out b)
   clear RA_3 Kq_3 RB BW_3
   have H2 := cell_bx hH b
   clear hH b
   refine hK.out _ _ ?_ (fun hH => ?_)
   exact H2
   clear hK K H2
   (try simp only [Act.put, gy0, gy1, gy2])
   refine wpAnyH_ready (rs := [4]) (by kernel_rfl) (by simp) ?_
   refine AllReadyH.cons (by simp only [gx0, gx1, gx2]; rfl) (fun K hK => ?_) ?_
   go_simp
   refine (D0.out _ A1 n1 c1 A2 n2 c2 RA_4.out RB_4.out).mono ?_
   rintro e W5 ⟨AP, nP, cP, AQ, nQ, cQ, rfl, r3, r4, b⟩
   have RP := hid r3
   have RQ := hid r4
   clear r3 r4
   have RA_5 := hid (RA_4.out.keep b)
   have Kq_5 := hid (Kq_4.out.keep b)
   have RB_5 := hid (RB_4.out.keep b)
   have Kp_5 := hid (Kp.out.keep b)
   have BW_5 := hid (bx_call BW_4.out b)
   clear RA_4 Kq_4 RB_4 Kp BW_4
   have H2 := cell_bx hH b
   clear hH b
   (try go_wp2_with fail)
   refine hK.out _ _ ?_ (fun hH => ?_)
   exact H2
   clear hK K H2
   (try simp only [Act.put, gy0, gy1, gy2])
   clear RA_5
   clear RB_5
   refine wpAnyH_take (i := 5) (v := ?_) (by simp only [gx0, gx1, gx2]; rfl) (by kernel_rfl) (by kernel_rfl) (by kernel_rfl) (fun _ _ _ h => h) (.inl ⟨by rfl, ?_⟩) hH ?_
   rotate_left
   · intro w hSw; (try dsimp only at hSw); first | (go_simp; done) | (go_simp; with_reducible rfl)
   (try simp only [Act.put, gy0, gy1, gy2])
   refine wpAnyH_take (i := 6) (v := ?_) (by simp only [gx0, gx1, gx2]; rfl) (by kernel_rfl) (by kernel_rfl) (by kernel_rfl) (fun _ _ _ h => h) (.inl ⟨by rfl, ?_⟩) hH ?_
   rotate_left
   · intro w hSw; (try dsimp only at hSw); first | (go_simp; done) | (go_simp; with_reducible rfl)
   (try simp only [Act.put, gy0, gy1, gy2])
   refine wpAnyH_take (i := 7) (v := ?_) (by simp only [gx0, gx1, gx2]; rfl) (by kernel_rfl) (by kernel_rfl) (by kernel_rfl) (fun _ _ _ h => h) (.inl ⟨by rfl, ?_⟩) hH ?_
   rotate_left
   · intro w hSw; (try dsimp only at hSw); first | (go_simp; done) | (go_simp; with_reducible rfl)
   (try simp only [Act.put, gy0, gy1, gy2])
   refine wpAnyH_take (i := 8) (v := ?_) (by simp only [gx0, gx1, gx2]; rfl) (by kernel_rfl) (by kernel_rfl) (by kernel_rfl) (fun _ _ _ h => h) (.inl ⟨by rfl, ?_⟩) hH ?_
   rotate_left
   · intro w hSw; (try dsimp only at hSw); first | (go_simp; done) | (go_simp; with_reducible rfl)
   (try simp only [Act.put, gy0, gy1, gy2])
   have TM := hid (two_made (z1 := z1) (z2 := z2) BW_5.out gp gq ne rfl rfl Kp_5.out Kq_5.out RP.out RQ.out)
   obtain ⟨⟨a1, a2, a3, a4⟩, ⟨d1, d2, d3, d4⟩, ne2, O⟩ := tail_facts Kp_5.out Kq_5.out ne gp gq nw.out
   refine wpAnyH_ready (rs := [11]) (by kernel_rfl) (by simp) ?_
   refine AllReadyH.cons (by simp only [gx0, gx1, gx2]; rfl) (fun K hK => ?_) AllReadyH.nil
   go_simp
   refine hK.out _ _ (cell_fr (cell_fr hH O.out.1) O.out.1) (fun hH2 => ?_)
   clear hK K hH
   (try simp only [Act.put, gy0, gy1, gy2])
   refine wpAnyH_ready (rs := [12]) (by kernel_rfl) (by simp) ?_
   refine AllReadyH.cons (by simp only [gx0, gx1, gx2]; rfl) (fun K hK => ?_) AllReadyH.nil
   go_simp
   refine hK.out _ _ (cell_fr (cell_fr hH2 O.out.2) O.out.2) (fun hH => ?_)
   clear hK K hH2 a1 a2 a3 a4 d1 d2 d3 d4
   (try simp only [Act.put, gy0, gy1, gy2])
   refine wpAnyH_ready (rs := [13]) (by kernel_rfl) (by simp) ?_
   refine AllReadyH.cons (by simp only [gx0, gx1, gx2]; rfl) (fun K hK => ?_) AllReadyH.nil
   go_simp
   refine hK.out _ _ hH (fun hH2 => ?_)
   clear hK K hH
   (try simp only [Act.put, gy0, gy1, gy2])
   refine wpAnyH_done (by kernel_rfl) ?_ _
   refine NoPanic.normal ?_
   go_wp2_with fail
   go_meet
   exact ⟨p, q, AP, nP, cP, AQ, nQ, cQ, rfl, rfl, rfl, hid ⟨TM.out.1, TM.out.2⟩⟩
   exact AllReadyH.nil
   exact AllReadyH.nil
   refine AllReadyH.cons (by simp only [gx0, gx1, gx2]; rfl) (fun K hK => ?_) ?_
   go_simp
   obtain ⟨W3, p, hW, hp, b, kk⟩ := mk_int W2
   have gp : w1.heap.size ≤ p := by rw [hp]; exact BW_2.out.size
   have ne : p ≠ q := by rw [hp]; exact Nat.ne_of_gt Kq.out.lt
   rw [← hW, ← hp]
   clear hW hp
   have Kp := hid kk
   clear kk
   have RA_3 := hid (RA_2.out.keep b)
   have Kq_3 := hid (Kq.out.keep b)
   have BW_3 := hid (bx_call BW_2.out b)
   clear RA_2 Kq BW_2
   have H2 := cell_bx hH b
   clear hH b
   refine hK.out _ _ ?_ (fun hH => ?_)
   exact H2
   clear hK K H2
   (try simp only [Act.put, gy0, gy1, gy2])
   refine wpAnyH_ready (rs := [3]) (by kernel_rfl) (by simp) ?_
   refine AllReadyH.cons (by simp only [gx0, gx1, gx2]; rfl) (fun K hK => ?_) ?_
   go_simp
   refine (Fb.out _).mono ?_
   rintro e W4 ⟨A2, n2, c2, rfl, r2, b⟩
   have RB := hid r2
   clear r2
   have RA_4 := hid (RA_3.out.keep b)
   have Kq_4 := hid (Kq_3.out.keep b)
   have Kp_4 := hid (Kp.out.keep b)
   have BW_4 := hid (bx_call BW_3.out b)
   clear RA_3 Kq_3 Kp BW_3
   have H2 := cell_bx hH b
   clear hH b
   (try go_wp2_with fail)
   refine hK.out _ _ ?_ (fun hH => ?_)
   exact H2
   clear hK K H2
   (try simp only [Act.put, gy0, gy1, gy2])
   refine wpAnyH_ready (rs := [4]) (by kernel_rfl) (by simp) ?_
   refine AllReadyH.cons (by simp only [gx0, gx1, gx2]; rfl) (fun K hK => ?_) ?_
   go_simp
   refine (D0.out _ A1 n1 c1 A2 n2 c2 RA_4.out RB.out).mono ?_
   rintro e W5 ⟨AP, nP, cP, AQ, nQ, cQ, rfl, r3, r4, b⟩
   have RP := hid r3
   have RQ := hid r4
   clear r3 r4
   have RA_5 := hid (RA_4.out.keep b)
   have Kq_5 := hid (Kq_4.out.keep b)
   have Kp_5 := hid (Kp_4.out.keep b)
   have RB_5 := hid (RB.out.keep b)
   have BW_5 := hid (bx_call BW_4.out b)
   clear RA_4 Kq_4 Kp_4 RB BW_4
   have H2 := cell_bx hH b
   clear hH b
   (try go_wp2_with fail)
   refine hK.out _ _ ?_ (fun hH => ?_)
   exact H2
   clear hK K H2
   (try simp only [Act.put, gy0, gy1, gy2])
   clear RA_5
   clear RB_5
   refine wpAnyH_take (i := 5) (v := ?_) (by simp only [gx0, gx1, gx2]; rfl) (by kernel_rfl) (by kernel_rfl) (by kernel_rfl) (fun _ _ _ h => h) (.inl ⟨by rfl, ?_⟩) hH ?_
   rotate_left
   · intro w hSw; (try dsimp only at hSw); first | (go_simp; done) | (go_simp; with_reducible rfl)
   (try simp only [Act.put, gy0, gy1, gy2])
   refine wpAnyH_take (i := 6) (v := ?_) (by simp only [gx0, gx1, gx2]; rfl) (by kernel_rfl) (by kernel_rfl) (by kernel_rfl) (fun _ _ _ h => h) (.inl ⟨by rfl, ?_⟩) hH ?_
   rotate_left
   · intro w hSw; (try dsimp only at hSw); first | (go_simp; done) | (go_simp; with_reducible rfl)
   (try simp only [Act.put, gy0, gy1, gy2])
   refine wpAnyH_take (i := 7) (v := ?_) (by simp only [gx0, gx1, gx2]; rfl) (by kernel_rfl) (by kernel_rfl) (by kernel_rfl) (fun _ _ _ h => h) (.inl ⟨by rfl, ?_⟩) hH ?_
   rotate_left
   · intro w hSw; (try dsimp only at hSw); first | (go_simp; done) | (go_simp; with_reducible rfl)
   (try simp only [Act.put, gy0, gy1, gy2])
   refine wpAnyH_take (i := 8) (v := ?_) (by simp only [gx0, gx1, gx2]; rfl) (by kernel_rfl) (by kernel_rfl) (by kernel_rfl) (fun _ _ _ h => h) (.inl ⟨by rfl, ?_⟩) hH ?_
   rotate_left
   · intro w hSw; (try dsimp only at hSw); first | (go_simp; done) | (go_simp; with_reducible rfl)
   (try simp only [Act.put, gy0, gy1, gy2])
   have TM := hid (two_made (z1 := z1) (z2 := z2) BW_5.out gp gq ne rfl rfl Kp_5.out Kq_5.out RP.out RQ.out)
   obtain ⟨⟨a1, a2, a3, a4⟩, ⟨d1, d2, d3, d4⟩, ne2, O⟩ := tail_facts Kp_5.out Kq_5.out ne gp gq nw.out
   refine wpAnyH_ready (rs := [11]) (by kernel_rfl) (by simp) ?_
   refine AllReadyH.cons (by simp only [gx0, gx1, gx2]; rfl) (fun K hK => ?_) AllReadyH.nil
   go_simp
   refine hK.out _ _ (cell_fr (cell_fr hH O.out.1) O.out.1) (fun hH2 => ?_)
   clear hK K hH
   (try simp only [Act.put, gy0, gy1, gy2])
   refine wpAnyH_ready (rs := [12]) (by kernel_rfl) (by simp) ?_
   refine AllReadyH.cons (by simp only [gx0, gx1, gx2]; rfl) (fun K hK => ?_) AllReadyH.nil
   go_simp
   refine hK.out _ _ (cell_fr (cell_fr hH2 O.out.2) O.out.2) (fun hH => ?_)
   clear hK K hH2 a1 a2 a3 a4 d1 d2 d3 d4
   (try simp only [Act.put, gy0, gy1, gy2])
   refine wpAnyH_ready (rs := [13]) (by kernel_rfl) (by simp) ?_
   refine AllReadyH.cons (by simp only [gx0, gx1, gx2]; rfl) (fun K hK => ?_) AllReadyH.nil
   go_simp
   refine hK.out _ _ hH (fun hH2 => ?_)
   clear hK K hH
   (try simp only [Act.put, gy0, gy1, gy2])
   refine wpAnyH_done (by kernel_rfl) ?_ _
   refine NoPanic.normal ?_
   go_wp2_with fail
   go_meet
   exact ⟨p, q, AP, nP, cP, AQ, nQ, cQ, rfl, rfl, rfl, hid ⟨TM.out.1, TM.out.2⟩⟩
   exact AllReadyH.nil
   exact AllReadyH.nil
   exact AllReadyH.nil
   exact AllReadyH.nil
   refine AllReadyH.cons (by simp only [gx0, gx1, gx2]; rfl) (fun K hK => ?_) ?_
   go_simp
   obtain ⟨W1, p, hW, hp, b, kk⟩ := mk_int W0
   have gp : w1.heap.size ≤ p := by rw [hp]; exact BW_0.out.size
   rw [← hW, ← hp]
   clear hW hp
   have Kp := hid kk
   clear kk
   have BW_1 := hid (bx_call BW_0.out b)
   clear BW_0
   have H2 := cell_bx hH b
   clear hH b
   refine hK.out _ _ ?_ (fun hH => ?_)
   exact H2
   clear hK K H2
   (try simp only [Act.put, gy0, gy1, gy2])
   refine wpAnyH_ready (rs := [1, 10]) (by kernel_rfl) (by simp) ?_
   refine AllReadyH.cons (by simp only [gx0, gx1, gx2]; rfl) (fun K hK => ?_) ?_
   go_simp
   refine (Fa.out _).mono ?_
   rintro e W2 ⟨A1, n1, c1, rfl, r1, b⟩
   have RA := hid r1
   clear r1
   have Kp_2 := hid (Kp.out.keep b)
   have BW_2 := hid (bx_call BW_1.out b)
   clear Kp BW_1
   have H2 := cell_bx hH b
   clear hH b
   (try go_wp2_with fail)
   refine hK.out _ _ ?_ (fun hH => ?_)
   exact H2
   clear hK K H2
   (try simp only [Act.put, gy0, gy1, gy2])
   refine wpAnyH_ready (rs := [3, 10]) (by kernel_rfl) (by simp) ?_
   refine AllReadyH.cons (by simp only [gx0, gx1, gx2]; rfl) (fun K hK => ?_) ?_
   go_simp
   refine (Fb.out _).mono ?_
   rintro e W3 ⟨A2, n2, c2, rfl, r2, b⟩
   have RB := hid r2
   clear r2
   have Kp_3 := hid (Kp_2.out.keep b)
   have RA_3 := hid (RA.out.keep b)
   have BW_3 := hid (bx_call BW_2.out b)
   clear Kp_2 RA BW_2
   have H2 := cell_bx hH b
   clear hH b
   (try go_wp2_with fail)
   refine hK.out _ _ ?_ (fun hH => ?_)
   exact H2
   clear hK K H2
   (try simp only [Act.put, gy0, gy1, gy2])
   refine wpAnyH_ready (rs := [4, 10]) (by kernel_rfl) (by simp) ?_
   refine AllReadyH.cons (by simp only [gx0, gx1, gx2]; rfl) (fun K hK => ?_) ?_
   go_simp
   refine (D0.out _ A1 n1 c1 A2 n2 c2 RA_3.out RB.out).mono ?_
   rintro e W4 ⟨AP, nP, cP, AQ, nQ, cQ, rfl, r3, r4, b⟩
   have RP := hid r3
   have RQ := hid r4
   clear r3 r4
   have Kp_4 := hid (Kp_3.out.keep b)
   have RA_4 := hid (RA_3.out.keep b)
   have RB_4 := hid (RB.out.keep b)
   have BW_4 := hid (bx_call BW_3.out b)
   clear Kp_3 RA_3 RB BW_3
   have H2 := cell_bx hH b
   clear hH b
   (try go_wp2_with fail)
   refine hK.out _ _ ?_ (fun hH => ?_)
   exact H2
   clear hK K H2
   (try simp only [Act.put, gy0, gy1, gy2])
   clear RA_4
   clear RB_4
   refine wpAnyH_take (i := 5) (v := ?_) (by simp only [gx0, gx1, gx2]; rfl) (by kernel_rfl) (by kernel_rfl) (by kernel_rfl) (fun _ _ _ h => h) (.inl ⟨by rfl, ?_⟩) hH ?_
   rotate_left
   · intro w hSw; (try dsimp only at hSw); first | (go_simp; done) | (go_simp; with_reducible rfl)
   (try simp only [Act.put, gy0, gy1, gy2])
   refine wpAnyH_take (i := 6) (v := ?_) (by simp only [gx0, gx1, gx2]; rfl) (by kernel_rfl) (by kernel_rfl) (by kernel_rfl) (fun _ _ _ h => h) (.inl ⟨by rfl, ?_⟩) hH ?_
   rotate_left
   · intro w hSw; (try dsimp only at hSw); first | (go_simp; done) | (go_simp; with_reducible rfl)
   (try simp only [Act.put, gy0, gy1, gy2])
   refine wpAnyH_take (i := 7) (v := ?_) (by simp only [gx0, gx1, gx2]; rfl) (by kernel_rfl) (by kernel_rfl) (by kernel_rfl) (fun _ _ _ h => h) (.inl ⟨by rfl, ?_⟩) hH ?_
   rotate_left
   · intro w hSw; (try dsimp only at hSw); first | (go_simp; done) | (go_simp; with_reducible rfl)
   (try simp only [Act.put, gy0, gy1, gy2])
   refine wpAnyH_take (i := 8) (v := ?_) (by simp only [gx0, gx1, gx2]; rfl) (by kernel_rfl) (by kernel_rfl) (by kernel_rfl) (fun _ _ _ h => h) (.inl ⟨by rfl, ?_⟩) hH ?_
   rotate_left
   · intro w hSw; (try dsimp only at hSw); first | (go_simp; done) | (go_simp; with_reducible rfl)
   (try simp only [Act.put, gy0, gy1, gy2])
   refine wpAnyH_ready (rs := [10]) (by kernel_rfl) (by simp) ?_
   refine AllReadyH.cons (by simp only [gx0, gx1, gx2]; rfl) (fun K hK => ?_) ?_
   go_simp
   obtain ⟨W5, q, hW, hp, b, kk⟩ := mk_int W4
   have gq : w1.heap.size ≤ q := by rw [hp]; exact BW_4.out.size
   have ne : p ≠ q := by rw [hp]; exact Nat.ne_of_lt Kp_4.out.lt
   rw [← hW, ← hp]
   clear hW hp
   have Kq := hid kk
   clear kk
   have Kp_5 := hid (Kp_4.out.keep b)
   have RP_5 := hid (RP.out.keep b)
   have RQ_5 := hid (RQ.out.keep b)
   have BW_5 := hid (bx_call BW_4.out b)
   clear Kp_4 RP RQ BW_4
   have H2 := cell_bx hH b
   clear hH b
   refine hK.out _ _ ?_ (fun hH => ?_)
   exact H2
   clear hK K H2
   (try simp only [Act.put, gy0, gy1, gy2])
   have TM := hid (two_made (z1 := z1) (z2 := z2) BW_5.out gp gq ne rfl rfl Kp_5.out Kq.out RP_5.out RQ_5.out)
   obtain ⟨⟨a1, a2, a3, a4⟩, ⟨d1, d2, d3, d4⟩, ne2, O⟩ := tail_facts Kp_5.out Kq.out ne gp gq nw.out
   refine wpAnyH_ready (rs := [11]) (by kernel_rfl) (by simp) ?_
   refine AllReadyH.cons (by simp only [gx0, gx1, gx2]; rfl) (fun K hK => ?_) AllReadyH.nil
   go_simp
   refine hK.out _ _ (cell_fr (cell_fr hH O.out.1) O.out.1) (fun hH2 => ?_)
   clear hK K hH
   (try simp only [Act.put, gy0, gy1, gy2])
   refine wpAnyH_ready (rs := [12]) (by kernel_rfl) (by simp) ?_
   refine AllReadyH.cons (by simp only [gx0, gx1, gx2]; rfl) (fun K hK => ?_) AllReadyH.nil
   go_simp
   refine hK.out _ _ (cell_fr (cell_fr hH2 O.out.2) O.out.2) (fun hH => ?_)
   clear hK K hH2 a1 a2 a3 a4 d1 d2 d3 d4
   (try simp only [Act.put, gy0, gy1, gy2])
   refine wpAnyH_ready (rs := [13]) (by kernel_rfl) (by simp) ?_
   refine AllReadyH.cons (by simp only [gx0, gx1, gx2]; rfl) (fun K hK => ?_) AllReadyH.nil
   go_simp
   refine hK.out _ _ hH (fun hH2 => ?_)
   clear hK K hH
   (try simp only [Act.put, gy0, gy1, gy2])
   refine wpAnyH_done (by kernel_rfl) ?_ _
   refine NoPanic.normal ?_
   go_wp2_with fail
   go_meet
   exact ⟨p, q, AP, nP, cP, AQ, nQ, cQ, rfl, rfl, rfl, hid ⟨TM.out.1, TM.out.2⟩⟩
   exact AllReadyH.nil
   refine AllReadyH.cons (by simp only [gx0, gx1, gx2]; rfl) (fun K hK => ?_) ?_
   go_simp
   obtain ⟨W4, q, hW, hp, b, kk⟩ := mk_int W3
   have gq : w1.heap.size ≤ q := by rw [hp]; exact BW_3.out.size
   have ne : p ≠ q := by rw [hp]; exact Nat.ne_of_lt Kp_3.out.lt
   rw [← hW, ← hp]
   clear hW hp
   have Kq := hid kk
   clear kk
   have Kp_4 := hid (Kp_3.out.keep b)
   have RA_4 := hid (RA_3.out.keep b)
   have RB_4 := hid (RB.out.keep b)
   have BW_4 := hid (bx_call BW_3.out b)
   clear Kp_3 RA_3 RB BW_3
   have H2 := cell_bx hH b
   clear hH b
   refine hK.out _ _ ?_ (fun hH => ?_)
   exact H2
   clear hK K H2
   (try simp only [Act.put, gy0, gy1, gy2])
   refine wpAnyH_ready (rs := [4]) (by kernel_rfl) (by simp) ?_
   refine AllReadyH.cons (by simp only [gx0, gx1, gx2]; rfl) (fun K hK => ?_) ?_
   go_simp
   refine (D0.out _ A1 n1 c1 A2 n2 c2 RA_4.out RB_4.out).mono ?_
   rintro e W5 ⟨AP, nP, cP, AQ, nQ, cQ, rfl, r3, r4, b⟩
   have RP := hid r3
   have RQ := hid r4
   clear r3 r4
   have Kp_5 := hid (Kp_4.out.keep b)
   have RA_5 := hid (RA_4.out.keep b)
   have RB_5 := hid (RB_4.out.keep b)
   have Kq_5 := hid (Kq.out.keep b)
   have BW_5 := hid (bx_call BW_4.out b)
   clear Kp_4 RA_4 RB_4 Kq BW_4
   have H2 := cell_bx hH b
   clear hH b
   (try go_wp2_with fail)
   refine hK.out _ _ ?_ (fun hH => ?_)
   exact H2
   clear hK K H2
   (try simp only [Act.put, gy0, gy1, gy2])
   clear RA_5
   clear RB_5
   refine wpAnyH_take (i := 5) (v := ?_) (by simp only [gx0, gx1, gx2]; rfl) (by kernel_rfl) (by kernel_rfl) (by kernel_rfl) (fun _ _ _ h => h) (.inl ⟨by rfl, ?_⟩) hH ?_
   rotate_left
   · intro w hSw; (try dsimp only at hSw); first | (go_simp; done) | (go_simp; with_reducible rfl)
   (try simp only [Act.put, gy0, gy1, gy2])
   refine wpAnyH_take (i := 6) (v := ?_) (by simp only [gx0, gx1, gx2]; rfl) (by kernel_rfl) (by kernel_rfl) (by kernel_rfl) (fun _ _ _ h => h) (.inl ⟨by rfl, ?_⟩) hH ?_
   rotate_left
   · intro w hSw; (try dsimp only at hSw); first | (go_simp; done) | (go_simp; with_reducible rfl)
   (try simp only [Act.put, gy0, gy1, gy2])
   refine wpAnyH_take (i := 7) (v := ?_) (by simp only [gx0, gx1, gx2]; rfl) (by kernel_rfl) (by kernel_rfl) (by kernel_rfl) (fun _ _ _ h => h) (.inl ⟨by rfl, ?_⟩) hH ?_
   rotate_left
   · intro w hSw; (try dsimp only at hSw); first | (go_simp; done) | (go_simp; with_reducible rfl)
   (try simp only [Act.put, gy0, gy1, gy2])
   refine wpAnyH_take (i := 8) (v := ?_) (by simp only [gx0, gx1, gx2]; rfl) (by kernel_rfl) (by kernel_rfl) (by kernel_rfl) (fun _ _ _ h => h) (.inl ⟨by rfl, ?_⟩) hH ?_
   rotate_left
   · intro w hSw; (try dsimp only at hSw); first | (go_simp; done) | (go_simp; with_reducible rfl)
   (try simp only [Act.put, gy0, gy1, gy2])
   have TM := hid (two_made (z1 := z1) (z2 := z2) BW_5.out gp gq ne rfl rfl Kp_5.out Kq_5.out RP.out RQ.out)
   obtain ⟨⟨a1, a2, a3, a4⟩, ⟨d1, d2, d3, d4⟩, ne2, O⟩ := tail_facts Kp_5.out Kq_5.out ne gp gq nw.out
   refine wpAnyH_ready (rs := [11]) (by kernel_rfl) (by simp) ?_
   refine AllReadyH.cons (by simp only [gx0, gx1, gx2]; rfl) (fun K hK => ?_) AllReadyH.nil
   go_simp
   refine hK.out _ _ (cell_fr (cell_fr hH O.out.1) O.out.1) (fun hH2 => ?_)
   clear hK K hH
   (try simp only [Act.put, gy0, gy1, gy2])
   refine wpAnyH_ready (rs := [12]) (by kernel_rfl) (by simp) ?_
   refine AllReadyH.cons (by simp only [gx0, gx1, gx2]; rfl) (fun K hK => ?_) AllReadyH.nil
   go_simp
   refine hK.out _ _ (cell_fr (cell_fr hH2 O.out.2) O.out.2) (fun hH => ?_)
   clear hK K hH2 a1 a2 a3 a4 d1 d2 d3 d4
   (try simp only [Act.put, gy0, gy1, gy2])
   refine wpAnyH_ready (rs := [13]) (by kernel_rfl) (by simp) ?_
   refine AllReadyH.cons (by simp only [gx0, gx1, gx2]; rfl) (fun K hK => ?_) AllReadyH.nil
   go_simp
   refine hK.out _ _ hH (fun hH2 => ?_)
   clear hK K hH
   (try simp only [Act.put, gy0, gy1, gy2])
   refine wpAnyH_done (by kernel_rfl) ?_ _
   refine NoPanic.normal ?_
   go_wp2_with fail
   go_meet
   exact ⟨p, q, AP, nP, cP, AQ, nQ, cQ, rfl, rfl, rfl, hid ⟨TM.out.1, TM.out.2⟩⟩
   exact AllReadyH.nil
   exact AllReadyH.nil
   refine AllReadyH.cons (by simp only [gx0, gx1, gx2]; rfl) (fun K hK => ?_) ?_
   go_simp
   obtain ⟨W3, q, hW, hp, b, kk⟩ := mk_int W2
   have gq : w1.heap.size ≤ q := by rw [hp]; exact BW_2.out.size
   have ne : p ≠ q := by rw [hp]; exact Nat.ne_of_lt Kp_2.out.lt
   rw [← hW, ← hp]
   clear hW hp
   have Kq := hid kk
   clear kk
   have Kp_3 := hid (Kp_2.out.keep b)
   have RA_3 := hid (RA.out.keep b)
   have BW_3 := hid (bx_call BW_2.out b)
   clear Kp_2 RA BW_2
   have H2 := cell_bx hH b
   clear hH b
   refine hK.out _ _ ?_ (fun hH => ?_)
   exact H2
   clear hK K H2
   (try simp only [Act.put, gy0, gy1, gy2])
   refine wpAnyH_ready (rs := [3]) (by kernel_rfl) (by simp) ?_
   refine AllReadyH.cons (by simp only [gx0, gx1, gx2]; rfl) (fun K hK => ?_) ?_
   go_simp
   refine (Fb.out _).mono ?_
   rintro e W4 ⟨A2, n2, c2, rfl, r2, b⟩
   have RB := hid r2
   clear r2
   have Kp_4 := hid (Kp_3.out.keep b)
   have RA_4 := hid (RA_3.out.keep b)
   have Kq_4 := hid (Kq.out.keep b)
   have BW_4 := hid (bx_call BW_3.out b)
   clear Kp_3 RA_3 Kq BW_3
   have H2 := cell_bx hH b
   clear hH b
   (try go_wp2_with fail)
   refine hK.out _ _ ?_ (fun hH => ?_)
   exact H2
   clear hK K H2
   (try simp only [Act.put, gy0, gy1, gy2])
   refine wpAnyH_ready (rs := [4]) (by kernel_rfl) (by simp) ?_
   refine AllReadyH.cons (by simp only [gx0, gx1, gx2]; rfl) (fun K hK => ?_) ?_
   go_simp
   refine (D0.out _ A1 n1 c1 A2 n2 c2 RA_4.out RB.out).mono ?_
   rintro e W5 ⟨AP, nP, cP, AQ, nQ, cQ, rfl, r3, r4, b⟩
   have RP := hid r3
   have RQ := hid r4
   clear r3 r4
   have Kp_5 := hid (Kp_4.out.keep b)
   have RA_5 := hid (RA_4.out.keep b)
   have Kq_5 := hid (Kq_4.out.keep b)
   have RB_5 := hid (RB.out.keep b)
   have BW_5 := hid (bx_call BW_4.out b)
   clear Kp_4 RA_4 Kq_4 RB BW_4
   have H2 := cell_bx hH b
   clear hH b
   (try go_wp2_with fail)
   refine hK.out _ _ ?_ (fun hH => ?_)
   exact H2
   clear hK K H2
   (try simp only [Act.put, gy0, gy1, gy2])
   clear RA_5
   clear RB_5
   refine wpAnyH_take (i := 5) (v := ?_) (by simp only [gx0, gx1, gx2]; rfl) (by kernel_rfl) (by kernel_rfl) (by kernel_rfl) (fun _ _ _ h => h) (.inl ⟨by rfl, ?_⟩) hH ?_
   rotate_left
   · intro w hSw; (try dsimp only at hSw); first | (go_simp; done) | (go_simp; with_reducible rfl)
   (try simp only [Act.put, gy0, gy1, gy2])
   refine wpAnyH_take (i := 6) (v := ?_) (by simp only [gx0, gx1, gx2]; rfl) (by kernel_rfl) (by kernel_rfl) (by kernel_rfl) (fun _ _ _ h => h) (.inl ⟨by rfl, ?_⟩) hH ?_
   rotate_left
   · intro w hSw; (try dsimp only at hSw); first | (go_simp; done) | (go_simp; with_reducible rfl)
   (try simp only [Act.put, gy0, gy1, gy2])
   refine wpAnyH_take (i := 7) (v := ?_) (by simp only [gx0, gx1, gx2]; rfl) (by kernel_rfl) (by kernel_rfl) (by kernel_rfl) (fun _ _ _ h => h) (.inl ⟨by rfl, ?_⟩) hH ?_
   rotate_left
   · intro w hSw; (try dsimp only at hSw); first | (go_simp; done) | (go_simp; with_reducible rfl)
   (try simp only [Act.put, gy0, gy1, gy2])
   refine wpAnyH_take (i := 8) (v := ?_) (by simp only [gx0, gx1, gx2]; rfl) (by kernel_rfl) (by kernel_rfl) (by kernel_rfl) (fun _ _ _ h => h) (.inl ⟨by rfl, ?_⟩) hH ?_
   rotate_left
   · intro w hSw; (try dsimp only at hSw); first | (go_simp; done) | (go_simp; with_reducible rfl)
   (try simp only [Act.put, gy0, gy1, gy2])
   have TM := hid (two_made (z1 := z1) (z2 := z2) BW_5.out gp gq ne rfl rfl Kp_5.out Kq_5.out RP.out RQ.out)
   obtain ⟨⟨a1, a2, a3, a4⟩, ⟨d1, d2, d3, d4⟩, ne2, O⟩ := tail_facts Kp_5.out Kq_5.out ne gp gq nw.out
   refine wpAnyH_ready (rs := [11]) (by kernel_rfl) (by simp) ?_
   refine AllReadyH.cons (by simp only [gx0, gx1, gx2]; rfl) (fun K hK => ?_) AllReadyH.nil
   go_simp
   refine hK.out _ _ (cell_fr (cell_fr hH O.out.1) O.out.1) (fun hH2 => ?_)
   clear hK K hH
   (try simp only [Act.put, gy0, gy1, gy2])
   refine wpAnyH_ready (rs := [12]) (by kernel_rfl) (by simp) ?_
   refine AllReadyH.cons (by simp only [gx0, gx1, gx2]; rfl) (fun K hK => ?_) AllReadyH.nil
   go_simp
   refine hK.out _ _ (cell_fr (cell_fr hH2 O.out.2) O.out.2) (fun hH => ?_)
   clear hK K hH2 a1 a2 a3 a4 d1 d2 d3 d4
   (try simp only [Act.put, gy0, gy1, gy2])
   refine wpAnyH_ready (rs := [13]) (by kernel_rfl) (by simp) ?_
   refine AllReadyH.cons (by simp only [gx0, gx1, gx2]; rfl) (fun K hK => ?_) AllReadyH.nil
   go_simp
   refine hK.out _ _ hH (fun hH2 => ?_)
   clear hK K hH
   (try simp only [Act.put, gy0, gy1, gy2])
   refine wpAnyH_done (by kernel_rfl) ?_ _
   refine NoPanic.normal ?_
   go_wp2_with fail
   go_meet
   exact ⟨p, q, AP, nP, cP, AQ, nQ, cQ, rfl, rfl, rfl, hid ⟨TM.out.1, TM.out.2⟩⟩
   exact AllReadyH.nil
   exact AllReadyH.nil
   exact AllReadyH.nil
   refine AllReadyH.cons (by simp only [gx0, gx1, gx2]; rfl) (fun K hK => ?_) ?_
   go_simp
   obtain ⟨W2, q, hW, hp, b, kk⟩ := mk_int W1
   have gq : w1.heap.size ≤ q := by rw [hp]; exact BW_1.out.size
   have ne : p ≠ q := by rw [hp]; exact Nat.ne_of_lt Kp.out.lt
   rw [← hW, ← hp]
   clear hW hp
   have Kq := hid kk
   clear kk
   have Kp_2 := hid (Kp.out.keep b)
   have BW_2 := hid (bx_call BW_1.out b)
   clear Kp BW_1
   have H2 := cell_bx hH b
   clear hH b
   refine hK.out _ _ ?_ (fun hH => ?_)
   exact H2
   clear hK K H2
   (try simp only [Act.put, gy0, gy1, gy2])
   refine wpAnyH_ready (rs := [1]) (by kernel_rfl) (by simp) ?_
   refine AllReadyH.cons (by simp only [gx0, gx1, gx2]; rfl) (fun K hK => ?_) ?_
   go_simp
   refine (Fa.out _).mono ?_
   rintro e W3 ⟨A1, n1, c1, rfl, r1, b⟩
   have RA := hid r1
   clear r1
   have Kp_3 := hid (Kp_2.out.keep b)
   have Kq_3 := hid (Kq.out.keep b)
   have BW_3 := hid (bx_call BW_2.out b)
   clear Kp_2 Kq BW_2
   have H2 := cell_bx hH b
   clear hH b
   (try go_wp2_with fail)
   refine hK.out _ _ ?_ (fun hH => ?_)
   exact H2
   clear hK K H2
   (try simp only [Act.put, gy0, gy1, gy2])
   refine wpAnyH_ready (rs := [3]) (by kernel_rfl) (by simp) ?_
   refine AllReadyH.cons (by simp only [gx0, gx1, gx2]; rfl) (fun K hK => ?_) ?_
   go_simp
   refine (Fb.out _).mono ?_
   rintro e W4 ⟨A2, n2, c2, rfl, r2, b⟩
   have RB := hid r2
   clear r2
   have Kp_4 := hid (Kp_3.out.keep b)
   have Kq_4 := hid (Kq_3.out.keep b)
   have RA_4 := hid (RA.out.keep b)
   have BW_4 := hid (bx_call BW_3.out b)
   clear Kp_3 Kq_3 RA BW_3
   have H2 := cell_bx hH b
   clear hH b
   (try go_wp2_with fail)
   refine hK.out _ _ ?_ (fun hH => ?_)
   exact H2
   clear hK K H2
   (try simp only [Act.put, gy0, gy1, gy2])
   refine wpAnyH_ready (rs := [4]) (by kernel_rfl) (by simp) ?_
   refine AllReadyH.cons (by simp only [gx0, gx1, gx2]; rfl) (fun K hK => ?_) ?_
   go_simp
   refine (D0.out _ A1 n1 c1 A2 n2 c2 RA_4.out RB.out).mono ?_
   rintro e W5 ⟨AP, nP, cP, AQ, nQ, cQ, rfl, r3, r4, b⟩
   have RP := hid r3
   have RQ := hid r4
   clear r3 r4
   have Kp_5 := hid (Kp_4.out.keep b)
   have Kq_5 := hid (Kq_4.out.keep b)
   have RA_5 := hid (RA_4.out.keep b)
   have RB_5 := hid (RB.out.keep b)
   have BW_5 := hid (bx_call BW_4.out b)
   clear Kp_4 Kq_4 RA_4 RB BW_4
   have H2 := cell_bx hH b
   clear hH b
   (try go_wp2_with fail)
   refine hK.out _ _ ?_ (fun hH => ?_)
   exact H2
   clear hK K H2
   (try simp only [Act.put, gy0, gy1, gy2])
   clear RA_5
   clear RB_5
   refine wpAnyH_take (i := 5) (v := ?_) (by simp only [gx0, gx1, gx2]; rfl) (by kernel_rfl) (by kernel_rfl) (by kernel_rfl) (fun _ _ _ h => h) (.inl ⟨by rfl, ?_⟩) hH ?_
   rotate_left
   · intro w hSw; (try dsimp only at hSw); first | (go_simp; done) | (go_simp; with_reducible rfl)
   (try simp only [Act.put, gy0, gy1, gy2])
   refine wpAnyH_take (i := 6) (v := ?_) (by simp only [gx0, gx1, gx2]; rfl) (by kernel_rfl) (by kernel_rfl) (by kernel_rfl) (fun _ _ _ h => h) (.inl ⟨by rfl, ?_⟩) hH ?_
   rotate_left
   · intro w hSw; (try dsimp only at hSw); first | (go_simp; done) | (go_simp; with_reducible rfl)
   (try simp only [Act.put, gy0, gy1, gy2])
   refine wpAnyH_take (i := 7) (v := ?_) (by simp only [gx0, gx1, gx2]; rfl) (by kernel_rfl) (by kernel_rfl) (by kernel_rfl) (fun _ _ _ h => h) (.inl ⟨by rfl, ?_⟩) hH ?_
   rotate_left
   · intro w hSw; (try dsimp only at hSw); first | (go_simp; done) | (go_simp; with_reducible rfl)
   (try simp only [Act.put, gy0, gy1, gy2])
   refine wpAnyH_take (i := 8) (v := ?_) (by simp only [gx0, gx1, gx2]; rfl) (by kernel_rfl) (by kernel_rfl) (by kernel_rfl) (fun _ _ _ h => h) (.inl ⟨by rfl, ?_⟩) hH ?_
   rotate_left
   · intro w hSw; (try dsimp only at hSw); first | (go_simp; done) | (go_simp; with_reducible rfl)
   (try simp only [Act.put, gy0, gy1, gy2])
   have TM := hid (two_made (z1 := z1) (z2 := z2) BW_5.out gp gq ne rfl rfl Kp_5.out Kq_5.out RP.out RQ.out)
   obtain ⟨⟨a1, a2, a3, a4⟩, ⟨d1, d2, d3, d4⟩, ne2, O⟩ := tail_facts Kp_5.out Kq_5.out ne gp gq nw.out
   refine wpAnyH_ready (rs := [11]) (by kernel_rfl) (by simp) ?_
   refine AllReadyH.cons (by simp only [gx0, gx1, gx2]; rfl) (fun K hK => ?_) AllReadyH.nil
   go_simp
   refine hK.out _ _ (cell_fr (cell_fr hH O.out.1) O.out.1) (fun hH2 => ?_)
   clear hK K hH
   (try simp only [Act.put, gy0, gy1, gy2])
   refine wpAnyH_ready (rs := [12]) (by kernel_rfl) (by simp) ?_
   refine AllReadyH.cons (by simp only [gx0, gx1, gx2]; rfl) (fun K hK => ?_) AllReadyH.nil
   go_simp
   refine hK.out _ _ (cell_fr (cell_fr hH2 O.out.2) O.out.2) (fun hH => ?_)
   clear hK K hH2 a1 a2 a3 a4 d1 d2 d3 d4
   (try simp only [Act.put, gy0, gy1, gy2])
   refine wpAnyH_ready (rs := [13]) (by kernel_rfl) (by simp) ?_
   refine AllReadyH.cons (by simp only [gx0, gx1, gx2]; rfl) (fun K hK => ?_) AllReadyH.nil
   go_simp
   refine hK.out _ _ hH (fun hH2 => ?_)
   clear hK K hH
   (try simp only [Act.put, gy0, gy1, gy2])
   refine wpAnyH_done (by kernel_rfl) ?_ _
   refine NoPanic.normal ?_
   go_wp2_with fail
   go_meet
   exact ⟨p, q, AP, nP, cP, AQ, nQ, cQ, rfl, rfl, rfl, hid ⟨TM.out.1, TM.out.2⟩⟩
   exact AllReadyH.nil
   exact AllReadyH.nil
   exact AllReadyH.nil
   exact AllReadyH.nil
   refine AllReadyH.cons (by simp only [gx0, gx1, gx2]; rfl) (fun K hK => ?_) ?_
   go_simp
   obtain ⟨W1, q, hW, hp, b, kk⟩ := mk_int W0
   have gq : w1.heap.size ≤ q := by rw [hp]; exact BW_0.out.size
   rw [← hW, ← hp]
   clear hW hp
   have Kq := hid kk
   clear kk
   have BW_1 := hid (bx_call BW_0.out b)
   clear BW_0
   have H2 := cell_bx hH b
   clear hH b
   refine hK.out _ _ ?_ (fun hH => ?_)
   exact H2
   clear hK K H2
   (try simp only [Act.put, gy0, gy1, gy2])
   refine wpAnyH_ready (rs := [1, 9]) (by kernel_rfl) (by simp) ?_
   refine AllReadyH.cons (by simp only [gx0, gx1, gx2]; rfl) (fun K hK => ?_) ?_
   go_simp
   refine (Fa.out _).mono ?_
   rintro e W2 ⟨A1, n1, c1, rfl, r1, b⟩
   have RA := hid r1
   clear r1
   have Kq_2 := hid (Kq.out.keep b)
   have BW_2 := hid (bx_call BW_1.out b)
   clear Kq BW_1
   have H2 := cell_bx hH b
   clear hH b
   (try go_wp2_with fail)
   refine hK.out _ _ ?_ (fun hH => ?_)
   exact H2
   clear hK K H2
   (try simp only [Act.put, gy0, gy1, gy2])
   refine wpAnyH_ready (rs := [3, 9]) (by kernel_rfl) (by simp) ?_
   refine AllReadyH.cons (by simp only [gx0, gx1, gx2]; rfl) (fun K hK => ?_) ?_
   go_simp
   refine (Fb.out _).mono ?_
   rintro e W3 ⟨A2, n2, c2, rfl, r2, b⟩
   have RB := hid r2
   clear r2
   have Kq_3 := hid (Kq_2.out.keep b)
   have RA_3 := hid (RA.out.keep b)
   have BW_3 := hid (bx_call BW_2.out b)
   clear Kq_2 RA BW_2
   have H2 := cell_bx hH b
   clear hH b
   (try go_wp2_with fail)
   refine hK.out _ _ ?_ (fun hH => ?_)
   exact H2
   clear hK K H2
   (try simp only [Act.put, gy0, gy1, gy2])
   refine wpAnyH_ready (rs := [4, 9]) (by kernel_rfl) (by simp) ?_
   refine AllReadyH.cons (by simp only [gx0, gx1, gx2]; rfl) (fun K hK => ?_) ?_
   go_simp
   refine (D0.out _ A1 n1 c1 A2 n2 c2 RA_3.out RB.out).mono ?_
   rintro e W4 ⟨AP, nP, cP, AQ, nQ, cQ, rfl, r3, r4, b⟩
   have RP := hid r3
   have RQ := hid r4
   clear r3 r4
   have Kq_4 := hid (Kq_3.out.keep b)
   have RA_4 := hid (RA_3.out.keep b)
   have RB_4 := hid (RB.out.keep b)
   have BW_4 := hid (bx_call BW_3.out b)
   clear Kq_3 RA_3 RB BW_3
   have H2 := cell_bx hH b
   clear hH b
   (try go_wp2_with fail)
   refine hK.out _ _ ?_ (fun hH => ?_)
   exact H2
   clear hK K H2
   (try simp only [Act.put, gy0, gy1, gy2])
   clear RA_4
   clear RB_4
   refine wpAnyH_take (i := 5) (v := ?_) (by simp only [gx0, gx1, gx2]; rfl) (by kernel_rfl) (by kernel_rfl) (by kernel_rfl) (fun _ _ _ h => h) (.inl ⟨by rfl, ?_⟩) hH ?_
   rotate_left
   · intro w hSw; (try dsimp only at hSw); first | (go_simp; done) | (go_simp; with_reducible rfl)
   (try simp only [Act.put, gy0, gy1, gy2])
   refine wpAnyH_take (i := 6) (v := ?_) (by simp only [gx0, gx1, gx2]; rfl) (by kernel_rfl) (by kernel_rfl) (by kernel_rfl) (fun _ _ _ h => h) (.inl ⟨by rfl, ?_⟩) hH ?_
   rotate_left
   · intro w hSw; (try dsimp only at hSw); first | (go_simp; done) | (go_simp; with_reducible rfl)
   (try simp only [Act.put, gy0, gy1, gy2])
   refine wpAnyH_take (i := 7) (v := ?_) (by simp only [gx0, gx1, gx2]; rfl) (by kernel_rfl) (by kernel_rfl) (by kernel_rfl) (fun _ _ _ h => h) (.inl ⟨by rfl, ?_⟩) hH ?_
   rotate_left
   · intro w hSw; (try dsimp only at hSw); first | (go_simp; done) | (go_simp; with_reducible rfl)
   (try simp only [Act.put, gy0, gy1, gy2])
   refine wpAnyH_take (i := 8) (v := ?_) (by simp only [gx0, gx1, gx2]; rfl) (by kernel_rfl) (by kernel_rfl) (by kernel_rfl) (fun _ _ _ h => h) (.inl ⟨by rfl, ?_⟩) hH ?_
   rotate_left
   · intro w hSw; (try dsimp only at hSw); first | (go_simp; done) | (go_simp; with_reducible rfl)
   (try simp only [Act.put, gy0, gy1, gy2])
   refine wpAnyH_ready (rs := [9]) (by kernel_rfl) (by simp) ?_
   refine AllReadyH.cons (by simp only [gx0, gx1, gx2]; rfl) (fun K hK => ?_) ?_
   go_simp
   obtain ⟨W5, p, hW, hp, b, kk⟩ := mk_int W4
   have gp : w1.heap.size ≤ p := by rw [hp]; exact BW_4.out.size
   have ne : p ≠ q := by rw [hp]; exact Nat.ne_of_gt Kq_4.out.lt
   rw [← hW, ← hp]
   clear hW hp
   have Kp := hid kk
   clear kk
   have Kq_5 := hid (Kq_4.out.keep b)
   have RP_5 := hid (RP.out.keep b)
   have RQ_5 := hid (RQ.out.keep b)
   have BW_5 := hid (bx_call BW_4.out b)
   clear Kq_4 RP RQ BW_4
   have H2 := cell_bx hH b
   clear hH b
   refine hK.out _ _ ?_ (fun hH => ?_)
   exact H2
   clear hK K H2
   (try simp only [Act.put, gy0, gy1, gy2])
   have TM := hid (two_made (z1 := z1) (z2 := z2) BW_5.out gp gq ne rfl rfl Kp.out Kq_5.out RP_5.out RQ_5.out)
   obtain ⟨⟨a1, a2, a3, a4⟩, ⟨d1, d2, d3, d4⟩, ne2, O⟩ := tail_facts Kp.out Kq_5.out ne gp gq nw.out
   refine wpAnyH_ready (rs := [11]) (by kernel_rfl) (by simp) ?_
   refine AllReadyH.cons (by simp only [gx0, gx1, gx2]; rfl) (fun K hK => ?_) AllReadyH.nil
   go_simp
   refine hK.out _ _ (cell_fr (cell_fr hH O.out.1) O.out.1) (fun hH2 => ?_)
   clear hK K hH
   (try simp only [Act.put, gy0, gy1, gy2])
   refine wpAnyH_ready (rs := [12]) (by kernel_rfl) (by simp) ?_
   refine AllReadyH.cons (by simp only [gx0, gx1, gx2]; rfl) (fun K hK => ?_) AllReadyH.nil
   go_simp
   refine hK.out _ _ (cell_fr (cell_fr hH2 O.out.2) O.out.2) (fun hH => ?_)
   clear hK K hH2 a1 a2 a3 a4 d1 d2 d3 d4
   (try simp only [Act.put, gy0, gy1, gy2])
   refine wpAnyH_ready (rs := [13]) (by kernel_rfl) (by simp) ?_
   refine AllReadyH.cons (by simp only [gx0, gx1, gx2]; rfl) (fun K hK => ?_) AllReadyH.nil
   go_simp
   refine hK.out _ _ hH (fun hH2 => ?_)
   clear hK K hH
   (try simp only [Act.put, gy0, gy1, gy2])
   refine wpAnyH_done (by kernel_rfl) ?_ _
   refine NoPanic.normal ?_
   go_wp2_with fail
   go_meet
   exact ⟨p, q, AP, nP, cP, AQ, nQ, cQ, rfl, rfl, rfl, hid ⟨TM.out.1, TM.out.2⟩⟩
   exact AllReadyH.nil
   refine AllReadyH.cons (by simp only [gx0, gx1, gx2]; rfl) (fun K hK => ?_) ?_
   go_simp
   obtain ⟨W4, p, hW, hp, b, kk⟩ := mk_int W3
   have gp : w1.heap.size ≤ p := by rw [hp]; exact BW_3.out.size
   have ne : p ≠ q := by rw [hp]; exact Nat.ne_of_gt Kq_3.out.lt
   rw [← hW, ← hp]
   clear hW hp
   have Kp := hid kk
   clear kk
   have Kq_4 := hid (Kq_3.out.keep b)
   have RA_4 := hid (RA_3.out.keep b)
   have RB_4 := hid (RB.out.keep b)
   have BW_4 := hid (bx_call BW_3.out b)
   clear Kq_3 RA_3 RB BW_3
   have H2 := cell_bx hH b
   clear hH b
   refine hK.out _ _ ?_ (fun hH => ?_)
   exact H2
   clear hK K H2
   (try simp only [Act.put, gy0, gy1, gy2])
   refine wpAnyH_ready (rs := [4]) (by kernel_rfl) (by simp) ?_
   refine AllReadyH.cons (by simp only [gx0, gx1, gx2]; rfl) (fun K hK => ?_) ?_
   go_simp
   refine (D0.out _ A1 n1 c1 A2 n2 c2 RA_4.out RB_4.out).mono ?_
   rintro e W5 ⟨AP, nP, cP, AQ, nQ, cQ, rfl, r3, r4, b⟩
   have RP := hid r3
   have RQ := hid r4
   clear r3 r4
   have Kq_5 := hid (Kq_4.out.keep b)
   have RA_5 := hid (RA_4.out.keep b)
   have RB_5 := hid (RB_4.out.keep b)
   have Kp_5 := hid (Kp.out.keep b)
   have BW_5 := hid (bx_call BW_4.out b)
   clear Kq_4 RA_4 RB_4 Kp BW_4
   have H2 := cell_bx hH b
   clear hH b
   (try go_wp2_with fail)
   refine hK.out _ _ ?_ (fun hH => ?_)
   exact H2
   clear hK K H2
   (try simp only [Act.put, gy0, gy1, gy2])
   clear RA_5
   clear RB_5
   refine wpAnyH_take (i := 5) (v := ?_) (by simp only [gx0, gx1, gx2]; rfl) (by kernel_rfl) (by kernel_rfl) (by kernel_rfl) (fun _ _ _ h => h) (.inl ⟨by rfl, ?_⟩) hH ?_
   rotate_left
   · intro w hSw; (try dsimp only at hSw); first | (go_simp; done) | (go_simp; with_reducible rfl)
   (try simp only [Act.put, gy0, gy1, gy2])
   refine wpAnyH_take (i := 6) (v := ?_) (by simp only [gx0, gx1, gx2]; rfl) (by kernel_rfl) (by kernel_rfl) (by kernel_rfl) (fun _ _ _ h => h) (.inl ⟨by rfl, ?_⟩) hH ?_
   rotate_left
   · intro w hSw; (try dsimp only at hSw); first | (go_simp; done) | (go_simp; with_reducible rfl)
   (try simp only [Act.put, gy0, gy1, gy2])
   refine wpAnyH_take (i := 7) (v := ?_) (by simp only [gx0, gx1, gx2]; rfl) (by kernel_rfl) (by kernel_rfl) (by kernel_rfl) (fun _ _ _ h => h) (.inl ⟨by rfl, ?_⟩) hH ?_
   rotate_left
   · intro w hSw; (try dsimp only at hSw); first | (go_simp; done) | (go_simp; with_reducible rfl)
   (try simp only [Act.put, gy0, gy1, gy2])
   refine wpAnyH_take (i := 8) (v := ?_) (by simp only [gx0, gx1, gx2]; rfl) (by kernel_rfl) (by kernel_rfl) (by kernel_rfl) (fun _ _ _ h => h) (.inl ⟨by rfl, ?_⟩) hH ?_
   rotate_left
   · intro w hSw; (try dsimp only at hSw); first | (go_simp; done) | (go_simp; with_reducible rfl)
   (try simp only [Act.put, gy0, gy1, gy2])
   have TM := hid (two_made (z1 := z1) (z2 := z2) BW_5.out gp gq ne rfl rfl Kp_5.out Kq_5.out RP.out RQ.out)
   obtain ⟨⟨a1, a2, a3, a4⟩, ⟨d1, d2, d3, d4⟩, ne2, O⟩ := tail_facts Kp_5.out Kq_5.out ne gp gq nw.out
   refine wpAnyH_ready (rs := [11]) (by kernel_rfl) (by simp) ?_
   refine AllReadyH.cons (by simp only [gx0, gx1, gx2]; rfl) (fun K hK => ?_) AllReadyH.nil
   go_simp
   refine hK.out _ _ (cell_fr (cell_fr hH O.out.1) O.out.1) (fun hH2 => ?_)
   clear hK K hH
   (try simp only [Act.put, gy0, gy1, gy2])
   refine wpAnyH_ready (rs := [12]) (by kernel_rfl) (by simp) ?_
   refine AllReadyH.cons (by simp only [gx0, gx1, gx2]; rfl) (fun K hK => ?_) AllReadyH.nil
   go_simp
   refine hK.out _ _ (cell_fr (cell_fr hH2 O.out.2) O.out.2) (fun hH => ?_)
   clear hK K hH2 a1 a2 a3 a4 d1 d2 d3 d4
   (try simp only [Act.put, gy0, gy1, gy2])
   refine wpAnyH_ready (rs := [13]) (by kernel_rfl) (by simp) ?_
   refine AllReadyH.cons (by simp only [gx0, gx1, gx2]; rfl) (fun K hK => ?_) AllReadyH.nil
   go_simp
   refine hK.out _ _ hH (fun hH2 => ?_)
   clear hK K hH
   (try simp only [Act.put, gy0, gy1, gy2])
   refine wpAnyH_done (by kernel_rfl) ?_ _
   refine NoPanic.normal ?_
   go_wp2_with fail
   go_meet
   exact ⟨p, q, AP, nP, cP, AQ, nQ, cQ, rfl, rfl, rfl, hid ⟨TM.out.1, TM.out.2⟩⟩
   exact AllReadyH.nil
   exact AllReadyH.nil
   refine AllReadyH.cons (by simp only [gx0, gx1, gx2]; rfl) (fun K hK => ?_) ?_
   go_simp
   obtain ⟨W3, p, hW, hp, b, kk⟩ := mk_int W2
   have gp : w1.heap.size ≤ p := by rw [hp]; exact BW_2.out.size
   have ne : p ≠ q := by rw [hp]; exact Nat.ne_of_gt Kq_2.out.lt
   rw [← hW, ← hp]
   clear hW hp
   have Kp := hid kk
   clear kk
   have Kq_3 := hid (Kq_2.out.keep b)
   have RA_3 := hid (RA.out.keep b)
   have BW_3 := hid (bx_call BW_2.out b)
   clear Kq_2 RA BW_2
   have H2 := cell_bx hH b
   clear hH b
   refine hK.out _ _ ?_ (fun hH => ?_)
   exact H2
   clear hK K H2
   (try simp only [Act.put, gy0, gy1, gy2])
   refine wpAnyH_ready (rs := [3]) (by kernel_rfl) (by simp) ?_
   refine AllReadyH.cons (by simp only [gx0, gx1, gx2]; rfl) (fun K hK => ?_) ?_
   go_simp
   refine (Fb.out _).mono ?_
   rintro e W4 ⟨A2, n2, c2, rfl, r2, b⟩
   have RB := hid r2
   clear r2
   have Kq_4 := hid (Kq_3.out.keep b)
   have RA_4 := hid (RA_3.out.keep b)
   have Kp_4 := hid (Kp.out.keep b)
   have BW_4 := hid (bx_call BW_3.out b)
   clear Kq_3 RA_3 Kp BW_3
   have H2 := cell_bx hH b
   clear hH b
   (try go_wp2_with fail)
   refine hK.out _ _ ?_ (fun hH => ?_)
   exact H2
   clear hK K H2
   (try simp only [Act.put, gy0, gy1, gy2])
   refine wpAnyH_ready (rs := [4]) (by kernel_rfl) (by simp) ?_
   refine AllReadyH.cons (by simp only [gx0, gx1, gx2]; rfl) (fun K hK => ?_) ?_
   go_simp
   refine (D0.out _ A1 n1 c1 A2 n2 c2 RA_4.out RB.out).mono ?_
   rintro e W5 ⟨AP, nP, cP, AQ, nQ, cQ, rfl, r3, r4, b⟩
   have RP := hid r3
   have RQ := hid r4
   clear r3 r4
   have Kq_5 := hid (Kq_4.out.keep b)
   have RA_5 := hid (RA_4.out.keep b)
   have Kp_5 := hid (Kp_4.out.keep b)
   have RB_5 := hid (RB.out.keep b)
   have BW_5 := hid (bx_call BW_4.out b)
   clear Kq_4 RA_4 Kp_4 RB BW_4
   have H2 := cell_bx hH b
   clear hH b
   (try go_wp2_with fail)
   refine hK.out _ _ ?_ (fun hH => ?_)
   exact H2
   clear hK K H2
   (try simp only [Act.put, gy0, gy1, gy2])
   clear RA_5
   clear RB_5
   refine wpAnyH_take (i := 5) (v := ?_) (by simp only [gx0, gx1, gx2]; rfl) (by kernel_rfl) (by kernel_rfl) (by kernel_rfl) (fun _ _ _ h => h) (.inl ⟨by rfl, ?_⟩) hH ?_
   rotate_left
   · intro w hSw; (try dsimp only at hSw); first | (go_simp; done) | (go_simp; with_reducible rfl)
   (try simp only [Act.put, gy0, gy1, gy2])
   refine wpAnyH_take (i := 6) (v := ?_) (by simp only [gx0, gx1, gx2]; rfl) (by kernel_rfl) (by kernel_rfl) (by kernel_rfl) (fun _ _ _ h => h) (.inl ⟨by rfl, ?_⟩) hH ?_
   rotate_left
   · intro w hSw; (try dsimp only at hSw); first | (go_simp; done) | (go_simp; with_reducible rfl)
   (try simp only [Act.put, gy0, gy1, gy2])
   refine wpAnyH_take (i := 7) (v := ?_) (by simp only [gx0, gx1, gx2]; rfl) (by kernel_rfl) (by kernel_rfl) (by kernel_rfl) (fun _ _ _ h => h) (.inl ⟨by rfl, ?_⟩) hH ?_
   rotate_left
   · intro w hSw; (try dsimp only at hSw); first | (go_simp; done) | (go_simp; with_reducible rfl)
   (try simp only [Act.put, gy0, gy1, gy2])
   refine wpAnyH_take (i := 8) (v := ?_) (by simp only [gx0, gx1, gx2]; rfl) (by kernel_rfl) (by kernel_rfl) (by kernel_rfl) (fun _ _ _ h => h) (.inl ⟨by rfl, ?_⟩) hH ?_
   rotate_left
   · intro w hSw; (try dsimp only at hSw); first | (go_simp; done) | (go_simp; with_reducible rfl)
   (try simp only [Act.put, gy0, gy1, gy2])
   have TM := hid (two_made (z1 := z1) (z2 := z2) BW_5.out gp gq ne rfl rfl Kp_5.out Kq_5.out RP.out RQ.out)
   obtain ⟨⟨a1, a2, a3, a4⟩, ⟨d1, d2, d3, d4⟩, ne2, O⟩ := tail_facts Kp_5.out Kq_5.out ne gp gq nw.out
   refine wpAnyH_ready (rs := [11]) (by kernel_rfl) (by simp) ?_
   refine AllReadyH.cons (by simp only [gx0, gx1, gx2]; rfl) (fun K hK => ?_) AllReadyH.nil
   go_simp
   refine hK.out _ _ (cell_fr (cell_fr hH O.out.1) O.out.1) (fun hH2 => ?_)
   clear hK K hH
   (try simp only [Act.put, gy0, gy1, gy2])
   refine wpAnyH_ready (rs := [12]) (by kernel_rfl) (by simp) ?_
   refine AllReadyH.cons (by simp only [gx0, gx1, gx2]; rfl) (fun K hK => ?_) AllReadyH.nil
   go_simp
   refine hK.out _ _ (cell_fr (cell_fr hH2 O.out.2) O.out.2) (fun hH => ?_)
   clear hK K hH2 a1 a2 a3 a4 d1 d2 d3 d4
   (try simp only [Act.put, gy0, gy1, gy2])
   refine wpAnyH_ready (rs := [13]) (by kernel_rfl) (by simp) ?_
   refine AllReadyH.cons (by simp only [gx0, gx1, gx2]; rfl) (fun K hK => ?_) AllReadyH.nil
   go_simp
   refine hK.out _ _ hH (fun hH2 => ?_)
   clear hK K hH
   (try simp only [Act.put, gy0, gy1, gy2])
   refine wpAnyH_done (by kernel_rfl) ?_ _
   refine NoPanic.normal ?_
   go_wp2_with fail
   go_meet
   exact ⟨p, q, AP, nP, cP, AQ, nQ, cQ, rfl, rfl, rfl, hid ⟨TM.out.1, TM.out.2⟩⟩
   exact AllReadyH.nil
   exact AllReadyH.nil
   exact AllReadyH.nil
   refine AllReadyH.cons (by simp only [gx0, gx1, gx2]; rfl) (fun K hK => ?_) ?_
   go_simp
   obtain ⟨W2, p, hW, hp, b, kk⟩ := mk_int W1
   have gp : w1.heap.size ≤ p := by rw [hp]; exact BW_1.out.size
   have ne : p ≠ q := by rw [hp]; exact Nat.ne_of_gt Kq.out.lt
   rw [← hW, ← hp]
   clear hW hp
   have Kp := hid kk
   clear kk
   have Kq_2 := hid (Kq.out.keep b)
   have BW_2 := hid (bx_call BW_1.out b)
   clear Kq BW_1
   have H2 := cell_bx hH b
   clear hH b
   refine hK.out _ _ ?_ (fun hH => ?_)
   exact H2
   clear hK K H2
   (try simp only [Act.put, gy0, gy1, gy2])
   refine wpAnyH_ready (rs := [1]) (by kernel_rfl) (by simp) ?_
   refine AllReadyH.cons (by simp only [gx0, gx1, gx2]; rfl) (fun K hK => ?_) ?_
   go_simp
   refine (Fa.out _).mono ?_
   rintro e W3 ⟨A1, n1, c1, rfl, r1, b⟩
   have RA := hid r1
   clear r1
   have Kq_3 := hid (Kq_2.out.keep b)
   have Kp_3 := hid (Kp.out.keep b)
   have BW_3 := hid (bx_call BW_2.out b)
   clear Kq_2 Kp BW_2
   have H2 := cell_bx hH b
   clear hH b
   (try go_wp2_with fail)
   refine hK.out _ _ ?_ (fun hH => ?_)
   exact H2
   clear hK K H2
   (try simp only [Act.put, gy0, gy1, gy2])
   refine wpAnyH_ready (rs := [3]) (by kernel_rfl) (by simp) ?_
   refine AllReadyH.cons (by simp only [gx0, gx1, gx2]; rfl) (fun K hK => ?_) ?_
   go_simp
   refine (Fb.out _).mono ?_
   rintro e W4 ⟨A2, n2, c2, rfl, r2, b⟩
   have RB := hid r2
   clear r2
   have Kq_4 := hid (Kq_3.out.keep b)
   have Kp_4 := hid (Kp_3.out.keep b)
   have RA_4 := hid (RA.out.keep b)
   have BW_4 := hid (bx_call BW_3.out b)
   clear Kq_3 Kp_3 RA BW_3
   have H2 := cell_bx hH b
   clear hH b
   (try go_wp2_with fail)
   refine hK.out _ _ ?_ (fun hH => ?_)
   exact H2
   clear hK K H2
   (try simp only [Act.put, gy0, gy1, gy2])
   refine wpAnyH_ready (rs := [4]) (by kernel_rfl) (by simp) ?_
   refine AllReadyH.cons (by simp only [gx0, gx1, gx2]; rfl) (fun K hK => ?_) ?_
   go_simp
   refine (D0.out _ A1 n1 c1 A2 n2 c2 RA_4.out RB.out).mono ?_
   rintro e W5 ⟨AP, nP, cP, AQ, nQ, cQ, rfl, r3, r4, b⟩
   have RP := hid r3
   have RQ := hid r4
   clear r3 r4
   have Kq_5 := hid (Kq_4.out.keep b)
   have Kp_5 := hid (Kp_4.out.keep b)
   have RA_5 := hid (RA_4.out.keep b)
   have RB_5 := hid (RB.out.keep b)
   have BW_5 := hid (bx_call BW_4.out b)
   clear Kq_4 Kp_4 RA_4 RB BW_4
   have H2 := cell_bx hH b
   clear hH b
   (try go_wp2_with fail)
   refine hK.out _ _ ?_ (fun hH => ?_)
   exact H2
   clear hK K H2
   (try simp only [Act.put, gy0, gy1, gy2])
   clear RA_5
   clear RB_5
   refine wpAnyH_take (i := 5) (v := ?_) (by simp only [gx0, gx1, gx2]; rfl) (by kernel_rfl) (by kernel_rfl) (by kernel_rfl) (fun _ _ _ h => h) (.inl ⟨by rfl, ?_⟩) hH ?_
   rotate_left
   · intro w hSw; (try dsimp only at hSw); first | (go_simp; done) | (go_simp; with_reducible rfl)
   (try simp only [Act.put, gy0, gy1, gy2])
   refine wpAnyH_take (i := 6) (v := ?_) (by simp only [gx0, gx1, gx2]; rfl) (by kernel_rfl) (by kernel_rfl) (by kernel_rfl) (fun _ _ _ h => h) (.inl ⟨by rfl, ?_⟩) hH ?_
   rotate_left
   · intro w hSw; (try dsimp only at hSw); first | (go_simp; done) | (go_simp; with_reducible rfl)
   (try simp only [Act.put, gy0, gy1, gy2])
   refine wpAnyH_take (i := 7) (v := ?_) (by simp only [gx0, gx1, gx2]; rfl) (by kernel_rfl) (by kernel_rfl) (by kernel_rfl) (fun _ _ _ h => h) (.inl ⟨by rfl, ?_⟩) hH ?_
   rotate_left
   · intro w hSw; (try dsimp only at hSw); first | (go_simp; done) | (go_simp; with_reducible rfl)
   (try simp only [Act.put, gy0, gy1, gy2])
   refine wpAnyH_take (i := 8) (v := ?_) (by simp only [gx0, gx1, gx2]; rfl) (by kernel_rfl) (by kernel_rfl) (by kernel_rfl) (fun _ _ _ h => h) (.inl ⟨by rfl, ?_⟩) hH ?_
   rotate_left
   · intro w hSw; (try dsimp only at hSw); first | (go_simp; done) | (go_simp; with_reducible rfl)
   (try simp only [Act.put, gy0, gy1, gy2])
   have TM := hid (two_made (z1 := z1) (z2 := z2) BW_5.out gp gq ne rfl rfl Kp_5.out Kq_5.out RP.out RQ.out)
   obtain ⟨⟨a1, a2, a3, a4⟩, ⟨d1, d2, d3, d4⟩, ne2, O⟩ := tail_facts Kp_5.out Kq_5.out ne gp gq nw.out
   refine wpAnyH_ready (rs := [11]) (by kernel_rfl) (by simp) ?_
   refine AllReadyH.cons (by simp only [gx0, gx1, gx2]; rfl) (fun K hK => ?_) AllReadyH.nil
   go_simp
   refine hK.out _ _ (cell_fr (cell_fr hH O.out.1) O.out.1) (fun hH2 => ?_)
   clear hK K hH
   (try simp only [Act.put, gy0, gy1, gy2])
   refine wpAnyH_ready (rs := [12]) (by kernel_rfl) (by simp) ?_
   refine AllReadyH.cons (by simp only [gx0, gx1, gx2]; rfl) (fun K hK => ?_) AllReadyH.nil
   go_simp
   refine hK.out _ _ (cell_fr (cell_fr hH2 O.out.2) O.out.2) (fun hH => ?_)
   clear hK K hH2 a1 a2 a3 a4 d1 d2 d3 d4
   (try simp only [Act.put, gy0, gy1, gy2])
   refine wpAnyH_ready (rs := [13]) (by kernel_rfl) (by simp) ?_
   refine AllReadyH.cons (by simp only [gx0, gx1, gx2]; rfl) (fun K hK => ?_) AllReadyH.nil
   go_simp
   refine hK.out _ _ hH (fun hH2 => ?_)
   clear hK K hH
   (try simp only [Act.put, gy0, gy1, gy2])
   refine wpAnyH_done (by kernel_rfl) ?_ _
   refine NoPanic.normal ?_
   go_wp2_with fail
   go_meet
   exact ⟨p, q, AP, nP, cP, AQ, nQ, cQ, rfl, rfl, rfl, hid ⟨TM.out.1, TM.out.2⟩⟩
   exact AllReadyH.nil
   exact AllReadyH.nil
   exact AllReadyH.nil
   exact AllReadyH.nil
   exact AllReadyH.nil
  case rest =>
  obtain ⟨p0, q0, A03, n03, c03, A04, n04, c04, rfl, rfl, rfl, hT0⟩ := hcut
  obtain ⟨w2, rfl⟩ : ∃ W : World, W = wc := ⟨_, rfl⟩
  have N1 := hid (N0.out.keep hT0.out.2)
  have G1 := hid (bx_call G0.out hT0.out.2)
  have T0_1 := hid hT0.out.1
  clear hT0 N0 G0 hS0 nw
  go_upto_region 3 with fail
  have hS0 := hid (Blk.cell N1.out 0)
  have nw := hid (show w.heap.size < w2.heap.size from N1.out.lt)
  go_cut [5, 6, 7] (fun s5 s6 s7 wx => ∃ (p q : Nat) (A3 : Option Addr) (n3 c3 : Nat) (A4 : Option Addr) (n4 c4 : Nat), s5 = .pointer (some ⟨p, 0, none⟩) ∧ s6 = .pointer (some ⟨q, 0, none⟩) ∧ s7 = .int .i64 0 ∧ Hid (Two z3 z4 p q A3 n3 c3 A4 n4 c4 wx ∧ Below w2.heap.size w2 wx))
  case first =>
   refine wp_region_noPanic ?_
   refine wp_region_held_drew (S := (fun W => W.cell? ⟨w.heap.size, 0, none⟩ = some (.func (.func 25) #[] #[]))) (by kernel_rfl) ?_ (fun hH => ?_)
   exact hS0.out
   refine wpAnyH_take (i := 0) (v := ?_) (by simp only [gx0, gx2]; rfl) (by kernel_rfl) (by kernel_rfl) (by kernel_rfl) (fun _ _ _ h => h) (.inl ⟨by rfl, ?_⟩) hH ?_
   rotate_left
   · intro w hSw; (try dsimp only at hSw); first | (go_simp; done) | (go_simp; with_reducible rfl)
   (try simp only [Act.put, gy0, gy1, gy2])
   refine wpAnyH_take (i := 2) (v := ?_) (by simp only [gx0, gx1, gx2]; rfl) (by kernel_rfl) (by kernel_rfl) (by kernel_rfl) (fun _ _ _ h => h) (.inl ⟨by rfl, ?_⟩) hH ?_
   rotate_left
   · intro w hSw; (try dsimp only at hSw); first | (go_simp; done) | (go_simp; with_reducible rfl)
   (try simp only [Act.put, gy0, gy1, gy2])
   have bd := bx_drew (bx_refl w2)
   obtain ⟨W0, hW0⟩ : ∃ W, W = w2.drew := ⟨_, rfl⟩
   rw [← hW0] at bd hH ⊢
   clear hW0
   have BW_0 := hid bd
   clear bd
   refine wpAnyH_ready (rs := [1, 9, 10]) (by kernel_rfl) (by simp) ?_
   refine AllReadyH.cons (by simp only [gx0, gx1, gx2]; rfl) (fun K hK => ?_) ?_
   go_simp
   refine (Fa.out _).mono ?_
   rintro e W1 ⟨A1, n1, c1, rfl, r1, b⟩
   have RA := hid r1
   clear r1
   have BW_1 := hid (bx_call BW_0.out b)
   clear BW_0
   have H2 := cell_bx hH b
   clear hH b
   (try go_wp2_with fail)
   refine hK.out _ _ ?_ (fun hH => ?_)
   exact H2
   clear hK K H2
   (try simp only [Act.put, gy0, gy1, gy2])
   refine wpAnyH_ready (rs := [3, 9, 10]) (by kernel_rfl) (by simp) ?_
   refine AllReadyH.cons (by simp only [gx0, gx1, gx2]; rfl) (fun K hK => ?_) ?_
   go_simp
   refine (Fb.out _).mono ?_
   rintro e W2 ⟨A2, n2, c2, rfl, r2, b⟩
   have RB := hid r2
   clear r2
   have RA_2 := hid (RA.out.keep b)
   have BW_2 := hid (bx_call BW_1.out b)
   clear RA BW_1
   have H2 := cell_bx hH b
   clear hH b
   (try go_wp2_with fail)
   refine hK.out _ _ ?_ (fun hH => ?_)
   exact H2
   clear hK K H2
   (try simp only [Act.put, gy0, gy1, gy2])
   refine wpAnyH_ready (rs := [4, 9, 10]) (by kernel_rfl) (by simp) ?_
   refine AllReadyH.cons (by simp only [gx0, gx1, gx2]; rfl) (fun K hK => ?_) ?_
   go_simp
   refine (D1.out _ A1 n1 c1 A2 n2 c2 RA_2.out RB.out).mono ?_
   rintro e W3 ⟨AP, nP, cP, AQ, nQ, cQ, rfl, r3, r4, b⟩
   have RP := hid r3
   have RQ := hid r4
   clear r3 r4
   have RA_3 := hid (RA_2.out.keep b)
   have RB_3 := hid (RB.out.keep b)
   have BW_3 := hid (bx_call BW_2.out b)
   clear RA_2 RB BW_2
   have H2 := cell_bx hH b
   clear hH b
   (try go_wp2_with fail)
   refine hK.out _ _ ?_ (fun hH => ?_)
   exact H2
   clear hK K H2
   (try simp only [Act.put, gy0, gy1, gy2])
   clear RA_3
   clear RB_3
   refine wpAnyH_take (i := 5) (v := ?_) (by simp only [gx0, gx1, gx2]; rfl) (by kernel_rfl) (by kernel_rfl) (by kernel_rfl) (fun _ _ _ h => h) (.inl ⟨by rfl, ?_⟩) hH ?_
   rotate_left
   · intro w hSw; (try dsimp only at hSw); first | (go_simp; done) | (go_simp; with_reducible rfl)
   (try simp only [Act.put, gy0, gy1, gy2])
   refine wpAnyH_take (i := 6) (v := ?_) (by simp only [gx0, gx1, gx2]; rfl) (by kernel_rfl) (by kernel_rfl) (by kernel_rfl) (fun _ _ _ h => h) (.inl ⟨by rfl, ?_⟩) hH ?_
   rotate_left
   · intro w hSw; (try dsimp only at hSw); first | (go_simp; done) | (go_simp; with_reducible rfl)
   (try simp only [Act.put, gy0, gy1, gy2])
   refine wpAnyH_take (i := 7) (v := ?_) (by simp only [gx0, gx1, gx2]; rfl) (by kernel_rfl) (by kernel_rfl) (by kernel_rfl) (fun _ _ _ h => h) (.inl ⟨by rfl, ?_⟩) hH ?_
   rotate_left
   · intro w hSw; (try dsimp only at hSw); first | (go_simp; done) | (go_simp; with_reducible rfl)
   (try simp only [Act.put, gy0, gy1, gy2])
   refine wpAnyH_take (i := 8) (v := ?_) (by simp only [gx0, gx1, gx2]; rfl) (by kernel_rfl) (by kernel_rfl) (by kernel_rfl) (fun _ _ _ h => h) (.inl ⟨by rfl, ?_⟩) hH ?_
   rotate_left
   · intro w hSw; (try dsimp only at hSw); first | (go_simp; done) | (go_simp; with_reducible rfl)
   (try simp only [Act.put, gy0, gy1, gy2])
   refine wpAnyH_ready (rs := [9, 10]) (by kernel_rfl) (by simp) ?_
   refine AllReadyH.cons (by simp only [gx0, gx1, gx2]; rfl) (fun K hK => ?_) ?_
   go_simp
   obtain ⟨W4, p, hW, hp, b, kk⟩ := mk_int W3
   have gp : w2.heap.size ≤ p := by rw [hp]; exact BW_3.out.size
   rw [← hW, ← hp]
   clear hW hp
   have Kp := hid kk
   clear kk
   have RP_4 := hid (RP.out.keep b)
   have RQ_4 := hid (RQ.out.keep b)
   have BW_4 := hid (bx_call BW_3.out b)
   clear RP RQ BW_3
   have H2 := cell_bx hH b
   clear hH b
   refine hK.out _ _ ?_ (fun hH => ?_)
   exact H2
   clear hK K H2
   (try simp only [Act.put, gy0, gy1, gy2])
   refine wpAnyH_ready (rs := [10]) (by kernel_rfl) (by simp) ?_
   refine AllReadyH.cons (by simp only [gx0, gx1, gx2]; rfl) (fun K hK => ?_) ?_
   go_simp
   obtain ⟨W5, q, hW, hp, b, kk⟩ := mk_int W4
   have gq : w2.heap.size ≤ q := by rw [hp]; exact BW_4.out.size
   have ne : p ≠ q := by rw [hp]; exact Nat.ne_of_lt Kp.out.lt
   rw [← hW, ← hp]
   clear hW hp
   have Kq := hid kk
   clear kk
   have RP_5 := hid (RP_4.out.keep b)
   have RQ_5 := hid (RQ_4.out.keep b)
   have Kp_5 := hid (Kp.out.keep b)
   have BW_5 := hid (bx_call BW_4.out b)
   clear RP_4 RQ_4 Kp BW_4
   have H2 := cell_bx hH b
   clear hH b
   refine hK.out _ _ ?_ (fun hH => ?_)
   exact H2
   clear hK K H2
   (try simp only [Act.put, gy0, gy1, gy2])
   have TM := hid (two_made (z1 := z3) (z2 := z4) BW_5.out gp gq ne rfl rfl Kp_5.out Kq.out RP_5.out RQ_5.out)
   obtain ⟨⟨a1, a2, a3, a4⟩, ⟨d1, d2, d3, d4⟩, ne2, O⟩ := tail_facts Kp_5.out Kq.out ne gp gq nw.out
   refine wpAnyH_ready (rs := [11]) (by kernel_rfl) (by simp) ?_
   refine AllReadyH.cons (by simp only [gx0, gx1, gx2]; rfl) (fun K hK => ?_) AllReadyH.nil
   go_simp
   refine hK.out _ _ (cell_fr (cell_fr hH O.out.1) O.out.1) (fun hH2 => ?_)
   clear hK K hH
   (try simp only [Act.put, gy0, gy1, gy2])
   refine wpAnyH_ready (rs := [12]) (by kernel_rfl) (by simp) ?_
   refine AllReadyH.cons (by simp only [gx0, gx1, gx2]; rfl) (fun K hK => ?_) AllReadyH.nil
   go_simp
   refine hK.out _ _ (cell_fr (cell_fr hH2 O.out.2) O.out.2) (fun hH => ?_)
   clear hK K hH2 a1 a2 a3 a4 d1 d2 d3 d4
   (try simp only [Act.put, gy0, gy1, gy2])
   refine wpAnyH_ready (rs := [13]) (by kernel_rfl) (by simp) ?_
   refine AllReadyH.cons (by simp only [gx0, gx1, gx2]; rfl) (fun K hK => ?_) AllReadyH.nil
   go_simp
   refine hK.out _ _ hH (fun hH2 => ?_)
   clear hK K hH
   (try simp only [Act.put, gy0, gy1, gy2])
   refine wpAnyH_done (by kernel_rfl) ?_ _
   refine NoPanic.normal ?_
   go_wp2_with fail
   go_meet
   exact ⟨p, q, AP, nP, cP, AQ, nQ, cQ, rfl, rfl, rfl, hid ⟨TM.out.1, TM.out.2⟩⟩
   exact AllReadyH.nil
   refine AllReadyH.cons (by simp only [gx0, gx1, gx2]; rfl) (fun K hK => ?_) ?_
   go_simp
   obtain ⟨W4, q, hW, hp, b, kk⟩ := mk_int W3
   have gq : w2.heap.size ≤ q := by rw [hp]; exact BW_3.out.size
   rw [← hW, ← hp]
   clear hW hp
   have Kq := hid kk
   clear kk
   have RP_4 := hid (RP.out.keep b)
   have RQ_4 := hid (RQ.out.keep b)
   have BW_4 := hid (bx_call BW_3.out b)
   clear RP RQ BW_3
   have H2 := cell_bx hH b
   clear hH b
   refine hK.out _ _ ?_ (fun hH => ?_)
   exact H2
   clear hK K H2
   (try simp only [Act.put, gy0, gy1, gy2])
   refine wpAnyH_ready (rs := [9]) (by kernel_rfl) (by simp) ?_
   refine AllReadyH.cons (by simp only [gx0, gx1, gx2]; rfl) (fun K hK => ?_) ?_
   go_simp
   obtain ⟨W5, p, hW, hp, b, kk⟩ := mk_int W4
   have gp : w2.heap.size ≤ p := by rw [hp]; exact BW_4.out.size
   have ne : p ≠ q := by rw [hp]; exact Nat.ne_of_gt Kq.out.lt
   rw [← hW, ← hp]
   clear hW hp
   have Kp := hid kk
   clear kk
   have RP_5 := hid (RP_4.out.keep b)
   have RQ_5 := hid (RQ_4.out.keep b)
   have Kq_5 := hid (Kq.out.keep b)
   have BW_5 := hid (bx_call BW_4.out b)
   clear RP_4 RQ_4 Kq BW_4
   have H2 := cell_bx hH b
   clear hH b
   refine hK.out _ _ ?_ (fun hH => ?_)
   exact H2
   clear hK K H2
   (try simp only [Act.put, gy0, gy1, gy2])
   have TM := hid (two_made (z1 := z3) (z2 := z4) BW_5.out gp gq ne rfl rfl Kp.out Kq_5.out RP_5.out RQ_5.out)
   obtain ⟨⟨a1, a2, a3, a4⟩, ⟨d1, d2, d3, d4⟩, ne2, O⟩ := tail_facts Kp.out Kq_5.out ne gp gq nw.out
   refine wpAnyH_ready (rs := [11]) (by kernel_rfl) (by simp) ?_
   refine AllReadyH.cons (by simp only [gx0, gx1, gx2]; rfl) (fun K hK => ?_) AllReadyH.nil
   go_simp
   refine hK.out _ _ (cell_fr (cell_fr hH O.out.1) O.out.1) (fun hH2 => ?_)
   clear hK K hH
   (try simp only [Act.put, gy0, gy1, gy2])
   refine wpAnyH_ready (rs := [12]) (by kernel_rfl) (by simp) ?_
   refine AllReadyH.cons (by simp only [gx0, gx1, gx2]; rfl) (fun K hK => ?_) AllReadyH.nil
   go_simp
   refine hK.out _ _ (cell_fr (cell_fr hH2 O.out.2) O.out.2) (fun hH => ?_)
   clear hK K hH2 a1 a2 a3 a4 d1 d2 d3 d4
   (try simp only [Act.put, gy0, gy1, gy2])
   refine wpAnyH_ready (rs := [13]) (by kernel_rfl) (by simp) ?_
   refine AllReadyH.cons (by simp only [gx0, gx1, gx2]; rfl) (fun K hK => ?_) AllReadyH.nil
   go_simp
   refine hK.out _ _ hH (fun hH2 => ?_)
   clear hK K hH
   (try simp only [Act.put, gy0, gy1, gy2])
   refine wpAnyH_done (by kernel_rfl) ?_ _
   refine NoPanic.normal ?_
   go_wp2_with fail
   go_meet
   exact ⟨p, q, AP, nP, cP, AQ, nQ, cQ, rfl, rfl, rfl, hid ⟨TM.out.1, TM.out.2⟩⟩
   exact AllReadyH.nil
   exact AllReadyH.nil
   refine AllReadyH.cons (by simp only [gx0, gx1, gx2]; rfl) (fun K hK => ?_) ?_
   go_simp
   obtain ⟨W3, p, hW, hp, b, kk⟩ := mk_int W2
   have gp : w2.heap.size ≤ p := by rw [hp]; exact BW_2.out.size
   rw [← hW, ← hp]
   clear hW hp
   have Kp := hid kk
   clear kk
   have RA_3 := hid (RA_2.out.keep b)
   have RB_3 := hid (RB.out.keep b)
   have BW_3 := hid (bx_call BW_2.out b)
   clear RA_2 RB BW_2
   have H2 := cell_bx hH b
   clear hH b
   refine hK.out _ _ ?_ (fun hH => ?_)
   exact H2
   clear hK K H2
   (try simp only [Act.put, gy0, gy1, gy2])
   refine wpAnyH_ready (rs := [4, 10]) (by kernel_rfl) (by simp) ?_
   refine AllReadyH.cons (by simp only [gx0, gx1, gx2]; rfl) (fun K hK => ?_) ?_
   go_simp
   refine (D1.out _ A1 n1 c1 A2 n2 c2 RA_3.out RB_3.out).mono ?_
   rintro e W4 ⟨AP, nP, cP, AQ, nQ, cQ, rfl, r3, r4, b⟩
   have RP := hid r3
   have RQ := hid r4
   clear r3 r4
   have RA_4 := hid (RA_3.out.keep b)
   have RB_4 := hid (RB_3.out.keep b)
   have Kp_4 := hid (Kp.out.keep b)
   have BW_4 := hid (bx_call BW_3.out b)
   clear RA_3 RB_3 Kp BW_3
   have H2 := cell_bx hH b
   clear hH b
   (try go_wp2_with fail)
   refine hK.out _ _ ?_ (fun hH => ?_)
   exact H2
   clear hK K H2
   (try simp only [Act.put, gy0, gy1, gy2])
   clear RA_4
   clear RB_4
   refine wpAnyH_take (i := 5) (v := ?_) (by simp only [gx0, gx1, gx2]; rfl) (by kernel_rfl) (by kernel_rfl) (by kernel_rfl) (fun _ _ _ h => h) (.inl ⟨by rfl, ?_⟩) hH ?_
   rotate_left
   · intro w hSw; (try dsimp only at hSw); first | (go_simp; done) | (go_simp; with_reducible rfl)
   (try simp only [Act.put, gy0, gy1, gy2])
   refine wpAnyH_take (i := 6) (v := ?_) (by simp only [gx0, gx1, gx2]; rfl) (by kernel_rfl) (by kernel_rfl) (by kernel_rfl) (fun _ _ _ h => h) (.inl ⟨by rfl, ?_⟩) hH ?_
   rotate_left
   · intro w hSw; (try dsimp only at hSw); first | (go_simp; done) | (go_simp; with_reducible rfl)
   (try simp only [Act.put, gy0, gy1, gy2])
   refine wpAnyH_take (i := 7) (v := ?_) (by simp only [gx0, gx1, gx2]; rfl) (by kernel_rfl) (by kernel_rfl) (by kernel_rfl) (fun _ _ _ h => h) (.inl ⟨by rfl, ?_⟩) hH ?_
   rotate_left
   · intro w hSw; (try dsimp only at hSw); first | (go_simp; done) | (go_simp; with_reducible rfl)
   (try simp only [Act.put, gy0, gy1, gy2])
   refine wpAnyH_take (i := 8) (v := ?_) (by simp only [gx0, gx1, gx2]; rfl) (by kernel_rfl) (by kernel_rfl) (by kernel_rfl) (fun _ _ _ h => h) (.inl ⟨by rfl, ?_⟩) hH ?_
   rotate_left
   · intro w hSw; (try dsimp only at hSw); first | (go_simp; done) | (go_simp; with_reducible rfl)
   (try simp only [Act.put, gy0, gy1, gy2])
   refine wpAnyH_ready (rs := [10]) (by kernel_rfl) (by simp) ?_
   refine AllReadyH.cons (by simp only [gx0, gx1, gx2]; rfl) (fun K hK => ?_) ?_
   go_simp
   obtain ⟨W5, q, hW, hp, b, kk⟩ := mk_int W4
   have gq : w2.heap.size ≤ q := by rw [hp]; exact BW_4.out.size
   have ne : p ≠ q := by rw [hp]; exact Nat.ne_of_lt Kp_4.out.lt
   rw [← hW, ← hp]
   clear hW hp
   have Kq := hid kk
   clear kk
   have Kp_5 := hid (Kp_4.out.keep b)
   have RP_5 := hid (RP.out.keep b)
   have RQ_5 := hid (RQ.out.keep b)
   have BW_5 := hid (bx_call BW_4.out b)
   clear Kp_4 RP RQ BW_4
   have H2 := cell_bx hH b
   clear hH b
   refine hK.out _ _ ?_ (fun hH => ?_)
   exact H2
   clear hK K H2
   (try simp only [Act.put, gy0, gy1, gy2])
   have TM := hid (two_made (z1 := z3) (z2 := z4) BW_5.out gp gq ne rfl rfl Kp_5.out Kq.out RP_5.out RQ_5.out)
   obtain ⟨⟨a1, a2, a3, a4⟩, ⟨d1, d2, d3, d4⟩, ne2, O⟩ := tail_facts Kp_5.out Kq.out ne gp gq nw.out
   refine wpAnyH_ready (rs := [11]) (by kernel_rfl) (by simp) ?_
   refine AllReadyH.cons (by simp only [gx0, gx1, gx2]; rfl) (fun K hK => ?_) AllReadyH.nil
   go_simp
   refine hK.out _ _ (cell_fr (cell_fr hH O.out.1) O.out.1) (fun hH2 => ?_)
   clear hK K hH
   (try simp only [Act.put, gy0, gy1, gy2])
   refine wpAnyH_ready (rs := [12]) (by kernel_rfl) (by simp) ?_
   refine AllReadyH.cons (by simp only [gx0, gx1, gx2]; rfl) (fun K hK => ?_) AllReadyH.nil
   go_simp
   refine hK.out _ _ (cell_fr (cell_fr hH2 O.out.2) O.out.2) (fun hH => ?_)
   clear hK K hH2 a1 a2 a3 a4 d1 d2 d3 d4
   (try simp only [Act.put, gy0, gy1, gy2])
   refine wpAnyH_ready (rs := [13]) (by kernel_rfl) (by simp) ?_
   refine AllReadyH.cons (by simp only [gx0, gx1, gx2]; rfl) (fun K hK => ?_) AllReadyH.nil
   go_simp
   refine hK.out _ _ hH (fun hH2 => ?_)
   clear hK K hH
   (try simp only [Act.put, gy0, gy1, gy2])
   refine wpAnyH_done (by kernel_rfl) ?_ _
   refine NoPanic.normal ?_
   go_wp2_with fail
   go_meet
   exact ⟨p, q, AP, nP, cP, AQ, nQ, cQ, rfl, rfl, rfl, hid ⟨TM.out.1, TM.out.2⟩⟩
   exact AllReadyH.nil
   refine AllReadyH.cons (by simp only [gx0, gx1, gx2]; rfl) (fun K hK => ?_) ?_
   go_simp
   obtain ⟨W4, q, hW, hp, b, kk⟩ := mk_int W3
   have gq : w2.heap.size ≤ q := by rw [hp]; exact BW_3.out.size
   have ne : p ≠ q := by rw [hp]; exact Nat.ne_of_lt Kp.out.lt
   rw [← hW, ← hp]
   clear hW hp
   have Kq := hid kk
   clear kk
   have RA_4 := hid (RA_3.out.keep b)
   have RB_4 := hid (RB_3.out.keep b)
   have Kp_4 := hid (Kp.out.keep b)
   have BW_4 := hid (bx_call BW_3.out b)
   clear RA_3 RB_3 Kp BW_3
   have H2 := cell_bx hH b
   clear hH b
   refine hK.out _ _ ?_ (fun hH => ?_)
   exact H2
   clear hK K H2
   (try simp only [Act.put, gy0, gy1, gy2])
   refine wpAnyH_ready (rs := [4]) (by kernel_rfl) (by simp) ?_
   refine AllReadyH.cons (by simp only [gx0, gx1, gx2]; rfl) (fun K hK => ?_) ?_
   go_simp
   refine (D1.out _ A1 n1 c1 A2 n2 c2 RA_4.out RB_4.out).mono ?_
   rintro e W5 ⟨AP, nP, cP, AQ, nQ, cQ, rfl, r3, r4, b⟩
   have RP := hid r3
   have RQ := hid r4
   clear r3 r4
   have RA_5 := hid (RA_4.out.keep b)
   have RB_5 := hid (RB_4.out.keep b)
   have Kp_5 := hid (Kp_4.out.keep b)
   have Kq_5 := hid (Kq.out.keep b)
   have BW_5 := hid (bx_call BW_4.out b)
   clear RA_4 RB_4 Kp_4 Kq BW_4
   have H2 := cell_bx hH b
   clear hH b
   (try go_wp2_with fail)
   refine hK.out _ _ ?_ (fun hH => ?_)
   exact H2
   clear hK K H2
   (try simp only [Act.put, gy0, gy1, gy2])
   clear RA_5
   clear RB_5
   refine wpAnyH_take (i := 5) (v := ?_) (by simp only [gx0, gx1, gx2]; rfl) (by kernel_rfl) (by kernel_rfl) (by kernel_rfl) (fun _ _ _ h => h) (.inl ⟨by rfl, ?_⟩) hH ?_
   rotate_left
   · intro w hSw; (try dsimp only at hSw); first | (go_simp; done) | (go_simp; with_reducible rfl)
   (try simp only [Act.put, gy0, gy1, gy2])
   refine wpAnyH_take (i := 6) (v := ?_) (by simp only [gx0, gx1, gx2]; rfl) (by kernel_rfl) (by kernel_rfl) (by kernel_rfl) (fun _ _ _ h => h) (.inl ⟨by rfl, ?_⟩) hH ?_
   rotate_left
   · intro w hSw; (try dsimp only at hSw); first | (go_simp; done) | (go_simp; with_reducible rfl)
   (try simp only [Act.put, gy0, gy1, gy2])
   refine wpAnyH_take (i := 7) (v := ?_) (by simp only [gx0, gx1, gx2]; rfl) (by kernel_rfl) (by kernel_rfl) (by kernel_rfl) (fun _ _ _ h => h) (.inl ⟨by rfl, ?_⟩) hH ?_
   rotate_left
   · intro w hSw; (try dsimp only at hSw); first | (go_simp; done) | (go_simp; with_reducible rfl)
   (try simp only [Act.put, gy0, gy1, gy2])
   refine wpAnyH_take (i := 8) (v := ?_) (by simp only [gx0, gx1, gx2]; rfl) (by kernel_rfl) (by kernel_rfl) (by kernel_rfl) (fun _ _ _ h => h) (.inl ⟨by rfl, ?_⟩) hH ?_
   rotate_left
   · intro w hSw; (try dsimp only at hSw); first | (go_simp; done) | (go_simp; with_reducible rfl)
   (try simp only [Act.put, gy0, gy1, gy2])
   have TM := hid (two_made (z1 := z3) (z2 := z4) BW_5.out gp gq ne rfl rfl Kp_5.out Kq_5.out RP.out RQ.out)
   obtain ⟨⟨a1, a2, a3, a4⟩, ⟨d1, d2, d3, d4⟩, ne2, O⟩ := tail_facts Kp_5.out Kq_5.out ne gp gq nw.out
   refine wpAnyH_ready (rs := [11]) (by kernel_rfl) (by simp) ?_
   refine AllReadyH.cons (by simp only [gx0, gx1, gx2]; rfl) (fun K hK => ?_) AllReadyH.nil
   go_simp
   refine hK.out _ _ (cell_fr (cell_fr hH O.out.1) O.out.1) (fun hH2 => ?_)
   clear hK K hH
   (try simp only [Act.put, gy0, gy1, gy2])
   refine wpAnyH_ready (rs := [12]) (by kernel_rfl) (by simp) ?_
   refine AllReadyH.cons (by simp only [gx0, gx1, gx2]; rfl) (fun K hK => ?_) AllReadyH.nil
   go_simp
   refine hK.out _ _ (cell_fr (cell_fr hH2 O.out.2) O.out.2) (fun hH => ?_)
   clear hK K hH2 a1 a2 a3 a4 d1 d2 d3 d4
   (try simp only [Act.put, gy0, gy1, gy2])
   refine wpAnyH_ready (rs := [13]) (by kernel_rfl) (by simp) ?_
   refine AllReadyH.cons (by simp only [gx0, gx1, gx2]; rfl) (fun K hK => ?_) AllReadyH.nil
   go_simp
   refine hK.out _ _ hH (fun hH2 => ?_)
   clear hK K hH
   (try simp only [Act.put, gy0, gy1, gy2])
   refine wpAnyH_done (by kernel_rfl) ?_ _
   refine NoPanic.normal ?_
   go_wp2_with fail
   go_meet
   exact ⟨p, q, AP, nP, cP, AQ, nQ, cQ, rfl, rfl, rfl, hid ⟨TM.out.1, TM.out.2⟩⟩
   exact AllReadyH.nil
   exact AllReadyH.nil
   refine AllReadyH.cons (by simp only [gx0, gx1, gx2]; rfl) (fun K hK => ?_) ?_
   go_simp
   obtain ⟨W3, q, hW, hp, b, kk⟩ := mk_int W2
   have gq : w2.heap.size ≤ q := by rw [hp]; exact BW_2.out.size
   rw [← hW, ← hp]
   clear hW hp
   have Kq := hid kk
   clear kk
   have RA_3 := hid (RA_2.out.keep b)
   have RB_3 := hid (RB.out.keep b)
   have BW_3 := hid (bx_call BW_2.out b)
   clear RA_2 RB BW_2
   have H2 := cell_bx hH b
   clear hH b
   refine hK.out _ _ ?_ (fun hH => ?_)
   exact H2
   clear hK K H2
   (try simp only [Act.put, gy0, gy1, gy2])
   refine wpAnyH_ready (rs := [4, 9]) (by kernel_rfl) (by simp) ?_
   refine AllReadyH.cons (by simp only [gx0, gx1, gx2]; rfl) (fun K hK => ?_) ?_
   go_simp
   refine (D1.out _ A1 n1 c1 A2 n2 c2 RA_3.out RB_3.out).mono ?_
   rintro e W4 ⟨AP, nP, cP, AQ, nQ, cQ, rfl, r3, r4, b⟩
   have RP := hid r3
   have RQ := hid r4
   clear r3 r4
   have RA_4 := hid (RA_3.out.keep b)
   have RB_4 := hid (RB_3.out.keep b)
   have Kq_4 := hid (Kq.out.keep b)
   have BW_4 := hid (bx_call BW_3.out b)
   clear RA_3 RB_3 Kq BW_3
   have H2 := cell_bx hH b
   clear hH b
   (try go_wp2_with fail)
   refine hK.out _ _ ?_ (fun hH => ?_)
   exact H2
   clear hK K H2
   (try simp only [Act.put, gy0, gy1, gy2])
   clear RA_4
   clear RB_4
   refine wpAnyH_take (i := 5) (v := ?_) (by simp only [gx0, gx1, gx2]; rfl) (by kernel_rfl) (by kernel_rfl) (by kernel_rfl) (fun _ _ _ h => h) (.inl ⟨by rfl, ?_⟩) hH ?_
   rotate_left
   · intro w hSw; (try dsimp only at hSw); first | (go_simp; done) | (go_simp; with_reducible rfl)
   (try simp only [Act.put, gy0, gy1, gy2])
   refine wpAnyH_take (i := 6) (v := ?_) (by simp only [gx0, gx1, gx2]; rfl) (by kernel_rfl) (by kernel_rfl) (by kernel_rfl) (fun _ _ _ h => h) (.inl ⟨by rfl, ?_⟩) hH ?_
   rotate_left
   · intro w hSw; (try dsimp only at hSw); first | (go_simp; done) | (go_simp; with_reducible rfl)
   (try simp only [Act.put, gy0, gy1, gy2])
   refine wpAnyH_take (i := 7) (v := ?_) (by simp only [gx0, gx1, gx2]; rfl) (by kernel_rfl) (by kernel_rfl) (by kernel_rfl) (fun _ _ _ h => h) (.inl ⟨by rfl, ?_⟩) hH ?_
   rotate_left
   · intro w hSw; (try dsimp only at hSw); first | (go_simp; done) | (go_simp; with_reducible rfl)
   (try simp only [Act.put, gy0, gy1, gy2])
   refine wpAnyH_take (i := 8) (v := ?_) (by simp only [gx0, gx1, gx2]; rfl) (by kernel_rfl) (by kernel_rfl) (by kernel_rfl) (fun _ _ _ h => h) (.inl ⟨by rfl, ?_⟩) hH ?_
   rotate_left
   · intro w hSw; (try dsimp only at hSw); first | (go_simp; done) | (go_simp; with_reducible rfl)
   (try simp only [Act.put, gy0, gy1, gy2])
   refine wpAnyH_ready (rs := [9]) (by kernel_rfl) (by simp) ?_
   refine AllReadyH.cons (by simp only [gx0, gx1, gx2]; rfl) (fun K hK => ?_) ?_
   go_simp
   obtain ⟨W5, p, hW, hp, b, kk⟩ := mk_int W4
   have gp : w2.heap.size ≤ p := by rw [hp]; exact BW_4.out.size
   have ne : p ≠ q := by rw [hp]; exact Nat.ne_of_gt Kq_4.out.lt
   rw [← hW, ← hp]
   clear hW hp
   have Kp := hid kk
   clear kk
   have Kq_5 := hid (Kq_4.out.keep b)
   have RP_5 := hid (RP.out.keep b)
   have RQ_5 := hid (RQ.out.keep b)
   have BW_5 := hid (bx_call BW_4.out b)
   clear Kq_4 RP RQ BW_4
   have H2 := cell_bx hH b
   clear hH b
   refine hK.out _ _ ?_ (fun hH => ?_)
   exact H2
   clear hK K H2
   (try simp only [Act.put, gy0, gy1, gy2])
   have TM := hid (two_made (z1 := z3) (z2 := z4) BW_5.out gp gq ne rfl rfl Kp.out Kq_5.out RP_5.out RQ_5.out)
   obtain ⟨⟨a1, a2, a3, a4⟩, ⟨d1, d2, d3, d4⟩, ne2, O⟩ := tail_facts Kp.out Kq_5.out ne gp gq nw.out
   refine wpAnyH_ready (rs := [11]) (by kernel_rfl) (by simp) ?_
   refine AllReadyH.cons (by simp only [gx0, gx1, gx2]; rfl) (fun K hK => ?_) AllReadyH.nil
   go_simp
   refine hK.out _ _ (cell_fr (cell_fr hH O.out.1) O.out.1) (fun hH2 => ?_)
   clear hK K hH
   (try simp only [Act.put, gy0, gy1, gy2])
   refine wpAnyH_ready (rs := [12]) (by kernel_rfl) (by simp) ?_
   refine AllReadyH.cons (by simp only [gx0, gx1, gx2]; rfl) (fun K hK => ?_) AllReadyH.nil
   go_simp
   refine hK.out _ _ (cell_fr (cell_fr hH2 O.out.2) O.out.2) (fun hH => ?_)
   clear hK K hH2 a1 a2 a3 a4 d1 d2 d3 d4
   (try simp only [Act.put, gy0, gy1, gy2])
   refine wpAnyH_ready (rs := [13]) (by kernel_rfl) (by simp) ?_
   refine AllReadyH.cons (by simp only [gx0, gx1, gx2]; rfl) (fun K hK => ?_) AllReadyH.nil
   go_simp
   refine hK.out _ _ hH (fun hH2 => ?_)
   clear hK K hH
   (try simp only [Act.put, gy0, gy1, gy2])
   refine wpAnyH_done (by kernel_rfl) ?_ _
   refine NoPanic.normal ?_
   go_wp2_with fail
   go_meet
   exact ⟨p, q, AP, nP, cP, AQ, nQ, cQ, rfl, rfl, rfl, hid ⟨TM.out.1, TM.out.2⟩⟩
   exact AllReadyH.nil
   refine AllReadyH.cons (by simp only [gx0, gx1, gx2]; rfl) (fun K hK => ?_) ?_
   go_simp
   obtain ⟨W4, p, hW, hp, b, kk⟩ := mk_int W3
   have gp : w2.heap.size ≤ p := by rw [hp]; exact BW_3.out.size
   have ne : p ≠ q := by rw [hp]; exact Nat.ne_of_gt Kq.out.lt
   rw [← hW, ← hp]
   clear hW hp
   have Kp := hid kk
   clear kk
   have RA_4 := hid (RA_3.out.keep b)
   have RB_4 := hid (RB_3.out.keep b)
   have Kq_4 := hid (Kq.out.keep b)
   have BW_4 := hid (bx_call BW_3.out b)
   clear RA_3 RB_3 Kq BW_3
   have H2 := cell_bx hH b
   clear hH b
   refine hK.out _ _ ?_ (fun hH => ?_)
   exact H2
   clear hK K H2
   (try simp only [Act.put, gy0, gy1, gy2])
   refine wpAnyH_ready (rs := [4]) (by kernel_rfl) (by simp) ?_
   refine AllReadyH.cons (by simp only [gx0, gx1, gx2]; rfl) (fun K hK => ?_) ?_
   go_simp
   refine (D1.out _ A1 n1 c1 A2 n2 c2 RA_4.out RB_4.out).mono ?_
   rintro e W5 ⟨AP, nP, cP, AQ, nQ, cQ, rfl, r3, r4, b⟩
   have RP := hid r3
   have RQ := hid r4
   clear r3 r4
   have RA_5 := hid (RA_4.out.keep b)
   have RB_5 := hid (RB_4.out.keep b)
   have Kq_5 := hid (Kq_4.out.keep b)
   have Kp_5 := hid (Kp.out.keep b)
   have BW_5 := hid (bx_call BW_4.out b)
   clear RA_4 RB_4 Kq_4 Kp BW_4
   have H2 := cell_bx hH b
   clear hH b
   (try go_wp2_with fail)
   refine hK.out _ _ ?_ (fun hH => ?_)
   exact H2
   clear hK K H2
   (try simp only [Act.put, gy0, gy1, gy2])
   clear RA_5
   clear RB_5
   refine wpAnyH_take (i := 5) (v := ?_) (by simp only [gx0, gx1, gx2]; rfl) (by kernel_rfl) (by kernel_rfl) (by kernel_rfl) (fun _ _ _ h => h) (.inl ⟨by rfl, ?_⟩) hH ?_
   rotate_left
   · intro w hSw; (try dsimp only at hSw); first | (go_simp; done) | (go_simp; with_reducible rfl)
   (try simp only [Act.put, gy0, gy1, gy2])
   refine wpAnyH_take (i := 6) (v := ?_) (by simp only [gx0, gx1, gx2]; rfl) (by kernel_rfl) (by kernel_rfl) (by kernel_rfl) (fun _ _ _ h => h) (.inl ⟨by rfl, ?_⟩) hH ?_
   rotate_left
   · intro w hSw; (try dsimp only at hSw); first | (go_simp; done) | (go_simp; with_reducible rfl)
   (try simp only [Act.put, gy0, gy1, gy2])
   refine wpAnyH_take (i := 7) (v := ?_) (by simp only [gx0, gx1, gx2]; rfl) (by kernel_rfl) (by kernel_rfl) (by kernel_rfl) (fun _ _ _ h => h) (.inl ⟨by rfl, ?_⟩) hH ?_
   rotate_left
   · intro w hSw; (try dsimp only at hSw); first | (go_simp; done) | (go_simp; with_reducible rfl)
   (try simp only [Act.put, gy0, gy1, gy2])
   refine wpAnyH_take (i := 8) (v := ?_) (by simp only [gx0, gx1, gx2]; rfl) (by kernel_rfl) (by kernel_rfl) (by kernel_rfl) (fun _ _ _ h => h) (.inl ⟨by rfl, ?_⟩) hH ?_
   rotate_left
   · intro w hSw; (try dsimp only at hSw); first | (go_simp; done) | (go_simp; with_reducible rfl)
   (try simp only [Act.put, gy0, gy1, gy2])
   have TM := hid (two_made (z1 := z3) (z2 := z4) BW_5.out gp gq ne rfl rfl Kp_5.out Kq_5.out RP.out RQ.out)
   obtain ⟨⟨a1, a2, a3, a4⟩, ⟨d1, d2, d3, d4⟩, ne2, O⟩ := tail_facts Kp_5.out Kq_5.out ne gp gq nw.out
   refine wpAnyH_ready (rs := [11]) (by kernel_rfl) (by simp) ?_
   refine AllReadyH.cons (by simp only [gx0, gx1, gx2]; rfl) (fun K hK => ?_) AllReadyH.nil
   go_simp
   refine hK.out _ _ (cell_fr (cell_fr hH O.out.1) O.out.1) (fun hH2 => ?_)
   clear hK K hH
   (try simp only [Act.put, gy0, gy1, gy2])
   refine wpAnyH_ready (rs := [12]) (by kernel_rfl) (by simp) ?_
   refine AllReadyH.cons (by simp only [gx0, gx1, gx2]; rfl) (fun K hK => ?_) AllReadyH.nil
   go_simp
   refine hK.out _ _ (cell_fr (cell_fr hH2 O.out.2) O.out.2) (fun hH => ?_)
   clear hK K hH2 a1 a2 a3 a4 d1 d2 d3 d4
   (try simp only [Act.put, gy0, gy1, gy2])
   refine wpAnyH_ready (rs := [13]) (by kernel_rfl) (by simp) ?_
   refine AllReadyH.cons (by simp only [gx0, gx1, gx2]; rfl) (fun K hK => ?_) AllReadyH.nil
   go_simp
   refine hK.out _ _ hH (fun hH2 => ?_)
   clear hK K hH
   (try simp only [Act.put, gy0, gy1, gy2])
   refine wpAnyH_done (by kernel_rfl) ?_ _
   refine NoPanic.normal ?_
   go_wp2_with fail
   go_meet
   exact ⟨p, q, AP, nP, cP, AQ, nQ, cQ, rfl, rfl, rfl, hid ⟨TM.out.1, TM.out.2⟩⟩
   exact AllReadyH.nil
   exact AllReadyH.nil
   exact AllReadyH.nil
   refine AllReadyH.cons (by simp only [gx0, gx1, gx2]; rfl) (fun K hK => ?_) ?_
   go_simp
   obtain ⟨W2, p, hW, hp, b, kk⟩ := mk_int W1
   have gp : w2.heap.size ≤ p := by rw [hp]; exact BW_1.out.size
   rw [← hW, ← hp]
   clear hW hp
   have Kp := hid kk
   clear kk
   have RA_2 := hid (RA.out.keep b)
   have BW_2 := hid (bx_call BW_1.out b)
   clear RA BW_1
   have H2 := cell_bx hH b
   clear hH b
   refine hK.out _ _ ?_ (fun hH => ?_)
   exact H2
   clear hK K H2
   (try simp only [Act.put, gy0, gy1, gy2])
   refine wpAnyH_ready (rs := [3, 10]) (by kernel_rfl) (by simp) ?_
   refine AllReadyH.cons (by simp only [gx0, gx1, gx2]; rfl) (fun K hK => ?_) ?_
   go_simp
   refine (Fb.out _).mono ?_
   rintro e W3 ⟨A2, n2, c2, rfl, r2, b⟩
   have RB := hid r2
   clear r2
   have RA_3 := hid (RA_2.out.keep b)
   have Kp_3 := hid (Kp.out.keep b)
   have BW_3 := hid (bx_call BW_2.out b)
   clear RA_2 Kp BW_2
   have H2 := cell_bx hH b
   clear hH b
   (try go_wp2_with fail)
   refine hK.out _ _ ?_ (fun hH => ?_)
   exact H2
   clear hK K H2
   (try simp only [Act.put, gy0, gy1, gy2])
   refine wpAnyH_ready (rs := [4, 10]) (by kernel_rfl) (by simp) ?_
   refine AllReadyH.cons (by simp only [gx0, gx1, gx2]; rfl) (fun K hK => ?_) ?_
   go_simp
   refine (D1.out _ A1 n1 c1 A2 n2 c2 RA_3.out RB.out).mono ?_
   rintro e W4 ⟨AP, nP, cP, AQ, nQ, cQ, rfl, r3, r4, b⟩
   have RP := hid r3
   have RQ := hid r4
   clear r3 r4
   have RA_4 := hid (RA_3.out.keep b)
   have Kp_4 := hid (Kp_3.out.keep b)
   have RB_4 := hid (RB.out.keep b)
   have BW_4 := hid (bx_call BW_3.out b)
   clear RA_3 Kp_3 RB BW_3
   have H2 := cell_bx hH b
   clear hH b
   (try go_wp2_with fail)
   refine hK.out _ _ ?_ (fun hH => ?_)
   exact H2
   clear hK K H2
   (try simp only [Act.put, gy0, gy1, gy2])
   clear RA_4
   clear RB_4
   refine wpAnyH_take (i := 5) (v := ?_) (by simp only [gx0, gx1, gx2]; rfl) (by kernel_rfl) (by kernel_rfl) (by kernel_rfl) (fun _ _ _ h => h) (.inl ⟨by rfl, ?_⟩) hH ?_
   rotate_left
   · intro w hSw; (try dsimp only at hSw); first | (go_simp; done) | (go_simp; with_reducible rfl)
   (try simp only [Act.put, gy0, gy1, gy2])
   refine wpAnyH_take (i := 6) (v := ?_) (by simp only [gx0, gx1, gx2]; rfl) (by kernel_rfl) (by kernel_rfl) (by kernel_rfl) (fun _ _ _ h => h) (.inl ⟨by rfl, ?_⟩) hH ?_
   rotate_left
   · intro w hSw; (try dsimp only at hSw); first | (go_simp; done) | (go_simp; with_reducible rfl)
   (try simp only [Act.put, gy0, gy1, gy2])
   refine wpAnyH_take (i := 7) (v := ?_) (by simp only [gx0, gx1, gx2]; rfl) (by kernel_rfl) (by kernel_rfl) (by kernel_rfl) (fun _ _ _ h => h) (.inl ⟨by rfl, ?_⟩) hH ?_
   rotate_left
   · intro w hSw; (try dsimp only at hSw); first | (go_simp; done) | (go_simp; with_reducible rfl)
   (try simp only [Act.put, gy0, gy1, gy2])
   refine wpAnyH_take (i := 8) (v := ?_) (by simp only [gx0, gx1, gx2]; rfl) (by kernel_rfl) (by kernel_rfl) (by kernel_rfl) (fun _ _ _ h => h) (.inl ⟨by rfl, ?_⟩) hH ?_
   rotate_left
   · intro w hSw; (try dsimp only at hSw); first | (go_simp; done) | (go_simp; with_reducible rfl)
   (try simp only [Act.put, gy0, gy1, gy2])
   refine wpAnyH_ready (rs := [10]) (by kernel_rfl) (by simp) ?_
   refine AllReadyH.cons (by simp only [gx0, gx1, gx2]; rfl) (fun K hK => ?_) ?_
   go_simp
   obtain ⟨W5, q, hW, hp, b, kk⟩ := mk_int W4
   have gq : w2.heap.size ≤ q := by rw [hp]; exact BW_4.out.size
   have ne : p ≠ q := by rw [hp]; exact Nat.ne_of_lt Kp_4.out.lt
   rw [← hW, ← hp]
   clear hW hp
   have Kq := hid kk
   clear kk
   have Kp_5 := hid (Kp_4.out.keep b)
   have RP_5 := hid (RP.out.keep b)
   have RQ_5 := hid (RQ.out.keep b)
   have BW_5 := hid (bx_call BW_4.out b)
   clear Kp_4 RP RQ BW_4
   have H2 := cell_bx hH b
   clear hH b
   refine hK.out _ _ ?_ (fun hH => ?_)
   exact H2
   clear hK K H2
   (try simp only [Act.put, gy0, gy1, gy2])
   have TM := hid (two_made (z1 := z3) (z2 := z4) BW_5.out gp gq ne rfl rfl Kp_5.out Kq.out RP_5.out RQ_5.out)
   obtain ⟨⟨a1, a2, a3, a4⟩, ⟨d1, d2, d3, d4⟩, ne2, O⟩ := tail_facts Kp_5.out Kq.out ne gp gq nw.out
   refine wpAnyH_ready (rs := [11]) (by kernel_rfl) (by simp) ?_
   refine AllReadyH.cons (by simp only [gx0, gx1, gx2]; rfl) (fun K hK => ?_) AllReadyH.nil
   go_simp
   refine hK.out _ _ (cell_fr (cell_fr hH O.out.1) O.out.1) (fun hH2 => ?_)
   clear hK K hH
   (try simp only [Act.put, gy0, gy1, gy2])
   refine wpAnyH_ready (rs := [12]) (by kernel_rfl) (by simp) ?_
   refine AllReadyH.cons (by simp only [gx0, gx1, gx2]; rfl) (fun K hK => ?_) AllReadyH.nil
   go_simp
   refine hK.out _ _ (cell_fr (cell_fr hH2 O.out.2) O.out.2) (fun hH => ?_)
   clear hK K hH2 a1 a2 a3 a4 d1 d2 d3 d4
   (try simp only [Act.put, gy0, gy1, gy2])
   refine wpAnyH_ready (rs := [13]) (by kernel_rfl) (by simp) ?_
   refine AllReadyH.cons (by simp only [gx0, gx1, gx2]; rfl) (fun K hK => ?_) AllReadyH.nil
   go_simp
   refine hK.out _ _ hH (fun hH2 => ?_)
   clear hK K hH
   (try simp only [Act.put, gy0, gy1, gy2])
   refine wpAnyH_done (by kernel_rfl) ?_ _
   refine NoPanic.normal ?_
   go_wp2_with fail
   go_meet
   exact ⟨p, q, AP, nP, cP, AQ, nQ, cQ, rfl, rfl, rfl, hid ⟨TM.out.1, TM.out.2⟩⟩
   exact AllReadyH.nil
   refine AllReadyH.cons (by simp only [gx0, gx1, gx2]; rfl) (fun K hK => ?_) ?_
   go_simp
   obtain ⟨W4, q, hW, hp, b, kk⟩ := mk_int W3
   have gq : w2.heap.size ≤ q := by rw [hp]; exact BW_3.out.size
   have ne : p ≠ q := by rw [hp]; exact Nat.ne_of_lt Kp_3.out.lt
   rw [← hW, ← hp]
   clear hW hp
   have Kq := hid kk
   clear kk
   have RA_4 := hid (RA_3.out.keep b)
   have Kp_4 := hid (Kp_3.out.keep b)
   have RB_4 := hid (RB.out.keep b)
   have BW_4 := hid (bx_call BW_3.out b)
   clear RA_3 Kp_3 RB BW_3
   have H2 := cell_bx hH b
   clear hH b
   refine hK.out _ _ ?_ (fun hH => ?_)
   exact H2
   clear hK K H2
   (try simp only [Act.put, gy0, gy1, gy2])
   refine wpAnyH_ready (rs := [4]) (by kernel_rfl) (by simp) ?_
   refine AllReadyH.cons (by simp only [gx0, gx1, gx2]; rfl) (fun K hK => ?_) ?_
   go_simp
   refine (D1.out _ A1 n1 c1 A2 n2 c2 RA_4.out RB_4.out).mono ?_
   rintro e W5 ⟨AP, nP, cP, AQ, nQ, cQ, rfl, r3, r4, b⟩
   have RP := hid r3
   have RQ := hid r4
   clear r3 r4
   have RA_5 := hid (RA_4.out.keep b)
   have Kp_5 := hid (Kp_4.out.keep b)
   have RB_5 := hid (RB_4.out.keep b)
   have Kq_5 := hid (Kq.out.keep b)
   have BW_5 := hid (bx_call BW_4.out b)
   clear RA_4 Kp_4 RB_4 Kq BW_4
   have H2 := cell_bx hH b
   clear hH b
   (try go_wp2_with fail)
   refine hK.out _ _ ?_ (fun hH => ?_)
   exact H2
   clear hK K H2
   (try simp only [Act.put, gy0, gy1, gy2])
   clear RA_5
   clear RB_5
   refine wpAnyH_take (i := 5) (v := ?_) (by simp only [gx0, gx1, gx2]; rfl) (by kernel_rfl) (by kernel_rfl) (by kernel_rfl) (fun _ _ _ h => h) (.inl ⟨by rfl, ?_⟩) hH ?_
   rotate_left
   · intro w hSw; (try dsimp only at hSw); first | (go_simp; done) | (go_simp; with_reducible rfl)
   (try simp only [Act.put, gy0, gy1, gy2])
   refine wpAnyH_take (i := 6) (v := ?_) (by simp only [gx0, gx1, gx2]; rfl) (by kernel_rfl) (by kernel_rfl) (by kernel_rfl) (fun _ _ _ h => h) (.inl ⟨by rfl, ?_⟩) hH ?_
   rotate_left
   · intro w hSw; (try dsimp only at hSw); first | (go_simp; done) | (go_simp; with_reducible rfl)
   (try simp only [Act.put, gy0, gy1, gy2])
   refine wpAnyH_take (i := 7) (v := ?_) (by simp only [gx0, gx1, gx2]; rfl) (by kernel_rfl) (by kernel_rfl) (by kernel_rfl) (fun _ _ _ h => h) (.inl ⟨by rfl, ?_⟩) hH ?_
   rotate_left
   · intro w hSw; (try dsimp only at hSw); first | (go_simp; done) | (go_simp; with_reducible rfl)
   (try simp only [Act.put, gy0, gy1, gy2])
   refine wpAnyH_take (i := 8) (v := ?_) (by simp only [gx0, gx1, gx2]; rfl) (by kernel_rfl) (by kernel_rfl) (by kernel_rfl) (fun _ _ _ h => h) (.inl ⟨by rfl, ?_⟩) hH ?_
   rotate_left
   · intro w hSw; (try dsimp only at hSw); first | (go_simp; done) | (go_simp; with_reducible rfl)
   (try simp only [Act.put, gy0, gy1, gy2])
   have TM := hid (two_made (z1 := z3) (z2 := z4) BW_5.out gp gq ne rfl rfl Kp_5.out Kq_5.out RP.out RQ.out)
   obtain ⟨⟨a1, a2, a3, a4⟩, ⟨d1, d2, d3, d4⟩, ne2, O⟩ := tail_facts Kp_5.out Kq_5.out ne gp gq nw.out
   refine wpAnyH_ready (rs := [11]) (by kernel_rfl) (by simp) ?_
   refine AllReadyH.cons (by simp only [gx0, gx1, gx2]; rfl) (fun K hK => ?_) AllReadyH.nil
   go_simp
   refine hK.out _ _ (cell_fr (cell_fr hH O.out.1) O.out.1) (fun hH2 => ?_)
   clear hK K hH
   (try simp only [Act.put, gy0, gy1, gy2])
   refine wpAnyH_ready (rs := [12]) (by kernel_rfl) (by simp) ?_
   refine AllReadyH.cons (by simp only [gx0, gx1, gx2]; rfl) (fun K hK => ?_) AllReadyH.nil
   go_simp
   refine hK.out _ _ (cell_fr (cell_fr hH2 O.out.2) O.out.2) (fun hH => ?_)
   clear hK K hH2 a1 a2 a3 a4 d1 d2 d3 d4
   (try simp only [Act.put, gy0, gy1, gy2])
   refine wpAnyH_ready (rs := [13]) (by kernel_rfl) (by simp) ?_
   refine AllReadyH.cons (by simp only [gx0, gx1, gx2]; rfl) (fun K hK => ?_) AllReadyH.nil
   go_simp
   refine hK.out _ _ hH (fun hH2 => ?_)
   clear hK K hH
   (try simp only [Act.put, gy0, gy1, gy2])
   refine wpAnyH_done (by kernel_rfl) ?_ _
   refine NoPanic.normal ?_
   go_wp2_with fail
   go_meet
   exact ⟨p, q, AP, nP, cP, AQ, nQ, cQ, rfl, rfl, rfl, hid ⟨TM.out.1, TM.out.2⟩⟩
   exact AllReadyH.nil
   exact AllReadyH.nil
   refine AllReadyH.cons (by simp only [gx0, gx1, gx2]; rfl) (fun K hK => ?_) ?_
   go_simp
   obtain ⟨W3, q, hW, hp, b, kk⟩ := mk_int W2
   have gq : w2.heap.size ≤ q := by rw [hp]; exact BW_2.out.size
   have ne : p ≠ q := by rw [hp]; exact Nat.ne_of_lt Kp.out.lt
   rw [← hW, ← hp]
   clear hW hp
   have Kq := hid kk
   clear kk
   have RA_3 := hid (RA_2.out.keep b)
   have Kp_3 := hid (Kp.out.keep b)
   have BW_3 := hid (bx_call BW_2.out b)
   clear RA_2 Kp BW_2
   have H2 := cell_bx hH b
   clear hH b
   refine hK.out _ _ ?_ (fun hH => ?_)
   exact H2
   clear hK K H2
   (try simp only [Act.put, gy0, gy1, gy2])
   refine wpAnyH_ready (rs := [3]) (by kernel_rfl) (by simp) ?_
   refine AllReadyH.cons (by simp only [gx0, gx1, gx2]; rfl) (fun K hK => ?_) ?_
   go_simp
   refine (Fb.out _).mono ?_
   rintro e W4 ⟨A2, n2, c2, rfl, r2, b⟩
   have RB := hid r2
   clear r2
   have RA_4 := hid (RA_3.out.keep b)
   have Kp_4 := hid (Kp_3.out.keep b)
   have Kq_4 := hid (Kq.out.keep b)
   have BW_4 := hid (bx_call BW_3.out b)
   clear RA_3 Kp_3 Kq BW_3
   have H2 := cell_bx hH b
   clear hH b
   (try go_wp2_with fail)
   refine hK.out _ _ ?_ (fun hH => ?_)
   exact H2
   clear hK K H2
   (try simp only [Act.put, gy0, gy1, gy2])
   refine wpAnyH_ready (rs := [4]) (by kernel_rfl) (by simp) ?_
   refine AllReadyH.cons (by simp only [gx0, gx1, gx2]; rfl) (fun K hK => ?_) ?_
   go_simp
   refine (D1.out _ A1 n1 c1 A2 n2 c2 RA_4.out RB.out).mono ?_
   rintro e W5 ⟨AP, nP, cP, AQ, nQ, cQ, rfl, r3, r4, b⟩
   have RP := hid r3
   have RQ := hid r4
   clear r3 r4
   have RA_5 := hid (RA_4.out.keep b)
   have Kp_5 := hid (Kp_4.out.keep b)
   have Kq_5 := hid (Kq_4.out.keep b)
   have RB_5 := hid (RB.out.keep b)
   have BW_5 := hid (bx_call BW_4.out b)
   clear RA_4 Kp_4 Kq_4 RB BW_4
   have H2 := cell_bx hH b
   clear hH b
   (try go_wp2_with fail)
   refine hK.out _ _ ?_ (fun hH => ?_)
   exact H2
   clear hK K H2
   (try simp only [Act.put, gy0, gy1, gy2])
   clear RA_5
   clear RB_5
   refine wpAnyH_take (i := 5) (v := ?_) (by simp only [gx0, gx1, gx2]; rfl) (by kernel_rfl) (by kernel_rfl) (by kernel_rfl) (fun _ _ _ h => h) (.inl ⟨by rfl, ?_⟩) hH ?_
   rotate_left
   · intro w hSw; (try dsimp only at hSw); first | (go_simp; done) | (go_simp; with_reducible rfl)
   (try simp only [Act.put, gy0, gy1, gy2])
   refine wpAnyH_take (i := 6) (v := ?_) (by simp only [gx0, gx1, gx2]; rfl) (by kernel_rfl) (by kernel_rfl) (by kernel_rfl) (fun _ _ _ h => h) (.inl ⟨by rfl, ?_⟩) hH ?_
   rotate_left
   · intro w hSw; (try dsimp only at hSw); first | (go_simp; done) | (go_simp; with_reducible rfl)
   (try simp only [Act.put, gy0, gy1, gy2])
   refine wpAnyH_take (i := 7) (v := ?_) (by simp only [gx0, gx1, gx2]; rfl) (by kernel_rfl) (by kernel_rfl) (by kernel_rfl) (fun _ _ _ h => h) (.inl ⟨by rfl, ?_⟩) hH ?_
   rotate_left
   · intro w hSw; (try dsimp only at hSw); first | (go_simp; done) | (go_simp; with_reducible rfl)
   (try simp only [Act.put, gy0, gy1, gy2])
   refine wpAnyH_take (i := 8) (v := ?_) (by simp only [gx0, gx1, gx2]; rfl) (by kernel_rfl) (by kernel_rfl) (by kernel_rfl) (fun _ _ _ h => h) (.inl ⟨by rfl, ?_⟩) hH ?_
   rotate_left
   · intro w hSw; (try dsimp only at hSw); first | (go_simp; done) | (go_simp; with_reducible rfl)
   (try simp only [Act.put, gy0, gy1, gy2])
   have TM := hid (two_made (z1 := z3) (z2 := z4) BW_5.out gp gq ne rfl rfl Kp_5.out Kq_5.out RP.out RQ.out)
   obtain ⟨⟨a1, a2, a3, a4⟩, ⟨d1, d2, d3, d4⟩, ne2, O⟩ := tail_facts Kp_5.out Kq_5.out ne gp gq nw.out
   refine wpAnyH_ready (rs := [11]) (by kernel_rfl) (by simp) ?_
   refine AllReadyH.cons (by simp only [gx0, gx1, gx2]; rfl) (fun K hK => ?_) AllReadyH.nil
   go_simp
   refine hK.out _ _ (cell_fr (cell_fr hH O.out.1) O.out.1) (fun hH2 => ?_)
   clear hK K hH
   (try simp only [Act.put, gy0, gy1, gy2])
   refine wpAnyH_ready (rs := [12]) (by kernel_rfl) (by simp) ?_
   refine AllReadyH.cons (by simp only [gx0, gx1, gx2]; rfl) (fun K hK => ?_) AllReadyH.nil
   go_simp
   refine hK.out _ _ (cell_fr (cell_fr hH2 O.out.2) O.out.2) (fun hH => ?_)
   clear hK K hH2 a1 a2 a3 a4 d1 d2 d3 d4
   (try simp only [Act.put, gy0, gy1, gy2])
   refine wpAnyH_ready (rs := [13]) (by kernel_rfl) (by simp) ?_
   refine AllReadyH.cons (by simp only [gx0, gx1, gx2]; rfl) (fun K hK => ?_) AllReadyH.nil
   go_simp
   refine hK.out _ _ hH (fun hH2 => ?_)
   clear hK K hH
   (try simp only [Act.put, gy0, gy1, gy2])
   refine wpAnyH_done (by kernel_rfl) ?_ _
   refine NoPanic.normal ?_
   go_wp2_with fail
   go_meet
   exact ⟨p, q, AP, nP, cP, AQ, nQ, cQ, rfl, rfl, rfl, hid ⟨TM.out.1, TM.out.2⟩⟩
   exact AllReadyH.nil
   exact AllReadyH.nil
   exact AllReadyH.nil
   refine AllReadyH.cons (by simp only [gx0, gx1, gx2]; rfl) (fun K hK => ?_) ?_
   go_simp
   obtain ⟨W2, q, hW, hp, b, kk⟩ := mk_int W1
   have gq : w2.heap.size ≤ q := by rw [hp]; exact BW_1.out.size
   rw [← hW, ← hp]
   clear hW hp
   have Kq := hid kk
   clear kk
   have RA_2 := hid (RA.out.keep b)
   have BW_2 := hid (bx_call BW_1.out b)
   clear RA BW_1
   have H2 := cell_bx hH b
   clear hH b
   refine hK.out _ _ ?_ (fun hH => ?_)
   exact H2
   clear hK K H2
   (try simp only [Act.put, gy0, gy1, gy2])
   refine wpAnyH_ready (rs := [3, 9]) (by kernel_rfl) (by simp) ?_
   refine AllReadyH.cons (by simp only [gx0, gx1, gx2]; rfl) (fun K hK => ?_) ?_
   go_simp
   refine (Fb.out _).mono ?_
   rintro e W3 ⟨A2, n2, c2, rfl, r2, b⟩
   have RB := hid r2
   clear r2
   have RA_3 := hid (RA_2.out.keep b)
   have Kq_3 := hid (Kq.out.keep b)
   have BW_3 := hid (bx_call BW_2.out b)
   clear RA_2 Kq BW_2
   have H2 := cell_bx hH b
   clear hH b
   (try go_wp2_with fail)
   refine hK.out _ _ ?_ (fun hH => ?_)
   exact H2
   clear hK K H2
   (try simp only [Act.put, gy0, gy1, gy2])
   refine wpAnyH_ready (rs := [4, 9]) (by kernel_rfl) (by simp) ?_
   refine AllReadyH.cons (by simp only [gx0, gx1, gx2]; rfl) (fun K hK => ?_) ?_
   go_simp
   refine (D1.out _ A1 n1 c1 A2 n2 c2 RA_3.out RB.out).mono ?_
   rintro e W4 ⟨AP, nP, cP, AQ, nQ, cQ, rfl, r3, r4, b⟩
   have RP := hid r3
   have RQ := hid r4
   clear r3 r4
   have RA_4 := hid (RA_3.out.keep b)
   have Kq_4 := hid (Kq_3.out.keep b)
   have RB_4 := hid (RB.out.keep b)
   have BW_4 := hid (bx_call BW_3.out b)
   clear RA_3 Kq_3 RB BW_3
   have H2 := cell_bx hH b
   clear hH b
   (try go_wp2_with fail)
   refine hK.out _ _ ?_ (fun hH => ?_)
   exact H2
   clear hK K H2
   (try simp only [Act.put, gy0, gy1, gy2])
   clear RA_4
   clear RB_4
   refine wpAnyH_take (i := 5) (v := ?_) (by simp only [gx0, gx1, gx2]; rfl) (by kernel_rfl) (by kernel_rfl) (by kernel_rfl) (fun _ _ _ h => h) (.inl ⟨by rfl, ?_⟩) hH ?_
   rotate_left
   · intro w hSw; (try dsimp only at hSw); first | (go_simp; done) | (go_simp; with_reducible rfl)
   (try simp only [Act.put, gy0, gy1, gy2])
   refine wpAnyH_take (i := 6) (v := ?_) (by simp only [gx0, gx1, gx2]; rfl) (by kernel_rfl) (by kernel_rfl) (by kernel_rfl) (fun _ _ _ h => h) (.inl ⟨by rfl, ?_⟩) hH ?_
   rotate_left
   · intro w hSw; (try dsimp only at hSw); first | (go_simp; done) | (go_simp; with_reducible rfl)
   (try simp only [Act.put, gy0, gy1, gy2])
   refine wpAnyH_take (i := 7) (v := ?_) (by simp only [gx0, gx1, gx2]; rfl) (by kernel_rfl) (by kernel_rfl) (by kernel_rfl) (fun _ _ _ h => h) (.inl ⟨by rfl, ?_⟩) hH ?_
   rotate_left
   · intro w hSw; (try dsimp only at hSw); first | (go_simp; done) | (go_simp; with_reducible rfl)
   (try simp only [Act.put, gy0, gy1, gy2])
   refine wpAnyH_take (i := 8) (v := ?_) (by simp only [gx0, gx1, gx2]; rfl) (by kernel_rfl) (by kernel_rfl) (by kernel_rfl) (fun _ _ _ h => h) (.inl ⟨by rfl, ?_⟩) hH ?_
   rotate_left
   · intro w hSw; (try dsimp only at hSw); first | (go_simp; done) | (go_simp; with_reducible rfl)
   (try simp only [Act.put, gy0, gy1, gy2])
   refine wpAnyH_ready (rs := [9]) (by kernel_rfl) (by simp) ?_
   refine AllReadyH.cons (by simp only [gx0, gx1, gx2]; rfl) (fun K hK => ?_) ?_
   go_simp
   obtain ⟨W5, p, hW, hp, b, kk⟩ := mk_int W4
   have gp : w2.heap.size ≤ p := by rw [hp]; exact BW_4.out.size
   have ne : p ≠ q := by rw [hp]; exact Nat.ne_of_gt Kq_4.out.lt
   rw [← hW, ← hp]
   clear hW hp
   have Kp := hid kk
   clear kk
   have Kq_5 := hid (Kq_4.out.keep b)
   have RP_5 := hid (RP.out.keep b)
   have RQ_5 := hid (RQ.out.keep b)
   have BW_5 := hid (bx_call BW_4.out b)
   clear Kq_4 RP RQ BW_4
   have H2 := cell_bx hH b
   clear hH b
   refine hK.out _ _ ?_ (fun hH => ?_)
   exact H2
   clear hK K H2
   (try simp only [Act.put, gy0, gy1, gy2])
   have TM := hid (two_made (z1 := z3) (z2 := z4) BW_5.out gp gq ne rfl rfl Kp.out Kq_5.out RP_5.out RQ_5.out)
   obtain ⟨⟨a1, a2, a3, a4⟩, ⟨d1, d2, d3, d4⟩, ne2, O⟩ := tail_facts Kp.out Kq_5.out ne gp gq nw.out
   refine wpAnyH_ready (rs := [11]) (by kernel_rfl) (by simp) ?_
   refine AllReadyH.cons (by simp only [gx0, gx1, gx2]; rfl) (fun K hK => ?_) AllReadyH.nil
   go_simp
   refine hK.out _ _ (cell_fr (cell_fr hH O.out.1) O.out.1) (fun hH2 => ?_)
   clear hK K hH
   (try simp only [Act.put, gy0, gy1, gy2])
   refine wpAnyH_ready (rs := [12]) (by kernel_rfl) (by simp) ?_
   refine AllReadyH.cons (by simp only [gx0, gx1, gx2]; rfl) (fun K hK => ?_) AllReadyH.nil
   go_simp
   refine hK.out _ _ (cell_fr (cell_fr hH2 O.out.2) O.out.2) (fun hH => ?_)
   clear hK K hH2 a1 a2 a3 a4 d1 d2 d3 d4
   (try simp only [Act.put, gy0, gy1, gy2])
   refine wpAnyH_ready (rs := [13]) (by kernel_rfl) (by simp) ?_
   refine AllReadyH.cons (by simp only [gx0, gx1, gx2]; rfl) (fun K hK => ?_) AllReadyH.nil
   go_simp
   refine hK.out _ _ hH (fun hH2 => ?_)
   clear hK K hH
   (try simp only [Act.put, gy0, gy1, gy2])
   refine wpAnyH_done (by kernel_rfl) ?_ _
   refine NoPanic.normal ?_
   go_wp2_with fail
   go_meet
   exact ⟨p, q, AP, nP, cP, AQ, nQ, cQ, rfl, rfl, rfl, hid ⟨TM.out.1, TM.out.2⟩⟩
   exact AllReadyH.nil
   refine AllReadyH.cons (by simp only [gx0, gx1, gx2]; rfl) (fun K hK => ?_) ?_
   go_simp
   obtain ⟨W4, p, hW, hp, b, kk⟩ := mk_int W3
   have gp : w2.heap.size ≤ p := by rw [hp]; exact BW_3.out.size
   have ne : p ≠ q := by rw [hp]; exact Nat.ne_of_gt Kq_3.out.lt
   rw [← hW, ← hp]
   clear hW hp
   have Kp := hid kk
   clear kk
   have RA_4 := hid (RA_3.out.keep b)
   have Kq_4 := hid (Kq_3.out.keep b)
   have RB_4 := hid (RB.out.keep b)
   have BW_4 := hid (bx_call BW_3.out b)
   clear RA_3 Kq_3 RB BW_3
   have H2 := cell_bx hH b
   clear hH b
   refine hK.out _ _ ?_ (fun hH => ?_)
   exact H2
   clear hK K H2
   (try simp only [Act.put, gy0, gy1, gy2])
   refine wpAnyH_ready (rs := [4]) (by kernel_rfl) (by simp) ?_
   refine AllReadyH.cons (by simp only [gx0, gx1, gx2]; rfl) (fun K hK => ?_) ?_
   go_simp
   refine (D1.out _ A1 n1 c1 A2 n2 c2 RA_4.out RB_4.out).mono ?_
   rintro e W5 ⟨AP, nP, cP, AQ, nQ, cQ, rfl, r3, r4, b⟩
   have RP := hid r3
   have RQ := hid r4
   clear r3 r4
   have RA_5 := hid (RA_4.out.keep b)
   have Kq_5 := hid (Kq_4.out.keep b)
   have RB_5 := hid (RB_4.out.keep b)
   have Kp_5 := hid (Kp.out.keep b)
   have BW_5 := hid (bx_call BW_4.out b)
   clear RA_4 Kq_4 RB_4 Kp BW_4
   have H2 := cell_bx hH b
   clear hH b
   (try go_wp2_with fail)
   refine hK.out _ _ ?_ (fun hH => ?_)
   exact H2
   clear hK K H2
   (try simp only [Act.put, gy0, gy1, gy2])
   clear RA_5
   clear RB_5
   refine wpAnyH_take (i := 5) (v := ?_) (by simp only [gx0, gx1, gx2]; rfl) (by kernel_rfl) (by kernel_rfl) (by kernel_rfl) (fun _ _ _ h => h) (.inl ⟨by rfl, ?_⟩) hH ?_
   rotate_left
   · intro w hSw; (try dsimp only at hSw); first | (go_simp; done) | (go_simp; with_reducible rfl)
   (try simp only [Act.put, gy0, gy1, gy2])
   refine wpAnyH_take (i := 6) (v := ?_) (by simp only [gx0, gx1, gx2]; rfl) (by kernel_rfl) (by kernel_rfl) (by kernel_rfl) (fun _ _ _ h => h) (.inl ⟨by rfl, ?_⟩) hH ?_
   rotate_left
   · intro w hSw; (try dsimp only at hSw); first | (go_simp; done) | (go_simp; with_reducible rfl)
   (try simp only [Act.put, gy0, gy1, gy2])
   refine wpAnyH_take (i := 7) (v := ?_) (by simp only [gx0, gx1, gx2]; rfl) (by kernel_rfl) (by kernel_rfl) (by kernel_rfl) (fun _ _ _ h => h) (.inl ⟨by rfl, ?_⟩) hH ?_
   rotate_left
   · intro w hSw; (try dsimp only at hSw); first | (go_simp; done) | (go_simp; with_reducible rfl)
   (try simp only [Act.put, gy0, gy1, gy2])
   refine wpAnyH_take (i := 8) (v := ?_) (by simp only [gx0, gx1, gx2]; rfl) (by kernel_rfl) (by kernel_rfl) (by kernel_rfl) (fun _ _ _ h => h) (.inl ⟨by rfl, ?_⟩) hH ?_
   rotate_left
   · intro w hSw; (try dsimp only at hSw); first | (go_simp; done) | (go_simp; with_reducible rfl)
   (try simp only [Act.put, gy0, gy1, gy2])
   have TM := hid (two_made (z1 := z3) (z2 := z4) BW_5.out gp gq ne rfl rfl Kp_5.out Kq_5.out RP.out RQ.out)
   obtain ⟨⟨a1, a2, a3, a4⟩, ⟨d1, d2, d3, d4⟩, ne2, O⟩ := tail_facts Kp_5.out Kq_5.out ne gp gq nw.out
   refine wpAnyH_ready (rs := [11]) (by kernel_rfl) (by simp) ?_
   refine AllReadyH.cons (by simp only [gx0, gx1, gx2]; rfl) (fun K hK => ?_) AllReadyH.nil
   go_simp
   refine hK.out _ _ (cell_fr (cell_fr hH O.out.1) O.out.1) (fun hH2 => ?_)
   clear hK K hH
   (try simp only [Act.put, gy0, gy1, gy2])
   refine wpAnyH_ready (rs := [12]) (by kernel_rfl) (by simp) ?_
   refine AllReadyH.cons (by simp only [gx0, gx1, gx2]; rfl) (fun K hK => ?_) AllReadyH.nil
   go_simp
   refine hK.out _ _ (cell_fr (cell_fr hH2 O.out.2) O.out.2) (fun hH => ?_)
   clear hK K hH2 a1 a2 a3 a4 d1 d2 d3 d4
   (try simp only [Act.put, gy0, gy1, gy2])
   refine wpAnyH_ready (rs := [13]) (by kernel_rfl) (by simp) ?_
   refine AllReadyH.cons (by simp only [gx0, gx1, gx2]; rfl) (fun K hK => ?_) AllReadyH.nil
   go_simp
   refine hK.out _ _ hH (fun hH2 => ?_)
   clear hK K hH
   (try simp only [Act.put, gy0, gy1, gy2])
   refine wpAnyH_done (by kernel_rfl) ?_ _
   refine NoPanic.normal ?_
   go_wp2_with fail
   go_meet
   exact ⟨p, q, AP, nP, cP, AQ, nQ, cQ, rfl, rfl, rfl, hid ⟨TM.out.1, TM.out.2⟩⟩
   exact AllReadyH.nil
   exact AllReadyH.nil
   refine AllReadyH.cons (by simp only [gx0, gx1, gx2]; rfl) (fun K hK => ?_) ?_
   go_simp
   obtain ⟨W3, p, hW, hp, b, kk⟩ := mk_int W2
   have gp : w2.heap.size ≤ p := by rw [hp]; exact BW_2.out.size
   have ne : p ≠ q := by rw [hp]; exact Nat.ne_of_gt Kq.out.lt
   rw [← hW, ← hp]
   clear hW hp
   have Kp := hid kk
   clear kk
   have RA_3 := hid (RA_2.out.keep b)
   have Kq_3 := hid (Kq.out.keep b)
   have BW_3 := hid (bx_call BW_2.out b)
   clear RA_2 Kq BW_2
   have H2 := cell_bx hH b
   clear hH b
   refine hK.out _ _ ?_ (fun hH => ?_)
   exact H2
   clear hK K H2
   (try simp only [Act.put, gy0, gy1, gy2])
   refine wpAnyH_ready (rs := [3]) (by kernel_rfl) (by simp) ?_
   refine AllReadyH.cons (by simp only [gx0, gx1, gx2]; rfl) (fun K hK => ?_) ?_
   go_simp
   refine (Fb.out _).mono ?_
   rintro e W4 ⟨A2, n2, c2, rfl, r2, b⟩
   have RB := hid r2
   clear r2
   have RA_4 := hid (RA_3.out.keep b)
   have Kq_4 := hid (Kq_3.out.keep b)
   have Kp_4 := hid (Kp.out.keep b)
   have BW_4 := hid (bx_call BW_3.out b)
   clear RA_3 Kq_3 Kp BW_3
   have H2 := cell_bx hH b
   clear hH b
   (try go_wp2_with fail)
   refine hK.out _ _ ?_ (fun hH => ?_)
   exact H2
   clear hK K H2
   (try simp only [Act.put, gy0, gy1, gy2])
   refine wpAnyH_ready (rs := [4]) (by kernel_rfl) (by simp) ?_
   refine AllReadyH.cons (by simp only [gx0, gx1, gx2]; rfl) (fun K hK => ?_) ?_
   go_simp
   refine (D1.out _ A1 n1 c1 A2 n2 c2 RA_4.out RB.out).mono ?_
   rintro e W5 ⟨AP, nP, cP, AQ, nQ, cQ, rfl, r3, r4, b⟩
   have RP := hid r3
   have RQ := hid r4
   clear r3 r4
   have RA_5 := hid (RA_4.out.keep b)
   have Kq_5 := hid (Kq_4.out.keep b)
   have Kp_5 := hid (Kp_4.out.keep b)
   have RB_5 := hid (RB.out.keep b)
   have BW_5 := hid (bx_call BW_4.out b)
   clear RA_4 Kq_4 Kp_4 RB BW_4
   have H2 := cell_bx hH b
   clear hH b
   (try go_wp2_with fail)
   refine hK.out _ _ ?_ (fun hH => ?_)
   exact H2
   clear hK K H2
   (try simp only [Act.put, gy0, gy1, gy2])
   clear RA_5
   clear RB_5
   refine wpAnyH_take (i := 5) (v := ?_) (by simp only [gx0, gx1, gx2]; rfl) (by kernel_rfl) (by kernel_rfl) (by kernel_rfl) (fun _ _ _ h => h) (.inl ⟨by rfl, ?_⟩) hH ?_
   rotate_left
   · intro w hSw; (try dsimp only at hSw); first | (go_simp; done) | (go_simp; with_reducible rfl)
   (try simp only [Act.put, gy0, gy1, gy2])
   refine wpAnyH_take (i := 6) (v := ?_) (by simp only [gx0, gx1, gx2]; rfl) (by kernel_rfl) (by kernel_rfl) (by kernel_rfl) (fun _ _ _ h => h) (.inl ⟨by rfl, ?_⟩) hH ?_
   rotate_left
   · intro w hSw; (try dsimp only at hSw); first | (go_simp; done) | (go_simp; with_reducible rfl)
   (try simp only [Act.put, gy0, gy1, gy2])
   refine wpAnyH_take (i := 7) (v := ?_) (by simp only [gx0, gx1, gx2]; rfl) (by kernel_rfl) (by kernel_rfl) (by kernel_rfl) (fun _ _ _ h => h) (.inl ⟨by rfl, ?_⟩) hH ?_
   rotate_left
   · intro w hSw; (try dsimp only at hSw); first | (go_simp; done) | (go_simp; with_reducible rfl)
   (try simp only [Act.put, gy0, gy1, gy2])
   refine wpAnyH_take (i := 8) (v := ?_) (by simp only [gx0, gx1, gx2]; rfl) (by kernel_rfl) (by kernel_rfl) (by kernel_rfl) (fun _ _ _ h => h) (.inl ⟨by rfl, ?_⟩) hH ?_
   rotate_left
   · intro w hSw; (try dsimp only at hSw); first | (go_simp; done) | (go_simp; with_reducible rfl)
   (try simp only [Act.put, gy0, gy1, gy2])
   have TM := hid (two_made (z1 := z3) (z2 := z4) BW_5.out gp gq ne rfl rfl Kp_5.out Kq_5.out RP.out RQ.out)
   obtain ⟨⟨a1, a2, a3, a4⟩, ⟨d1, d2, d3, d4⟩, ne2, O⟩ := tail_facts Kp_5.out Kq_5.out ne gp gq nw.out
   refine wpAnyH_ready (rs := [11]) (by kernel_rfl) (by simp) ?_
   refine AllReadyH.cons (by simp only [gx0, gx1, gx2]; rfl) (fun K hK => ?_) AllReadyH.nil
   go_simp
   refine hK.out _ _ (cell_fr (cell_fr hH O.out.1) O.out.1) (fun hH2 => ?_)
   clear hK K hH
   (try simp only [Act.put, gy0, gy1, gy2])
   refine wpAnyH_ready (rs := [12]) (by kernel_rfl) (by simp) ?_
   refine AllReadyH.cons (by simp only [gx0, gx1, gx2]; rfl) (fun K hK => ?_) AllReadyH.nil
   go_simp
   refine hK.out _ _ (cell_fr (cell_fr hH2 O.out.2) O.out.2) (fun hH => ?_)
   clear hK K hH2 a1 a2 a3 a4 d1 d2 d3 d4
   (try simp only [Act.put, gy0, gy1, gy2])
   refine wpAnyH_ready (rs := [13]) (by kernel_rfl) (by simp) ?_
   refine AllReadyH.cons (by simp only [gx0, gx1, gx2]; rfl) (fun K hK => ?_) AllReadyH.nil
   go_simp
   refine hK.out _ _ hH (fun hH2 => ?_)
   clear hK K hH
   (try simp only [Act.put, gy0, gy1, gy2])
   refine wpAnyH_done (by kernel_rfl) ?_ _
   refine NoPanic.normal ?_
   go_wp2_with fail
   go_meet
   exact ⟨p, q, AP, nP, cP, AQ, nQ, cQ, rfl, rfl, rfl, hid ⟨TM.out.1, TM.out.2⟩⟩
   exact AllReadyH.nil
   exact AllReadyH.nil
   exact AllReadyH.nil
   exact AllReadyH.nil
   refine AllReadyH.cons (by simp only [gx0, gx1, gx2]; rfl) (fun K hK => ?_) ?_
   go_simp
   obtain ⟨W1, p, hW, hp, b, kk⟩ := mk_int W0
   have gp : w2.heap.size ≤ p := by rw [hp]; exact BW_0.out.size
   rw [← hW, ← hp]
   clear hW hp
   have Kp := hid kk
   clear kk
   have BW_1 := hid (bx_call BW_0.out b)
   clear BW_0
   have H2 := cell_bx hH b
   clear hH b
   refine hK.out _ _ ?_ (fun hH => ?_)
   exact H2
   clear hK K H2
   (try simp only [Act.put, gy0, gy1, gy2])
   refine wpAnyH_ready (rs := [1, 10]) (by kernel_rfl) (by simp) ?_
   refine AllReadyH.cons (by simp only [gx0, gx1, gx2]; rfl) (fun K hK => ?_) ?_
   go_simp
   refine (Fa.out _).mono ?_
   rintro e W2 ⟨A1, n1, c1, rfl, r1, b⟩
   have RA := hid r1
   clear r1
   have Kp_2 := hid (Kp.out.keep b)
   have BW_2 := hid (bx_call BW_1.out b)
   clear Kp BW_1
   have H2 := cell_bx hH b
   clear hH b
   (try go_wp2_with fail)
   refine hK.out _ _ ?_ (fun hH => ?_)
   exact H2
   clear hK K H2
   (try simp only [Act.put, gy0, gy1, gy2])
   refine wpAnyH_ready (rs := [3, 10]) (by kernel_rfl) (by simp) ?_
   refine AllReadyH.cons (by simp only [gx0, gx1, gx2]; rfl) (fun K hK => ?_) ?_
   go_simp
   refine (Fb.out _).mono ?_
   rintro e W3 ⟨A2, n2, c2, rfl, r2, b⟩
   have RB := hid r2
   clear r2
   have Kp_3 := hid (Kp_2.out.keep b)
   have RA_3 := hid (RA.out.keep b)
   have BW_3 := hid (bx_call BW_2.out b)
   clear Kp_2 RA BW_2
   have H2 := cell_bx hH b
   clear hH b
   (try go_wp2_with fail)
   refine hK.out _ _ ?_ (fun hH => ?_)
   exact H2
   clear hK K H2
   (try simp only [Act.put, gy0, gy1, gy2])
   refine wpAnyH_ready (rs := [4, 10]) (by kernel_rfl) (by simp) ?_
   refine AllReadyH.cons (by simp only [gx0, gx1, gx2]; rfl) (fun K hK => ?_) ?_
   go_simp
   refine (D1.out _ A1 n1 c1 A2 n2 c2 RA_3.out RB.out).mono ?_
   rintro e W4 ⟨AP, nP, cP, AQ, nQ, cQ, rfl, r3, r4, b⟩
   have RP := hid r3
   have RQ := hid r4
   clear r3 r4
   have Kp_4 := hid (Kp_3.out.keep b)
   have RA_4 := hid (RA_3.out.keep b)
   have RB_4 := hid (RB.out.keep b)
   have BW_4 := hid (bx_call BW_3.out b)
   clear Kp_3 RA_3 RB BW_3
   have H2 := cell_bx hH b
   clear hH b
   (try go_wp2_with fail)
   refine hK.out _ _ ?_ (fun hH => ?_)
   exact H2
   clear hK K H2
   (try simp only [Act.put, gy0, gy1, gy2])
   clear RA_4
   clear RB_4
   refine wpAnyH_take (i := 5) (v := ?_) (by simp only [gx0, gx1, gx2]; rfl) (by kernel_rfl) (by kernel_rfl) (by kernel_rfl) (fun _ _ _ h => h) (.inl ⟨by rfl, ?_⟩) hH ?_
   rotate_left
   · intro w hSw; (try dsimp only at hSw); first | (go_simp; done) | (go_simp; with_reducible rfl)
   (try simp only [Act.put, gy0, gy1, gy2])
   refine wpAnyH_take (i := 6) (v := ?_) (by simp only [gx0, gx1, gx2]; rfl) (by kernel_rfl) (by kernel_rfl) (by kernel_rfl) (fun _ _ _ h => h) (.inl ⟨by rfl, ?_⟩) hH ?_
   rotate_left
   · intro w hSw; (try dsimp only at hSw); first | (go_simp; done) | (go_simp; with_reducible rfl)
   (try simp only [Act.put, gy0, gy1, gy2])
   refine wpAnyH_take (i := 7) (v := ?_) (by simp only [gx0, gx1, gx2]; rfl) (by kernel_rfl) (by kernel_rfl) (by kernel_rfl) (fun _ _ _ h => h) (.inl ⟨by rfl, ?_⟩) hH ?_
   rotate_left
   · intro w hSw; (try dsimp only at hSw); first | (go_simp; done) | (go_simp; with_reducible rfl)
   (try simp only [Act.put, gy0, gy1, gy2])
   refine wpAnyH_take (i := 8) (v := ?_) (by simp only [gx0, gx1, gx2]; rfl) (by kernel_rfl) (by kernel_rfl) (by kernel_rfl) (fun _ _ _ h => h) (.inl ⟨by rfl, ?_⟩) hH ?_
   rotate_left
   · intro w hSw; (try dsimp only at hSw); first | (go_simp; done) | (go_simp; with_reducible rfl)
   (try simp only [Act.put, gy0, gy1, gy2])
   refine wpAnyH_ready (rs := [10]) (by kernel_rfl) (by simp) ?_
   refine AllReadyH.cons (by simp only [gx0, gx1, gx2]; rfl) (fun K hK => ?_) ?_
   go_simp
   obtain ⟨W5, q, hW, hp, b, kk⟩ := mk_int W4
   have gq : w2.heap.size ≤ q := by rw [hp]; exact BW_4.out.size
   have ne : p ≠ q := by rw [hp]; exact Nat.ne_of_lt Kp_4.out.lt
   rw [← hW, ← hp]
   clear hW hp
   have Kq := hid kk
   clear kk
   have Kp_5 := hid (Kp_4.out.keep b)
   have RP_5 := hid (RP.out.keep b)
   have RQ_5 := hid (RQ.out.keep b)
   have BW_5 := hid (bx_call BW_4.out b)
   clear Kp_4 RP RQ BW_4
   have H2 := cell_bx hH b
   clear hH b
   refine hK.out _ _ ?_ (fun hH => ?_)
   exact H2
   clear hK K H2
   (try simp only [Act.put, gy0, gy1, gy2])
   have TM := hid (two_made (z1 := z3) (z2 := z4) BW_5.out gp gq ne rfl rfl Kp_5.out Kq.out RP_5.out RQ_5.out)
   obtain ⟨⟨a1, a2, a3, a4⟩, ⟨d1, d2, d3, d4⟩, ne2, O⟩ := tail_facts Kp_5.out Kq.out ne gp gq nw.out
   refine wpAnyH_ready (rs := [11]) (by kernel_rfl) (by simp) ?_
   refine AllReadyH.cons (by simp only [gx0, gx1, gx2]; rfl) (fun K hK => ?_) AllReadyH.nil
   go_simp
   refine hK.out _ _ (cell_fr (cell_fr hH O.out.1) O.out.1) (fun hH2 => ?_)
   clear hK K hH
   (try simp only [Act.put, gy0, gy1, gy2])
   refine wpAnyH_ready (rs := [12]) (by kernel_rfl) (by simp) ?_
   refine AllReadyH.cons (by simp only [gx0, gx1, gx2]; rfl) (fun K hK => ?_) AllReadyH.nil
   go_simp
   refine hK.out _ _ (cell_fr (cell_fr hH2 O.out.2) O.out.2) (fun hH => ?_)
   clear hK K hH2 a1 a2 a3 a4 d1 d2 d3 d4
   (try simp only [Act.put, gy0, gy1, gy2])
   refine wpAnyH_ready (rs := [13]) (by kernel_rfl) (by simp) ?_
   refine AllReadyH.cons (by simp only [gx0, gx1, gx2]; rfl) (fun K hK => ?_) AllReadyH.nil
   go_simp
   refine hK.out _ _ hH (fun hH2 => ?_)
   clear hK K hH
   (try simp only [Act.put, gy0, gy1, gy2])
   refine wpAnyH_done (by kernel_rfl) ?_ _
   refine NoPanic.normal ?_
   go_wp2_with fail
   go_meet
   exact ⟨p, q, AP, nP, cP, AQ, nQ, cQ, rfl, rfl, rfl, hid ⟨TM.out.1, TM.out.2⟩⟩
   exact AllReadyH.nil
   refine AllReadyH.cons (by simp only [gx0, gx1, gx2]; rfl) (fun K hK => ?_) ?_
   go_simp
   obtain ⟨W4, q, hW, hp, b, kk⟩ := mk_int W3
   have gq : w2.heap.size ≤ q := by rw [hp]; exact BW_3.out.size
   have ne : p ≠ q := by rw [hp]; exact Nat.ne_of_lt Kp_3.out.lt
   rw [← hW, ← hp]
   clear hW hp
   have Kq := hid kk
   clear kk
   have Kp_4 := hid (Kp_3.out.keep b)
   have RA_4 := hid (RA_3.out.keep b)
   have RB_4 := hid (RB.out.keep b)
   have BW_4 := hid (bx_call BW_3.out b)
   clear Kp_3 RA_3 RB BW_3
   have H2 := cell_bx hH b
   clear hH b
   refine hK.out _ _ ?_ (fun hH => ?_)
   exact H2
   clear hK K H2
   (try simp only [Act.put, gy0, gy1, gy2])
   refine wpAnyH_ready (rs := [4]) (by kernel_rfl) (by simp) ?_
   refine AllReadyH.cons (by simp only [gx0, gx1, gx2]; rfl) (fun K hK => ?_) ?_
   go_simp
   refine (D1.out _ A1 n1 c1 A2 n2 c2 RA_4.out RB_4.out).mono ?_
   rintro e W5 ⟨AP, nP, cP, AQ, nQ, cQ, rfl, r3, r4, b⟩
   have RP := hid r3
   have RQ := hid r4
   clear r3 r4
   have Kp_5 := hid (Kp_4.out.keep b)
   have RA_5 := hid (RA_4.out.keep b)
   have RB_5 := hid (RB_4.out.keep b)
   have Kq_5 := hid (Kq.out.keep b)
   have BW_5 := hid (bx_call BW_4.out b)
   clear Kp_4 RA_4 RB_4 Kq BW_4
   have H2 := cell_bx hH b
   clear hH b
   (try go_wp2_with fail)
   refine hK.out _ _ ?_ (fun hH => ?_)
   exact H2
   clear hK K H2
   (try simp only [Act.put, gy0, gy1, gy2])
   clear RA_5
   clear RB_5
   refine wpAnyH_take (i := 5) (v := ?_) (by simp only [gx0, gx1, gx2]; rfl) (by kernel_rfl) (by kernel_rfl) (by kernel_rfl) (fun _ _ _ h => h) (.inl ⟨by rfl, ?_⟩) hH ?_
   rotate_left
   · intro w hSw; (try dsimp only at hSw); first | (go_simp; done) | (go_simp; with_reducible rfl)
   (try simp only [Act.put, gy0, gy1, gy2])
   refine wpAnyH_take (i := 6) (v := ?_) (by simp only [gx0, gx1, gx2]; rfl) (by kernel_rfl) (by kernel_rfl) (by kernel_rfl) (fun _ _ _ h => h) (.inl ⟨by rfl, ?_⟩) hH ?_
   rotate_left
   · intro w hSw; (try dsimp only at hSw); first | (go_simp; done) | (go_simp; with_reducible rfl)
   (try simp only [Act.put, gy0, gy1, gy2])
   refine wpAnyH_take (i := 7) (v := ?_) (by simp only [gx0, gx1, gx2]; rfl) (by kernel_rfl) (by kernel_rfl) (by kernel_rfl) (fun _ _ _ h => h) (.inl ⟨by rfl, ?_⟩) hH ?_
   rotate_left
   · intro w hSw; (try dsimp only at hSw); first | (go_simp; done) | (go_simp; with_reducible rfl)
   (try simp only [Act.put, gy0, gy1, gy2])
   refine wpAnyH_take (i := 8) (v := ?_) (by simp only [gx0, gx1, gx2]; rfl) (by kernel_rfl) (by kernel_rfl) (by kernel_rfl) (fun _ _ _ h => h) (.inl ⟨by rfl, ?_⟩) hH ?_
   rotate_left
   · intro w hSw; (try dsimp only at hSw); first | (go_simp; done) | (go_simp; with_reducible rfl)
   (try simp only [Act.put, gy0, gy1, gy2])
   have TM := hid (two_made (z1 := z3) (z2 := z4) BW_5.out gp gq ne rfl rfl Kp_5.out Kq_5.out RP.out RQ.out)
   obtain ⟨⟨a1, a2, a3, a4⟩, ⟨d1, d2, d3, d4⟩, ne2, O⟩ := tail_facts Kp_5.out Kq_5.out ne gp gq nw.out
   refine wpAnyH_ready (rs := [11]) (by kernel_rfl) (by simp) ?_
   refine AllReadyH.cons (by simp only [gx0, gx1, gx2]; rfl) (fun K hK => ?_) AllReadyH.nil
   go_simp
   refine hK.out _ _ (cell_fr (cell_fr hH O.out.1) O.out.1) (fun hH2 => ?_)
   clear hK K hH
   (try simp only [Act.put, gy0, gy1, gy2])
   refine wpAnyH_ready (rs := [12]) (by kernel_rfl) (by simp) ?_
   refine AllReadyH.cons (by simp only [gx0, gx1, gx2]; rfl) (fun K hK => ?_) AllReadyH.nil
   go_simp
   refine hK.out _ _ (cell_fr (cell_fr hH2 O.out.2) O.out.2) (fun hH => ?_)
   clear hK K hH2 a1 a2 a3 a4 d1 d2 d3 d4
   (try simp only [Act.put, gy0, gy1, gy2])
   refine wpAnyH_ready (rs := [13]) (by kernel_rfl) (by simp) ?_
   refine AllReadyH.cons (by simp only [gx0, gx1, gx2]; rfl) (fun K hK => ?_) AllReadyH.nil
   go_simp
   refine hK.out _ _ hH (fun hH2 => ?_)
   clear hK K hH
   (try simp only [Act.put, gy0, gy1, gy2])
   refine wpAnyH_done (by kernel_rfl) ?_ _
   refine NoPanic.normal ?_
   go_wp2_with fail
   go_meet
   exact ⟨p, q, AP, nP, cP, AQ, nQ, cQ, rfl, rfl, rfl, hid ⟨TM.out.1, TM.out.2⟩⟩
   exact AllReadyH.nil
   exact AllReadyH.nil
   refine AllReadyH.cons (by simp only [gx0, gx1, gx2]; rfl) (fun K hK => ?_) ?_
   go_simp
   obtain ⟨W3, q, hW, hp, b, kk⟩ := mk_int W2
   have gq : w2.heap.size ≤ q := by rw [hp]; exact BW_2.out.size
   have ne : p ≠ q := by rw [hp]; exact Nat.ne_of_lt Kp_2.out.lt
   rw [← hW, ← hp]
   clear hW hp
   have Kq := hid kk
   clear kk
   have Kp_3 := hid (Kp_2.out.keep b)
   have RA_3 := hid (RA.out.keep b)
   have BW_3 := hid (bx_call BW_2.out b)
   clear Kp_2 RA BW_2
   have H2 := cell_bx hH b
   clear hH b
   refine hK.out _ _ ?_ (fun hH => ?_)
   exact H2
   clear hK K H2
   (try simp only [Act.put, gy0, gy1, gy2])
   refine wpAnyH_ready (rs := [3]) (by kernel_rfl) (by simp) ?_
   refine AllReadyH.cons (by simp only [gx0, gx1, gx2]; rfl) (fun K hK => ?_) ?_
   go_simp
   refine (Fb.out _).mono ?_
   rintro e W4 ⟨A2, n2, c2, rfl, r2, b⟩
   have RB := hid r2
   clear r2
   have Kp_4 := hid (Kp_3.out.keep b)
   have RA_4 := hid (RA_3.out.keep b)
   have Kq_4 := hid (Kq.out.keep b)
   have BW_4 := hid (bx_call BW_3.out b)
   clear Kp_3 RA_3 Kq BW_3
   have H2 := cell_bx hH b
   clear hH b
   (try go_wp2_with fail)
   refine hK.out _ _ ?_ (fun hH => ?_)
   exact H2
   clear hK K H2
   (try simp only [Act.put, gy0, gy1, gy2])
   refine wpAnyH_ready (rs := [4]) (by kernel_rfl) (by simp) ?_
   refine AllReadyH.cons (by simp only [gx0, gx1, gx2]; rfl) (fun K hK => ?_) ?_
   go_simp
   refine (D1.out _ A1 n1 c1 A2 n2 c2 RA_4.out RB.out).mono ?_
   rintro e W5 ⟨AP, nP, cP, AQ, nQ, cQ, rfl, r3, r4, b⟩
   have RP := hid r3
   have RQ := hid r4
   clear r3 r4
   have Kp_5 := hid (Kp_4.out.keep b)
   have RA_5 := hid (RA_4.out.keep b)
   have Kq_5 := hid (Kq_4.out.keep b)
   have RB_5 := hid (RB.out.keep b)
   have BW_5 := hid (bx_call BW_4.out b)
   clear Kp_4 RA_4 Kq_4 RB BW_4
   have H2 := cell_bx hH b
   clear hH b
   (try go_wp2_with fail)
   refine hK.out _ _ ?_ (fun hH => ?_)
   exact H2
   clear hK K H2
   (try simp only [Act.put, gy0, gy1, gy2])
   clear RA_5
   clear RB_5
   refine wpAnyH_take (i := 5) (v := ?_) (by simp only [gx0, gx1, gx2]; rfl) (by kernel_rfl) (by kernel_rfl) (by kernel_rfl) (fun _ _ _ h => h) (.inl ⟨by rfl, ?_⟩) hH ?_
   rotate_left
   · intro w hSw; (try dsimp only at hSw); first | (go_simp; done) | (go_simp; with_reducible rfl)
   (try simp only [Act.put, gy0, gy1, gy2])
   refine wpAnyH_take (i := 6) (v := ?_) (by simp only [gx0, gx1, gx2]; rfl) (by kernel_rfl) (by kernel_rfl) (by kernel_rfl) (fun _ _ _ h => h) (.inl ⟨by rfl, ?_⟩) hH ?_
   rotate_left
   · intro w hSw; (try dsimp only at hSw); first | (go_simp; done) | (go_simp; with_reducible rfl)
   (try simp only [Act.put, gy0, gy1, gy2])
   refine wpAnyH_take (i := 7) (v := ?_) (by simp only [gx0, gx1, gx2]; rfl) (by kernel_rfl) (by kernel_rfl) (by kernel_rfl) (fun _ _ _ h => h) (.inl ⟨by rfl, ?_⟩) hH ?_
   rotate_left
   · intro w hSw; (try dsimp only at hSw); first | (go_simp; done) | (go_simp; with_reducible rfl)
   (try simp only [Act.put, gy0, gy1, gy2])
   refine wpAnyH_take (i := 8) (v := ?_) (by simp only [gx0, gx1, gx2]; rfl) (by kernel_rfl) (by kernel_rfl) (by kernel_rfl) (fun _ _ _ h => h) (.inl ⟨by rfl, ?_⟩) hH ?_
   rotate_left
   · intro w hSw; (try dsimp only at hSw); first | (go_simp; done) | (go_simp; with_reducible rfl)
   (try simp only [Act.put, gy0, gy1, gy2])
   have TM := hid (two_made (z1 := z3) (z2 := z4) BW_5.out gp gq ne rfl rfl Kp_5.out Kq_5.out RP.out RQ.out)
   obtain ⟨⟨a1, a2, a3, a4⟩, ⟨d1, d2, d3, d4⟩, ne2, O⟩ := tail_facts Kp_5.out Kq_5.out ne gp gq nw.out
   refine wpAnyH_ready (rs := [11]) (by kernel_rfl) (by simp) ?_
   refine AllReadyH.cons (by simp only [gx0, gx1, gx2]; rfl) (fun K hK => ?_) AllReadyH.nil
   go_simp
   refine hK.out _ _ (cell_fr (cell_fr hH O.out.1) O.out.1) (fun hH2 => ?_)
   clear hK K hH
   (try simp only [Act.put, gy0, gy1, gy2])
   refine wpAnyH_ready (rs := [12]) (by kernel_rfl) (by simp) ?_
   refine AllReadyH.cons (by simp only [gx0, gx1, gx2]; rfl) (fun K hK => ?_) AllReadyH.nil
   go_simp
   refine hK.out _ _ (cell_fr (cell_fr hH2 O.out.2) O.out.2) (fun hH => ?_)
   clear hK K hH2 a1 a2 a3 a4 d1 d2 d3 d4
   (try simp only [Act.put, gy0, gy1, gy2])
   refine wpAnyH_ready (rs := [13]) (by kernel_rfl) (by simp) ?_
   refine AllReadyH.cons (by simp only [gx0, gx1, gx2]; rfl) (fun K hK => ?_) AllReadyH.nil
   go_simp
   refine hK.out _ _ hH (fun hH2 => ?_)
   clear hK K hH
   (try simp only [Act.put, gy0, gy1, gy2])
   refine wpAnyH_done (by kernel_rfl) ?_ _
   refine NoPanic.normal ?_
   go_wp2_with fail
   go_meet
   exact ⟨p, q, AP, nP, cP, AQ, nQ, cQ, rfl, rfl, rfl, hid ⟨TM.out.1, TM.out.2⟩⟩
   exact AllReadyH.nil
   exact AllReadyH.nil
   exact AllReadyH.nil
   refine AllReadyH.cons (by simp only [gx0, gx1, gx2]; rfl) (fun K hK => ?_) ?_
   go_simp
   obtain ⟨W2, q, hW, hp, b, kk⟩ := mk_int W1
   have gq : w2.heap.size ≤ q := by rw [hp]; exact BW_1.out.size
   have ne : p ≠ q := by rw [hp]; exact Nat.ne_of_lt Kp.out.lt
   rw [← hW, ← hp]
   clear hW hp
   have Kq := hid kk
   clear kk
   have Kp_2 := hid (Kp.out.keep b)
   have BW_2 := hid (bx_call BW_1.out b)
   clear Kp BW_1
   have H2 := cell_bx hH b
   clear hH b
   refine hK.out _ _ ?_ (fun hH => ?_)
   exact H2
   clear hK K H2
   (try simp only [Act.put, gy0, gy1, gy2])
   refine wpAnyH_ready (rs := [1]) (by kernel_rfl) (by simp) ?_
   refine AllReadyH.cons (by simp only [gx0, gx1, gx2]; rfl) (fun K hK => ?_) ?_
   go_simp
   refine (Fa.out _).mono ?_
   rintro e W3 ⟨A1, n1, c1, rfl, r1, b⟩
   have RA := hid r1
   clear r1
   have Kp_3 := hid (Kp_2.out.keep b)
   have Kq_3 := hid (Kq.out.keep b)
   have BW_3 := hid (bx_call BW_2.out b)
   clear Kp_2 Kq BW_2
   have H2 := cell_bx hH b
   clear hH b
   (try go_wp2_with fail)
   refine hK.out _ _ ?_ (fun hH => ?_)
   exact H2
   clear hK K H2
   (try simp only [Act.put, gy0, gy1, gy2])
   refine wpAnyH_ready (rs := [3]) (by kernel_rfl) (by simp) ?_
   refine AllReadyH.cons (by simp only [gx0, gx1, gx2]; rfl) (fun K hK => ?_) ?_
   go_simp
   refine (Fb.out _).mono ?_
   rintro e W4 ⟨A2, n2, c2, rfl, r2, b⟩
   have RB := hid r2
   clear r2
   have Kp_4 := hid (Kp_3.out.keep b)
   have Kq_4 := hid (Kq_3.out.keep b)
   have RA_4 := hid (RA.out.keep b)
   have BW_4 := hid (bx_call BW_3.out b)
   clear Kp_3 Kq_3 RA BW_3
   have H2 := cell_bx hH b
   clear hH b
   (try go_wp2_with fail)
   refine hK.out _ _ ?_ (fun hH => ?_)
   exact H2
   clear hK K H2
   (try simp only [Act.put, gy0, gy1, gy2])
   refine wpAnyH_ready (rs := [4]) (by kernel_rfl) (by simp) ?_
   refine AllReadyH.cons (by simp only [gx0, gx1, gx2]; rfl) (fun K hK => ?_) ?_
   go_simp
   refine (D1.out _ A1 n1 c1 A2 n2 c2 RA_4.out RB.out).mono ?_
   rintro e W5 ⟨AP, nP, cP, AQ, nQ, cQ, rfl, r3, r4, b⟩
   have RP := hid r3
   have RQ := hid r4
   clear r3 r4
   have Kp_5 := hid (Kp_4.out.keep b)
   have Kq_5 := hid (Kq_4.out.keep b)
   have RA_5 := hid (RA_4.out.keep b)
   have RB_5 := hid (RB.out.keep b)
   have BW_5 := hid (bx_call BW_4.out b)
   clear Kp_4 Kq_4 RA_4 RB BW_4
   have H2 := cell_bx hH b
   clear hH b
   (try go_wp2_with fail)
   refine hK.out _ _ ?_ (fun hH => ?_)
   exact H2
   clear hK K H2
   (try simp only [Act.put, gy0, gy1, gy2])
   clear RA_5
   clear RB_5
   refine wpAnyH_take (i := 5) (v := ?_) (by simp only [gx0, gx1, gx2]; rfl) (by kernel_rfl) (by kernel_rfl) (by kernel_rfl) (fun _ _ _ h => h) (.inl ⟨by rfl, ?_⟩) hH ?_
   rotate_left
   · intro w hSw; (try dsimp only at hSw); first | (go_simp; done) | (go_simp; with_reducible rfl)
   (try simp only [Act.put, gy0, gy1, gy2])
   refine wpAnyH_take (i := 6) (v := ?_) (by simp only [gx0, gx1, gx2]; rfl) (by kernel_rfl) (by kernel_rfl) (by kernel_rfl) (fun _ _ _ h => h) (.inl ⟨by rfl, ?_⟩) hH ?_
   rotate_left
   · intro w hSw; (try dsimp only at hSw); first | (go_simp; done) | (go_simp; with_reducible rfl)
   (try simp only [Act.put, gy0, gy1, gy2])
   refine wpAnyH_take (i := 7) (v := ?_) (by simp only [gx0, gx1, gx2]; rfl) (by kernel_rfl) (by kernel_rfl) (by kernel_rfl) (fun _ _ _ h => h) (.inl ⟨by rfl, ?_⟩) hH ?_
   rotate_left
   · intro w hSw; (try dsimp only at hSw); first | (go_simp; done) | (go_simp; with_reducible rfl)
   (try simp only [Act.put, gy0, gy1, gy2])
   refine wpAnyH_take (i := 8) (v := ?_) (by simp only [gx0, gx1, gx2]; rfl) (by kernel_rfl) (by kernel_rfl) (by kernel_rfl) (fun _ _ _ h => h) (.inl ⟨by rfl, ?_⟩) hH ?_
   rotate_left
   · intro w hSw; (try dsimp only at hSw); first | (go_simp; done) | (go_simp; with_reducible rfl)
   (try simp only [Act.put, gy0, gy1, gy2])
   have TM := hid (two_made (z1 := z3) (z2 := z4) BW_5.out gp gq ne rfl rfl Kp_5.out Kq_5.out RP.out RQ.out)
   obtain ⟨⟨a1, a2, a3, a4⟩, ⟨d1, d2, d3, d4⟩, ne2, O⟩ := tail_facts Kp_5.out Kq_5.out ne gp gq nw.out
   refine wpAnyH_ready (rs := [11]) (by kernel_rfl) (by simp) ?_
   refine AllReadyH.cons (by simp only [gx0, gx1, gx2]; rfl) (fun K hK => ?_) AllReadyH.nil
   go_simp
   refine hK.out _ _ (cell_fr (cell_fr hH O.out.1) O.out.1) (fun hH2 => ?_)
   clear hK K hH
   (try simp only [Act.put, gy0, gy1, gy2])
   refine wpAnyH_ready (rs := [12]) (by kernel_rfl) (by simp) ?_
   refine AllReadyH.cons (by simp only [gx0, gx1, gx2]; rfl) (fun K hK => ?_) AllReadyH.nil
   go_simp
   refine hK.out _ _ (cell_fr (cell_fr hH2 O.out.2) O.out.2) (fun hH => ?_)
   clear hK K hH2 a1 a2 a3 a4 d1 d2 d3 d4
   (try simp only [Act.put, gy0, gy1, gy2])
   refine wpAnyH_ready (rs := [13]) (by kernel_rfl) (by simp) ?_
   refine AllReadyH.cons (by simp only [gx0, gx1, gx2]; rfl) (fun K hK => ?_) AllReadyH.nil
   go_simp
   refine hK.out _ _ hH (fun hH2 => ?_)
   clear hK K hH
   (try simp only [Act.put, gy0, gy1, gy2])
   refine wpAnyH_done (by kernel_rfl) ?_ _
   refine NoPanic.normal ?_
   go_wp2_with fail
   go_meet
   exact ⟨p, q, AP, nP, cP, AQ, nQ, cQ, rfl, rfl, rfl, hid ⟨TM.out.1, TM.out.2⟩⟩
   exact AllReadyH.nil
   exact AllReadyH.nil
   exact AllReadyH.nil
   exact AllReadyH.nil
   refine AllReadyH.cons (by simp only [gx0, gx1, gx2]; rfl) (fun K hK => ?_) ?_
   go_simp
   obtain ⟨W1, q, hW, hp, b, kk⟩ := mk_int W0
   have gq : w2.heap.size ≤ q := by rw [hp]; exact BW_0.out.size
   rw [← hW, ← hp]
   clear hW hp
   have Kq := hid kk
   clear kk
   have BW_1 := hid (bx_call BW_0.out b)
   clear BW_0
   have H2 := cell_bx hH b
   clear hH b
   refine hK.out _ _ ?_ (fun hH => ?_)
   exact H2
   clear hK K H2
   (try simp only [Act.put, gy0, gy1, gy2])
   refine wpAnyH_ready (rs := [1, 9]) (by kernel_rfl) (by simp) ?_
   refine AllReadyH.cons (by simp only [gx0, gx1, gx2]; rfl) (fun K hK => ?_) ?_
   go_simp
   refine (Fa.out _).mono ?_
   rintro e W2 ⟨A1, n1, c1, rfl, r1, b⟩
   have RA := hid r1
   clear r1
   have Kq_2 := hid (Kq.out.keep b)
   have BW_2 := hid (bx_call BW_1.out b)
   clear Kq BW_1
   have H2 := cell_bx hH b
   clear hH b
   (try go_wp2_with fail)
   refine hK.out _ _ ?_ (fun hH => ?_)
   exact H2
   clear hK K H2
   (try simp only [Act.put, gy0, gy1, gy2])
   refine wpAnyH_ready (rs := [3, 9]) (by kernel_rfl) (by simp) ?_
   refine AllReadyH.cons (by simp only [gx0, gx1, gx2]; rfl) (fun K hK => ?_) ?_
   go_simp
   refine (Fb.out _).mono ?_
   rintro e W3 ⟨A2, n2, c2, rfl, r2, b⟩
   have RB := hid r2
   clear r2
   have Kq_3 := hid (Kq_2.out.keep b)
   have RA_3 := hid (RA.out.keep b)
   have BW_3 := hid (bx_call BW_2.out b)
   clear Kq_2 RA BW_2
   have H2 := cell_bx hH b
   clear hH b
   (try go_wp2_with fail)
   refine hK.out _ _ ?_ (fun hH => ?_)
   exact H2
   clear hK K H2
   (try simp only [Act.put, gy0, gy1, gy2])
   refine wpAnyH_ready (rs := [4, 9]) (by kernel_rfl) (by simp) ?_
   refine AllReadyH.cons (by simp only [gx0, gx1, gx2]; rfl) (fun K hK => ?_) ?_
   go_simp
   refine (D1.out _ A1 n1 c1 A2 n2 c2 RA_3.out RB.out).mono ?_
   rintro e W4 ⟨AP, nP, cP, AQ, nQ, cQ, rfl, r3, r4, b⟩
   have RP := hid r3
   have RQ := hid r4
   clear r3 r4
   have Kq_4 := hid (Kq_3.out.keep b)
   have RA_4 := hid (RA_3.out.keep b)
   have RB_4 := hid (RB.out.keep b)
   have BW_4 := hid (bx_call BW_3.out b)
   clear Kq_3 RA_3 RB BW_3
   have H2 := cell_bx hH b
   clear hH b
   (try go_wp2_with fail)
   refine hK.out _ _ ?_ (fun hH => ?_)
   exact H2
   clear hK K H2
   (try simp only [Act.put, gy0, gy1, gy2])
   clear RA_4
   clear RB_4
   refine wpAnyH_take (i := 5) (v := ?_) (by simp only [gx0, gx1, gx2]; rfl) (by kernel_rfl) (by kernel_rfl) (by kernel_rfl) (fun _ _ _ h => h) (.inl ⟨by rfl, ?_⟩) hH ?_
   rotate_left
   · intro w hSw; (try dsimp only at hSw); first | (go_simp; done) | (go_simp; with_reducible rfl)
   (try simp only [Act.put, gy0, gy1, gy2])
   refine wpAnyH_take (i := 6) (v := ?_) (by simp only [gx0, gx1, gx2]; rfl) (by kernel_rfl) (by kernel_rfl) (by kernel_rfl) (fun _ _ _ h => h) (.inl ⟨by rfl, ?_⟩) hH ?_
   rotate_left
   · intro w hSw; (try dsimp only at hSw); first | (go_simp; done) | (go_simp; with_reducible rfl)
   (try simp only [Act.put, gy0, gy1, gy2])
   refine wpAnyH_take (i := 7) (v := ?_) (by simp only [gx0, gx1, gx2]; rfl) (by kernel_rfl) (by kernel_rfl) (by kernel_rfl) (fun _ _ _ h => h) (.inl ⟨by rfl, ?_⟩) hH ?_
   rotate_left
   · intro w hSw; (try dsimp only at hSw); first | (go_simp; done) | (go_simp; with_reducible rfl)
   (try simp only [Act.put, gy0, gy1, gy2])
   refine wpAnyH_take (i := 8) (v := ?_) (by simp only [gx0, gx1, gx2]; rfl) (by kernel_rfl) (by kernel_rfl) (by kernel_rfl) (fun _ _ _ h => h) (.inl ⟨by rfl, ?_⟩) hH ?_
   rotate_left
   · intro w hSw; (try dsimp only at hSw); first | (go_simp; done) | (go_simp; with_reducible rfl)
   (try simp only [Act.put, gy0, gy1, gy2])
   refine wpAnyH_ready (rs := [9]) (by kernel_rfl) (by simp) ?_
   refine AllReadyH.cons (by simp only [gx0, gx1, gx2]; rfl) (fun K hK => ?_) ?_
   go_simp
   obtain ⟨W5, p, hW, hp, b, kk⟩ := mk_int W4
   have gp : w2.heap.size ≤ p := by rw [hp]; exact BW_4.out.size
   have ne : p ≠ q := by rw [hp]; exact Nat.ne_of_gt Kq_4.out.lt
   rw [← hW, ← hp]
   clear hW hp
   have Kp := hid kk
   clear kk
   have Kq_5 := hid (Kq_4.out.keep b)
   have RP_5 := hid (RP.out.keep b)
   have RQ_5 := hid (RQ.out.keep b)
   have BW_5 := hid (bx_call BW_4.out b)
   clear Kq_4 RP RQ BW_4
   have H2 := cell_bx hH b
   clear hH b
   refine hK.out _ _ ?_ (fun hH => ?_)
   exact H2
   clear hK K H2
   (try simp only [Act.put, gy0, gy1, gy2])
   have TM := hid (two_made (z1 := z3) (z2 := z4) BW_5.out gp gq ne rfl rfl Kp.out Kq_5.out RP_5.out RQ_5.out)
   obtain ⟨⟨a1, a2, a3, a4⟩, ⟨d1, d2, d3, d4⟩, ne2, O⟩ := tail_facts Kp.out Kq_5.out ne gp gq nw.out
   refine wpAnyH_ready (rs := [11]) (by kernel_rfl) (by simp) ?_
   refine AllReadyH.cons (by simp only [gx0, gx1, gx2]; rfl) (fun K hK => ?_) AllReadyH.nil
   go_simp
   refine hK.out _ _ (cell_fr (cell_fr hH O.out.1) O.out.1) (fun hH2 => ?_)
   clear hK K hH
   (try simp only [Act.put, gy0, gy1, gy2])
   refine wpAnyH_ready (rs := [12]) (by kernel_rfl) (by simp) ?_
   refine AllReadyH.cons (by simp only [gx0, gx1, gx2]; rfl) (fun K hK => ?_) AllReadyH.nil
   go_simp
   refine hK.out _ _ (cell_fr (cell_fr hH2 O.out.2) O.out.2) (fun hH => ?_)
   clear hK K hH2 a1 a2 a3 a4 d1 d2 d3 d4
   (try simp only [Act.put, gy0, gy1, gy2])
   refine wpAnyH_ready (rs := [13]) (by kernel_rfl) (by simp) ?_
   refine AllReadyH.cons (by simp only [gx0, gx1, gx2]; rfl) (fun K hK => ?_) AllReadyH.nil
   go_simp
   refine hK.out _ _ hH (fun hH2 => ?_)
   clear hK K hH
   (try simp only [Act.put, gy0, gy1, gy2])
   refine wpAnyH_done (by kernel_rfl) ?_ _
   refine NoPanic.normal ?_
   go_wp2_with fail
   go_meet
   exact ⟨p, q, AP, nP, cP, AQ, nQ, cQ, rfl, rfl, rfl, hid ⟨TM.out.1, TM.out.2⟩⟩
   exact AllReadyH.nil
   refine AllReadyH.cons (by simp only [gx0, gx1, gx2]; rfl) (fun K hK => ?_) ?_
   go_simp
   obtain ⟨W4, p, hW, hp, b, kk⟩ := mk_int W3
   have gp : w2.heap.size ≤ p := by rw [hp]; exact BW_3.out.size
   have ne : p ≠ q := by rw [hp]; exact Nat.ne_of_gt Kq_3.out.lt
   rw [← hW, ← hp]
   clear hW hp
   have Kp := hid kk
   clear kk
   have Kq_4 := hid (Kq_3.out.keep b)
   have RA_4 := hid (RA_3.out.keep b)
   have RB_4 := hid (RB.out.keep b)
   have BW_4 := hid (bx_call BW_3.out b)
   clear Kq_3 RA_3 RB BW_3
   have H2 := cell_bx hH b
   clear hH b
   refine hK.out _ _ ?_ (fun hH => ?_)
   exact H2
   clear hK K H2
   (try simp only [Act.put, gy0, gy1, gy2])
   refine wpAnyH_ready (rs := [4]) (by kernel_rfl) (by simp) ?_
   refine AllReadyH.cons (by simp only [gx0, gx1, gx2]; rfl) (fun K hK => ?_) ?_
   go_simp
   refine (D1.out _ A1 n1 c1 A2 n2 c2 RA_4.out RB_4.out).mono ?_
   rintro e W5 ⟨AP, nP, cP, AQ, nQ, cQ, rfl, r3, r4, b⟩
   have RP := hid r3
   have RQ := hid r4
   clear r3 r4
   have Kq_5 := hid (Kq_4.out.keep b)
   have RA_5 := hid (RA_4.out.keep b)
   have RB_5 := hid (RB_4.out.keep b)
   have Kp_5 := hid (Kp.out.keep b)
   have BW_5 := hid (bx_call BW_4.out b)
   clear Kq_4 RA_4 RB_4 Kp BW_4
   have H2 := cell_bx hH b
   clear hH b
   (try go_wp2_with fail)
   refine hK.out _ _ ?_ (fun hH => ?_)
   exact H2
   clear hK K H2
   (try simp only [Act.put, gy0, gy1, gy2])
   clear RA_5
   clear RB_5
   refine wpAnyH_take (i := 5) (v := ?_) (by simp only [gx0, gx1, gx2]; rfl) (by kernel_rfl) (by kernel_rfl) (by kernel_rfl) (fun _ _ _ h => h) (.inl ⟨by rfl, ?_⟩) hH ?_
   rotate_left
   · intro w hSw; (try dsimp only at hSw); first | (go_simp; done) | (go_simp; with_reducible rfl)
   (try simp only [Act.put, gy0, gy1, gy2])
   refine wpAnyH_take (i := 6) (v := ?_) (by simp only [gx0, gx1, gx2]; rfl) (by kernel_rfl) (by kernel_rfl) (by kernel_rfl) (fun _ _ _ h => h) (.inl ⟨by rfl, ?_⟩) hH ?_
   rotate_left
   · intro w hSw; (try dsimp only at hSw); first | (go_simp; done) | (go_simp; with_reducible rfl)
   (try simp only [Act.put, gy0, gy1, gy2])
   refine wpAnyH_take (i := 7) (v := ?_) (by simp only [gx0, gx1, gx2]; rfl) (by kernel_rfl) (by kernel_rfl) (by kernel_rfl) (fun _ _ _ h => h) (.inl ⟨by rfl, ?_⟩) hH ?_
   rotate_left
   · intro w hSw; (try dsimp only at hSw); first | (go_simp; done) | (go_simp; with_reducible rfl)
   (try simp only [Act.put, gy0, gy1, gy2])
   refine wpAnyH_take (i := 8) (v := ?_) (by simp only [gx0, gx1, gx2]; rfl) (by kernel_rfl) (by kernel_rfl) (by kernel_rfl) (fun _ _ _ h => h) (.inl ⟨by rfl, ?_⟩) hH ?_
   rotate_left
   · intro w hSw; (try dsimp only at hSw); first | (go_simp; done) | (go_simp; with_reducible rfl)
   (try simp only [Act.put, gy0, gy1, gy2])
   have TM := hid (two_made (z1 := z3) (z2 := z4) BW_5.out gp gq ne rfl rfl Kp_5.out Kq_5.out RP.out RQ.out)
   obtain ⟨⟨a1, a2, a3, a4⟩, ⟨d1, d2, d3, d4⟩, ne2, O⟩ := tail_facts Kp_5.out Kq_5.out ne gp gq nw.out
   refine wpAnyH_ready (rs := [11]) (by kernel_rfl) (by simp) ?_
   refine AllReadyH.cons (by simp only [gx0, gx1, gx2]; rfl) (fun K hK => ?_) AllReadyH.nil
   go_simp
   refine hK.out _ _ (cell_fr (cell_fr hH O.out.1) O.out.1) (fun hH2 => ?_)
   clear hK K hH
   (try simp only [Act.put, gy0, gy1, gy2])
   refine wpAnyH_ready (rs := [12]) (by kernel_rfl) (by simp) ?_
   refine AllReadyH.cons (by simp only [gx0, gx1, gx2]; rfl) (fun K hK => ?_) AllReadyH.nil
   go_simp
   refine hK.out _ _ (cell_fr (cell_fr hH2 O.out.2) O.out.2) (fun hH => ?_)
   clear hK K hH2 a1 a2 a3 a4 d1 d2 d3 d4
   (try simp only [Act.put, gy0, gy1, gy2])
   refine wpAnyH_ready (rs := [13]) (by kernel_rfl) (by simp) ?_
   refine AllReadyH.cons (by simp only [gx0, gx1, gx2]; rfl) (fun K hK => ?_) AllReadyH.nil
   go_simp
   refine hK.out _ _ hH (fun hH2 => ?_)
   clear hK K hH
   (try simp only [Act.put, gy0, gy1, gy2])
   refine wpAnyH_done (by kernel_rfl) ?_ _
   refine NoPanic.normal ?_
   go_wp2_with fail
   go_meet
   exact ⟨p, q, AP, nP, cP, AQ, nQ, cQ, rfl, rfl, rfl, hid ⟨TM.out.1, TM.out.2⟩⟩
   exact AllReadyH.nil
   exact AllReadyH.nil
   refine AllReadyH.cons (by simp only [gx0, gx1, gx2]; rfl) (fun K hK => ?_) ?_
   go_simp
   obtain ⟨W3, p, hW, hp, b, kk⟩ := mk_int W2
   have gp : w2.heap.size ≤ p := by rw [hp]; exact BW_2.out.size
   have ne : p ≠ q := by rw [hp]; exact Nat.ne_of_gt Kq_2.out.lt
   rw [← hW, ← hp]
   clear hW hp
   have Kp := hid kk
   clear kk
   have Kq_3 := hid (Kq_2.out.keep b)
   have RA_3 := hid (RA.out.keep b)
   have BW_3 := hid (bx_call BW_2.out b)
   clear Kq_2 RA BW_2
   have H2 := cell_bx hH b
   clear hH b
   refine hK.out _ _ ?_ (fun hH => ?_)
   exact H2
   clear hK K H2
   (try simp only [Act.put, gy0, gy1, gy2])
   refine wpAnyH_ready (rs := [3]) (by kernel_rfl) (by simp) ?_
   refine AllReadyH.cons (by simp only [gx0, gx1, gx2]; rfl) (fun K hK => ?_) ?_
   go_simp
   refine (Fb.out _).mono ?_
   rintro e W4 ⟨A2, n2, c2, rfl, r2, b⟩
   have RB := hid r2
   clear r2
   have Kq_4 := hid (Kq_3.out.keep b)
   have RA_4 := hid (RA_3.out.keep b)
   have Kp_4 := hid (Kp.out.keep b)
   have BW_4 := hid (bx_call BW_3.out b)
   clear Kq_3 RA_3 Kp BW_3
   have H2 := cell_bx hH b
   clear hH b
   (try go_wp2_with fail)
   refine hK.out _ _ ?_ (fun hH => ?_)
   exact H2
   clear hK K H2
   (try simp only [Act.put, gy0, gy1, gy2])
   refine wpAnyH_ready (rs := [4]) (by kernel_rfl) (by simp) ?_
   refine AllReadyH.cons (by simp only [gx0, gx1, gx2]; rfl) (fun K hK => ?_) ?_
   go_simp
   refine (D1.out _ A1 n1 c1 A2 n2 c2 RA_4.out RB.out).mono ?_
   rintro e W5 ⟨AP, nP, cP, AQ, nQ, cQ, rfl, r3, r4, b⟩
   have RP := hid r3
   have RQ := hid r4
   clear r3 r4
   have Kq_5 := hid (Kq_4.out.keep b)
   have RA_5 := hid (RA_4.out.keep b)
   have Kp_5 := hid (Kp_4.out.keep b)
   have RB_5 := hid (RB.out.keep b)
   have BW_5 := hid (bx_call BW_4.out b)
   clear Kq_4 RA_4 Kp_4 RB BW_4
   have H2 := cell_bx hH b
   clear hH b
   (try go_wp2_with fail)
   refine hK.out _ _ ?_ (fun hH => ?_)
   exact H2
   clear hK K H2
   (try simp only [Act.put, gy0, gy1, gy2])
   clear RA_5
   clear RB_5
   refine wpAnyH_take (i := 5) (v := ?_) (by simp only [gx0, gx1, gx2]; rfl) (by kernel_rfl) (by kernel_rfl) (by kernel_rfl) (fun _ _ _ h => h) (.inl ⟨by rfl, ?_⟩) hH ?_
   rotate_left
   · intro w hSw; (try dsimp only at hSw); first | (go_simp; done) | (go_simp; with_reducible rfl)
   (try simp only [Act.put, gy0, gy1, gy2])
   refine wpAnyH_take (i := 6) (v := ?_) (by simp only [gx0, gx1, gx2]; rfl) (by kernel_rfl) (by kernel_rfl) (by kernel_rfl) (fun _ _ _ h => h) (.inl ⟨by rfl, ?_⟩) hH ?_
   rotate_left
   · intro w hSw; (try dsimp only at hSw); first | (go_simp; done) | (go_simp; with_reducible rfl)
   (try simp only [Act.put, gy0, gy1, gy2])
   refine wpAnyH_take (i := 7) (v := ?_) (by simp only [gx0, gx1, gx2]; rfl) (by kernel_rfl) (by kernel_rfl) (by kernel_rfl) (fun _ _ _ h => h) (.inl ⟨by rfl, ?_⟩) hH ?_
   rotate_left
   · intro w hSw; (try dsimp only at hSw); first | (go_simp; done) | (go_simp; with_reducible rfl)
   (try simp only [Act.put, gy0, gy1, gy2])
   refine wpAnyH_take (i := 8) (v := ?_) (by simp only [gx0, gx1, gx2]; rfl) (by kernel_rfl) (by kernel_rfl) (by kernel_rfl) (fun _ _ _ h => h) (.inl ⟨by rfl, ?_⟩) hH ?_
   rotate_left
   · intro w hSw; (try dsimp only at hSw); first | (go_simp; done) | (go_simp; with_reducible rfl)
   (try simp only [Act.put, gy0, gy1, gy2])
   have TM := hid (two_made (z1 := z3) (z2 := z4) BW_5.out gp gq ne rfl rfl Kp_5.out Kq_5.out RP.out RQ.out)
   obtain ⟨⟨a1, a2, a3, a4⟩, ⟨d1, d2, d3, d4⟩, ne2, O⟩ := tail_facts Kp_5.out Kq_5.out ne gp gq nw.out
   refine wpAnyH_ready (rs := [11]) (by kernel_rfl) (by simp) ?_
   refine AllReadyH.cons (by simp only [gx0, gx1, gx2]; rfl) (fun K hK => ?_) AllReadyH.nil
   go_simp
   refine hK.out _ _ (cell_fr (cell_fr hH O.out.1) O.out.1) (fun hH2 => ?_)
   clear hK K hH
   (try simp only [Act.put, gy0, gy1, gy2])
   refine wpAnyH_ready (rs := [12]) (by kernel_rfl) (by simp) ?_
   refine AllReadyH.cons (by simp only [gx0, gx1, gx2]; rfl) (fun K hK => ?_) AllReadyH.nil
   go_simp
   refine hK.out _ _ (cell_fr (cell_fr hH2 O.out.2) O.out.2) (fun hH => ?_)
   clear hK K hH2 a1 a2 a3 a4 d1 d2 d3 d4
   (try simp only [Act.put, gy0, gy1, gy2])
   refine wpAnyH_ready (rs := [13]) (by kernel_rfl) (by simp) ?_
   refine AllReadyH.cons (by simp only [gx0, gx1, gx2]; rfl) (fun K hK => ?_) AllReadyH.nil
   go_simp
   refine hK.out _ _ hH (fun hH2 => ?_)
   clear hK K hH
   (try simp only [Act.put, gy0, gy1, gy2])
   refine wpAnyH_done (by kernel_rfl) ?_ _
   refine NoPanic.normal ?_
   go_wp2_with fail
   go_meet
   exact ⟨p, q, AP, nP, cP, AQ, nQ, cQ, rfl, rfl, rfl, hid ⟨TM.out.1, TM.out.2⟩⟩
   exact AllReadyH.nil
   exact AllReadyH.nil
   exact AllReadyH.nil
   refine AllReadyH.cons (by simp only [gx0, gx1, gx2]; rfl) (fun K hK => ?_) ?_
   go_simp
   obtain ⟨W2, p, hW, hp, b, kk⟩ := mk_int W1
   have gp : w2.heap.size ≤ p := by rw [hp]; exact BW_1.out.size
   have ne : p ≠ q := by rw [hp]; exact Nat.ne_of_gt Kq.out.lt
   rw [← hW, ← hp]
   clear hW hp
   have Kp := hid kk
   clear kk
   have Kq_2 := hid (Kq.out.keep b)
   have BW_2 := hid (bx_call BW_1.out b)
   clear Kq BW_1
   have H2 := cell_bx hH b
   clear hH b
   refine hK.out _ _ ?_ (fun hH => ?_)
   exact H2
   clear hK K H2
   (try simp only [Act.put, gy0, gy1, gy2])
   refine wpAnyH_ready (rs := [1]) (by kernel_rfl) (by simp) ?_
   refine AllReadyH.cons (by simp only [gx0, gx1, gx2]; rfl) (fun K hK => ?_) ?_
   go_simp
   refine (Fa.out _).mono ?_
   rintro e W3 ⟨A1, n1, c1, rfl, r1, b⟩
   have RA := hid r1
   clear r1
   have Kq_3 := hid (Kq_2.out.keep b)
   have Kp_3 := hid (Kp.out.keep b)
   have BW_3 := hid (bx_call BW_2.out b)
   clear Kq_2 Kp BW_2
   have H2 := cell_bx hH b
   clear hH b
   (try go_wp2_with fail)
   refine hK.out _ _ ?_ (fun hH => ?_)
   exact H2
   clear hK K H2
   (try simp only [Act.put, gy0, gy1, gy2])
   refine wpAnyH_ready (rs := [3]) (by kernel_rfl) (by simp) ?_
   refine AllReadyH.cons (by simp only [gx0, gx1, gx2]; rfl) (fun K hK => ?_) ?_
   go_simp
   refine (Fb.out _).mono ?_
   rintro e W4 ⟨A2, n2, c2, rfl, r2, b⟩
   have RB := hid r2
   clear r2
   have Kq_4 := hid (Kq_3.out.keep b)
   have Kp_4 := hid (Kp_3.out.keep b)
   have RA_4 := hid (RA.out.keep b)
   have BW_4 := hid (bx_call BW_3.out b)
   clear Kq_3 Kp_3 RA BW_3
   have H2 := cell_bx hH b
   clear hH b
   (try go_wp2_with fail)
   refine hK.out _ _ ?_ (fun hH => ?_)
   exact H2
   clear hK K H2
   (try simp only [Act.put, gy0, gy1, gy2])
   refine wpAnyH_ready (rs := [4]) (by kernel_rfl) (by simp) ?_
   refine AllReadyH.cons (by simp only [gx0, gx1, gx2]; rfl) (fun K hK => ?_) ?_
   go_simp
   refine (D1.out _ A1 n1 c1 A2 n2 c2 RA_4.out RB.out).mono ?_
   rintro e W5 ⟨AP, nP, cP, AQ, nQ, cQ, rfl, r3, r4, b⟩
   have RP := hid r3
   have RQ := hid r4
   clear r3 r4
   have Kq_5 := hid (Kq_4.out.keep b)
   have Kp_5 := hid (Kp_4.out.keep b)
   have RA_5 := hid (RA_4.out.keep b)
   have RB_5 := hid (RB.out.keep b)
   have BW_5 := hid (bx_call BW_4.out b)
   clear Kq_4 Kp_4 RA_4 RB BW_4
   have H2 := cell_bx hH b
   clear hH b
   (try go_wp2_with fail)
   refine hK.out _ _ ?_ (fun hH => ?_)
   exact H2
   clear hK K H2
   (try simp only [Act.put, gy0, gy1, gy2])
   clear RA_5
   clear RB_5
   refine wpAnyH_take (i := 5) (v := ?_) (by simp only [gx0, gx1, gx2]; rfl) (by kernel_rfl) (by kernel_rfl) (by kernel_rfl) (fun _ _ _ h => h) (.inl ⟨by rfl, ?_⟩) hH ?_
   rotate_left
   · intro w hSw; (try dsimp only at hSw); first | (go_simp; done) | (go_simp; with_reducible rfl)
   (try simp only [Act.put, gy0, gy1, gy2])
   refine wpAnyH_take (i := 6) (v := ?_) (by simp only [gx0, gx1, gx2]; rfl) (by kernel_rfl) (by kernel_rfl) (by kernel_rfl) (fun _ _ _ h => h) (.inl ⟨by rfl, ?_⟩) hH ?_
   rotate_left
   · intro w hSw; (try dsimp only at hSw); first | (go_simp; done) | (go_simp; with_reducible rfl)
   (try simp only [Act.put, gy0, gy1, gy2])
   refine wpAnyH_take (i := 7) (v := ?_) (by simp only [gx0, gx1, gx2]; rfl) (by kernel_rfl) (by kernel_rfl) (by kernel_rfl) (fun _ _ _ h => h) (.inl ⟨by rfl, ?_⟩) hH ?_
   rotate_left
   · intro w hSw; (try dsimp only at hSw); first | (go_simp; done) | (go_simp; with_reducible rfl)
   (try simp only [Act.put, gy0, gy1, gy2])
   refine wpAnyH_take (i := 8) (v := ?_) (by simp only [gx0, gx1, gx2]; rfl) (by kernel_rfl) (by kernel_rfl) (by kernel_rfl) (fun _ _ _ h => h) (.inl ⟨by rfl, ?_⟩) hH ?_
   rotate_left
   · intro w hSw; (try dsimp only at hSw); first | (go_simp; done) | (go_simp; with_reducible rfl)
   (try simp only [Act.put, gy0, gy1, gy2])
   have TM := hid (two_made (z1 := z3) (z2 := z4) BW_5.out gp gq ne rfl rfl Kp_5.out Kq_5.out RP.out RQ.out)
   obtain ⟨⟨a1, a2, a3, a4⟩, ⟨d1, d2, d3, d4⟩, ne2, O⟩ := tail_facts Kp_5.out Kq_5.out ne gp gq nw.out
   refine wpAnyH_ready (rs := [11]) (by kernel_rfl) (by simp) ?_
   refine AllReadyH.cons (by simp only [gx0, gx1, gx2]; rfl) (fun K hK => ?_) AllReadyH.nil
   go_simp
   refine hK.out _ _ (cell_fr (cell_fr hH O.out.1) O.out.1) (fun hH2 => ?_)
   clear hK K hH
   (try simp only [Act.put, gy0, gy1, gy2])
   refine wpAnyH_ready (rs := [12]) (by kernel_rfl) (by simp) ?_
   refine AllReadyH.cons (by simp only [gx0, gx1, gx2]; rfl) (fun K hK => ?_) AllReadyH.nil
   go_simp
   refine hK.out _ _ (cell_fr (cell_fr hH2 O.out.2) O.out.2) (fun hH => ?_)
   clear hK K hH2 a1 a2 a3 a4 d1 d2 d3 d4
   (try simp only [Act.put, gy0, gy1, gy2])
   refine wpAnyH_ready (rs := [13]) (by kernel_rfl) (by simp) ?_
   refine AllReadyH.cons (by simp only [gx0, gx1, gx2]; rfl) (fun K hK => ?_) AllReadyH.nil
   go_simp
   refine hK.out _ _ hH (fun hH2 => ?_)
   clear hK K hH
   (try simp only [Act.put, gy0, gy1, gy2])
   refine wpAnyH_done (by kernel_rfl) ?_ _
   refine NoPanic.normal ?_
   go_wp2_with fail
   go_meet
   exact ⟨p, q, AP, nP, cP, AQ, nQ, cQ, rfl, rfl, rfl, hid ⟨TM.out.1, TM.out.2⟩⟩
   exact AllReadyH.nil
   exact AllReadyH.nil
   exact AllReadyH.nil
   exact AllReadyH.nil
   exact AllReadyH.nil
  case rest =>
  obtain ⟨p1, q1, A13, n13, c13, A14, n14, c14, rfl, rfl, rfl, hT1⟩ := hcut
  obtain ⟨w3, rfl⟩ : ∃ W : World, W = wc := ⟨_, rfl⟩
  have N2 := hid (N1.out.keep hT1.out.2)
  have G2 := hid (bx_call G1.out hT1.out.2)
  have T0_2 := hid (T0_1.out.keep hT1.out.2)
  have T1_2 := hid hT1.out.1
  clear hT1 N1 G1 T0_1 hS0 nw
  go_upto_region 4 with fail
  have hS0 := hid (Blk.cell N2.out 0)
  have nw := hid (show w.heap.size < w3.heap.size from N2.out.lt)
  go_cut [8, 9, 10] (fun s8 s9 s10 wx => ∃ (p q : Nat) (A3 : Option Addr) (n3 c3 : Nat) (A4 : Option Addr) (n4 c4 : Nat), s8 = .pointer (some ⟨p, 0, none⟩) ∧ s9 = .pointer (some ⟨q, 0, none⟩) ∧ s10 = .int .i64 0 ∧ Hid (Two z5 z6 p q A3 n3 c3 A4 n4 c4 wx ∧ Below w3.heap.size w3 wx))
  case first =>
   refine wp_region_noPanic ?_
   refine wp_region_held_drew (S := (fun W => W.cell? ⟨w.heap.size, 0, none⟩ = some (.func (.func 25) #[] #[]))) (by kernel_rfl) ?_ (fun hH => ?_)
   exact hS0.out
   refine wpAnyH_take (i := 0) (v := ?_) (by simp only [gx0, gx2]; rfl) (by kernel_rfl) (by kernel_rfl) (by kernel_rfl) (fun _ _ _ h => h) (.inl ⟨by rfl, ?_⟩) hH ?_
   rotate_left
   · intro w hSw; (try dsimp only at hSw); first | (go_simp; done) | (go_simp; with_reducible rfl)
   (try simp only [Act.put, gy0, gy1, gy2])
   refine wpAnyH_take (i := 2) (v := ?_) (by simp only [gx0, gx1, gx2]; rfl) (by kernel_rfl) (by kernel_rfl) (by kernel_rfl) (fun _ _ _ h => h) (.inl ⟨by rfl, ?_⟩) hH ?_
   rotate_left
   · intro w hSw; (try dsimp only at hSw); first | (go_simp; done) | (go_simp; with_reducible rfl)
   (try simp only [Act.put, gy0, gy1, gy2])
   have bd := bx_drew (bx_refl w3)
   obtain ⟨W0, hW0⟩ : ∃ W, W = w3.drew := ⟨_, rfl⟩
   rw [← hW0] at bd hH ⊢
   clear hW0
   have BW_0 := hid bd
   clear bd
   refine wpAnyH_ready (rs := [1, 9, 10]) (by kernel_rfl) (by simp) ?_
   refine AllReadyH.cons (by simp only [gx0, gx1, gx2]; rfl) (fun K hK => ?_) ?_
   go_simp
   refine (Fc.out _).mono ?_
   rintro e W1 ⟨A1, n1, c1, rfl, r1, b⟩
   have RA := hid r1
   clear r1
   have BW_1 := hid (bx_call BW_0.out b)
   clear BW_0
   have H2 := cell_bx hH b
   clear hH b
   (try go_wp2_with fail)
   refine hK.out _ _ ?_ (fun hH => ?_)
   exact H2
   clear hK K H2
   (try simp only [Act.put, gy0, gy1, gy2])
   refine wpAnyH_ready (rs := [3, 9, 10]) (by kernel_rfl) (by simp) ?_
   refine AllReadyH.cons (by simp only [gx0, gx1, gx2]; rfl) (fun K hK => ?_) ?_
   go_simp
   refine (Fd.out _).mono ?_
   rintro e W2 ⟨A2, n2, c2, rfl, r2, b⟩
   have RB := hid r2
   clear r2
   have RA_2 := hid (RA.out.keep b)
   have BW_2 := hid (bx_call BW_1.out b)
   clear RA BW_1
   have H2 := cell_bx hH b
   clear hH b
   (try go_wp2_with fail)
   refine hK.out _ _ ?_ (fun hH => ?_)
   exact H2
   clear hK K H2
   (try simp only [Act.put, gy0, gy1, gy2])
   refine wpAnyH_ready (rs := [4, 9, 10]) (by kernel_rfl) (by simp) ?_
   refine AllReadyH.cons (by simp only [gx0, gx1, gx2]; rfl) (fun K hK => ?_) ?_
   go_simp
   refine (D2.out _ A1 n1 c1 A2 n2 c2 RA_2.out RB.out).mono ?_
   rintro e W3 ⟨AP, nP, cP, AQ, nQ, cQ, rfl, r3, r4, b⟩
   have RP := hid r3
   have RQ := hid r4
   clear r3 r4
   have RA_3 := hid (RA_2.out.keep b)
   have RB_3 := hid (RB.out.keep b)
   have BW_3 := hid (bx_call BW_2.out b)
   clear RA_2 RB BW_2
   have H2 := cell_bx hH b
   clear hH b
   (try go_wp2_with fail)
   refine hK.out _ _ ?_ (fun hH => ?_)
   exact H2
   clear hK K H2
   (try simp only [Act.put, gy0, gy1, gy2])
   clear RA_3
   clear RB_3
   refine wpAnyH_take (i := 5) (v := ?_) (by simp only [gx0, gx1, gx2]; rfl) (by kernel_rfl) (by kernel_rfl) (by kernel_rfl) (fun _ _ _ h => h) (.inl ⟨by rfl, ?_⟩) hH ?_
   rotate_left
   · intro w hSw; (try dsimp only at hSw); first | (go_simp; done) | (go_simp; with_reducible rfl)
   (try simp only [Act.put, gy0, gy1, gy2])
   refine wpAnyH_take (i := 6) (v := ?_) (by simp only [gx0, gx1, gx2]; rfl) (by kernel_rfl) (by kernel_rfl) (by kernel_rfl) (fun _ _ _ h => h) (.inl ⟨by rfl, ?_⟩) hH ?_
   rotate_left
   · intro w hSw; (try dsimp only at hSw); first | (go_simp; done) | (go_simp; with_reducible rfl)
   (try simp only [Act.put, gy0, gy1, gy2])
   refine wpAnyH_take (i := 7) (v := ?_) (by simp only [gx0, gx1, gx2]; rfl) (by kernel_rfl) (by kernel_rfl) (by kernel_rfl) (fun _ _ _ h => h) (.inl ⟨by rfl, ?_⟩) hH ?_
   rotate_left
   · intro w hSw; (try dsimp only at hSw); first | (go_simp; done) | (go_simp; with_reducible rfl)
   (try simp only [Act.put, gy0, gy1, gy2])
   refine wpAnyH_take (i := 8) (v := ?_) (by simp only [gx0, gx1, gx2]; rfl) (by kernel_rfl) (by kernel_rfl) (by kernel_rfl) (fun _ _ _ h => h) (.inl ⟨by rfl, ?_⟩) hH ?_
   rotate_left
   · intro w hSw; (try dsimp only at hSw); first | (go_simp; done) | (go_simp; with_reducible rfl)
   (try simp only [Act.put, gy0, gy1, gy2])
   refine wpAnyH_ready (rs := [9, 10]) (by kernel_rfl) (by simp) ?_
   refine AllReadyH.cons (by simp only [gx0, gx1, gx2]; rfl) (fun K hK => ?_) ?_
   go_simp
   obtain ⟨W4, p, hW, hp, b, kk⟩ := mk_int W3
   have gp : w3.heap.size ≤ p := by rw [hp]; exact BW_3.out.size
   rw [← hW, ← hp]
   clear hW hp
   have Kp := hid kk
   clear kk
   have RP_4 := hid (RP.out.keep b)
   have RQ_4 := hid (RQ.out.keep b)
   have BW_4 := hid (bx_call BW_3.out b)
   clear RP RQ BW_3
   have H2 := cell_bx hH b
   clear hH b
   refine hK.out _ _ ?_ (fun hH => ?_)
   exact H2
   clear hK K H2
   (try simp only [Act.put, gy0, gy1, gy2])
   refine wpAnyH_ready (rs := [10]) (by kernel_rfl) (by simp) ?_
   refine AllReadyH.cons (by simp only [gx0, gx1, gx2]; rfl) (fun K hK => ?_) ?_
   go_simp
   obtain ⟨W5, q, hW, hp, b, kk⟩ := mk_int W4
   have gq : w3.heap.size ≤ q := by rw [hp]; exact BW_4.out.size
   have ne : p ≠ q := by rw [hp]; exact Nat.ne_of_lt Kp.out.lt
   rw [← hW, ← hp]
   clear hW hp
   have Kq := hid kk
   clear kk
   have RP_5 := hid (RP_4.out.keep b)
   have RQ_5 := hid (RQ_4.out.keep b)
   have Kp_5 := hid (Kp.out.keep b)
   have BW_5 := hid (bx_call BW_4.out b)
   clear RP_4 RQ_4 Kp BW_4
   have H2 := cell_bx hH b
   clear hH b
   refine hK.out _ _ ?_ (fun hH => ?_)
   exact H2
   clear hK K H2
   (try simp only [Act.put, gy0, gy1, gy2])
   have TM := hid (two_made (z1 := z5) (z2 := z6) BW_5.out gp gq ne rfl rfl Kp_5.out Kq.out RP_5.out RQ_5.out)
   obtain ⟨⟨a1, a2, a3, a4⟩, ⟨d1, d2, d3, d4⟩, ne2, O⟩ := tail_facts Kp_5.out Kq.out ne gp gq nw.out
   refine wpAnyH_ready (rs := [11]) (by kernel_rfl) (by simp) ?_
   refine AllReadyH.cons (by simp only [gx0, gx1, gx2]; rfl) (fun K hK => ?_) AllReadyH.nil
   go_simp
   refine hK.out _ _ (cell_fr (cell_fr hH O.out.1) O.out.1) (fun hH2 => ?_)
   clear hK K hH
   (try simp only [Act.put, gy0, gy1, gy2])
   refine wpAnyH_ready (rs := [12]) (by kernel_rfl) (by simp) ?_
   refine AllReadyH.cons (by simp only [gx0, gx1, gx2]; rfl) (fun K hK => ?_) AllReadyH.nil
   go_simp
   refine hK.out _ _ (cell_fr (cell_fr hH2 O.out.2) O.out.2) (fun hH => ?_)
   clear hK K hH2 a1 a2 a3 a4 d1 d2 d3 d4
   (try simp only [Act.put, gy0, gy1, gy2])
   refine wpAnyH_ready (rs := [13]) (by kernel_rfl) (by simp) ?_
   refine AllReadyH.cons (by simp only [gx0, gx1, gx2]; rfl) (fun K hK => ?_) AllReadyH.nil
   go_simp
   refine hK.out _ _ hH (fun hH2 => ?_)
   clear hK K hH
   (try simp only [Act.put, gy0, gy1, gy2])
   refine wpAnyH_done (by kernel_rfl) ?_ _
   refine NoPanic.normal ?_
   go_wp2_with fail
   go_meet
   exact ⟨p, q, AP, nP, cP, AQ, nQ, cQ, rfl, rfl, rfl, hid ⟨TM.out.1, TM.out.2⟩⟩
   exact AllReadyH.nil
   refine AllReadyH.cons (by simp only [gx0, gx1, gx2]; rfl) (fun K hK => ?_) ?_
   go_simp
   obtain ⟨W4, q, hW, hp, b, kk⟩ := mk_int W3
   have gq : w3.heap.size ≤ q := by rw [hp]; exact BW_3.out.size
   rw [← hW, ← hp]
   clear hW hp
   have Kq := hid kk
   clear kk
   have RP_4 := hid (RP.out.keep b)
   have RQ_4 := hid (RQ.out.keep b)
   have BW_4 := hid (bx_call BW_3.out b)
   clear RP RQ BW_3
   have H2 := cell_bx hH b
   clear hH b
   refine hK.out _ _ ?_ (fun hH => ?_)
   exact H2
   clear hK K H2
   (try simp only [Act.put, gy0, gy1, gy2])
   refine wpAnyH_ready (rs := [9]) (by kernel_rfl) (by simp) ?_
   refine AllReadyH.cons (by simp only [gx0, gx1, gx2]; rfl) (fun K hK => ?_) ?_
   go_simp
   obtain ⟨W5, p, hW, hp, b, kk⟩ := mk_int W4
   have gp : w3.heap.size ≤ p := by rw [hp]; exact BW_4.out.size
   have ne : p ≠ q := by rw [hp]; exact Nat.ne_of_gt Kq.out.lt
   rw [← hW, ← hp]
   clear hW hp
   have Kp := hid kk
   clear kk
   have RP_5 := hid (RP_4.out.keep b)
   have RQ_5 := hid (RQ_4.out.keep b)
   have Kq_5 := hid (Kq.out.keep b)
   have BW_5 := hid (bx_call BW_4.out b)
   clear RP_4 RQ_4 Kq BW_4
   have H2 := cell_bx hH b
   clear hH b
   refine hK.out _ _ ?_ (fun hH => ?_)
   exact H2
   clear hK K H2
   (try simp only [Act.put, gy0, gy1, gy2])
   have TM := hid (two_made (z1 := z5) (z2 := z6) BW_5.out gp gq ne rfl rfl Kp.out Kq_5.out RP_5.out RQ_5.out)
   obtain ⟨⟨a1, a2, a3, a4⟩, ⟨d1, d2, d3, d4⟩, ne2, O⟩ := tail_facts Kp.out Kq_5.out ne gp gq nw.out
   refine wpAnyH_ready (rs := [11]) (by kernel_rfl) (by simp) ?_
   refine AllReadyH.cons (by simp only [gx0, gx1, gx2]; rfl) (fun K hK => ?_) AllReadyH.nil
   go_simp
   refine hK.out _ _ (cell_fr (cell_fr hH O.out.1) O.out.1) (fun hH2 => ?_)
   clear hK K hH
   (try simp only [Act.put, gy0, gy1, gy2])
   refine wpAnyH_ready (rs := [12]) (by kernel_rfl) (by simp) ?_
   refine AllReadyH.cons (by simp only [gx0, gx1, gx2]; rfl) (fun K hK => ?_) AllReadyH.nil
   go_simp
   refine hK.out _ _ (cell_fr (cell_fr hH2 O.out.2) O.out.2) (fun hH => ?_)
   clear hK K hH2 a1 a2 a3 a4 d1 d2 d3 d4
   (try simp only [Act.put, gy0, gy1, gy2])
   refine wpAnyH_ready (rs := [13]) (by kernel_rfl) (by simp) ?_
   refine AllReadyH.cons (by simp only [gx0, gx1, gx2]; rfl) (fun K hK => ?_) AllReadyH.nil
   go_simp
   refine hK.out _ _ hH (fun hH2 => ?_)
   clear hK K hH
   (try simp only [Act.put, gy0, gy1, gy2])
   refine wpAnyH_done (by kernel_rfl) ?_ _
   refine NoPanic.normal ?_
   go_wp2_with fail
   go_meet
   exact ⟨p, q, AP, nP, cP, AQ, nQ, cQ, rfl, rfl, rfl, hid ⟨TM.out.1, TM.out.2⟩⟩
   exact AllReadyH.nil
   exact AllReadyH.nil
   refine AllReadyH.cons (by simp only [gx0, gx1, gx2]; rfl) (fun K hK => ?_) ?_
   go_simp
   obtain ⟨W3, p, hW, hp, b, kk⟩ := mk_int W2
   have gp : w3.heap.size ≤ p := by rw [hp]; exact BW_2.out.size
   rw [← hW, ← hp]
   clear hW hp
   have Kp := hid kk
   clear kk
   have RA_3 := hid (RA_2.out.keep b)
   have RB_3 := hid (RB.out.keep b)
   have BW_3 := hid (bx_call BW_2.out b)
   clear RA_2 RB BW_2
   have H2 := cell_bx hH b
   clear hH b
   refine hK.out _ _ ?_ (fun hH => ?_)
   exact H2
   clear hK K H2
   (try simp only [Act.put, gy0, gy1, gy2])
   refine wpAnyH_ready (rs := [4, 10]) (by kernel_rfl) (by simp) ?_
   refine AllReadyH.cons (by simp only [gx0, gx1, gx2]; rfl) (fun K hK => ?_) ?_
   go_simp
   refine (D2.out _ A1 n1 c1 A2 n2 c2 RA_3.out RB_3.out).mono ?_
   rintro e W4 ⟨AP, nP, cP, AQ, nQ, cQ, rfl, r3, r4, b⟩
   have RP := hid r3
   have RQ := hid r4
   clear r3 r4
   have RA_4 := hid (RA_3.out.keep b)
   have RB_4 := hid (RB_3.out.keep b)
   have Kp_4 := hid (Kp.out.keep b)
   have BW_4 := hid (bx_call BW_3.out b)
   clear RA_3 RB_3 Kp BW_3
   have H2 := cell_bx hH b
   clear hH b
   (try go_wp2_with fail)
   refine hK.out _ _ ?_ (fun hH => ?_)
   exact H2
   clear hK K H2
   (try simp only [Act.put, gy0, gy1, gy2])
   clear RA_4
   clear RB_4
   refine wpAnyH_take (i := 5) (v := ?_) (by simp only [gx0, gx1, gx2]; rfl) (by kernel_rfl) (by kernel_rfl) (by kernel_rfl) (fun _ _ _ h => h) (.inl ⟨by rfl, ?_⟩) hH ?_
   rotate_left
   · intro w hSw; (try dsimp only at hSw); first | (go_simp; done) | (go_simp; with_reducible rfl)
   (try simp only [Act.put, gy0, gy1, gy2])
   refine wpAnyH_take (i := 6) (v := ?_) (by simp only [gx0, gx1, gx2]; rfl) (by kernel_rfl) (by kernel_rfl) (by kernel_rfl) (fun _ _ _ h => h) (.inl ⟨by rfl, ?_⟩) hH ?_
   rotate_left
   · intro w hSw; (try dsimp only at hSw); first | (go_simp; done) | (go_simp; with_reducible rfl)
   (try simp only [Act.put, gy0, gy1, gy2])
   refine wpAnyH_take (i := 7) (v := ?_) (by simp only [gx0, gx1, gx2]; rfl) (by kernel_rfl) (by kernel_rfl) (by kernel_rfl) (fun _ _ _ h => h) (.inl ⟨by rfl, ?_⟩) hH ?_
   rotate_left
   · intro w hSw; (try dsimp only at hSw); first | (go_simp; done) | (go_simp; with_reducible rfl)
   (try simp only [Act.put, gy0, gy1, gy2])
   refine wpAnyH_take (i := 8) (v := ?_) (by simp only [gx0, gx1, gx2]; rfl) (by kernel_rfl) (by kernel_rfl) (by kernel_rfl) (fun _ _ _ h => h) (.inl ⟨by rfl, ?_⟩) hH ?_
   rotate_left
   · intro w hSw; (try dsimp only at hSw); first | (go_simp; done) | (go_simp; with_reducible rfl)
   (try simp only [Act.put, gy0, gy1, gy2])
   refine wpAnyH_ready (rs := [10]) (by kernel_rfl) (by simp) ?_
   refine AllReadyH.cons (by simp only [gx0, gx1, gx2]; rfl) (fun K hK => ?_) ?_
   go_simp
   obtain ⟨W5, q, hW, hp, b, kk⟩ := mk_int W4
   have gq : w3.heap.size ≤ q := by rw [hp]; exact BW_4.out.size
   have ne : p ≠ q := by rw [hp]; exact Nat.ne_of_lt Kp_4.out.lt
   rw [← hW, ← hp]
   clear hW hp
   have Kq := hid kk
   clear kk
   have Kp_5 := hid (Kp_4.out.keep b)
   have RP_5 := hid (RP.out.keep b)
   have RQ_5 := hid (RQ.out.keep b)
   have BW_5 := hid (bx_call BW_4.out b)
   clear Kp_4 RP RQ BW_4
   have H2 := cell_bx hH b
   clear hH b
   refine hK.out _ _ ?_ (fun hH => ?_)
   exact H2
   clear hK K H2
   (try simp only [Act.put, gy0, gy1, gy2])
   have TM := hid (two_made (z1 := z5) (z2 := z6) BW_5.out gp gq ne rfl rfl Kp_5.out Kq.out RP_5.out RQ_5.out)
   obtain ⟨⟨a1, a2, a3, a4⟩, ⟨d1, d2, d3, d4⟩, ne2, O⟩ := tail_facts Kp_5.out Kq.out ne gp gq nw.out
   refine wpAnyH_ready (rs := [11]) (by kernel_rfl) (by simp) ?_
   refine AllReadyH.cons (by simp only [gx0, gx1, gx2]; rfl) (fun K hK => ?_) AllReadyH.nil
   go_simp
   refine hK.out _ _ (cell_fr (cell_fr hH O.out.1) O.out.1) (fun hH2 => ?_)
   clear hK K hH
   (try simp only [Act.put, gy0, gy1, gy2])
   refine wpAnyH_ready (rs := [12]) (by kernel_rfl) (by simp) ?_
   refine AllReadyH.cons (by simp only [gx0, gx1, gx2]; rfl) (fun K hK => ?_) AllReadyH.nil
   go_simp
   refine hK.out _ _ (cell_fr (cell_fr hH2 O.out.2) O.out.2) (fun hH => ?_)
   clear hK K hH2 a1 a2 a3 a4 d1 d2 d3 d4
   (try simp only [Act.put, gy0, gy1, gy2])
   refine wpAnyH_ready (rs := [13]) (by kernel_rfl) (by simp) ?_
   refine AllReadyH.cons (by simp only [gx0, gx1, gx2]; rfl) (fun K hK => ?_) AllReadyH.nil
   go_simp
   refine hK.out _ _ hH (fun hH2 => ?_)
   clear hK K hH
   (try simp only [Act.put, gy0, gy1, gy2])
   refine wpAnyH_done (by kernel_rfl) ?_ _
   refine NoPanic.normal ?_
   go_wp2_with fail
   go_meet
   exact ⟨p, q, AP, nP, cP, AQ, nQ, cQ, rfl, rfl, rfl, hid ⟨TM.out.1, TM.out.2⟩⟩
   exact AllReadyH.nil
   refine AllReadyH.cons (by simp only [gx0, gx1, gx2]; rfl) (fun K hK => ?_) ?_
   go_simp
   obtain ⟨W4, q, hW, hp, b, kk⟩ := mk_int W3
   have gq : w3.heap.size ≤ q := by rw [hp]; exact BW_3.out.size
   have ne : p ≠ q := by rw [hp]; exact Nat.ne_of_lt Kp.out.lt
   rw [← hW, ← hp]
   clear hW hp
   have Kq := hid kk
   clear kk
   have RA_4 := hid (RA_3.out.keep b)
   have RB_4 := hid (RB_3.out.keep b)
   have Kp_4 := hid (Kp.out.keep b)
   have BW_4 := hid (bx_call BW_3.out b)
   clear RA_3 RB_3 Kp BW_3
   have H2 := cell_bx hH b
   clear hH b
   refine hK.out _ _ ?_ (fun hH => ?_)
   exact H2
   clear hK K H2
   (try simp only [Act.put, gy0, gy1, gy2])
   refine wpAnyH_ready (rs := [4]) (by kernel_rfl) (by simp) ?_
   refine AllReadyH.cons (by simp only [gx0, gx1, gx2]; rfl) (fun K hK => ?_) ?_
   go_simp
   refine (D2.out _ A1 n1 c1 A2 n2 c2 RA_4.out RB_4.out).mono ?_
   rintro e W5 ⟨AP, nP, cP, AQ, nQ, cQ, rfl, r3, r4, b⟩
   have RP := hid r3
   have RQ := hid r4
   clear r3 r4
   have RA_5 := hid (RA_4.out.keep b)
   have RB_5 := hid (RB_4.out.keep b)
   have Kp_5 := hid (Kp_4.out.keep b)
   have Kq_5 := hid (Kq.out.keep b)
   have BW_5 := hid (bx_call BW_4.out b)
   clear RA_4 RB_4 Kp_4 Kq BW_4
   have H2 := cell_bx hH b
   clear hH b
   (try go_wp2_with fail)
   refine hK.out _ _ ?_ (fun hH => ?_)
   exact H2
   clear hK K H2
   (try simp only [Act.put, gy0, gy1, gy2])
   clear RA_5
   clear RB_5
   refine wpAnyH_take (i := 5) (v := ?_) (by simp only [gx0, gx1, gx2]; rfl) (by kernel_rfl) (by kernel_rfl) (by kernel_rfl) (fun _ _ _ h => h) (.inl ⟨by rfl, ?_⟩) hH ?_
   rotate_left
   · intro w hSw; (try dsimp only at hSw); first | (go_simp; done) | (go_simp; with_reducible rfl)
   (try simp only [Act.put, gy0, gy1, gy2])
   refine wpAnyH_take (i := 6) (v := ?_) (by simp only [gx0, gx1, gx2]; rfl) (by kernel_rfl) (by kernel_rfl) (by kernel_rfl) (fun _ _ _ h => h) (.inl ⟨by rfl, ?_⟩) hH ?_
   rotate_left
   · intro w hSw; (try dsimp only at hSw); first | (go_simp; done) | (go_simp; with_reducible rfl)
   (try simp only [Act.put, gy0, gy1, gy2])
   refine wpAnyH_take (i := 7) (v := ?_) (by simp only [gx0, gx1, gx2]; rfl) (by kernel_rfl) (by kernel_rfl) (by kernel_rfl) (fun _ _ _ h => h) (.inl ⟨by rfl, ?_⟩) hH ?_
   rotate_left
   · intro w hSw; (try dsimp only at hSw); first | (go_simp; done) | (go_simp; with_reducible rfl)
   (try simp only [Act.put, gy0, gy1, gy2])
   refine wpAnyH_take (i := 8) (v := ?_) (by simp only [gx0, gx1, gx2]; rfl) (by kernel_rfl) (by kernel_rfl) (by kernel_rfl) (fun _ _ _ h => h) (.inl ⟨by rfl, ?_⟩) hH ?_
   rotate_left
   · intro w hSw; (try dsimp only at hSw); first | (go_simp; done) | (go_simp; with_reducible rfl)
   (try simp only [Act.put, gy0, gy1, gy2])
   have TM := hid (two_made (z1 := z5) (z2 := z6) BW_5.out gp gq ne rfl rfl Kp_5.out Kq_5.out RP.out RQ.out)
   obtain ⟨⟨a1, a2, a3, a4⟩, ⟨d1, d2, d3, d4⟩, ne2, O⟩ := tail_facts Kp_5.out Kq_5.out ne gp gq nw.out
   refine wpAnyH_ready (rs := [11]) (by kernel_rfl) (by simp) ?_
   refine AllReadyH.cons (by simp only [gx0, gx1, gx2]; rfl) (fun K hK => ?_) AllReadyH.nil
   go_simp
   refine hK.out _ _ (cell_fr (cell_fr hH O.out.1) O.out.1) (fun hH2 => ?_)
   clear hK K hH
   (try simp only [Act.put, gy0, gy1, gy2])
   refine wpAnyH_ready (rs := [12]) (by kernel_rfl) (by simp) ?_
   refine AllReadyH.cons (by simp only [gx0, gx1, gx2]; rfl) (fun K hK => ?_) AllReadyH.nil
   go_simp
   refine hK.out _ _ (cell_fr (cell_fr hH2 O.out.2) O.out.2) (fun hH => ?_)
   clear hK K hH2 a1 a2 a3 a4 d1 d2 d3 d4
   (try simp only [Act.put, gy0, gy1, gy2])
   refine wpAnyH_ready (rs := [13]) (by kernel_rfl) (by simp) ?_
   refine AllReadyH.cons (by simp only [gx0, gx1, gx2]; rfl) (fun K hK => ?_) AllReadyH.nil
   go_simp
   refine hK.out _ _ hH (fun hH2 => ?_)
   clear hK K hH
   (try simp only [Act.put, gy0, gy1, gy2])
   refine wpAnyH_done (by kernel_rfl) ?_ _
   refine NoPanic.normal ?_
   go_wp2_with fail
   go_meet
   exact ⟨p, q, AP, nP, cP, AQ, nQ, cQ, rfl, rfl, rfl, hid ⟨TM.out.1, TM.out.2⟩⟩
   exact AllReadyH.nil
   exact AllReadyH.nil
   refine AllReadyH.cons (by simp only [gx0, gx1, gx2]; rfl) (fun K hK => ?_) ?_
   go_simp
   obtain ⟨W3, q, hW, hp, b, kk⟩ := mk_int W2
   have gq : w3.heap.size ≤ q := by rw [hp]; exact BW_2.out.size
   rw [← hW, ← hp]
   clear hW hp
   have Kq := hid kk
   clear kk
   have RA_3 := hid (RA_2.out.keep b)
   have RB_3 := hid (RB.out.keep b)
   have BW_3 := hid (bx_call BW_2.out b)
   clear RA_2 RB BW_2
   have H2 := cell_bx hH b
   clear hH b
   refine hK.out _ _ ?_ (fun hH => ?_)
   exact H2
   clear hK K H2
   (try simp only [Act.put, gy0, gy1, gy2])
   refine wpAnyH_ready (rs := [4, 9]) (by kernel_rfl) (by simp) ?_
   refine AllReadyH.cons (by simp only [gx0, gx1, gx2]; rfl) (fun K hK => ?_) ?_
   go_simp
   refine (D2.out _ A1 n1 c1 A2 n2 c2 RA_3.out RB_3.out).mono ?_
   rintro e W4 ⟨AP, nP, cP, AQ, nQ, cQ, rfl, r3, r4, b⟩
   have RP := hid r3
   have RQ := hid r4
   clear r3 r4
   have RA_4 := hid (RA_3.out.keep b)
   have RB_4 := hid (RB_3.out.keep b)
   have Kq_4 := hid (Kq.out.keep b)
   have BW_4 := hid (bx_call BW_3.out b)
   clear RA_3 RB_3 Kq BW_3
   have H2 := cell_bx hH b
   clear hH b
   (try go_wp2_with fail)
   refine hK.out _ _ ?_ (fun hH => ?_)
   exact H2
   clear hK K H2
   (try simp only [Act.put, gy0, gy1, gy2])
   clear RA_4
   clear RB_4
   refine wpAnyH_take (i := 5) (v := ?_) (by simp only [gx0, gx1, gx2]; rfl) (by kernel_rfl) (by kernel_rfl) (by kernel_rfl) (fun _ _ _ h => h) (.inl ⟨by rfl, ?_⟩) hH ?_
   rotate_left
   · intro w hSw; (try dsimp only at hSw); first | (go_simp; done) | (go_simp; with_reducible rfl)
   (try simp only [Act.put, gy0, gy1, gy2])
   refine wpAnyH_take (i := 6) (v := ?_) (by simp only [gx0, gx1, gx2]; rfl) (by kernel_rfl) (by kernel_rfl) (by kernel_rfl) (fun _ _ _ h => h) (.inl ⟨by rfl, ?_⟩) hH ?_
   rotate_left
   · intro w hSw; (try dsimp only at hSw); first | (go_simp; done) | (go_simp; with_reducible rfl)
   (try simp only [Act.put, gy0, gy1, gy2])
   refine wpAnyH_take (i := 7) (v := ?_) (by simp only [gx0, gx1, gx2]; rfl) (by kernel_rfl) (by kernel_rfl) (by kernel_rfl) (fun _ _ _ h => h) (.inl ⟨by rfl, ?_⟩) hH ?_
   rotate_left
   · intro w hSw; (try dsimp only at hSw); first | (go_simp; done) | (go_simp; with_reducible rfl)
   (try simp only [Act.put, gy0, gy1, gy2])
   refine wpAnyH_take (i := 8) (v := ?_) (by simp only [gx0, gx1, gx2]; rfl) (by kernel_rfl) (by kernel_rfl) (by kernel_rfl) (fun _ _ _ h => h) (.inl ⟨by rfl, ?_⟩) hH ?_
   rotate_left
   · intro w hSw; (try dsimp only at hSw); first | (go_simp; done) | (go_simp; with_reducible rfl)
   (try simp only [Act.put, gy0, gy1, gy2])
   refine wpAnyH_ready (rs := [9]) (by kernel_rfl) (by simp) ?_
   refine AllReadyH.cons (by simp only [gx0, gx1, gx2]; rfl) (fun K hK => ?_) ?_
   go_simp
   obtain ⟨W5, p, hW, hp, b, kk⟩ := mk_int W4
   have gp : w3.heap.size ≤ p := by rw [hp]; exact BW_4.out.size
   have ne : p ≠ q := by rw [hp]; exact Nat.ne_of_gt Kq_4.out.lt
   rw [← hW, ← hp]
   clear hW hp
   have Kp := hid kk
   clear kk
   have Kq_5 := hid (Kq_4.out.keep b)
   have RP_5 := hid (RP.out.keep b)
   have RQ_5 := hid (RQ.out.keep b)
   have BW_5 := hid (bx_call BW_4.out b)
   clear Kq_4 RP RQ BW_4
   have H2 := cell_bx hH b
   clear hH b
   refine hK.out _ _ ?_ (fun hH => ?_)
   exact H2
   clear hK K H2
   (try simp only [Act.put, gy0, gy1, gy2])
   have TM := hid (two_made (z1 := z5) (z2 := z6) BW_5.out gp gq ne rfl rfl Kp.out Kq_5.out RP_5.out RQ_5.out)
   obtain ⟨⟨a1, a2, a3, a4⟩, ⟨d1, d2, d3, d4⟩, ne2, O⟩ := tail_facts Kp.out Kq_5.out ne gp gq nw.out
   refine wpAnyH_ready (rs := [11]) (by kernel_rfl) (by simp) ?_
   refine AllReadyH.cons (by simp only [gx0, gx1, gx2]; rfl) (fun K hK => ?_) AllReadyH.nil
   go_simp
   refine hK.out _ _ (cell_fr (cell_fr hH O.out.1) O.out.1) (fun hH2 => ?_)
   clear hK K hH
   (try simp only [Act.put, gy0, gy1, gy2])
   refine wpAnyH_ready (rs := [12]) (by kernel_rfl) (by simp) ?_
   refine AllReadyH.cons (by simp only [gx0, gx1, gx2]; rfl) (fun K hK => ?_) AllReadyH.nil
   go_simp
   refine hK.out _ _ (cell_fr (cell_fr hH2 O.out.2) O.out.2) (fun hH => ?_)
   clear hK K hH2 a1 a2 a3 a4 d1 d2 d3 d4
   (try simp only [Act.put, gy0, gy1, gy2])
   refine wpAnyH_ready (rs := [13]) (by kernel_rfl) (by simp) ?_
   refine AllReadyH.cons (by simp only [gx0, gx1, gx2]; rfl) (fun K hK => ?_) AllReadyH.nil
   go_simp
   refine hK.out _ _ hH (fun hH2 => ?_)
   clear hK K hH
   (try simp only [Act.put, gy0, gy1, gy2])
   refine wpAnyH_done (by kernel_rfl) ?_ _
   refine NoPanic.normal ?_
   go_wp2_with fail
   go_meet
   exact ⟨p, q, AP, nP, cP, AQ, nQ, cQ, rfl, rfl, rfl, hid ⟨TM.out.1, TM.out.2⟩⟩
   exact AllReadyH.nil
   refine AllReadyH.cons (by simp only [gx0, gx1, gx2]; rfl) (fun K hK => ?_) ?_
   go_simp
   obtain ⟨W4, p, hW, hp, b, kk⟩ := mk_int W3
   have gp : w3.heap.size ≤ p := by rw [hp]; exact BW_3.out.size
   have ne : p ≠ q := by rw [hp]; exact Nat.ne_of_gt Kq.out.lt
   rw [← hW, ← hp]
   clear hW hp
   have Kp := hid kk
   clear kk
   have RA_4 := hid (RA_3.out.keep b)
   have RB_4 := hid (RB_3.out.keep b)
   have Kq_4 := hid (Kq.out.keep b)
   have BW_4 := hid (bx_call BW_3.out b)
   clear RA_3 RB_3 Kq BW_3
   have H2 := cell_bx hH b
   clear hH b
   refine hK.out _ _ ?_ (fun hH => ?_)
   exact H2
   clear hK K H2
   (try simp only [Act.put, gy0, gy1, gy2])
   refine wpAnyH_ready (rs := [4]) (by kernel_rfl) (by simp) ?_
   refine AllReadyH.cons (by simp only [gx0, gx1, gx2]; rfl) (fun K hK => ?_) ?_
   go_simp
   refine (D2.out _ A1 n1 c1 A2 n2 c2 RA_4.out RB_4.out).mono ?_
   rintro e W5 ⟨AP, nP, cP, AQ, nQ, cQ, rfl, r3, r4, b⟩
   have RP := hid r3
   have RQ := hid r4
   clear r3 r4
   have RA_5 := hid (RA_4.out.keep b)
   have RB_5 := hid (RB_4.out.keep b)
   have Kq_5 := hid (Kq_4.out.keep b)
   have Kp_5 := hid (Kp.out.keep b)
   have BW_5 := hid (bx_call BW_4.out b)
   clear RA_4 RB_4 Kq_4 Kp BW_4
   have H2 := cell_bx hH b
   clear hH b
   (try go_wp2_with fail)
   refine hK.out _ _ ?_ (fun hH => ?_)
   exact H2
   clear hK K H2
   (try simp only [Act.put, gy0, gy1, gy2])
   clear RA_5
   clear RB_5
   refine wpAnyH_take (i := 5) (v := ?_) (by simp only [gx0, gx1, gx2]; rfl) (by kernel_rfl) (by kernel_rfl) (by kernel_rfl) (fun _ _ _ h => h) (.inl ⟨by rfl, ?_⟩) hH ?_
   rotate_left
   · intro w hSw; (try dsimp only at hSw); first | (go_simp; done) | (go_simp; with_reducible rfl)
   (try simp only [Act.put, gy0, gy1, gy2])
   refine wpAnyH_take (i := 6) (v := ?_) (by simp only [gx0, gx1, gx2]; rfl) (by kernel_rfl) (by kernel_rfl) (by kernel_rfl) (fun _ _ _ h => h) (.inl ⟨by rfl, ?_⟩) hH ?_
   rotate_left
   · intro w hSw; (try dsimp only at hSw); first | (go_simp; done) | (go_simp; with_reducible rfl)
   (try simp only [Act.put, gy0, gy1, gy2])
   refine wpAnyH_take (i := 7) (v := ?_) (by simp only [gx0, gx1, gx2]; rfl) (by kernel_rfl) (by kernel_rfl) (by kernel_rfl) (fun _ _ _ h => h) (.inl ⟨by rfl, ?_⟩) hH ?_
   rotate_left
   · intro w hSw; (try dsimp only at hSw); first | (go_simp; done) | (go_simp; with_reducible rfl)
   (try simp only [Act.put, gy0, gy1, gy2])
   refine wpAnyH_take (i := 8) (v := ?_) (by simp only [gx0, gx1, gx2]; rfl) (by kernel_rfl) (by kernel_rfl) (by kernel_rfl) (fun _ _ _ h => h) (.inl ⟨by rfl, ?_⟩) hH ?_
   rotate_left
   · intro w hSw; (try dsimp only at hSw); first | (go_simp; done) | (go_simp; with_reducible rfl)
   (try simp only [Act.put, gy0, gy1, gy2])
   have TM := hid (two_made (z1 := z5) (z2 := z6) BW_5.out gp gq ne rfl rfl Kp_5.out Kq_5.out RP.out RQ.out)
   obtain ⟨⟨a1, a2, a3, a4⟩, ⟨d1, d2, d3, d4⟩, ne2, O⟩ := tail_facts Kp_5.out Kq_5.out ne gp gq nw.out
   refine wpAnyH_ready (rs := [11]) (by kernel_rfl) (by simp) ?_
   refine AllReadyH.cons (by simp only [gx0, gx1, gx2]; rfl) (fun K hK => ?_) AllReadyH.nil
   go_simp
   refine hK.out _ _ (cell_fr (cell_fr hH O.out.1) O.out.1) (fun hH2 => ?_)
   clear hK K hH
   (try simp only [Act.put, gy0, gy1, gy2])
   refine wpAnyH_ready (rs := [12]) (by kernel_rfl) (by simp) ?_
   refine AllReadyH.cons (by simp only [gx0, gx1, gx2]; rfl) (fun K hK => ?_) AllReadyH.nil
   go_simp
   refine hK.out _ _ (cell_fr (cell_fr hH2 O.out.2) O.out.2) (fun hH => ?_)
   clear hK K hH2 a1 a2 a3 a4 d1 d2 d3 d4
   (try simp only [Act.put, gy0, gy1, gy2])
   refine wpAnyH_ready (rs := [13]) (by kernel_rfl) (by simp) ?_
   refine AllReadyH.cons (by simp only [gx0, gx1, gx2]; rfl) (fun K hK => ?_) AllReadyH.nil
   go_simp
   refine hK.out _ _ hH (fun hH2 => ?_)
   clear hK K hH
   (try simp only [Act.put, gy0, gy1, gy2])
   refine wpAnyH_done (by kernel_rfl) ?_ _
   refine NoPanic.normal ?_
   go_wp2_with fail
   go_meet
   exact ⟨p, q, AP, nP, cP, AQ, nQ, cQ, rfl, rfl, rfl, hid ⟨TM.out.1, TM.out.2⟩⟩
   exact AllReadyH.nil
   exact AllReadyH.nil
   exact AllReadyH.nil
   refine AllReadyH.cons (by simp only [gx0, gx1, gx2]; rfl) (fun K hK => ?_) ?_
   go_simp
   obtain ⟨W2, p, hW, hp, b, kk⟩ := mk_int W1
   have gp : w3.heap.size ≤ p := by rw [hp]; exact BW_1.out.size
   rw [← hW, ← hp]
   clear hW hp
   have Kp := hid kk
   clear kk
   have RA_2 := hid (RA.out.keep b)
   have BW_2 := hid (bx_call BW_1.out b)
   clear RA BW_1
   have H2 := cell_bx hH b
   clear hH b
   refine hK.out _ _ ?_ (fun hH => ?_)
   exact H2
   clear hK K H2
   (try simp only [Act.put, gy0, gy1, gy2])
   refine wpAnyH_ready (rs := [3, 10]) (by kernel_rfl) (by simp) ?_
   refine AllReadyH.cons (by simp only [gx0, gx1, gx2]; rfl) (fun K hK => ?_) ?_
   go_simp
   refine (Fd.out _).mono ?_
   rintro e W3 ⟨A2, n2, c2, rfl, r2, b⟩
   have RB := hid r2
   clear r2
   have RA_3 := hid (RA_2.out.keep b)
   have Kp_3 := hid (Kp.out.keep b)
   have BW_3 := hid (bx_call BW_2.out b)
   clear RA_2 Kp BW_2
   have H2 := cell_bx hH b
   clear hH b
   (try go_wp2_with fail)
   refine hK.out _ _ ?_ (fun hH => ?_)
   exact H2
   clear hK K H2
   (try simp only [Act.put, gy0, gy1, gy2])
   refine wpAnyH_ready (rs := [4, 10]) (by kernel_rfl) (by simp) ?_
   refine AllReadyH.cons (by simp only [gx0, gx1, gx2]; rfl) (fun K hK => ?_) ?_
   go_simp
   refine (D2.out _ A1 n1 c1 A2 n2 c2 RA_3.out RB.out).mono ?_
   rintro e W4 ⟨AP, nP, cP, AQ, nQ, cQ, rfl, r3, r4, b⟩
   have RP := hid r3
   have RQ := hid r4
   clear r3 r4
   have RA_4 := hid (RA_3.out.keep b)
   have Kp_4 := hid (Kp_3.out.keep b)
   have RB_4 := hid (RB.out.keep b)
   have BW_4 := hid (bx_call BW_3.out b)
   clear RA_3 Kp_3 RB BW_3
   have H2 := cell_bx hH b
   clear hH b
   (try go_wp2_with fail)
   refine hK.out _ _ ?_ (fun hH => ?_)
   exact H2
   clear hK K H2
   (try simp only [Act.put, gy0, gy1, gy2])
   clear RA_4
   clear RB_4
   refine wpAnyH_take (i := 5) (v := ?_) (by simp only [gx0, gx1, gx2]; rfl) (by kernel_rfl) (by kernel_rfl) (by kernel_rfl) (fun _ _ _ h => h) (.inl ⟨by rfl, ?_⟩) hH ?_
   rotate_left
   · intro w hSw; (try dsimp only at hSw); first | (go_simp; done) | (go_simp; with_reducible rfl)
   (try simp only [Act.put, gy0, gy1, gy2])
   refine wpAnyH_take (i := 6) (v := ?_) (by simp only [gx0, gx1, gx2]; rfl) (by kernel_rfl) (by kernel_rfl) (by kernel_rfl) (fun _ _ _ h => h) (.inl ⟨by rfl, ?_⟩) hH ?_
   rotate_left
   · intro w hSw; (try dsimp only at hSw); first | (go_simp; done) | (go_simp; with_reducible rfl)
   (try simp only [Act.put, gy0, gy1, gy2])
   refine wpAnyH_take (i := 7) (v := ?_) (by simp only [gx0, gx1, gx2]; rfl) (by kernel_rfl) (by kernel_rfl) (by kernel_rfl) (fun _ _ _ h => h) (.inl ⟨by rfl, ?_⟩) hH ?_
   rotate_left
   · intro w hSw; (try dsimp only at hSw); first | (go_simp; done) | (go_simp; with_reducible rfl)
   (try simp only [Act.put, gy0, gy1, gy2])
   refine wpAnyH_take (i := 8) (v := ?_) (by simp only [gx0, gx1, gx2]; rfl) (by kernel_rfl) (by kernel_rfl) (by kernel_rfl) (fun _ _ _ h => h) (.inl ⟨by rfl, ?_⟩) hH ?_
   rotate_left
   · intro w hSw; (try dsimp only at hSw); first | (go_simp; done) | (go_simp; with_reducible rfl)
   (try simp only [Act.put, gy0, gy1, gy2])
   refine wpAnyH_ready (rs := [10]) (by kernel_rfl) (by simp) ?_
   refine AllReadyH.cons (by simp only [gx0, gx1, gx2]; rfl) (fun K hK => ?_) ?_
   go_simp
   obtain ⟨W5, q, hW, hp, b, kk⟩ := mk_int W4
   have gq : w3.heap.size ≤ q := by rw [hp]; exact BW_4.out.size
   have ne : p ≠ q := by rw [hp]; exact Nat.ne_of_lt Kp_4.out.lt
   rw [← hW, ← hp]
   clear hW hp
   have Kq := hid kk
   clear kk
   have Kp_5 := hid (Kp_4.out.keep b)
   have RP_5 := hid (RP.out.keep b)
   have RQ_5 := hid (RQ.out.keep b)
   have BW_5 := hid (bx_call BW_4.out b)
   clear Kp_4 RP RQ BW_4
   have H2 := cell_bx hH b
   clear hH b
   refine hK.out _ _ ?_ (fun hH => ?_)
   exact H2
   clear hK K H2
   (try simp only [Act.put, gy0, gy1, gy2])
   have TM := hid (two_made (z1 := z5) (z2 := z6) BW_5.out gp gq ne rfl rfl Kp_5.out Kq.out RP_5.out RQ_5.out)
   obtain ⟨⟨a1, a2, a3, a4⟩, ⟨d1, d2, d3, d4⟩, ne2, O⟩ := tail_facts Kp_5.out Kq.out ne gp gq nw.out
   refine wpAnyH_ready (rs := [11]) (by kernel_rfl) (by simp) ?_
   refine AllReadyH.cons (by simp only [gx0, gx1, gx2]; rfl) (fun K hK => ?_) AllReadyH.nil
   go_simp
   refine hK.out _ _ (cell_fr (cell_fr hH O.out.1) O.out.1) (fun hH2 => ?_)
   clear hK K hH
   (try simp only [Act.put, gy0, gy1, gy2])
   refine wpAnyH_ready (rs := [12]) (by kernel_rfl) (by simp) ?_
   refine AllReadyH.cons (by simp only [gx0, gx1, gx2]; rfl) (fun K hK => ?_) AllReadyH.nil
   go_simp
   refine hK.out _ _ (cell_fr (cell_fr hH2 O.out.2) O.out.2) (fun hH => ?_)
   clear hK K hH2 a1 a2 a3 a4 d1 d2 d3 d4
   (try simp only [Act.put, gy0, gy1, gy2])
   refine wpAnyH_ready (rs := [13]) (by kernel_rfl) (by simp) ?_
   refine AllReadyH.cons (by simp only [gx0, gx1, gx2]; rfl) (fun K hK => ?_) AllReadyH.nil
   go_simp
   refine hK.out _ _ hH (fun hH2 => ?_)
   clear hK K hH
   (try simp only [Act.put, gy0, gy1, gy2])
   refine wpAnyH_done (by kernel_rfl) ?_ _
   refine NoPanic.normal ?_
   go_wp2_with fail
   go_meet
   exact ⟨p, q, AP, nP, cP, AQ, nQ, cQ, rfl, rfl, rfl, hid ⟨TM.out.1, TM.out.2⟩⟩
   exact AllReadyH.nil
   refine AllReadyH.cons (by simp only [gx0, gx1, gx2]; rfl) (fun K hK => ?_) ?_
   go_simp
   obtain ⟨W4, q, hW, hp, b, kk⟩ := mk_int W3
   have gq : w3.heap.size ≤ q := by rw [hp]; exact BW_3.out.size
   have ne : p ≠ q := by rw [hp]; exact Nat.ne_of_lt Kp_3.out.lt
   rw [← hW, ← hp]
   clear hW hp
   have Kq := hid kk
   clear kk
   have RA_4 := hid (RA_3.out.keep b)
   have Kp_4 := hid (Kp_3.out.keep b)
   have RB_4 := hid (RB.out.keep b)
   have BW_4 := hid (bx_call BW_3.out b)
   clear RA_3 Kp_3 RB BW_3
   have H2 := cell_bx hH b
   clear hH b
   refine hK.out _ _ ?_ (fun hH => ?_)
   exact H2
   clear hK K H2
   (try simp only [Act.put, gy0, gy1, gy2])
   refine wpAnyH_ready (rs := [4]) (by kernel_rfl) (by simp) ?_
   refine AllReadyH.cons (by simp only [gx0, gx1, gx2]; rfl) (fun K hK => ?_) ?_
   go_simp
   refine (D2.out _ A1 n1 c1 A2 n2 c2 RA_4.out RB_4.out).mono ?_
   rintro e W5 ⟨AP, nP, cP, AQ, nQ, cQ, rfl, r3, r4, b⟩
   have RP := hid r3
   have RQ := hid r4
   clear r3 r4
   have RA_5 := hid (RA_4.out.keep b)
   have Kp_5 := hid (Kp_4.out.keep b)
   have RB_5 := hid (RB_4.out.keep b)
   have Kq_5 := hid (Kq.out.keep b)
   have BW_5 := hid (bx_call BW_4.out b)
   clear RA_4 Kp_4 RB_4 Kq BW_4
   have H2 := cell_bx hH b
   clear hH b
   (try go_wp2_with fail)
   refine hK.out _ _ ?_ (fun hH => ?_)
   exact H2
   clear hK K H2
   (try simp only [Act.put, gy0, gy1, gy2])
   clear RA_5
   clear RB_5
   refine wpAnyH_take (i := 5) (v := ?_) (by simp only [gx0, gx1, gx2]; rfl) (by kernel_rfl) (by kernel_rfl) (by kernel_rfl) (fun _ _ _ h => h) (.inl ⟨by rfl, ?_⟩) hH ?_
   rotate_left
   · intro w hSw; (try dsimp only at hSw); first | (go_simp; done) | (go_simp; with_reducible rfl)
   (try simp only [Act.put, gy0, gy1, gy2])
   refine wpAnyH_take (i := 6) (v := ?_) (by simp only [gx0, gx1, gx2]; rfl) (by kernel_rfl) (by kernel_rfl) (by kernel_rfl) (fun _ _ _ h => h) (.inl ⟨by rfl, ?_⟩) hH ?_
   rotate_left
   · intro w hSw; (try dsimp only at hSw); first | (go_simp; done) | (go_simp; with_reducible rfl)
   (try simp only [Act.put, gy0, gy1, gy2])
   refine wpAnyH_take (i := 7) (v := ?_) (by simp only [gx0, gx1, gx2]; rfl) (by kernel_rfl) (by kernel_rfl) (by kernel_rfl) (fun _ _ _ h => h) (.inl ⟨by rfl, ?_⟩) hH ?_
   rotate_left
   · intro w hSw; (try dsimp only at hSw); first | (go_simp; done) | (go_simp; with_reducible rfl)
   (try simp only [Act.put, gy0, gy1, gy2])
   refine wpAnyH_take (i := 8) (v := ?_) (by simp only [gx0, gx1, gx2]; rfl) (by kernel_rfl) (by kernel_rfl) (by kernel_rfl) (fun _ _ _ h => h) (.inl ⟨by rfl, ?_⟩) hH ?_
   rotate_left
   · intro w hSw; (try dsimp only at hSw); first | (go_simp; done) | (go_simp; with_reducible rfl)
   (try simp only [Act.put, gy0, gy1, gy2])
   have TM := hid (two_made (z1 := z5) (z2 := z6) BW_5.out gp gq ne rfl rfl Kp_5.out Kq_5.out RP.out RQ.out)
   obtain ⟨⟨a1, a2, a3, a4⟩, ⟨d1, d2, d3, d4⟩, ne2, O⟩ := tail_facts Kp_5.out Kq_5.out ne gp gq nw.out
   refine wpAnyH_ready (rs := [11]) (by kernel_rfl) (by simp) ?_
   refine AllReadyH.cons (by simp only [gx0, gx1, gx2]; rfl) (fun K hK => ?_) AllReadyH.nil
   go_simp
   refine hK.out _ _ (cell_fr (cell_fr hH O.out.1) O.out.1) (fun hH2 => ?_)
   clear hK K hH
   (try simp only [Act.put, gy0, gy1, gy2])
   refine wpAnyH_ready (rs := [12]) (by kernel_rfl) (by simp) ?_
   refine AllReadyH.cons (by simp only [gx0, gx1, gx2]; rfl) (fun K hK => ?_) AllReadyH.nil
   go_simp
   refine hK.out _ _ (cell_fr (cell_fr hH2 O.out.2) O.out.2) (fun hH => ?_)
   clear hK K hH2 a1 a2 a3 a4 d1 d2 d3 d4
   (try simp only [Act.put, gy0, gy1, gy2])
   refine wpAnyH_ready (rs := [13]) (by kernel_rfl) (by simp) ?_
   refine AllReadyH.cons (by simp only [gx0, gx1, gx2]; rfl) (fun K hK => ?_) AllReadyH.nil
   go_simp
   refine hK.out _ _ hH (fun hH2 => ?_)
   clear hK K hH
   (try simp only [Act.put, gy0, gy1, gy2])
   refine wpAnyH_done (by kernel_rfl) ?_ _
   refine NoPanic.normal ?_
   go_wp2_with fail
   go_meet
   exact ⟨p, q, AP, nP, cP, AQ, nQ, cQ, rfl, rfl, rfl, hid ⟨TM.out.1, TM.out.2⟩⟩
   exact AllReadyH.nil
   exact AllReadyH.nil
   refine AllReadyH.cons (by simp only [gx0, gx1, gx2]; rfl) (fun K hK => ?_) ?_
   go_simp
   obtain ⟨W3, q, hW, hp, b, kk⟩ := mk_int W2
   have gq : w3.heap.size ≤ q := by rw [hp]; exact BW_2.out.size
   have ne : p ≠ q := by rw [hp]; exact Nat.ne_of_lt Kp.out.lt
   rw [← hW, ← hp]
   clear hW hp
   have Kq := hid kk
   clear kk
   have RA_3 := hid (RA_2.out.keep b)
   have Kp_3 := hid (Kp.out.keep b)
   have BW_3 := hid (bx_call BW_2.out b)
   clear RA_2 Kp BW_2
   have H2 := cell_bx hH b
   clear hH b
   refine hK.out _ _ ?_ (fun hH => ?_)
   exact H2
   clear hK K H2
   (try simp only [Act.put, gy0, gy1, gy2])
   refine wpAnyH_ready (rs := [3]) (by kernel_rfl) (by simp) ?_
   refine AllReadyH.cons (by simp only [gx0, gx1, gx2]; rfl) (fun K hK => ?_) ?_
   go_simp
   refine (Fd.out _).mono ?_
   rintro e W4 ⟨A2, n2, c2, rfl, r2, b⟩
   have RB := hid r2
   clear r2
   have RA_4 := hid (RA_3.out.keep b)
   have Kp_4 := hid (Kp_3.out.keep b)
   have Kq_4 := hid (Kq.out.keep b)
   have BW_4 := hid (bx_call BW_3.out b)
   clear RA_3 Kp_3 Kq BW_3
   have H2 := cell_bx hH b
   clear hH b
   (try go_wp2_with fail)
   refine hK.out _ _ ?_ (fun hH => ?_)
   exact H2
   clear hK K H2
   (try simp only [Act.put, gy0, gy1, gy2])
   refine wpAnyH_ready (rs := [4]) (by kernel_rfl) (by simp) ?_
   refine AllReadyH.cons (by simp only [gx0, gx1, gx2]; rfl) (fun K hK => ?_) ?_
   go_simp
   refine (D2.out _ A1 n1 c1 A2 n2 c2 RA_4.out RB.out).mono ?_
   rintro e W5 ⟨AP, nP, cP, AQ, nQ, cQ, rfl, r3, r4, b⟩
   have RP := hid r3
   have RQ := hid r4
   clear r3 r4
   have RA_5 := hid (RA_4.out.keep b)
   have Kp_5 := hid (Kp_4.out.keep b)
   have Kq_5 := hid (Kq_4.out.keep b)
   have RB_5 := hid (RB.out.keep b)
   have BW_5 := hid (bx_call BW_4.out b)
   clear RA_4 Kp_4 Kq_4 RB BW_4
   have H2 := cell_bx hH b
   clear hH b
   (try go_wp2_with fail)
   refine hK.out _ _ ?_ (fun hH => ?_)
   exact H2
   clear hK K H2
   (try simp only [Act.put, gy0, gy1, gy2])
   clear RA_5
   clear RB_5
   refine wpAnyH_take (i := 5) (v := ?_) (by simp only [gx0, gx1, gx2]; rfl) (by kernel_rfl) (by kernel_rfl) (by kernel_rfl) (fun _ _ _ h => h) (.inl ⟨by rfl, ?_⟩) hH ?_
   rotate_left
   · intro w hSw; (try dsimp only at hSw); first | (go_simp; done) | (go_simp; with_reducible rfl)
   (try simp only [Act.put, gy0, gy1, gy2])
   refine wpAnyH_take (i := 6) (v := ?_) (by simp only [gx0, gx1, gx2]; rfl) (by kernel_rfl) (by kernel_rfl) (by kernel_rfl) (fun _ _ _ h => h) (.inl ⟨by rfl, ?_⟩) hH ?_
   rotate_left
   · intro w hSw; (try dsimp only at hSw); first | (go_simp; done) | (go_simp; with_reducible rfl)
   (try simp only [Act.put, gy0, gy1, gy2])
   refine wpAnyH_take (i := 7) (v := ?_) (by simp only [gx0, gx1, gx2]; rfl) (by kernel_rfl) (by kernel_rfl) (by kernel_rfl) (fun _ _ _ h => h) (.inl ⟨by rfl, ?_⟩) hH ?_
   rotate_left
   · intro w hSw; (try dsimp only at hSw); first | (go_simp; done) | (go_simp; with_reducible rfl)
   (try simp only [Act.put, gy0, gy1, gy2])
   refine wpAnyH_take (i := 8) (v := ?_) (by simp only [gx0, gx1, gx2]; rfl) (by kernel_rfl) (by kernel_rfl) (by kernel_rfl) (fun _ _ _ h => h) (.inl ⟨by rfl, ?_⟩) hH ?_
   rotate_left
   · intro w hSw; (try dsimp only at hSw); first | (go_simp; done) | (go_simp; with_reducible rfl)
   (try simp only [Act.put, gy0, gy1, gy2])
   have TM := hid (two_made (z1 := z5) (z2 := z6) BW_5.out gp gq ne rfl rfl Kp_5.out Kq_5.out RP.out RQ.out)
   obtain ⟨⟨a1, a2, a3, a4⟩, ⟨d1, d2, d3, d4⟩, ne2, O⟩ := tail_facts Kp_5.out Kq_5.out ne gp gq nw.out
   refine wpAnyH_ready (rs := [11]) (by kernel_rfl) (by simp) ?_
   refine AllReadyH.cons (by simp only [gx0, gx1, gx2]; rfl) (fun K hK => ?_) AllReadyH.nil
   go_simp
   refine hK.out _ _ (cell_fr (cell_fr hH O.out.1) O.out.1) (fun hH2 => ?_)
   clear hK K hH
   (try simp only [Act.put, gy0, gy1, gy2])
   refine wpAnyH_ready (rs := [12]) (by kernel_rfl) (by simp) ?_
   refine AllReadyH.cons (by simp only [gx0, gx1, gx2]; rfl) (fun K hK => ?_) AllReadyH.nil
   go_simp
   refine hK.out _ _ (cell_fr (cell_fr hH2 O.out.2) O.out.2) (fun hH => ?_)
   clear hK K hH2 a1 a2 a3 a4 d1 d2 d3 d4
   (try simp only [Act.put, gy0, gy1, gy2])
   refine wpAnyH_ready (rs := [13]) (by kernel_rfl) (by simp) ?_
   refine AllReadyH.cons (by simp only [gx0, gx1, gx2]; rfl) (fun K hK => ?_) AllReadyH.nil
   go_simp
   refine hK.out _ _ hH (fun hH2 => ?_)
   clear hK K hH
   (try simp only [Act.put, gy0, gy1, gy2])
   refine wpAnyH_done (by kernel_rfl) ?_ _
   refine NoPanic.normal ?_
   go_wp2_with fail
   go_meet
   exact ⟨p, q, AP, nP, cP, AQ, nQ, cQ, rfl, rfl, rfl, hid ⟨TM.out.1, TM.out.2⟩⟩
   exact AllReadyH.nil
   exact AllReadyH.nil
   exact AllReadyH.nil
   refine AllReadyH.cons (by simp only [gx0, gx1, gx2]; rfl) (fun K hK => ?_) ?_
   go_simp
   obtain ⟨W2, q, hW, hp, b, kk⟩ := mk_int W1
   have gq : w3.heap.size ≤ q := by rw [hp]; exact BW_1.out.size
   rw [← hW, ← hp]
   clear hW hp
   have Kq := hid kk
   clear kk
   have RA_2 := hid (RA.out.keep b)
   have BW_2 := hid (bx_call BW_1.out b)
   clear RA BW_1
   have H2 := cell_bx hH b
   clear hH b
   refine hK.out _ _ ?_ (fun hH => ?_)
   exact H2
   clear hK K H2
   (try simp only [Act.put, gy0, gy1, gy2])
   refine wpAnyH_ready (rs := [3, 9]) (by kernel_rfl) (by simp) ?_
   refine AllReadyH.cons (by simp only [gx0, gx1, gx2]; rfl) (fun K hK => ?_) ?_
   go_simp
   refine (Fd.out _).mono ?_
   rintro e W3 ⟨A2, n2, c2, rfl, r2, b⟩
   have RB := hid r2
   clear r2
   have RA_3 := hid (RA_2.out.keep b)
   have Kq_3 := hid (Kq.out.keep b)
   have BW_3 := hid (bx_call BW_2.out b)
   clear RA_2 Kq BW_2
   have H2 := cell_bx hH b
   clear hH b
   (try go_wp2_with fail)
   refine hK.out _ _ ?_ (fun hH => ?_)
   exact H2
   clear hK K H2
   (try simp only [Act.put, gy0, gy1, gy2])
   refine wpAnyH_ready (rs := [4, 9]) (by kernel_rfl) (by simp) ?_
   refine AllReadyH.cons (by simp only [gx0, gx1, gx2]; rfl) (fun K hK => ?_) ?_
   go_simp
   refine (D2.out _ A1 n1 c1 A2 n2 c2 RA_3.out RB.out).mono ?_
   rintro e W4 ⟨AP, nP, cP, AQ, nQ, cQ, rfl, r3, r4, b⟩
   have RP := hid r3
   have RQ := hid r4
   clear r3 r4
   have RA_4 := hid (RA_3.out.keep b)
   have Kq_4 := hid (Kq_3.out.keep b)
   have RB_4 := hid (RB.out.keep b)
   have BW_4 := hid (bx_call BW_3.out b)
   clear RA_3 Kq_3 RB BW_3
   have H2 := cell_bx hH b
   clear hH b
   (try go_wp2_with fail)
   refine hK.out _ _ ?_ (fun hH => ?_)
   exact H2
   clear hK K H2
   (try simp only [Act.put, gy0, gy1, gy2])
   clear RA_4
   clear RB_4
   refine wpAnyH_take (i := 5) (v := ?_) (by simp only [gx0, gx1, gx2]; rfl) (by kernel_rfl) (by kernel_rfl) (by kernel_rfl) (fun _ _ _ h => h) (.inl ⟨by rfl, ?_⟩) hH ?_
   rotate_left
   · intro w hSw; (try dsimp only at hSw); first | (go_simp; done) | (go_simp; with_reducible rfl)
   (try simp only [Act.put, gy0, gy1, gy2])
   refine wpAnyH_take (i := 6) (v := ?_) (by simp only [gx0, gx1, gx2]; rfl) (by kernel_rfl) (by kernel_rfl) (by kernel_rfl) (fun _ _ _ h => h) (.inl ⟨by rfl, ?_⟩) hH ?_
   rotate_left
   · intro w hSw; (try dsimp only at hSw); first | (go_simp; done) | (go_simp; with_reducible rfl)
   (try simp only [Act.put, gy0, gy1, gy2])
   refine wpAnyH_take (i := 7) (v := ?_) (by simp only [gx0, gx1, gx2]; rfl) (by kernel_rfl) (by kernel_rfl) (by kernel_rfl) (fun _ _ _ h => h) (.inl ⟨by rfl, ?_⟩) hH ?_
   rotate_left
   · intro w hSw; (try dsimp only at hSw); first | (go_simp; done) | (go_simp; with_reducible rfl)
   (try simp only [Act.put, gy0, gy1, gy2])
   refine wpAnyH_take (i := 8) (v := ?_) (by simp only [gx0, gx1, gx2]; rfl) (by kernel_rfl) (by kernel_rfl) (by kernel_rfl) (fun _ _ _ h => h) (.inl ⟨by rfl, ?_⟩) hH ?_
   rotate_left
   · intro w hSw; (try dsimp only at hSw); first | (go_simp; done) | (go_simp; with_reducible rfl)
   (try simp only [Act.put, gy0, gy1, gy2])
   refine wpAnyH_ready (rs := [9]) (by kernel_rfl) (by simp) ?_
   refine AllReadyH.cons (by simp only [gx0, gx1, gx2]; rfl) (fun K hK => ?_) ?_
   go_simp
   obtain ⟨W5, p, hW, hp, b, kk⟩ := mk_int W4
   have gp : w3.heap.size ≤ p := by rw [hp]; exact BW_4.out.size
   have ne : p ≠ q := by rw [hp]; exact Nat.ne_of_gt Kq_4.out.lt
   rw [← hW, ← hp]
   clear hW hp
   have Kp := hid kk
   clear kk
   have Kq_5 := hid (Kq_4.out.keep b)
   have RP_5 := hid (RP.out.keep b)
   have RQ_5 := hid (RQ.out.keep b)
   have BW_5 := hid (bx_call BW_4.out b)
   clear Kq_4 RP RQ BW_4
   have H2 := cell_bx hH b
   clear hH b
   refine hK.out _ _ ?_ (fun hH => ?_)
   exact H2
   clear hK K H2
   (try simp only [Act.put, gy0, gy1, gy2])
   have TM := hid (two_made (z1 := z5) (z2 := z6) BW_5.out gp gq ne rfl rfl Kp.out Kq_5.out RP_5.out RQ_5.out)
   obtain ⟨⟨a1, a2, a3, a4⟩, ⟨d1, d2, d3, d4⟩, ne2, O⟩ := tail_facts Kp.out Kq_5.out ne gp gq nw.out
   refine wpAnyH_ready (rs := [11]) (by kernel_rfl) (by simp) ?_
   refine AllReadyH.cons (by simp only [gx0, gx1, gx2]; rfl) (fun K hK => ?_) AllReadyH.nil
   go_simp
   refine hK.out _ _ (cell_fr (cell_fr hH O.out.1) O.out.1) (fun hH2 => ?_)
   clear hK K hH
   (try simp only [Act.put, gy0, gy1, gy2])
   refine wpAnyH_ready (rs := [12]) (by kernel_rfl) (by simp) ?_
   refine AllReadyH.cons (by simp only [gx0, gx1, gx2]; rfl) (fun K hK => ?_) AllReadyH.nil
   go_simp
   refine hK.out _ _ (cell_fr (cell_fr hH2 O.out.2) O.out.2) (fun hH => ?_)
   clear hK K hH2 a1 a2 a3 a4 d1 d2 d3 d4
   (try simp only [Act.put, gy0, gy1, gy2])
   refine wpAnyH_ready (rs := [13]) (by kernel_rfl) (by simp) ?_
   refine AllReadyH.cons (by simp only [gx0, gx1, gx2]; rfl) (fun K hK => ?_) AllReadyH.nil
   go_simp
   refine hK.out _ _ hH (fun hH2 => ?_)
   clear hK K hH
   (try simp only [Act.put, gy0, gy1, gy2])
   refine wpAnyH_done (by kernel_rfl) ?_ _
   refine NoPanic.normal ?_
   go_wp2_with fail
   go_meet
   exact ⟨p, q, AP, nP, cP, AQ, nQ, cQ, rfl, rfl, rfl, hid ⟨TM.out.1, TM.out.2⟩⟩
   exact AllReadyH.nil
   refine AllReadyH.cons (by simp only [gx0, gx1, gx2]; rfl) (fun K hK => ?_) ?_
   go_simp
   obtain ⟨W4, p, hW, hp, b, kk⟩ := mk_int W3
   have gp : w3.heap.size ≤ p := by rw [hp]; exact BW_3.out.size
   have ne : p ≠ q := by rw [hp]; exact Nat.ne_of_gt Kq_3.out.lt
   rw [← hW, ← hp]
   clear hW hp
   have Kp := hid kk
   clear kk
   have RA_4 := hid (RA_3.out.keep b)
   have Kq_4 := hid (Kq_3.out.keep b)
   have RB_4 := hid (RB.out.keep b)
   have BW_4 := hid (bx_call BW_3.out b)
   clear RA_3 Kq_3 RB BW_3
   have H2 := cell_bx hH b
   clear hH b
   refine hK.out _ _ ?_ (fun hH => ?_)
   exact H2
   clear hK K H2
   (try simp only [Act.put, gy0, gy1, gy2])
   refine wpAnyH_ready (rs := [4]) (by kernel_rfl) (by simp) ?_
   refine AllReadyH.cons (by simp only [gx0, gx1, gx2]; rfl) (fun K hK => ?_) ?_
   go_simp
   refine (D2.out _ A1 n1 c1 A2 n2 c2 RA_4.out RB_4.out).mono ?_
   rintro e W5 ⟨AP, nP, cP, AQ, nQ, cQ, rfl, r3, r4, b⟩
   have RP := hid r3
   have RQ := hid r4
   clear r3 r4
   have RA_5 := hid (RA_4.out.keep b)
   have Kq_5 := hid (Kq_4.out.keep b)
   have RB_5 := hid (RB_4.out.keep b)
   have Kp_5 := hid (Kp.out.keep b)
   have BW_5 := hid (bx_call BW_4.out b)
   clear RA_4 Kq_4 RB_4 Kp BW_4
   have H2 := cell_bx hH b
   clear hH b
   (try go_wp2_with fail)
   refine hK.out _ _ ?_ (fun hH => ?_)
   exact H2
   clear hK K H2
   (try simp only [Act.put, gy0, gy1, gy2])
   clear RA_5
   clear RB_5
   refine wpAnyH_take (i := 5) (v := ?_) (by simp only [gx0, gx1, gx2]; rfl) (by kernel_rfl) (by kernel_rfl) (by kernel_rfl) (fun _ _ _ h => h) (.inl ⟨by rfl, ?_⟩) hH ?_
   rotate_left
   · intro w hSw; (try dsimp only at hSw); first | (go_simp; done) | (go_simp; with_reducible rfl)
   (try simp only [Act.put, gy0, gy1, gy2])
   refine wpAnyH_take (i := 6) (v := ?_) (by simp only [gx0, gx1, gx2]; rfl) (by kernel_rfl) (by kernel_rfl) (by kernel_rfl) (fun _ _ _ h => h) (.inl ⟨by rfl, ?_⟩) hH ?_
   rotate_left
   · intro w hSw; (try dsimp only at hSw); first | (go_simp; done) | (go_simp; with_reducible rfl)
   (try simp only [Act.put, gy0, gy1, gy2])
   refine wpAnyH_take (i := 7) (v := ?_) (by simp only [gx0, gx1, gx2]; rfl) (by kernel_rfl) (by kernel_rfl) (by kernel_rfl) (fun _ _ _ h => h) (.inl ⟨by rfl, ?_⟩) hH ?_
   rotate_left
   · intro w hSw; (try dsimp only at hSw); first | (go_simp; done) | (go_simp; with_reducible rfl)
   (try simp only [Act.put, gy0, gy1, gy2])
   refine wpAnyH_take (i := 8) (v := ?_) (by simp only [gx0, gx1, gx2]; rfl) (by kernel_rfl) (by kernel_rfl) (by kernel_rfl) (fun _ _ _ h => h) (.inl ⟨by rfl, ?_⟩) hH ?_
   rotate_left
   · intro w hSw; (try dsimp only at hSw); first | (go_simp; done) | (go_simp; with_reducible rfl)
   (try simp only [Act.put, gy0, gy1, gy2])
   have TM := hid (two_made (z1 := z5) (z2 := z6) BW_5.out gp gq ne rfl rfl Kp_5.out Kq_5.out RP.out RQ.out)
   obtain ⟨⟨a1, a2, a3, a4⟩, ⟨d1, d2, d3, d4⟩, ne2, O⟩ := tail_facts Kp_5.out Kq_5.out ne gp gq nw.out
   refine wpAnyH_ready (rs := [11]) (by kernel_rfl) (by simp) ?_
   refine AllReadyH.cons (by simp only [gx0, gx1, gx2]; rfl) (fun K hK => ?_) AllReadyH.nil
   go_simp
   refine hK.out _ _ (cell_fr (cell_fr hH O.out.1) O.out.1) (fun hH2 => ?_)
   clear hK K hH
   (try simp only [Act.put, gy0, gy1, gy2])
   refine wpAnyH_ready (rs := [12]) (by kernel_rfl) (by simp) ?_
   refine AllReadyH.cons (by simp only [gx0, gx1, gx2]; rfl) (fun K hK => ?_) AllReadyH.nil
   go_simp
   refine hK.out _ _ (cell_fr (cell_fr hH2 O.out.2) O.out.2) (fun hH => ?_)
   clear hK K hH2 a1 a2 a3 a4 d1 d2 d3 d4
   (try simp only [Act.put, gy0, gy1, gy2])
   refine wpAnyH_ready (rs := [13]) (by kernel_rfl) (by simp) ?_
   refine AllReadyH.cons (by simp only [gx0, gx1, gx2]; rfl) (fun K hK => ?_) AllReadyH.nil
   go_simp
   refine hK.out _ _ hH (fun hH2 => ?_)
   clear hK K hH
   (try simp only [Act.put, gy0, gy1, gy2])
   refine wpAnyH_done (by kernel_rfl) ?_ _
   refine NoPanic.normal ?_
   go_wp2_with fail
   go_meet
   exact ⟨p, q, AP, nP, cP, AQ, nQ, cQ, rfl, rfl, rfl, hid ⟨TM.out.1, TM.out.2⟩⟩
   exact AllReadyH.nil
   exact AllReadyH.nil
   refine AllReadyH.cons (by simp only [gx0, gx1, gx2]; rfl) (fun K hK => ?_) ?_
   go_simp
   obtain ⟨W3, p, hW, hp, b, kk⟩ := mk_int W2
   have gp : w3.heap.size ≤ p := by rw [hp]; exact BW_2.out.size
   have ne : p ≠ q := by rw [hp]; exact Nat.ne_of_gt Kq.out.lt
   rw [← hW, ← hp]
   clear hW hp
   have Kp := hid kk
   clear kk
   have RA_3 := hid (RA_2.out.keep b)
   have Kq_3 := hid (Kq.out.keep b)
   have BW_3 := hid (bx_call BW_2.out b)
   clear RA_2 Kq BW_2
   have H2 := cell_bx hH b
   clear hH b
   refine hK.out _ _ ?_ (fun hH => ?_)
   exact H2
   clear hK K H2
   (try simp only [Act.put, gy0, gy1, gy2])
   refine wpAnyH_ready (rs := [3]) (by kernel_rfl) (by simp) ?_
   refine AllReadyH.cons (by simp only [gx0, gx1, gx2]; rfl) (fun K hK => ?_) ?_
   go_simp
   refine (Fd.out _).mono ?_
   rintro e W4 ⟨A2, n2, c2, rfl, r2, b⟩
   have RB := hid r2
   clear r2
   have RA_4 := hid (RA_3.out.keep b)
   have Kq_4 := hid (Kq_3.out.keep b)
   have Kp_4 := hid (Kp.out.keep b)
   have BW_4 := hid (bx_call BW_3.out b)
   clear RA_3 Kq_3 Kp BW_3
   have H2 := cell_bx hH b
   clear hH b
   (try go_wp2_with fail)
   refine hK.out _ _ ?_ (fun hH => ?_)
   exact H2
   clear hK K H2
   (try simp only [Act.put, gy0, gy1, gy2])
   refine wpAnyH_ready (rs := [4]) (by kernel_rfl) (by simp) ?_
   refine AllReadyH.cons (by simp only [gx0, gx1, gx2]; rfl) (fun K hK => ?_) ?_
   go_simp
   refine (D2.out _ A1 n1 c1 A2 n2 c2 RA_4.out RB.out).mono ?_
   rintro e W5 ⟨AP, nP, cP, AQ, nQ, cQ, rfl, r3, r4, b⟩
   have RP := hid r3
   have RQ := hid r4
   clear r3 r4
   have RA_5 := hid (RA_4.out.keep b)
   have Kq_5 := hid (Kq_4.out.keep b)
   have Kp_5 := hid (Kp_4.out.keep b)
   have RB_5 := hid (RB.out.keep b)
   have BW_5 := hid (bx_call BW_4.out b)
   clear RA_4 Kq_4 Kp_4 RB BW_4
   have H2 := cell_bx hH b
   clear hH b
   (try go_wp2_with fail)
   refine hK.out _ _ ?_ (fun hH => ?_)
   exact H2
   clear hK K H2
   (try simp only [Act.put, gy0, gy1, gy2])
   clear RA_5
   clear RB_5
   refine wpAnyH_take (i := 5) (v := ?_) (by simp only [gx0, gx1, gx2]; rfl) (by kernel_rfl) (by kernel_rfl) (by kernel_rfl) (fun _ _ _ h => h) (.inl ⟨by rfl, ?_⟩) hH ?_
   rotate_left
   · intro w hSw; (try dsimp only at hSw); first | (go_simp; done) | (go_simp; with_reducible rfl)
   (try simp only [Act.put, gy0, gy1, gy2])
   refine wpAnyH_take (i := 6) (v := ?_) (by simp only [gx0, gx1, gx2]; rfl) (by kernel_rfl) (by kernel_rfl) (by kernel_rfl) (fun _ _ _ h => h) (.inl ⟨by rfl, ?_⟩) hH ?_
   rotate_left
   · intro w hSw; (try dsimp only at hSw); first | (go_simp; done) | (go_simp; with_reducible rfl)
   (try simp only [Act.put, gy0, gy1, gy2])
   refine wpAnyH_take (i := 7) (v := ?_) (by simp only [gx0, gx1, gx2]; rfl) (by kernel_rfl) (by kernel_rfl) (by kernel_rfl) (fun _ _ _ h => h) (.inl ⟨by rfl, ?_⟩) hH ?_
   rotate_left
   · intro w hSw; (try dsimp only at hSw); first | (go_simp; done) | (go_simp; with_reducible rfl)
   (try simp only [Act.put, gy0, gy1, gy2])
   refine wpAnyH_take (i := 8) (v := ?_) (by simp only [gx0, gx1, gx2]; rfl) (by kernel_rfl) (by kernel_rfl) (by kernel_rfl) (fun _ _ _ h => h) (.inl ⟨by rfl, ?_⟩) hH ?_
   rotate_left
   · intro w hSw; (try dsimp only at hSw); first | (go_simp; done) | (go_simp; with_reducible rfl)
   (try simp only [Act.put, gy0, gy1, gy2])
   have TM := hid (two_made (z1 := z5) (z2 := z6) BW_5.out gp gq ne rfl rfl Kp_5.out Kq_5.out RP.out RQ.out)
   obtain ⟨⟨a1, a2, a3, a4⟩, ⟨d1, d2, d3, d4⟩, ne2, O⟩ := tail_facts Kp_5.out Kq_5.out ne gp gq nw.out
   refine wpAnyH_ready (rs := [11]) (by kernel_rfl) (by simp) ?_
   refine AllReadyH.cons (by simp only [gx0, gx1, gx2]; rfl) (fun K hK => ?_) AllReadyH.nil
   go_simp
   refine hK.out _ _ (cell_fr (cell_fr hH O.out.1) O.out.1) (fun hH2 => ?_)
   clear hK K hH
   (try simp only [Act.put, gy0, gy1, gy2])
   refine wpAnyH_ready (rs := [12]) (by kernel_rfl) (by simp) ?_
   refine AllReadyH.cons (by simp only [gx0, gx1, gx2]; rfl) (fun K hK => ?_) AllReadyH.nil
   go_simp
   refine hK.out _ _ (cell_fr (cell_fr hH2 O.out.2) O.out.2) (fun hH => ?_)
   clear hK K hH2 a1 a2 a3 a4 d1 d2 d3 d4
   (try simp only [Act.put, gy0, gy1, gy2])
   refine wpAnyH_ready (rs := [13]) (by kernel_rfl) (by simp) ?_
   refine AllReadyH.cons (by simp only [gx0, gx1, gx2]; rfl) (fun K hK => ?_) AllReadyH.nil
   go_simp
   refine hK.out _ _ hH (fun hH2 => ?_)
   clear hK K hH
   (try simp only [Act.put, gy0, gy1, gy2])
   refine wpAnyH_done (by kernel_rfl) ?_ _
   refine NoPanic.normal ?_
   go_wp2_with fail
   go_meet
   exact ⟨p, q, AP, nP, cP, AQ, nQ, cQ, rfl, rfl, rfl, hid ⟨TM.out.1, TM.out.2⟩⟩
   exact AllReadyH.nil
   exact AllReadyH.nil
   exact AllReadyH.nil
   exact AllReadyH.nil
   refine AllReadyH.cons (by simp only [gx0, gx1, gx2]; rfl) (fun K hK => ?_) ?_
   go_simp
   obtain ⟨W1, p, hW, hp, b, kk⟩ := mk_int W0
   have gp : w3.heap.size ≤ p := by rw [hp]; exact BW_0.out.size
   rw [← hW, ← hp]
   clear hW hp
   have Kp := hid kk
   clear kk
   have BW_1 := hid (bx_call BW_0.out b)
   clear BW_0
   have H2 := cell_bx hH b
   clear hH b
   refine hK.out _ _ ?_ (fun hH => ?_)
   exact H2
   clear hK K H2
   (try simp only [Act.put, gy0, gy1, gy2])
   refine wpAnyH_ready (rs := [1, 10]) (by kernel_rfl) (by simp) ?_
   refine AllReadyH.cons (by simp only [gx0, gx1, gx2]; rfl) (fun K hK => ?_) ?_
   go_simp
   refine (Fc.out _).mono ?_
   rintro e W2 ⟨A1, n1, c1, rfl, r1, b⟩
   have RA := hid r1
   clear r1
   have Kp_2 := hid (Kp.out.keep b)
   have BW_2 := hid (bx_call BW_1.out b)
   clear Kp BW_1
   have H2 := cell_bx hH b
   clear hH b
   (try go_wp2_with fail)
   refine hK.out _ _ ?_ (fun hH => ?_)
   exact H2
   clear hK K H2
   (try simp only [Act.put, gy0, gy1, gy2])
   refine wpAnyH_ready (rs := [3, 10]) (by kernel_rfl) (by simp) ?_
   refine AllReadyH.cons (by simp only [gx0, gx1, gx2]; rfl) (fun K hK => ?_) ?_
   go_simp
   refine (Fd.out _).mono ?_
   rintro e W3 ⟨A2, n2, c2, rfl, r2, b⟩
   have RB := hid r2
   clear r2
   have Kp_3 := hid (Kp_2.out.keep b)
   have RA_3 := hid (RA.out.keep b)
   have BW_3 := hid (bx_call BW_2.out b)
   clear Kp_2 RA BW_2
   have H2 := cell_bx hH b
   clear hH b
   (try go_wp2_with fail)
   refine hK.out _ _ ?_ (fun hH => ?_)
   exact H2
   clear hK K H2
   (try simp only [Act.put, gy0, gy1, gy2])
   refine wpAnyH_ready (rs := [4, 10]) (by kernel_rfl) (by simp) ?_
   refine AllReadyH.cons (by simp only [gx0, gx1, gx2]; rfl) (fun K hK => ?_) ?_
   go_simp
   refine (D2.out _ A1 n1 c1 A2 n2 c2 RA_3.out RB.out).mono ?_
   rintro e W4 ⟨AP, nP, cP, AQ, nQ, cQ, rfl, r3, r4, b⟩
   have RP := hid r3
   have RQ := hid r4
   clear r3 r4
   have Kp_4 := hid (Kp_3.out.keep b)
   have RA_4 := hid (RA_3.out.keep b)
   have RB_4 := hid (RB.out.keep b)
   have BW_4 := hid (bx_call BW_3.out b)
   clear Kp_3 RA_3 RB BW_3
   have H2 := cell_bx hH b
   clear hH b
   (try go_wp2_with fail)
   refine hK.out _ _ ?_ (fun hH => ?_)
   exact H2
   clear hK K H2
   (try simp only [Act.put, gy0, gy1, gy2])
   clear RA_4
   clear RB_4
   refine wpAnyH_take (i := 5) (v := ?_) (by simp only [gx0, gx1, gx2]; rfl) (by kernel_rfl) (by kernel_rfl) (by kernel_rfl) (fun _ _ _ h => h) (.inl ⟨by rfl, ?_⟩) hH ?_
   rotate_left
   · intro w hSw; (try dsimp only at hSw); first | (go_simp; done) | (go_simp; with_reducible rfl)
   (try simp only [Act.put, gy0, gy1, gy2])
   refine wpAnyH_take (i := 6) (v := ?_) (by simp only [gx0, gx1, gx2]; rfl) (by kernel_rfl) (by kernel_rfl) (by kernel_rfl) (fun _ _ _ h => h) (.inl ⟨by rfl, ?_⟩) hH ?_
   rotate_left
   · intro w hSw; (try dsimp only at hSw); first | (go_simp; done) | (go_simp; with_reducible rfl)
   (try simp only [Act.put, gy0, gy1, gy2])
   refine wpAnyH_take (i := 7) (v := ?_) (by simp only [gx0, gx1, gx2]; rfl) (by kernel_rfl) (by kernel_rfl) (by kernel_rfl) (fun _ _ _ h => h) (.inl ⟨by rfl, ?_⟩) hH ?_
   rotate_left
   · intro w hSw; (try dsimp only at hSw); first | (go_simp; done) | (go_simp; with_reducible rfl)
   (try simp only [Act.put, gy0, gy1, gy2])
   refine wpAnyH_take (i := 8) (v := ?_) (by simp only [gx0, gx1, gx2]; rfl) (by kernel_rfl) (by kernel_rfl) (by kernel_rfl) (fun _ _ _ h => h) (.inl ⟨by rfl, ?_⟩) hH ?_
   rotate_left
   · intro w hSw; (try dsimp only at hSw); first | (go_simp; done) | (go_simp; with_reducible rfl)
   (try simp only [Act.put, gy0, gy1, gy2])
   refine wpAnyH_ready (rs := [10]) (by kernel_rfl) (by simp) ?_
   refine AllReadyH.cons (by simp only [gx0, gx1, gx2]; rfl) (fun K hK => ?_) ?_
   go_simp
   obtain ⟨W5, q, hW, hp, b, kk⟩ := mk_int W4
   have gq : w3.heap.size ≤ q := by rw [hp]; exact BW_4.out.size
   have ne : p ≠ q := by rw [hp]; exact Nat.ne_of_lt Kp_4.out.lt
   rw [← hW, ← hp]
   clear hW hp
   have Kq := hid kk
   clear kk
   have Kp_5 := hid (Kp_4.out.keep b)
   have RP_5 := hid (RP.out.keep b)
   have RQ_5 := hid (RQ.out.keep b)
   have BW_5 := hid (bx_call BW_4.out b)
   clear Kp_4 RP RQ BW_4
   have H2 := cell_bx hH b
   clear hH b
   refine hK.out _ _ ?_ (fun hH => ?_)
   exact H2
   clear hK K H2
   (try simp only [Act.put, gy0, gy1, gy2])
   have TM := hid (two_made (z1 := z5) (z2 := z6) BW_5.out gp gq ne rfl rfl Kp_5.out Kq.out RP_5.out RQ_5.out)
   obtain ⟨⟨a1, a2, a3, a4⟩, ⟨d1, d2, d3, d4⟩, ne2, O⟩ := tail_facts Kp_5.out Kq.out ne gp gq nw.out
   refine wpAnyH_ready (rs := [11]) (by kernel_rfl) (by simp) ?_
   refine AllReadyH.cons (by simp only [gx0, gx1, gx2]; rfl) (fun K hK => ?_) AllReadyH.nil
   go_simp
   refine hK.out _ _ (cell_fr (cell_fr hH O.out.1) O.out.1) (fun hH2 => ?_)
   clear hK K hH
   (try simp only [Act.put, gy0, gy1, gy2])
   refine wpAnyH_ready (rs := [12]) (by kernel_rfl) (by simp) ?_
   refine AllReadyH.cons (by simp only [gx0, gx1, gx2]; rfl) (fun K hK => ?_) AllReadyH.nil
   go_simp
   refine hK.out _ _ (cell_fr (cell_fr hH2 O.out.2) O.out.2) (fun hH => ?_)
   clear hK K hH2 a1 a2 a3 a4 d1 d2 d3 d4
   (try simp only [Act.put, gy0, gy1, gy2])
   refine wpAnyH_ready (rs := [13]) (by kernel_rfl) (by simp) ?_
   refine AllReadyH.cons (by simp only [gx0, gx1, gx2]; rfl) (fun K hK => ?_) AllReadyH.nil
   go_simp
   refine hK.out _ _ hH (fun hH2 => ?_)
   clear hK K hH
   (try simp only [Act.put, gy0, gy1, gy2])
   refine wpAnyH_done (by kernel_rfl) ?_ _
   refine NoPanic.normal ?_
   go_wp2_with fail
   go_meet
   exact ⟨p, q, AP, nP, cP, AQ, nQ, cQ, rfl, rfl, rfl, hid ⟨TM.out.1, TM.out.2⟩⟩
   exact AllReadyH.nil
   refine AllReadyH.cons (by simp only [gx0, gx1, gx2]; rfl) (fun K hK => ?_) ?_
   go_simp
   obtain ⟨W4, q, hW, hp, b, kk⟩ := mk_int W3
   have gq : w3.heap.size ≤ q := by rw [hp]; exact BW_3.out.size
   have ne : p ≠ q := by rw [hp]; exact Nat.ne_of_lt Kp_3.out.lt
   rw [← hW, ← hp]
   clear hW hp
   have Kq := hid kk
   clear kk
   have Kp_4 := hid (Kp_3.out.keep b)
   have RA_4 := hid (RA_3.out.keep b)
   have RB_4 := hid (RB.out.keep b)
   have BW_4 := hid (bx_call BW_3.out b)
   clear Kp_3 RA_3 RB BW_3
   have H2 := cell_bx hH b
   clear hH b
   refine hK.out _ _ ?_ (fun hH => ?_)
   exact H2
   clear hK K H2
   (try simp only [Act.put, gy0, gy1, gy2])
   refine wpAnyH_ready (rs := [4]) (by kernel_rfl) (by simp) ?_
   refine AllReadyH.cons (by simp only [gx0, gx1, gx2]; rfl) (fun K hK => ?_) ?_
   go_simp
   refine (D2.out _ A1 n1 c1 A2 n2 c2 RA_4.out RB_4.out).mono ?_
   rintro e W5 ⟨AP, nP, cP, AQ, nQ, cQ, rfl, r3, r4, b⟩
   have RP := hid r3
   have RQ := hid r4
   clear r3 r4
   have Kp_5 := hid (Kp_4.out.keep b)
   have RA_5 := hid (RA_4.out.keep b)
   have RB_5 := hid (RB_4.out.keep b)
   have Kq_5 := hid (Kq.out.keep b)
   have BW_5 := hid (bx_call BW_4.out b)
   clear Kp_4 RA_4 RB_4 Kq BW_4
   have H2 := cell_bx hH b
   clear hH b
   (try go_wp2_with fail)
   refine hK.out _ _ ?_ (fun hH => ?_)
   exact H2
   clear hK K H2
   (try simp only [Act.put, gy0, gy1, gy2])
   clear RA_5
   clear RB_5
   refine wpAnyH_take (i := 5) (v := ?_) (by simp only [gx0, gx1, gx2]; rfl) (by kernel_rfl) (by kernel_rfl) (by kernel_rfl) (fun _ _ _ h => h) (.inl ⟨by rfl, ?_⟩) hH ?_
   rotate_left
   · intro w hSw; (try dsimp only at hSw); first | (go_simp; done) | (go_simp; with_reducible rfl)
   (try simp only [Act.put, gy0, gy1, gy2])
   refine wpAnyH_take (i := 6) (v := ?_) (by simp only [gx0, gx1, gx2]; rfl) (by kernel_rfl) (by kernel_rfl) (by kernel_rfl) (fun _ _ _ h => h) (.inl ⟨by rfl, ?_⟩) hH ?_
   rotate_left
   · intro w hSw; (try dsimp only at hSw); first | (go_simp; done) | (go_simp; with_reducible rfl)
   (try simp only [Act.put, gy0, gy1, gy2])
   refine wpAnyH_take (i := 7) (v := ?_) (by simp only [gx0, gx1, gx2]; rfl) (by kernel_rfl) (by kernel_rfl) (by kernel_rfl) (fun _ _ _ h => h) (.inl ⟨by rfl, ?_⟩) hH ?_
   rotate_left
   · intro w hSw; (try dsimp only at hSw); first | (go_simp; done) | (go_simp; with_reducible rfl)
   (try simp only [Act.put, gy0, gy1, gy2])
   refine wpAnyH_take (i := 8) (v := ?_) (by simp only [gx0, gx1, gx2]; rfl) (by kernel_rfl) (by kernel_rfl) (by kernel_rfl) (fun _ _ _ h => h) (.inl ⟨by rfl, ?_⟩) hH ?_
   rotate_left
   · intro w hSw; (try dsimp only at hSw); first | (go_simp; done) | (go_simp; with_reducible rfl)
   (try simp only [Act.put, gy0, gy1, gy2])
   have TM := hid (two_made (z1 := z5) (z2 := z6) BW_5.out gp gq ne rfl rfl Kp_5.out Kq_5.out RP.out RQ.out)
   obtain ⟨⟨a1, a2, a3, a4⟩, ⟨d1, d2, d3, d4⟩, ne2, O⟩ := tail_facts Kp_5.out Kq_5.out ne gp gq nw.out
   refine wpAnyH_ready (rs := [11]) (by kernel_rfl) (by simp) ?_
   refine AllReadyH.cons (by simp only [gx0, gx1, gx2]; rfl) (fun K hK => ?_) AllReadyH.nil
   go_simp
   refine hK.out _ _ (cell_fr (cell_fr hH O.out.1) O.out.1) (fun hH2 => ?_)
   clear hK K hH
   (try simp only [Act.put, gy0, gy1, gy2])
   refine wpAnyH_ready (rs := [12]) (by kernel_rfl) (by simp) ?_
   refine AllReadyH.cons (by simp only [gx0, gx1, gx2]; rfl) (fun K hK => ?_) AllReadyH.nil
   go_simp
   refine hK.out _ _ (cell_fr (cell_fr hH2 O.out.2) O.out.2) (fun hH => ?_)
   clear hK K hH2 a1 a2 a3 a4 d1 d2 d3 d4
   (try simp only [Act.put, gy0, gy1, gy2])
   refine wpAnyH_ready (rs := [13]) (by kernel_rfl) (by simp) ?_
   refine AllReadyH.cons (by simp only [gx0, gx1, gx2]; rfl) (fun K hK => ?_) AllReadyH.nil
   go_simp
   refine hK.out _ _ hH (fun hH2 => ?_)
   clear hK K hH
   (try simp only [Act.put, gy0, gy1, gy2])
   refine wpAnyH_done (by kernel_rfl) ?_ _
   refine NoPanic.normal ?_
   go_wp2_with fail
   go_meet
   exact ⟨p, q, AP, nP, cP, AQ, nQ, cQ, rfl, rfl, rfl, hid ⟨TM.out.1, TM.out.2⟩⟩
   exact AllReadyH.nil
   exact AllReadyH.nil
   refine AllReadyH.cons (by simp only [gx0, gx1, gx2]; rfl) (fun K hK => ?_) ?_
   go_simp
   obtain ⟨W3, q, hW, hp, b, kk⟩ := mk_int W2
   have gq : w3.heap.size ≤ q := by rw [hp]; exact BW_2.out.size
   have ne : p ≠ q := by rw [hp]; exact Nat.ne_of_lt Kp_2.out.lt
   rw [← hW, ← hp]
   clear hW hp
   have Kq := hid kk
   clear kk
   have Kp_3 := hid (Kp_2.out.keep b)
   have RA_3 := hid (RA.out.keep b)
   have BW_3 := hid (bx_call BW_2.out b)
   clear Kp_2 RA BW_2
   have H2 := cell_bx hH b
   clear hH b
   refine hK.out _ _ ?_ (fun hH => ?_)
   exact H2
   clear hK K H2
   (try simp only [Act.put, gy0, gy1, gy2])
   refine wpAnyH_ready (rs := [3]) (by kernel_rfl) (by simp) ?_
   refine AllReadyH.cons (by simp only [gx0, gx1, gx2]; rfl) (fun K hK => ?_) ?_
   go_simp
   refine (Fd.out _).mono ?_
   rintro e W4 ⟨A2, n2, c2, rfl, r2, b⟩
   have RB := hid r2
   clear r2
   have Kp_4 := hid (Kp_3.out.keep b)
   have RA_4 := hid (RA_3.out.keep b)
   have Kq_4 := hid (Kq.out.keep b)
   have BW_4 := hid (bx_call BW_3.out b)
   clear Kp_3 RA_3 Kq BW_3
   have H2 := cell_bx hH b
   clear hH b
   (try go_wp2_with fail)
   refine hK.out _ _ ?_ (fun hH => ?_)
   exact H2
   clear hK K H2
   (try simp only [Act.put, gy0, gy1, gy2])
   refine wpAnyH_ready (rs := [4]) (by kernel_rfl) (by simp) ?_
   refine AllReadyH.cons (by simp only [gx0, gx1, gx2]; rfl) (fun K hK => ?_) ?_
   go_simp
   refine (D2.out _ A1 n1 c1 A2 n2 c2 RA_4.out RB.out).mono ?_
   rintro e W5 ⟨AP, nP, cP, AQ, nQ, cQ, rfl, r3, r4, b⟩
   have RP := hid r3
   have RQ := hid r4
   clear r3 r4
   have Kp_5 := hid (Kp_4.out.keep b)
   have RA_5 := hid (RA_4.out.keep b)
   have Kq_5 := hid (Kq_4.out.keep b)
   have RB_5 := hid (RB.out.keep b)
   have BW_5 := hid (bx_call BW_4.out b)
   clear Kp_4 RA_4 Kq_4 RB BW_4
   have H2 := cell_bx hH b
   clear hH b
   (try go_wp2_with fail)
   refine hK.out _ _ ?_ (fun hH => ?_)
   exact H2
   clear hK K H2
   (try simp only [Act.put, gy0, gy1, gy2])
   clear RA_5
   clear RB_5
   refine wpAnyH_take (i := 5) (v := ?_) (by simp only [gx0, gx1, gx2]; rfl) (by kernel_rfl) (by kernel_rfl) (by kernel_rfl) (fun _ _ _ h => h) (.inl ⟨by rfl, ?_⟩) hH ?_
   rotate_left
   · intro w hSw; (try dsimp only at hSw); first | (go_simp; done) | (go_simp; with_reducible rfl)
   (try simp only [Act.put, gy0, gy1, gy2])
   refine wpAnyH_take (i := 6) (v := ?_) (by simp only [gx0, gx1, gx2]; rfl) (by kernel_rfl) (by kernel_rfl) (by kernel_rfl) (fun _ _ _ h => h) (.inl ⟨by rfl, ?_⟩) hH ?_
   rotate_left
   · intro w hSw; (try dsimp only at hSw); first | (go_simp; done) | (go_simp; with_reducible rfl)
   (try simp only [Act.put, gy0, gy1, gy2])
   refine wpAnyH_take (i := 7) (v := ?_) (by simp only [gx0, gx1, gx2]; rfl) (by kernel_rfl) (by kernel_rfl) (by kernel_rfl) (fun _ _ _ h => h) (.inl ⟨by rfl, ?_⟩) hH ?_
   rotate_left
   · intro w hSw; (try dsimp only at hSw); first | (go_simp; done) | (go_simp; with_reducible rfl)
   (try simp only [Act.put, gy0, gy1, gy2])
   refine wpAnyH_take (i := 8) (v := ?_) (by simp only [gx0, gx1, gx2]; rfl) (by kernel_rfl) (by kernel_rfl) (by kernel_rfl) (fun _ _ _ h => h) (.inl ⟨by rfl, ?_⟩) hH ?_
   rotate_left
   · intro w hSw; (try dsimp only at hSw); first | (go_simp; done) | (go_simp; with_reducible rfl)
   (try simp only [Act.put, gy0, gy1, gy2])
   have TM := hid (two_made (z1 := z5) (z2 := z6) BW_5.out gp gq ne rfl rfl Kp_5.out Kq_5.out RP.out RQ.out)
   obtain ⟨⟨a1, a2, a3, a4⟩, ⟨d1, d2, d3, d4⟩, ne2, O⟩ := tail_facts Kp_5.out Kq_5.out ne gp gq nw.out
   refine wpAnyH_ready (rs := [11]) (by kernel_rfl) (by simp) ?_
   refine AllReadyH.cons (by simp only [gx0, gx1, gx2]; rfl) (fun K hK => ?_) AllReadyH.nil
   go_simp
   refine hK.out _ _ (cell_fr (cell_fr hH O.out.1) O.out.1) (fun hH2 => ?_)
   clear hK K hH
   (try simp only [Act.put, gy0, gy1, gy2])
   refine wpAnyH_ready (rs := [12]) (by kernel_rfl) (by simp) ?_
   refine AllReadyH.cons (by simp only [gx0, gx1, gx2]; rfl) (fun K hK => ?_) AllReadyH.nil
   go_simp
   refine hK.out _ _ (cell_fr (cell_fr hH2 O.out.2) O.out.2) (fun hH => ?_)
   clear hK K hH2 a1 a2 a3 a4 d1 d2 d3 d4
   (try simp only [Act.put, gy0, gy1, gy2])
   refine wpAnyH_ready (rs := [13]) (by kernel_rfl) (by simp) ?_
   refine AllReadyH.cons (by simp only [gx0, gx1, gx2]; rfl) (fun K hK => ?_) AllReadyH.nil
   go_simp
   refine hK.out _ _ hH (fun hH2 => ?_)
   clear hK K hH
   (try simp only [Act.put, gy0, gy1, gy2])
   refine wpAnyH_done (by kernel_rfl) ?_ _
   refine NoPanic.normal ?_
   go_wp2_with fail
   go_meet
   exact ⟨p, q, AP, nP, cP, AQ, nQ, cQ, rfl, rfl, rfl, hid ⟨TM.out.1, TM.out.2⟩⟩
   exact AllReadyH.nil
   exact AllReadyH.nil
   exact AllReadyH.nil
   refine AllReadyH.cons (by simp only [gx0, gx1, gx2]; rfl) (fun K hK => ?_) ?_
   go_simp
   obtain ⟨W2, q, hW, hp, b, kk⟩ := mk_int W1
   have gq : w3.heap.size ≤ q := by rw [hp]; exact BW_1.out.size
   have ne : p ≠ q := by rw [hp]; exact Nat.ne_of_lt Kp.out.lt
   rw [← hW, ← hp]
   clear hW hp
   have Kq := hid kk
   clear kk
   have Kp_2 := hid (Kp.out.keep b)
   have BW_2 := hid (bx_call BW_1.out b)
   clear Kp BW_1
   have H2 := cell_bx hH b
   clear hH b
   refine hK.out _ _ ?_ (fun hH => ?_)
   exact H2
   clear hK K H2
   (try simp only [Act.put, gy0, gy1, gy2])
   refine wpAnyH_ready (rs := [1]) (by kernel_rfl) (by simp) ?_
   refine AllReadyH.cons (by simp only [gx0, gx1, gx2]; rfl) (fun K hK => ?_) ?_
   go_simp
   refine (Fc.out _).mono ?_
   rintro e W3 ⟨A1, n1, c1, rfl, r1, b⟩
   have RA := hid r1
   clear r1
   have Kp_3 := hid (Kp_2.out.keep b)
   have Kq_3 := hid (Kq.out.keep b)
   have BW_3 := hid (bx_call BW_2.out b)
   clear Kp_2 Kq BW_2
   have H2 := cell_bx hH b
   clear hH b
   (try go_wp2_with fail)
   refine hK.out _ _ ?_ (fun hH => ?_)
   exact H2
   clear hK K H2
   (try simp only [Act.put, gy0, gy1, gy2])
   refine wpAnyH_ready (rs := [3]) (by kernel_rfl) (by simp) ?_
   refine AllReadyH.cons (by simp only [gx0, gx1, gx2]; rfl) (fun K hK => ?_) ?_
   go_simp
   refine (Fd.out _).mono ?_
   rintro e W4 ⟨A2, n2, c2, rfl, r2, b⟩
   have RB := hid r2
   clear r2
   have Kp_4 := hid (Kp_3.out.keep b)
   have Kq_4 := hid (Kq_3.out.keep b)
   have RA_4 := hid (RA.out.keep b)
   have BW_4 := hid (bx_call BW_3.out b)
   clear Kp_3 Kq_3 RA BW_3
   have H2 := cell_bx hH b
   clear hH b
   (try go_wp2_with fail)
   refine hK.out _ _ ?_ (fun hH => ?_)
   exact H2
   clear hK K H2
   (try simp only [Act.put, gy0, gy1, gy2])
   refine wpAnyH_ready (rs := [4]) (by kernel_rfl) (by simp) ?_
   refine AllReadyH.cons (by simp only [gx0, gx1, gx2]; rfl) (fun K hK => ?_) ?_
   go_simp
   refine (D2.out _ A1 n1 c1 A2 n2 c2 RA_4.out RB.out).mono ?_
   rintro e W5 ⟨AP, nP, cP, AQ, nQ, cQ, rfl, r3, r4, b⟩
   have RP := hid r3
   have RQ := hid r4
   clear r3 r4
   have Kp_5 := hid (Kp_4.out.keep b)
   have Kq_5 := hid (Kq_4.out.keep b)
   have RA_5 := hid (RA_4.out.keep b)
   have RB_5 := hid (RB.out.keep b)
   have BW_5 := hid (bx_call BW_4.out b)
   clear Kp_4 Kq_4 RA_4 RB BW_4
   have H2 := cell_bx hH b
   clear hH b
   (try go_wp2_with fail)
   refine hK.out _ _ ?_ (fun hH => ?_)
   exact H2
   clear hK K H2
   (try simp only [Act.put, gy0, gy1, gy2])
   clear RA_5
   clear RB_5
   refine wpAnyH_take (i := 5) (v := ?_) (by simp only [gx0, gx1, gx2]; rfl) (by kernel_rfl) (by kernel_rfl) (by kernel_rfl) (fun _ _ _ h => h) (.inl ⟨by rfl, ?_⟩) hH ?_
   rotate_left
   · intro w hSw; (try dsimp only at hSw); first | (go_simp; done) | (go_simp; with_reducible rfl)
   (try simp only [Act.put, gy0, gy1, gy2])
   refine wpAnyH_take (i := 6) (v := ?_) (by simp only [gx0, gx1, gx2]; rfl) (by kernel_rfl) (by kernel_rfl) (by kernel_rfl) (fun _ _ _ h => h) (.inl ⟨by rfl, ?_⟩) hH ?_
   rotate_left
   · intro w hSw; (try dsimp only at hSw); first | (go_simp; done) | (go_simp; with_reducible rfl)
   (try simp only [Act.put, gy0, gy1, gy2])
   refine wpAnyH_take (i := 7) (v := ?_) (by simp only [gx0, gx1, gx2]; rfl) (by kernel_rfl) (by kernel_rfl) (by kernel_rfl) (fun _ _ _ h => h) (.inl ⟨by rfl, ?_⟩) hH ?_
   rotate_left
   · intro w hSw; (try dsimp only at hSw); first | (go_simp; done) | (go_simp; with_reducible rfl)
   (try simp only [Act.put, gy0, gy1, gy2])
   refine wpAnyH_take (i := 8) (v := ?_) (by simp only [gx0, gx1, gx2]; rfl) (by kernel_rfl) (by kernel_rfl) (by kernel_rfl) (fun _ _ _ h => h) (.inl ⟨by rfl, ?_⟩) hH ?_
   rotate_left
   · intro w hSw; (try dsimp only at hSw); first | (go_simp; done) | (go_simp; with_reducible rfl)
   (try simp only [Act.put, gy0, gy1, gy2])
   have TM := hid (two_made (z1 := z5) (z2 := z6) BW_5.out gp gq ne rfl rfl Kp_5.out Kq_5.out RP.out RQ.out)
   obtain ⟨⟨a1, a2, a3, a4⟩, ⟨d1, d2, d3, d4⟩, ne2, O⟩ := tail_facts Kp_5.out Kq_5.out ne gp gq nw.out
   refine wpAnyH_ready (rs := [11]) (by kernel_rfl) (by simp) ?_
   refine AllReadyH.cons (by simp only [gx0, gx1, gx2]; rfl) (fun K hK => ?_) AllReadyH.nil
   go_simp
   refine hK.out _ _ (cell_fr (cell_fr hH O.out.1) O.out.1) (fun hH2 => ?_)
   clear hK K hH
   (try simp only [Act.put, gy0, gy1, gy2])
   refine wpAnyH_ready (rs := [12]) (by kernel_rfl) (by simp) ?_
   refine AllReadyH.cons (by simp only [gx0, gx1, gx2]; rfl) (fun K hK => ?_) AllReadyH.nil
   go_simp
   refine hK.out _ _ (cell_fr (cell_fr hH2 O.out.2) O.out.2) (fun hH => ?_)
   clear hK K hH2 a1 a2 a3 a4 d1 d2 d3 d4
   (try simp only [Act.put, gy0, gy1, gy2])
   refine wpAnyH_ready (rs := [13]) (by kernel_rfl) (by simp) ?_
   refine AllReadyH.cons (by simp only [gx0, gx1, gx2]; rfl) (fun K hK => ?_) AllReadyH.nil
   go_simp
   refine hK.out _ _ hH (fun hH2 => ?_)
   clear hK K hH
   (try simp only [Act.put, gy0, gy1, gy2])
   refine wpAnyH_done (by kernel_rfl) ?_ _
   refine NoPanic.normal ?_
   go_wp2_with fail
   go_meet
   exact ⟨p, q, AP, nP, cP, AQ, nQ, cQ, rfl, rfl, rfl, hid ⟨TM.out.1, TM.out.2⟩⟩
   exact AllReadyH.nil
   exact AllReadyH.nil
   exact AllReadyH.nil
   exact AllReadyH.nil
   refine AllReadyH.cons (by simp only [gx0, gx1, gx2]; rfl) (fun K hK => ?_) ?_
   go_simp
   obtain ⟨W1, q, hW, hp, b, kk⟩ := mk_int W0
   have gq : w3.heap.size ≤ q := by rw [hp]; exact BW_0.out.size
   rw [← hW, ← hp]
   clear hW hp
   have Kq := hid kk
   clear kk
   have BW_1 := hid (bx_call BW_0.out b)
   clear BW_0
   have H2 := cell_bx hH b
   clear hH b
   refine hK.out _ _ ?_ (fun hH => ?_)
   exact H2
   clear hK K H2
   (try simp only [Act.put, gy0, gy1, gy2])
   refine wpAnyH_ready (rs := [1, 9]) (by kernel_rfl) (by simp) ?_
   refine AllReadyH.cons (by simp only [gx0, gx1, gx2]; rfl) (fun K hK => ?_) ?_
   go_simp
   refine (Fc.out _).mono ?_
   rintro e W2 ⟨A1, n1, c1, rfl, r1, b⟩
   have RA := hid r1
   clear r1
   have Kq_2 := hid (Kq.out.keep b)
   have BW_2 := hid (bx_call BW_1.out b)
   clear Kq BW_1
   have H2 := cell_bx hH b
   clear hH b
   (try go_wp2_with fail)
   refine hK.out _ _ ?_ (fun hH => ?_)
   exact H2
   clear hK K H2
   (try simp only [Act.put, gy0, gy1, gy2])
   refine wpAnyH_ready (rs := [3, 9]) (by kernel_rfl) (by simp) ?_
   refine AllReadyH.cons (by simp only [gx0, gx1, gx2]; rfl) (fun K hK => ?_) ?_
   go_simp
   refine (Fd.out _).mono ?_
   rintro e W3 ⟨A2, n2, c2, rfl, r2, b⟩
   have RB := hid r2
   clear r2
   have Kq_3 := hid (Kq_2.out.keep b)
   have RA_3 := hid (RA.out.keep b)
   have BW_3 := hid (bx_call BW_2.out b)
   clear Kq_2 RA BW_2
   have H2 := cell_bx hH b
   clear hH b
   (try go_wp2_with fail)
   refine hK.out _ _ ?_ (fun hH => ?_)
   exact H2
   clear hK K H2
   (try simp only [Act.put, gy0, gy1, gy2])
   refine wpAnyH_ready (rs := [4, 9]) (by kernel_rfl) (by simp) ?_
   refine AllReadyH.cons (by simp only [gx0, gx1, gx2]; rfl) (fun K hK => ?_) ?_
   go_simp
   refine (D2.out _ A1 n1 c1 A2 n2 c2 RA_3.out RB.out).mono ?_
   rintro e W4 ⟨AP, nP, cP, AQ, nQ, cQ, rfl, r3, r4, b⟩
   have RP := hid r3
   have RQ := hid r4
   clear r3 r4
   have Kq_4 := hid (Kq_3.out.keep b)
   have RA_4 := hid (RA_3.out.keep b)
   have RB_4 := hid (RB.out.keep b)
   have BW_4 := hid (bx_call BW_3.out b)
   clear Kq_3 RA_3 RB BW_3
   have H2 := cell_bx hH b
   clear hH b
   (try go_wp2_with fail)
   refine hK.out _ _ ?_ (fun hH => ?_)
   exact H2
   clear hK K H2
   (try simp only [Act.put, gy0, gy1, gy2])
   clear RA_4
   clear RB_4
   refine wpAnyH_take (i := 5) (v := ?_) (by simp only [gx0, gx1, gx2]; rfl) (by kernel_rfl) (by kernel_rfl) (by kernel_rfl) (fun _ _ _ h => h) (.inl ⟨by rfl, ?_⟩) hH ?_
   rotate_left
   · intro w hSw; (try dsimp only at hSw); first | (go_simp; done) | (go_simp; with_reducible rfl)
   (try simp only [Act.put, gy0, gy1, gy2])
   refine wpAnyH_take (i := 6) (v := ?_) (by simp only [gx0, gx1, gx2]; rfl) (by kernel_rfl) (by kernel_rfl) (by kernel_rfl) (fun _ _ _ h => h) (.inl ⟨by rfl, ?_⟩) hH ?_
   rotate_left
   · intro w hSw; (try dsimp only at hSw); first | (go_simp; done) | (go_simp; with_reducible rfl)
   (try simp only [Act.put, gy0, gy1, gy2])
   refine wpAnyH_take (i := 7) (v := ?_) (by simp only [gx0, gx1, gx2]; rfl) (by kernel_rfl) (by kernel_rfl) (by kernel_rfl) (fun _ _ _ h => h) (.inl ⟨by rfl, ?_⟩) hH ?_
   rotate_left
   · intro w hSw; (try dsimp only at hSw); first | (go_simp; done) | (go_simp; with_reducible rfl)
   (try simp only [Act.put, gy0, gy1, gy2])
   refine wpAnyH_take (i := 8) (v := ?_) (by simp only [gx0, gx1, gx2]; rfl) (by kernel_rfl) (by kernel_rfl) (by kernel_rfl) (fun _ _ _ h => h) (.inl ⟨by rfl, ?_⟩) hH ?_
   rotate_left
   · intro w hSw; (try dsimp only at hSw); first | (go_simp; done) | (go_simp; with_reducible rfl)
   (try simp only [Act.put, gy0, gy1, gy2])
   refine wpAnyH_ready (rs := [9]) (by kernel_rfl) (by simp) ?_
   refine AllReadyH.cons (by simp only [gx0, gx1, gx2]; rfl) (fun K hK => ?_) ?_
   go_simp
   obtain ⟨W5, p, hW, hp, b, kk⟩ := mk_int W4
   have gp : w3.heap.size ≤ p := by rw [hp]; exact BW_4.out.size
   have ne : p ≠ q := by rw [hp]; exact Nat.ne_of_gt Kq_4.out.lt
   rw [← hW, ← hp]
   clear hW hp
   have Kp := hid kk
   clear kk
   have Kq_5 := hid (Kq_4.out.keep b)
   have RP_5 := hid (RP.out.keep b)
   have RQ_5 := hid (RQ.out.keep b)
   have BW_5 := hid (bx_call BW_4.out b)
   clear Kq_4 RP RQ BW_4
   have H2 := cell_bx hH b
   clear hH b
   refine hK.out _ _ ?_ (fun hH => ?_)
   exact H2
   clear hK K H2
   (try simp only [Act.put, gy0, gy1, gy2])
   have TM := hid (two_made (z1 := z5) (z2 := z6) BW_5.out gp gq ne rfl rfl Kp.out Kq_5.out RP_5.out RQ_5.out)
   obtain ⟨⟨a1, a2, a3, a4⟩, ⟨d1, d2, d3, d4⟩, ne2, O⟩ := tail_facts Kp.out Kq_5.out ne gp gq nw.out
   refine wpAnyH_ready (rs := [11]) (by kernel_rfl) (by simp) ?_
   refine AllReadyH.cons (by simp only [gx0, gx1, gx2]; rfl) (fun K hK => ?_) AllReadyH.nil
   go_simp
   refine hK.out _ _ (cell_fr (cell_fr hH O.out.1) O.out.1) (fun hH2 => ?_)
   clear hK K hH
   (try simp only [Act.put, gy0, gy1, gy2])
   refine wpAnyH_ready (rs := [12]) (by kernel_rfl) (by simp) ?_
   refine AllReadyH.cons (by simp only [gx0, gx1, gx2]; rfl) (fun K hK => ?_) AllReadyH.nil
   go_simp
   refine hK.out _ _ (cell_fr (cell_fr hH2 O.out.2) O.out.2) (fun hH => ?_)
   clear hK K hH2 a1 a2 a3 a4 d1 d2 d3 d4
   (try simp only [Act.put, gy0, gy1, gy2])
   refine wpAnyH_ready (rs := [13]) (by kernel_rfl) (by simp) ?_
   refine AllReadyH.cons (by simp only [gx0, gx1, gx2]; rfl) (fun K hK => ?_) AllReadyH.nil
   go_simp
   refine hK.out _ _ hH (fun hH2 => ?_)
   clear hK K hH
   (try simp only [Act.put, gy0, gy1, gy2])
   refine wpAnyH_done (by kernel_rfl) ?_ _
   refine NoPanic.normal ?_
   go_wp2_with fail
   go_meet
   exact ⟨p, q, AP, nP, cP, AQ, nQ, cQ, rfl, rfl, rfl, hid ⟨TM.out.1, TM.out.2⟩⟩
   exact AllReadyH.nil
   refine AllReadyH.cons (by simp only [gx0, gx1, gx2]; rfl) (fun K hK => ?_) ?_
   go_simp
   obtain ⟨W4, p, hW, hp, b, kk⟩ := mk_int W3
   have gp : w3.heap.size ≤ p := by rw [hp]; exact BW_3.out.size
   have ne : p ≠ q := by rw [hp]; exact Nat.ne_of_gt Kq_3.out.lt
   rw [← hW, ← hp]
   clear hW hp
   have Kp := hid kk
   clear kk
   have Kq_4 := hid (Kq_3.out.keep b)
   have RA_4 := hid (RA_3.out.keep b)
   have RB_4 := hid (RB.out.keep b)
   have BW_4 := hid (bx_call BW_3.out b)
   clear Kq_3 RA_3 RB BW_3
   have H2 := cell_bx hH b
   clear hH b
   refine hK.out _ _ ?_ (fun hH => ?_)
   exact H2
   clear hK K H2
   (try simp only [Act.put, gy0, gy1, gy2])
   refine wpAnyH_ready (rs := [4]) (by kernel_rfl) (by simp) ?_
   refine AllReadyH.cons (by simp only [gx0, gx1, gx2]; rfl) (fun K hK => ?_) ?_
   go_simp
   refine (D2.out _ A1 n1 c1 A2 n2 c2 RA_4.out RB_4.out).mono ?_
   rintro e W5 ⟨AP, nP, cP, AQ, nQ, cQ, rfl, r3, r4, b⟩
   have RP := hid r3
   have RQ := hid r4
   clear r3 r4
   have Kq_5 := hid (Kq_4.out.keep b)
   have RA_5 := hid (RA_4.out.keep b)
   have RB_5 := hid (RB_4.out.keep b)
   have Kp_5 := hid (Kp.out.keep b)
   have BW_5 := hid (bx_call BW_4.out b)
   clear Kq_4 RA_4 RB_4 Kp BW_4
   have H2 := cell_bx hH b
   clear hH b
   (try go_wp2_with fail)
   refine hK.out _ _ ?_ (fun hH => ?_)
   exact H2
   clear hK K H2
   (try simp only [Act.put, gy0, gy1, gy2])
   clear RA_5
   clear RB_5
   refine wpAnyH_take (i := 5) (v := ?_) (by simp only [gx0, gx1, gx2]; rfl) (by kernel_rfl) (by kernel_rfl) (by kernel_rfl) (fun _ _ _ h => h) (.inl ⟨by rfl, ?_⟩) hH ?_
   rotate_left
   · intro w hSw; (try dsimp only at hSw); first | (go_simp; done) | (go_simp; with_reducible rfl)
   (try simp only [Act.put, gy0, gy1, gy2])
   refine wpAnyH_take (i := 6) (v := ?_) (by simp only [gx0, gx1, gx2]; rfl) (by kernel_rfl) (by kernel_rfl) (by kernel_rfl) (fun _ _ _ h => h) (.inl ⟨by rfl, ?_⟩) hH ?_
   rotate_left
   · intro w hSw; (try dsimp only at hSw); first | (go_simp; done) | (go_simp; with_reducible rfl)
   (try simp only [Act.put, gy0, gy1, gy2])
   refine wpAnyH_take (i := 7) (v := ?_) (by simp only [gx0, gx1, gx2]; rfl) (by kernel_rfl) (by kernel_rfl) (by kernel_rfl) (fun _ _ _ h => h) (.inl ⟨by rfl, ?_⟩) hH ?_
   rotate_left
   · intro w hSw; (try dsimp only at hSw); first | (go_simp; done) | (go_simp; with_reducible rfl)
   (try simp only [Act.put, gy0, gy1, gy2])
   refine wpAnyH_take (i := 8) (v := ?_) (by simp only [gx0, gx1, gx2]; rfl) (by kernel_rfl) (by kernel_rfl) (by kernel_rfl) (fun _ _ _ h => h) (.inl ⟨by rfl, ?_⟩) hH ?_
   rotate_left
   · intro w hSw; (try dsimp only at hSw); first | (go_simp; done) | (go_simp; with_reducible rfl)
   (try simp only [Act.put, gy0, gy1, gy2])
   have TM := hid (two_made (z1 := z5) (z2 := z6) BW_5.out gp gq ne rfl rfl Kp_5.out Kq_5.out RP.out RQ.out)
   obtain ⟨⟨a1, a2, a3, a4⟩, ⟨d1, d2, d3, d4⟩, ne2, O⟩ := tail_facts Kp_5.out Kq_5.out ne gp gq nw.out
   refine wpAnyH_ready (rs := [11]) (by kernel_rfl) (by simp) ?_
   refine AllReadyH.cons (by simp only [gx0, gx1, gx2]; rfl) (fun K hK => ?_) AllReadyH.nil
   go_simp
   refine hK.out _ _ (cell_fr (cell_fr hH O.out.1) O.out.1) (fun hH2 => ?_)
   clear hK K hH
   (try simp only [Act.put, gy0, gy1, gy2])
   refine wpAnyH_ready (rs := [12]) (by kernel_rfl) (by simp) ?_
   refine AllReadyH.cons (by simp only [gx0, gx1, gx2]; rfl) (fun K hK => ?_) AllReadyH.nil
   go_simp
   refine hK.out _ _ (cell_fr (cell_fr hH2 O.out.2) O.out.2) (fun hH => ?_)
   clear hK K hH2 a1 a2 a3 a4 d1 d2 d3 d4
   (try simp only [Act.put, gy0, gy1, gy2])
   refine wpAnyH_ready (rs := [13]) (by kernel_rfl) (by simp) ?_
   refine AllReadyH.cons (by simp only [gx0, gx1, gx2]; rfl) (fun K hK => ?_) AllReadyH.nil
   go_simp
   refine hK.out _ _ hH (fun hH2 => ?_)
   clear hK K hH
   (try simp only [Act.put, gy0, gy1, gy2])
   refine wpAnyH_done (by kernel_rfl) ?_ _
   refine NoPanic.normal ?_
   go_wp2_with fail
   go_meet
   exact ⟨p, q, AP, nP, cP, AQ, nQ, cQ, rfl, rfl, rfl, hid ⟨TM.out.1, TM.out.2⟩⟩
   exact AllReadyH.nil
   exact AllReadyH.nil
   refine AllReadyH.cons (by simp only [gx0, gx1, gx2]; rfl) (fun K hK => ?_) ?_
   go_simp
   obtain ⟨W3, p, hW, hp, b, kk⟩ := mk_int W2
   have gp : w3.heap.size ≤ p := by rw [hp]; exact BW_2.out.size
   have ne : p ≠ q := by rw [hp]; exact Nat.ne_of_gt Kq_2.out.lt
   rw [← hW, ← hp]
   clear hW hp
   have Kp := hid kk
   clear kk
   have Kq_3 := hid (Kq_2.out.keep b)
   have RA_3 := hid (RA.out.keep b)
   have BW_3 := hid (bx_call BW_2.out b)
   clear Kq_2 RA BW_2
   have H2 := cell_bx hH b
   clear hH b
   refine hK.out _ _ ?_ (fun hH => ?_)
   exact H2
   clear hK K H2
   (try simp only [Act.put, gy0, gy1, gy2])
   refine wpAnyH_ready (rs := [3]) (by kernel_rfl) (by simp) ?_
   refine AllReadyH.cons (by simp only [gx0, gx1, gx2]; rfl) (fun K hK => ?_) ?_
   go_simp
   refine (Fd.out _).mono ?_
   rintro e W4 ⟨A2, n2, c2, rfl, r2, b⟩
   have RB := hid r2
   clear r2
   have Kq_4 := hid (Kq_3.out.keep b)
   have RA_4 := hid (RA_3.out.keep b)
   have Kp_4 := hid (Kp.out.keep b)
   have BW_4 := hid (bx_call BW_3.out b)
   clear Kq_3 RA_3 Kp BW_3
   have H2 := cell_bx hH b
   clear hH b
   (try go_wp2_with fail)
   refine hK.out _ _ ?_ (fun hH => ?_)
   exact H2
   clear hK K H2
   (try simp only [Act.put, gy0, gy1, gy2])
   refine wpAnyH_ready (rs := [4]) (by kernel_rfl) (by simp) ?_
   refine AllReadyH.cons (by simp only [gx0, gx1, gx2]; rfl) (fun K hK => ?_) ?_
   go_simp
   refine (D2.out _ A1 n1 c1 A2 n2 c2 RA_4.out RB.out).mono ?_
   rintro e W5 ⟨AP, nP, cP, AQ, nQ, cQ, rfl, r3, r4, b⟩
   have RP := hid r3
   have RQ := hid r4
   clear r3 r4
   have Kq_5 := hid (Kq_4.out.keep b)
   have RA_5 := hid (RA_4.out.keep b)
   have Kp_5 := hid (Kp_4.out.keep b)
   have RB_5 := hid (RB.out.keep b)
   have BW_5 := hid (bx_call BW_4.out b)
   clear Kq_4 RA_4 Kp_4 RB BW_4
   have H2 := cell_bx hH b
   clear hH b
   (try go_wp2_with fail)
   refine hK.out _ _ ?_ (fun hH => ?_)
   exact H2
   clear hK K H2
   (try simp only [Act.put, gy0, gy1, gy2])
   clear RA_5
   clear RB_5
   refine wpAnyH_take (i := 5) (v := ?_) (by simp only [gx0, gx1, gx2]; rfl) (by kernel_rfl) (by kernel_rfl) (by kernel_rfl) (fun _ _ _ h => h) (.inl ⟨by rfl, ?_⟩) hH ?_
   rotate_left
   · intro w hSw; (try dsimp only at hSw); first | (go_simp; done) | (go_simp; with_reducible rfl)
   (try simp only [Act.put, gy0, gy1, gy2])
   refine wpAnyH_take (i := 6) (v := ?_) (by simp only [gx0, gx1, gx2]; rfl) (by kernel_rfl) (by kernel_rfl) (by kernel_rfl) (fun _ _ _ h => h) (.inl ⟨by rfl, ?_⟩) hH ?_
   rotate_left
   · intro w hSw; (try dsimp only at hSw); first | (go_simp; done) | (go_simp; with_reducible rfl)
   (try simp only [Act.put, gy0, gy1, gy2])
   refine wpAnyH_take (i := 7) (v := ?_) (by simp only [gx0, gx1, gx2]; rfl) (by kernel_rfl) (by kernel_rfl) (by kernel_rfl) (fun _ _ _ h => h) (.inl ⟨by rfl, ?_⟩) hH ?_
   rotate_left
   · intro w hSw; (try dsimp only at hSw); first | (go_simp; done) | (go_simp; with_reducible rfl)
   (try simp only [Act.put, gy0, gy1, gy2])
   refine wpAnyH_take (i := 8) (v := ?_) (by simp only [gx0, gx1, gx2]; rfl) (by kernel_rfl) (by kernel_rfl) (by kernel_rfl) (fun _ _ _ h => h) (.inl ⟨by rfl, ?_⟩) hH ?_
   rotate_left
   · intro w hSw; (try dsimp only at hSw); first | (go_simp; done) | (go_simp; with_reducible rfl)
   (try simp only [Act.put, gy0, gy1, gy2])
   have TM := hid (two_made (z1 := z5) (z2 := z6) BW_5.out gp gq ne rfl rfl Kp_5.out Kq_5.out RP.out RQ.out)
   obtain ⟨⟨a1, a2, a3, a4⟩, ⟨d1, d2, d3, d4⟩, ne2, O⟩ := tail_facts Kp_5.out Kq_5.out ne gp gq nw.out
   refine wpAnyH_ready (rs := [11]) (by kernel_rfl) (by simp) ?_
   refine AllReadyH.cons (by simp only [gx0, gx1, gx2]; rfl) (fun K hK => ?_) AllReadyH.nil
   go_simp
   refine hK.out _ _ (cell_fr (cell_fr hH O.out.1) O.out.1) (fun hH2 => ?_)
   clear hK K hH
   (try simp only [Act.put, gy0, gy1, gy2])
   refine wpAnyH_ready (rs := [12]) (by kernel_rfl) (by simp) ?_
   refine AllReadyH.cons (by simp only [gx0, gx1, gx2]; rfl) (fun K hK => ?_) AllReadyH.nil
   go_simp
   refine hK.out _ _ (cell_fr (cell_fr hH2 O.out.2) O.out.2) (fun hH => ?_)
   clear hK K hH2 a1 a2 a3 a4 d1 d2 d3 d4
   (try simp only [Act.put, gy0, gy1, gy2])
   refine wpAnyH_ready (rs := [13]) (by kernel_rfl) (by simp) ?_
   refine AllReadyH.cons (by simp only [gx0, gx1, gx2]; rfl) (fun K hK => ?_) AllReadyH.nil
   go_simp
   refine hK.out _ _ hH (fun hH2 => ?_)
   clear hK K hH
   (try simp only [Act.put, gy0, gy1, gy2])
   refine wpAnyH_done (by kernel_rfl) ?_ _
   refine NoPanic.normal ?_
   go_wp2_with fail
   go_meet
   exact ⟨p, q, AP, nP, cP, AQ, nQ, cQ, rfl, rfl, rfl, hid ⟨TM.out.1, TM.out.2⟩⟩
   exact AllReadyH.nil
   exact AllReadyH.nil
   exact AllReadyH.nil
   refine AllReadyH.cons (by simp only [gx0, gx1, gx2]; rfl) (fun K hK => ?_) ?_
   go_simp
   obtain ⟨W2, p, hW, hp, b, kk⟩ := mk_int W1
   have gp : w3.heap.size ≤ p := by rw [hp]; exact BW_1.out.size
   have ne : p ≠ q := by rw [hp]; exact Nat.ne_of_gt Kq.out.lt
   rw [← hW, ← hp]
   clear hW hp
   have Kp := hid kk
   clear kk
   have Kq_2 := hid (Kq.out.keep b)
   have BW_2 := hid (bx_call BW_1.out b)
   clear Kq BW_1
   have H2 := cell_bx hH b
   clear hH b
   refine hK.out _ _ ?_ (fun hH => ?_)
   exact H2
   clear hK K H2
   (try simp only [Act.put, gy0, gy1, gy2])
   refine wpAnyH_ready (rs := [1]) (by kernel_rfl) (by simp) ?_
   refine AllReadyH.cons (by simp only [gx0, gx1, gx2]; rfl) (fun K hK => ?_) ?_
   go_simp
   refine (Fc.out _).mono ?_
   rintro e W3 ⟨A1, n1, c1, rfl, r1, b⟩
   have RA := hid r1
   clear r1
   have Kq_3 := hid (Kq_2.out.keep b)
   have Kp_3 := hid (Kp.out.keep b)
   have BW_3 := hid (bx_call BW_2.out b)
   clear Kq_2 Kp BW_2
   have H2 := cell_bx hH b
   clear hH b
   (try go_wp2_with fail)
   refine hK.out _ _ ?_ (fun hH => ?_)
   exact H2
   clear hK K H2
   (try simp only [Act.put, gy0, gy1, gy2])
   refine wpAnyH_ready (rs := [3]) (by kernel_rfl) (by simp) ?_
   refine AllReadyH.cons (by simp only [gx0, gx1, gx2]; rfl) (fun K hK => ?_) ?_
   go_simp
   refine (Fd.out _).mono ?_
   rintro e W4 ⟨A2, n2, c2, rfl, r2, b⟩
   have RB := hid r2
   clear r2
   have Kq_4 := hid (Kq_3.out.keep b)
   have Kp_4 := hid (Kp_3.out.keep b)
   have RA_4 := hid (RA.out.keep b)
   have BW_4 := hid (bx_call BW_3.out b)
   clear Kq_3 Kp_3 RA BW_3
   have H2 := cell_bx hH b
   clear hH b
   (try go_wp2_with fail)
   refine hK.out _ _ ?_ (fun hH => ?_)
   exact H2
   clear hK K H2
   (try simp only [Act.put, gy0, gy1, gy2])
   refine wpAnyH_ready (rs := [4]) (by kernel_rfl) (by simp) ?_
   refine AllReadyH.cons (by simp only [gx0, gx1, gx2]; rfl) (fun K hK => ?_) ?_
   go_simp
   refine (D2.out _ A1 n1 c1 A2 n2 c2 RA_4.out RB.out).mono ?_
   rintro e W5 ⟨AP, nP, cP, AQ, nQ, cQ, rfl, r3, r4, b⟩
   have RP := hid r3
   have RQ := hid r4
   clear r3 r4
   have Kq_5 := hid (Kq_4.out.keep b)
   have Kp_5 := hid (Kp_4.out.keep b)
   have RA_5 := hid (RA_4.out.keep b)
   have RB_5 := hid (RB.out.keep b)
   have BW_5 := hid (bx_call BW_4.out b)
   clear Kq_4 Kp_4 RA_4 RB BW_4
   have H2 := cell_bx hH b
   clear hH b
   (try go_wp2_with fail)
   refine hK.out _ _ ?_ (fun hH => ?_)
   exact H2
   clear hK K H2
   (try simp only [Act.put, gy0, gy1, gy2])
   clear RA_5
   clear RB_5
   refine wpAnyH_take (i := 5) (v := ?_) (by simp only [gx0, gx1, gx2]; rfl) (by kernel_rfl) (by kernel_rfl) (by kernel_rfl) (fun _ _ _ h => h) (.inl ⟨by rfl, ?_⟩) hH ?_
   rotate_left
   · intro w hSw; (try dsimp only at hSw); first | (go_simp; done) | (go_simp; with_reducible rfl)
   (try simp only [Act.put, gy0, gy1, gy2])
   refine wpAnyH_take (i := 6) (v := ?_) (by simp only [gx0, gx1, gx2]; rfl) (by kernel_rfl) (by kernel_rfl) (by kernel_rfl) (fun _ _ _ h => h) (.inl ⟨by rfl, ?_⟩) hH ?_
   rotate_left
   · intro w hSw; (try dsimp only at hSw); first | (go_simp; done) | (go_simp; with_reducible rfl)
   (try simp only [Act.put, gy0, gy1, gy2])
   refine wpAnyH_take (i := 7) (v := ?_) (by simp only [gx0, gx1, gx2]; rfl) (by kernel_rfl) (by kernel_rfl) (by kernel_rfl) (fun _ _ _ h => h) (.inl ⟨by rfl, ?_⟩) hH ?_
   rotate_left
   · intro w hSw; (try dsimp only at hSw); first | (go_simp; done) | (go_simp; with_reducible rfl)
   (try simp only [Act.put, gy0, gy1, gy2])
   refine wpAnyH_take (i := 8) (v := ?_) (by simp only [gx0, gx1, gx2]; rfl) (by kernel_rfl) (by kernel_rfl) (by kernel_rfl) (fun _ _ _ h => h) (.inl ⟨by rfl, ?_⟩) hH ?_
   rotate_left
   · intro w hSw; (try dsimp only at hSw); first | (go_simp; done) | (go_simp; with_reducible rfl)
   (try simp only [Act.put, gy0, gy1, gy2])
   have TM := hid (two_made (z1 := z5) (z2 := z6) BW_5.out gp gq ne rfl rfl Kp_5.out Kq_5.out RP.out RQ.out)
   obtain ⟨⟨a1, a2, a3, a4⟩, ⟨d1, d2, d3, d4⟩, ne2, O⟩ := tail_facts Kp_5.out Kq_5.out ne gp gq nw.out
   refine wpAnyH_ready (rs := [11]) (by kernel_rfl) (by simp) ?_
   refine AllReadyH.cons (by simp only [gx0, gx1, gx2]; rfl) (fun K hK => ?_) AllReadyH.nil
   go_simp
   refine hK.out _ _ (cell_fr (cell_fr hH O.out.1) O.out.1) (fun hH2 => ?_)
   clear hK K hH
   (try simp only [Act.put, gy0, gy1, gy2])
   refine wpAnyH_ready (rs := [12]) (by kernel_rfl) (by simp) ?_
   refine AllReadyH.cons (by simp only [gx0, gx1, gx2]; rfl) (fun K hK => ?_) AllReadyH.nil
   go_simp
   refine hK.out _ _ (cell_fr (cell_fr hH2 O.out.2) O.out.2) (fun hH => ?_)
   clear hK K hH2 a1 a2 a3 a4 d1 d2 d3 d4
   (try simp only [Act.put, gy0, gy1, gy2])
   refine wpAnyH_ready (rs := [13]) (by kernel_rfl) (by simp) ?_
   refine AllReadyH.cons (by simp only [gx0, gx1, gx2]; rfl) (fun K hK => ?_) AllReadyH.nil
   go_simp
   refine hK.out _ _ hH (fun hH2 => ?_)
   clear hK K hH
   (try simp only [Act.put, gy0, gy1, gy2])
   refine wpAnyH_done (by kernel_rfl) ?_ _
   refine NoPanic.normal ?_
   go_wp2_with fail
   go_meet
   exact ⟨p, q, AP, nP, cP, AQ, nQ, cQ, rfl, rfl, rfl, hid ⟨TM.out.1, TM.out.2⟩⟩
   exact AllReadyH.nil
   exact AllReadyH.nil
   exact AllReadyH.nil
   exact AllReadyH.nil
   exact AllReadyH.nil
  case rest =>
  obtain ⟨p2, q2, A23, n23, c23, A24, n24, c24, rfl, rfl, rfl, hT2⟩ := hcut
  obtain ⟨w4, rfl⟩ : ∃ W : World, W = wc := ⟨_, rfl⟩
  have N := hid (N2.out.keep hT2.out.2)
  have G := hid (bx_call G2.out hT2.out.2)
  have T0 := hid (T0_2.out.keep hT2.out.2)
  have T1 := hid (T1_2.out.keep hT2.out.2)
  have T2 := hid hT2.out.1
  clear hT2 N2 G2 T0_2 T1_2 hS0 nw
  have X0 := hid (bx_refl w4)
  obtain ⟨f1, f2, f3, f4⟩ := (T0.out.keep X0.out).cells
  go_wp2_with fail
  refine (Kz1.out _ A03 n03 c03 w.heap.size 30 (T0.out.keep X0.out).rd1 (N.out.keep X0.out)).mono ?_
  rintro e w5 ⟨rfl, b⟩
  have X1 := hid (bx_call X0.out b)
  clear b f1 f2 f3 f4 X0
  obtain ⟨f1, f2, f3, f4⟩ := (T0.out.keep X1.out).cells
  go_wp2_with fail
  refine (Kz2.out _ A04 n04 c04 w.heap.size 30 (T0.out.keep X1.out).rd2 (N.out.keep X1.out)).mono ?_
  rintro e w6 ⟨rfl, b⟩
  have X2 := hid (bx_call X1.out b)
  clear b f1 f2 f3 f4 X1
  obtain ⟨f1, f2, f3, f4⟩ := (T1.out.keep X2.out).cells
  go_wp2_with fail
  refine (Kz3.out _ A13 n13 c13 w.heap.size 30 (T1.out.keep X2.out).rd1 (N.out.keep X2.out)).mono ?_
  rintro e w7 ⟨rfl, b⟩
  have X3 := hid (bx_call X2.out b)
  clear b f1 f2 f3 f4 X2
  obtain ⟨f1, f2, f3, f4⟩ := (T1.out.keep X3.out).cells
  go_wp2_with fail
  refine (Kz4.out _ A14 n14 c14 w.heap.size 30 (T1.out.keep X3.out).rd2 (N.out.keep X3.out)).mono ?_
  rintro e w8 ⟨rfl, b⟩
  have X4 := hid (bx_call X3.out b)
  clear b f1 f2 f3 f4 X3
  obtain ⟨f1, f2, f3, f4⟩ := (T2.out.keep X4.out).cells
  go_wp2_with fail
  refine (Kz5.out _ A23 n23 c23 w.heap.size 30 (T2.out.keep X4.out).rd1 (N.out.keep X4.out)).mono ?_
  rintro e w9 ⟨rfl, b⟩
  have X5 := hid (bx_call X4.out b)
  clear b f1 f2 f3 f4 X4
  obtain ⟨f1, f2, f3, f4⟩ := (T2.out.keep X5.out).cells
  go_wp2_with fail
  refine (Kz6.out _ A24 n24 c24 w.heap.size 30 (T2.out.keep X5.out).rd2 (N.out.keep X5.out)).mono ?_
  rintro e w10 ⟨rfl, b⟩
  have X6 := hid (bx_call X5.out b)
  clear b f1 f2 f3 f4 X5
  go_wp2_with fail
  go_ret
  exact ⟨rfl, bx_call G.out X6.out⟩

end Go.Proofs.Ytobnbeeaiidpcaa
