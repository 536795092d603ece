/- The law LinearGroups. -/
import Derived.Test.YtdbccidlnhjfhaaGreatDoorGrr
import Derived.Test.YtdbccidlnhjfhaaGreatDoorPts
import Derived.Deep.DeepCutAuto
import Derived.BigQuiet
namespace Go.Proofs.YtdbccidlnhjfhaaGreatDoor
open Go.RowKit
set_option maxRecDepth 100000
theorem rs_congr {w : World} {A : Option Addr} {n c : Nat} {nm : Nat → ByteArray} {gr ki bo : Nat → Int} {TA : Nat → Option Addr} {tn tc : Nat → Nat} {v cf : Nat → Nat → Int} {ix : Nat → Nat} (hix : ∀ j, j < n → ix j = j) (h : Rs w A n c (fun j => nm (ix j)) (fun j => gr (ix j)) (fun j => ki (ix j)) (fun j => bo (ix j)) TA (fun j => tn (ix j)) tc (fun j => v (ix j)) (fun j => cf (ix j))) : Rs w A n c nm gr ki bo TA tn tc v cf := by
  refine ⟨h.1, h.2.1, fun j hj => ?_, fun hn => ?_⟩
  · have := h.2.2.1 j hj
    simp only [hix j hj] at this
    exact this
  · obtain ⟨b, o, hA, hb, hc⟩ := h.2.2.2 hn
    refine ⟨b, o, hA, hb, fun j hj => ?_⟩
    have := hc j hj
    simp only [hix j hj] at this
    exact this
theorem kept_all (gf gr : Nat → Int) (n : Nat) : keptL 0 gf gr n = List.range n := by
  unfold keptL
  refine List.filter_eq_self.2 (fun j _ => ?_)
  unfold stayB hasB
  rw [decide_eq_false (p := ∃ i, i < 0 ∧ gf i = gr j) (fun ⟨i, hi, _⟩ => absurd hi (by omega))]
  simp
theorem few8 {vn rn : Nat} {nm : Nat → ByteArray} {tn : Nat → Nat} (h : fewP vn rn nm tn 6 8 = true) : vn ≤ 1000 ∧ rn ≤ 1000 ∧ ∀ i, i < rn → tn i ≤ 1000 := by
  unfold fewP at h
  simp only [Bool.and_eq_true, decide_eq_true_eq] at h
  exact ⟨by omega, by omega, fun i hi => by have := (h.1 i hi).1; omega⟩
theorem grp_facts {gn rn : Nat} {gf gr : Nat → Int} {l : List Int} {g : Int} (hl : IsGrp (keptL gn gf gr rn).length (fun j => gr ((keptL gn gf gr rn).getD j 0)) l) (hg : g ∈ l) : hasB gn gf g = false ∧ dropB rn gr g = true := by
  have h := (hl.2 g).1 hg
  unfold dropB at h
  rw [Bool.and_eq_true] at h
  obtain ⟨i, hi, e⟩ := of_decide_eq_true h.1
  have h0 : ¬ g = 0 := by simpa using h.2
  have hk : (keptL gn gf gr rn).getD i 0 ∈ keptL gn gf gr rn := by
    rw [List.getD_eq_getElem?_getD, List.getElem?_eq_getElem hi]
    exact List.getElem_mem hi
  have hr := keptL_lt hk
  have hs : stayB gn gf gr ((keptL gn gf gr rn).getD i 0) = true := by
    unfold keptL at hk
    exact (List.mem_filter.1 hk).2
  unfold stayB at hs
  have e' : gr ((keptL gn gf gr rn).getD i 0) = g := e
  rw [e'] at hs
  refine ⟨by simpa [h0] using hs, ?_⟩
  unfold dropB
  rw [Bool.and_eq_true]
  exact ⟨decide_eq_true ⟨_, hr, e⟩, by simpa using h0⟩
structure Lg (w : World) (V0 : Option Addr) (vn vc : Nat) (R0 : Option Addr) (rn rc : Nat) (qb : Nat) (V1 : Option Addr) (d1 : Nat) (R1 : Option Addr) (k d2 : Nat) (W : World) : Prop where
  p : Kp w V0 vn vc R0 rn rc W
  q : Blk W qb [.slice V1 vn d1, .slice R1 k d2] 25
theorem Lg.keep {w : World} {V0 : Option Addr} {vn vc : Nat} {R0 : Option Addr} {rn rc : Nat} {qb : Nat} {V1 : Option Addr} {d1 : Nat} {R1 : Option Addr} {k d2 : Nat} {W W' : World} (h : Lg w V0 vn vc R0 rn rc qb V1 d1 R1 k d2 W) (b : Below W.heap.size W W') : Lg w V0 vn vc R0 rn rc qb V1 d1 R1 k d2 W' := ⟨h.p.keep b, h.q.keep b⟩
set_option maxHeartbeats 16000000 in
theorem linearGroups_any (p : PD) (G : Option Addr) (gn gc : Nat) (gf : Nat → Int) (w : World) (h : Pw w p) (hG : Il w G gn gc gf ∧ ∀ i, i < gn → -9223372036854775808 ≤ gf i ∧ gf i ≤ 9223372036854775807) (ht : Tab w) :
    Calls Tryz.prog 8 #[.agg #[.slice p.V0 p.vn p.vc, .slice p.R0 p.rn p.rc], .slice G gn gc] w (RetB w true) := by
  have TB := hid ht
  have g1 := hG.1.1
  have g2 := hG.1.2.1
  have HG := hid hG.1
  have CF := hid (fun (W : World) (B : Below w.heap.size w W) => (show Calls Tryz.prog 11 #[.agg #[.slice p.V0 p.vn p.vc, .slice p.R0 p.rn p.rc], .int .i64 6, .int .i64 8] W (RetB W (fewP p.vn p.rn p.nm p.tn 6 8)) from rfewp p.V0 p.vn p.vc p.R0 p.rn p.rc p.nm p.gr p.ki p.bo p.TA p.tn p.tc p.v p.cf 6 8 W (Nat.le_trans h.vs.1 h.vs.2.1) (h.rs.keep B) h.nms (by omega) (by omega)))
  have CW := hid (fun (e1 : fewP p.vn p.rn p.nm p.tn 6 8 = true) (g8 : gn ≤ 8) (W : World) (B : Below w.heap.size w W) => l_without p.V0 p.vn p.vc p.R0 p.rn p.rc p.lo p.up p.op p.it p.co p.nm p.gr p.ki p.bo p.TA p.tn p.tc p.v p.cf G gn gc gf W (h.vs.keep B) (h.rs.keep B) (il_keep hG.1 B) hG.2 (few8 e1).1 (few8 e1).2.1 (by omega) (few8 e1).2.2)
  have CN := hid (fun (e1 : fewP p.vn p.rn p.nm p.tn 6 8 = true) (W : World) (B : Below w.heap.size w W) => l_without p.V0 p.vn p.vc p.R0 p.rn p.rc p.lo p.up p.op p.it p.co p.nm p.gr p.ki p.bo p.TA p.tn p.tc p.v p.cf none 0 0 (fun _ => 0) W (h.vs.keep B) (h.rs.keep B) ⟨Nat.le_refl _, by omega, fun hn => absurd hn (by omega)⟩ (fun i hi => absurd hi (by omega)) (few8 e1).1 (few8 e1).2.1 (by omega) (few8 e1).2.2)
  have CR := hid (fun (e1 : fewP p.vn p.rn p.nm p.tn 6 8 = true) (W : World) (B : Below w.heap.size w W) => r_without p.V0 p.vn p.vc p.R0 p.rn p.rc p.lo p.up p.op p.it p.co p.nm p.gr p.ki p.bo p.TA p.tn p.tc p.v p.cf G gn gc gf W (h.vs.keep B) (h.rs.keep B) (il_keep hG.1 B) (few8 e1).1 (few8 e1).2.1)
  have CG := hid (fun (e1 : fewP p.vn p.rn p.nm p.tn 6 8 = true) (W : World) (B : Below w.heap.size w W) => l_groups p.V0 p.vn p.vc p.R0 p.rn p.rc p.nm p.gr p.ki p.bo p.TA p.tn p.tc p.v p.cf W (h.rs.keep B) (few8 e1).2.1)
  have CH := hid (fun (e1 : fewP p.vn p.rn p.nm p.tn 6 8 = true) (W : World) (B : Below w.heap.size w W) => r_groups p.V0 p.vn p.vc p.R0 p.rn p.rc p.nm p.gr p.ki p.bo p.TA p.tn p.tc p.v p.cf W (h.rs.keep B) (few8 e1).2.1)
  have CK := hid (fun (e1 : fewP p.vn p.rn p.nm p.tn 6 8 = true) => Nat.le_trans (keptL_len (gn := gn) (gf := gf) (gr := p.gr) (n := p.rn)) (few8 e1).2.1)
  have CS := hid (fun (V1 : Option Addr) (d1 : Nat) (R1 : Option Addr) (d2 : Nat) (TB : Nat → Option Addr) (td : Nat → Nat) (W : World) (B : Below w.heap.size w W) (hV : Vs W V1 p.vn d1 p.lo p.up p.op p.it p.co) (hR : Rs W R1 p.rn d2 p.nm p.gr p.ki p.bo TB p.tn td p.v p.cf) => r_same V1 p.vn d1 R1 p.rn d2 p.lo p.up p.op p.it p.co p.nm p.gr p.ki p.bo TB p.tn td p.v p.cf p.V0 p.vc p.R0 p.rc p.TA p.tc W hV hR (h.vs.keep B) (h.rs.keep B))
  obtain ⟨s1, hs1⟩ : ∃ s, s = fewP p.vn p.rn p.nm p.tn 6 8 := ⟨_, rfl⟩
  rw [← hs1] at CF CW CN CR CG CH CK
  clear h hG ht hs1
  obtain ⟨V0, vn, vc, lo, up, op, it, co, R0, rn, rc, nm, gr, ki, bo, PTA, ptn, ptc, pv, pcf⟩ := p
  dsimp only at CF CW CN CR CG CH CK CS ⊢
  obtain ⟨W0, hW⟩ : ∃ W, W = w.alloc (.cells #[.slice V0 vn vc, .slice R0 rn rc] 25) := ⟨_, rfl⟩
  have B0 := bx_alloc (bx_refl w) (.cells #[.slice V0 vn vc, .slice R0 rn rc] 25)
  have K0 := Blk.new w [.slice V0 vn vc, .slice R0 rn rc] 25
  change Blk (w.alloc (.cells #[.slice V0 vn vc, .slice R0 rn rc] 25)) _ _ _ at K0
  rw [← hW] at B0 K0
  have P0 := hid (show Kp w V0 vn vc R0 rn rc W0 from ⟨B0, K0⟩)
  clear B0 K0
  go_enter Tryz.func8, Tryz.ntmps8
  go_upto_region 1 with fail
  rw [← hW]
  clear hW
  go_wp2_with fail
  refine (awk4 W0 (TB.out.keep P0.out.bel)).mono ?_
  rintro e W1 ⟨rfl, b⟩
  have P1 := hid (P0.out.keep b)
  clear P0 b
  obtain ⟨z0, z1⟩ := blk_two P1.out.box
  go_wp2_with fail
  refine (CF.out _ P1.out.bel).mono ?_
  rintro e W2 ⟨rfl, b⟩
  have P2 := hid (P1.out.keep b)
  clear P1 b z0 z1 CF
  cases s1
  · clear CW CN CR CG CH CK CS
    go_wp2_with fail
    refine (awk4 W2 (TB.out.keep P2.out.bel)).mono ?_
    rintro e W3 ⟨rfl, b⟩
    have P4 := hid (P2.out.keep b)
    clear P2 b
    go_wp2_with fail
    go_ret
    exact vld_yes rfl P4.out.bel
  by_cases h8 : 8 < gn
  · have t1 : decide ((8 : Int) < (gn : Int)) = true := decide_eq_true (by omega)
    have t2 : decide (8 < gn) = true := decide_eq_true h8
    clear CW CN CR CG CH CK CS
    go_wp2_with fail
    refine (awk4 W2 (TB.out.keep P2.out.bel)).mono ?_
    rintro e W4 ⟨rfl, b⟩
    have P4 := hid (P2.out.keep b)
    clear P2 b
    go_wp2_with fail
    go_ret
    exact vld_yes rfl P4.out.bel
  have t1 : decide ((8 : Int) < (gn : Int)) = false := decide_eq_false (by omega)
  have t2 : decide (8 < gn) = false := decide_eq_false h8
  have h9 : gn ≤ 8 := by omega
  replace CW := hid (CW.out rfl h9)
  replace CN := hid (CN.out rfl)
  replace CR := hid (CR.out rfl)
  replace CG := hid (CG.out rfl)
  replace CH := hid (CH.out rfl)
  replace CK := hid (CK.out rfl)
  clear TB
  go_upto_region 3 with fail
  obtain ⟨z0, z1⟩ := blk_two P2.out.box
  go_wp2_with fail
  refine (CW.out _ P2.out.bel).mono ?_
  rintro e W3 ⟨V1, d1, R1, d2, TB, td, rfl, qv, qr, b⟩
  have P3 := hid (P2.out.keep b)
  clear P2 b z0 z1 CW
  have KL := hid CK.out
  have GFX := hid (fun (l : List Int) (hl : IsGrp (keptL gn gf gr rn).length (fun j => gr ((keptL gn gf gr rn).getD j 0)) l) (g : Int) (hg : g ∈ l) => grp_facts hl hg)
  have CQ := hid (fun (W : World) (B : Below W3.heap.size W3 W) => l_groups V1 vn d1 R1 (keptL gn gf gr rn).length d2 _ _ _ _ TB _ td _ _ W (qr.keep B) KL.out)
  have C2 := hid (fun (V2 : Option Addr) (d3 : Nat) (R2 : Option Addr) (d4 : Nat) (TC : Nat → Option Addr) (te : Nat → Nat) (W : World) (B : Below W3.heap.size W3 W) (hV : Vs W V2 vn d3 lo up op it co) (hR : Rs W R2 (keptL gn gf gr rn).length d4 _ _ _ _ TC _ te _ _) => r_same V1 vn d1 R1 (keptL gn gf gr rn).length d2 lo up op it co _ _ _ _ TB _ td _ _ V2 d3 R2 d4 TC te W (qv.keep B) (qr.keep B) hV hR)
  obtain ⟨k, hk⟩ : ∃ k, k = (keptL gn gf gr rn).length := ⟨_, rfl⟩
  have CR2 := hid (fun (W : World) (B : Below w.heap.size w W) => (show Calls Tryz.prog 48 #[.agg #[.slice V0 vn vc, .slice R0 rn rc], .slice G gn gc] W (RetPg W vn lo up op it co nm gr ki bo ptn pv pcf (keptL gn gf gr rn)) from CR.out W B))
  unfold RetPg at CR2
  simp only [← hk] at KL GFX CQ C2 CR2 ⊢
  clear hk qv qr CR CK KL
  obtain ⟨W4, qb, hW4, hq, b4, kq⟩ := mk_cells W3 [.slice V1 vn d1, .slice R1 k d2] 25
  simp only [List.toArray] at hW4
  have M := hid (show Lg w V0 vn vc R0 rn rc qb V1 d1 R1 k d2 W4 from ⟨P3.out.keep b4, kq⟩)
  have BQ := hid b4
  clear P3 b4 kq
  go_upto_region 4 with fail
  rw [← hW4, ← hq]
  clear hW4 hq
  (try simp only [List.append_eq, List.cons_append, List.nil_append])
  refine wp_region_noPanic ?_
  refine wp_region_held_drew (S := (fun W => (W.cell? ⟨w.heap.size, 0, none⟩ = some (.slice V0 vn vc) ∧ W.cell? ⟨w.heap.size, 1, none⟩ = some (.slice R0 rn rc)) ∧ (W.cell? ⟨qb, 0, none⟩ = some (.slice V1 vn d1) ∧ W.cell? ⟨qb, 1, none⟩ = some (.slice R1 k d2)))) (by kernel_rfl) ?_ (fun hH => ?_)
  exact ⟨blk_two (M.out.p.box.keep (bx_drew (bx_refl _))), blk_two (M.out.q.keep (bx_drew (bx_refl _)))⟩
  have bd := bx_drew (bx_refl W4)
  obtain ⟨E0, hW0⟩ : ∃ W, W = W4.drew := ⟨_, rfl⟩
  rw [← hW0] at bd hH ⊢
  clear hW0
  replace M := hid (M.out.keep bd)
  replace BQ := hid (bx_call BQ.out bd)
  clear bd
  refine tk 0 hH ?_
  (try simp only [Act.put, gy0, gy1, gy2])
  refine tk 2 hH ?_
  (try simp only [Act.put, gy0, gy1, gy2])
  refine wpAnyH_ready (rs := [1]) (by kernel_rfl) (by simp) ?_
  refine rdy (fun K hK => ?_) AllReadyH.nil
  go_simp
  refine (CG.out _ M.out.p.bel).mono ?_
  rintro e wc ⟨l1, A1, c1, rfl, i1, il1, b⟩
  replace M := hid (M.out.keep b)
  replace BQ := hid (bx_call BQ.out b)
  have I1 := hid (show IsGrp rn gr l1 ∧ Il wc A1 l1.length c1 (fun j => l1.getD j 0) from ⟨i1, il1⟩)
  clear i1 il1 b hH
  (try go_wp2_with fail)
  refine hK.out _ _ ?_ (fun hH => ?_)
  exact ⟨blk_two M.out.p.box, blk_two M.out.q⟩
  clear hK K
  (try simp only [Act.put, gy0, gy1, gy2])
  refine wpAnyH_ready (rs := [3]) (by kernel_rfl) (by simp) ?_
  refine rdy (fun K hK => ?_) AllReadyH.nil
  go_simp
  refine (CH.out _ M.out.p.bel).mono ?_
  rintro e wc ⟨l2, A2, c2, rfl, i2, il2, b⟩
  replace M := hid (M.out.keep b)
  replace BQ := hid (bx_call BQ.out b)
  obtain rfl := IsGrp.one I1.out.1 i2
  replace I1 := hid (il_keep I1.out.2 b)
  have I2 := hid il2
  clear i2 il2 b hH
  (try go_wp2_with fail)
  refine hK.out _ _ ?_ (fun hH => ?_)
  exact ⟨blk_two M.out.p.box, blk_two M.out.q⟩
  clear hK K
  (try simp only [Act.put, gy0, gy1, gy2])
  refine wpAnyH_ready (rs := [4]) (by kernel_rfl) (by simp) ?_
  refine rdy (fun K hK => ?_) AllReadyH.nil
  go_simp
  refine (ints_self I1.out I2.out).mono ?_
  rintro e wc ⟨rfl, b⟩
  replace M := hid (M.out.keep b)
  replace BQ := hid (bx_call BQ.out b)
  clear b hH I1 I2
  (try go_wp2_with fail)
  refine hK.out _ _ ?_ (fun hH => ?_)
  exact ⟨blk_two M.out.p.box, blk_two M.out.q⟩
  clear hK K
  (try simp only [Act.put, gy0, gy1, gy2])
  refine tk 5 hH ?_
  (try simp only [Act.put, gy0, gy1, gy2])
  refine tk 6 hH ?_
  (try simp only [Act.put, gy0, gy1, gy2])
  refine tk 7 hH ?_
  (try simp only [Act.put, gy0, gy1, gy2])
  refine tk 8 hH ?_
  (try simp only [Act.put, gy0, gy1, gy2])
  refine tk 9 hH ?_
  (try simp only [Act.put, gy0, gy1, gy2])
  refine wpAnyH_ready (rs := [10]) (by kernel_rfl) (by simp) ?_
  refine rdy (fun K hK => ?_) AllReadyH.nil
  go_simp
  refine (CR2.out _ M.out.p.bel).mono ?_
  rintro e wc ⟨V2, d3, R2, d4, TC, te, rfl, qv2, qr2, b⟩
  replace M := hid (M.out.keep b)
  replace BQ := hid (bx_call BQ.out b)
  have QV := hid qv2
  have QR := hid qr2
  clear qv2 qr2 b hH
  (try go_wp2_with fail)
  refine hK.out _ _ ?_ (fun hH => ?_)
  exact ⟨blk_two M.out.p.box, blk_two M.out.q⟩
  clear hK K
  (try simp only [Act.put, gy0, gy1, gy2])
  refine wpAnyH_ready (rs := [11]) (by kernel_rfl) (by simp) ?_
  refine rdy (fun K hK => ?_) AllReadyH.nil
  go_simp
  refine (C2.out V2 d3 R2 d4 TC te _ BQ.out QV.out QR.out).mono ?_
  rintro e wc ⟨rfl, b⟩
  replace M := hid (M.out.keep b)
  replace BQ := hid (bx_call BQ.out b)
  clear b hH QV QR
  (try go_wp2_with fail)
  refine hK.out _ _ ?_ (fun hH => ?_)
  exact ⟨blk_two M.out.p.box, blk_two M.out.q⟩
  clear hK K
  (try simp only [Act.put, gy0, gy1, gy2])
  refine tk 12 hH ?_
  (try simp only [Act.put, gy0, gy1, gy2])
  refine tk 13 hH ?_
  (try simp only [Act.put, gy0, gy1, gy2])
  refine wpAnyH_done (by kernel_rfl) ?_ _
  refine NoPanic.normal ?_
  clear hH
  obtain ⟨y0, y1⟩ := blk_two M.out.q
  go_wp2_with fail
  clear y0 y1
  refine (CQ.out _ BQ.out).mono ?_
  rintro e W5 ⟨l, A, c, rfl, i5, il5, b⟩
  replace M := hid (M.out.keep b)
  have GL := hid (fun (g : Int) (hg : g ∈ l) => GFX.out l i5 g hg)
  have IL := hid il5
  have cl := il5.1
  have cm := il5.2.1
  have CN2 := CN.out
  unfold RetPg at CN2
  simp only [kept_all, List.length_range] at CN2
  replace CN := hid CN2
  clear CN2 b i5 il5 CQ C2 CR2 BQ GFX CH
  go_wp2_with fail
  go_loopw [41] (fun i wr => ∃ j : Nat, j ≤ l.length ∧ i = .int .i64 j ∧ Hid (Lg w V0 vn vc R0 rn rc qb V1 d1 R1 k d2 wr ∧ Below W5.heap.size W5 wr)) (fun i _ => l.length - (intOf i).toNat)
  case atStart => exact ⟨0, Nat.zero_le _, rfl, hid ⟨M.out, bx_refl W5⟩⟩
  case round =>
    clear M
    obtain ⟨j, hj, rfl, hz⟩ := hrel
    rcases Nat.lt_or_ge j l.length with hlt | hge
    · obtain ⟨b, o, rfl, hb, hc⟩ := IL.out.2.2 (by omega)
      have q0 := cell_bx (hc j hlt) hz.out.2
      obtain ⟨g, hgd⟩ : ∃ g, g = l.getD j 0 := ⟨_, rfl⟩
      simp only [← hgd] at q0
      have hg : g ∈ l := by
        rw [hgd, List.getD_eq_getElem?_getD, List.getElem?_eq_getElem hlt]
        exact List.getElem_mem hlt
      obtain ⟨f1, f2⟩ := GL.out g hg
      have HD := fun (W : World) (B : Below w.heap.size w W) => r_has (il_keep HG.out B) g
      rw [f1] at HD
      replace HD := hid HD
      have F2 := hid f2
      clear hc hgd hg f1 f2 GL IL CN CS HG
      go_wp2_with fail
      clear q0
      refine (HD.out _ hz.out.1.p.bel).mono ?_
      rintro e W6 ⟨rfl, b6⟩
      replace hz := hid (show Lg w V0 vn vc R0 rn rc qb V1 d1 R1 k d2 W6 ∧ Below W5.heap.size W5 W6 from ⟨hz.out.1.keep b6, bx_call hz.out.2 b6⟩)
      clear b6 HD
      obtain ⟨z0, z1⟩ := blk_two hz.out.1.p.box
      go_wp2_with fail
      clear z0 z1
      refine (CG.out _ hz.out.1.p.bel).mono ?_
      rintro e W7 ⟨m, A7, c7, rfl, i7, il7, b7⟩
      replace hz := hid (show Lg w V0 vn vc R0 rn rc qb V1 d1 R1 k d2 W7 ∧ Below W5.heap.size W5 W7 from ⟨hz.out.1.keep b7, bx_call hz.out.2 b7⟩)
      have HM := r_has il7 g
      rw [(has_mem m g).2 ((i7.2 g).2 F2.out)] at HM
      replace HM := hid HM
      clear b7 i7 il7 F2 CG
      go_wp2_with fail
      refine HM.out.mono ?_
      rintro e W8 ⟨rfl, b8⟩
      replace hz := hid (show Lg w V0 vn vc R0 rn rc qb V1 d1 R1 k d2 W8 ∧ Below W5.heap.size W5 W8 from ⟨hz.out.1.keep b8, bx_call hz.out.2 b8⟩)
      clear b8 HM
      go_wp2_with fail
      go_roundw
      case rel => exact ⟨j + 1, by omega, by go_num, hz⟩
      case measure => simp [intOf]; omega
    · obtain rfl : j = l.length := by omega
      have M := hid hz.out.1.p
      clear hz IL GL HG CG
      go_upto_region 12 with fail
      (try simp only [List.append_eq, List.cons_append, List.nil_append])
      refine wp_region_noPanic ?_
      refine wp_region_held_drew (S := (fun W => W.cell? ⟨w.heap.size, 0, none⟩ = some (.slice V0 vn vc) ∧ W.cell? ⟨w.heap.size, 1, none⟩ = some (.slice R0 rn rc))) (by kernel_rfl) ?_ (fun hH => ?_)
      exact blk_two (M.out.box.keep (bx_drew (bx_refl _)))
      have bd := bx_drew (bx_refl wr)
      obtain ⟨E0, hW0⟩ : ∃ W, W = wr.drew := ⟨_, rfl⟩
      rw [← hW0] at bd hH ⊢
      clear hW0
      replace M := hid (M.out.keep bd)
      clear bd
      refine tk 0 hH ?_
      (try simp only [Act.put, gy0, gy1, gy2])
      refine tk 2 hH ?_
      (try simp only [Act.put, gy0, gy1, gy2])
      refine wpAnyH_ready (rs := [1]) (by kernel_rfl) (by simp) ?_
      refine rdy (fun K hK => ?_) AllReadyH.nil
      go_simp
      refine (CN.out _ M.out.bel).mono ?_
      rintro e wc ⟨V2, d3, R2, d4, TC, te, rfl, qv2, qr2, b⟩
      replace M := hid (M.out.keep b)
      have QV := hid qv2
      have QR := hid (rs_congr (ix := fun j => (List.range rn).getD j 0) (fun j hj => by rw [List.getD_eq_getElem?_getD, List.getElem?_range hj]; rfl) qr2)
      clear qv2 qr2 b hH CN
      (try go_wp2_with fail)
      refine hK.out _ _ ?_ (fun hH => ?_)
      exact blk_two M.out.box
      clear hK K
      (try simp only [Act.put, gy0, gy1, gy2])
      refine wpAnyH_ready (rs := [3]) (by kernel_rfl) (by simp) ?_
      refine rdy (fun K hK => ?_) AllReadyH.nil
      go_simp
      refine (CS.out V2 d3 R2 d4 TC te _ M.out.bel QV.out QR.out).mono ?_
      rintro e wc ⟨rfl, b⟩
      replace M := hid (M.out.keep b)
      clear b hH QV QR
      (try go_wp2_with fail)
      refine hK.out _ _ ?_ (fun hH => ?_)
      exact blk_two M.out.box
      clear hK K
      (try simp only [Act.put, gy0, gy1, gy2])
      refine tk 4 hH ?_
      (try simp only [Act.put, gy0, gy1, gy2])
      refine wpAnyH_done (by kernel_rfl) ?_ _
      refine NoPanic.normal ?_
      clear hH
      have FIN := hid M.out.bel
      clear M CS
      go_wp2_with fail
      go_ret
      exact vld_yes rfl FIN.out
end Go.Proofs.YtdbccidlnhjfhaaGreatDoor
