/- InRx. -/
import Derived.Test.YtdbccidlnhjfhaaGreatDoorExs
import Derived.Test.YtdbccidlnhjfhaaGreatDoorInR
import Derived.Test.YtdbccidlnhjfhaaGreatDoorDmat
import Derived.Deep.DeepCutAuto
import Derived.BigQuiet
namespace Go.Proofs.YtdbccidlnhjfhaaGreatDoor
open Go.RowKit
set_option maxRecDepth 100000
def InP (w : World) (cs : List Value) (lo up : Nat → Int) (op : Nat → Bool) (q : Nat → Rat) (j : Nat) (W : World) : Prop := (∀ i, i < j → within (op i) (lo i) (up i) (q i)) ∧ Below w.heap.size w W ∧ Blk W w.heap.size cs 25
theorem InP.keep {w W W' : World} {cs : List Value} {lo up : Nat → Int} {op : Nat → Bool} {q : Nat → Rat} {j : Nat} (h : InP w cs lo up op q j W) (b : Below W.heap.size W W') : InP w cs lo up op q j W' := ⟨h.1, bx_call h.2.1 b, h.2.2.keep b⟩
set_option maxHeartbeats 4000000 in
theorem rinside (V0 : Option Addr) (vn vc : Nat) (R0 : Option Addr) (rn rc : Nat) (lo up : Nat → Int) (op it : Nat → Bool) (co : Nat → Int) (A : Option Addr) (n c k : Nat) (qs : Nat → Rat) (w : World) (hT : Vs w V0 vn vc lo up op it co) (hQ : Qs w A n c k qs) (hk : k ≤ 274877906941) :
    Calls Tryz.prog 27 #[.agg #[.slice V0 vn vc, .slice R0 rn rc], .slice A n c] w (RetB w (insB vn lo up op (fun j : Nat => atQ n qs (j : Int)))) := by
  have hc := hT.1
  have hc2 := hT.2.1
  obtain ⟨q, hq⟩ : ∃ q : Nat → Rat, q = fun j : Nat => atQ n qs (j : Int) := ⟨_, rfl⟩
  rw [← hq]
  have ST := hid (show InP w [.slice V0 vn vc, .slice R0 rn rc] lo up op q 0 (w.alloc (.cells #[.slice V0 vn vc, .slice R0 rn rc] 25)) from ⟨fun i hi => absurd hi (by omega), bx_alloc (bx_refl w) _, Blk.new w [.slice V0 vn vc, .slice R0 rn rc] 25⟩)
  have AT0 := hid (fun (W : World) (b : Below w.heap.size w W) (j : Nat) => (show Calls Tryz.prog 39 #[.slice A n c, .int .i64 (j : Int)] W (RetV W (q j) k) by rw [hq]; exact qat A n c k qs (j : Int) W (hQ.keep b)))
  have HT := hid hT
  clear hT hQ hq
  go_enter Tryz.func27, Tryz.ntmps27
  go_wp2_with fail
  go_loopw [5] (fun i wr => ∃ j : Nat, j ≤ vn ∧ i = .int .i64 j ∧ Hid (InP w [.slice V0 vn vc, .slice R0 rn rc] lo up op q j wr)) (fun i _ => vn - (intOf i).toNat)
  case atStart => exact ⟨0, Nat.zero_le _, rfl, ST⟩
  case round =>
    obtain ⟨j, hj, rfl, hz⟩ := hrel
    have z0 := (blk_two hz.out.2.2).1
    rcases Nat.lt_or_ge j vn with hlt | hge
    · obtain ⟨b, o, rfl, hb, hcell⟩ := HT.out.2.2.2 (by omega)
      obtain ⟨⟨l1, l2⟩, ⟨u1, u2⟩, _⟩ := HT.out.2.2.1 j hlt
      have x0 := cell_bx (hcell j hlt).1 hz.out.2.1
      have x1 := cell_bx (hcell j hlt).2.1 hz.out.2.1
      have x2 := cell_bx (hcell j hlt).2.2.1 hz.out.2.1
      have x3 := cell_bx (hcell j hlt).2.2.2.1 hz.out.2.1
      have x4 := cell_bx (hcell j hlt).2.2.2.2 hz.out.2.1
      obtain ⟨W3, hW3⟩ : ∃ W, W = wr.alloc (.cells #[.int .i64 (lo j), .int .i64 (up j), .bool (op j), .bool (it j), .int .i64 (co j)] 60) := ⟨_, rfl⟩
      have B1 := bx_alloc (bx_refl wr) (.cells #[.int .i64 (lo j), .int .i64 (up j), .bool (op j), .bool (it j), .int .i64 (co j)] 60)
      have KT := Blk.new wr [.int .i64 (lo j), .int .i64 (up j), .bool (op j), .bool (it j), .int .i64 (co j)] 60
      change Blk (wr.alloc (.cells #[.int .i64 (lo j), .int .i64 (up j), .bool (op j), .bool (it j), .int .i64 (co j)] 60)) _ _ _ at KT
      rw [← hW3] at B1 KT
      have X0 := hid B1
      have PZ := hid hz.out
      have AT := hid (fun (W : World) (b : Below wr.heap.size wr W) (j : Nat) => AT0.out W (bx_call PZ.out.2.1 b) j)
      have CMa := hid (fun (W : World) (g : Bool) (A1 : Option Addr) (n1 c1 : Nat) (D1 : Option Addr) (m1 d1 : Nat) (L : FrV W g A1 n1 c1 D1 m1 d1 k (q j)) (A2 : Option Addr) (n2 c2 : Nat) (D2 : Option Addr) (m2 d2 : Nat) (M : FrL W A2 n2 c2 D2 m2 d2 2 (lo j : Rat)) => vrcmp g A1 n1 c1 D1 m1 d1 (sg (lo j : Rat).num) A2 n2 c2 D2 m2 d2 (2 + k) (q j) (lo j : Rat) W (L.up (by omega)) (M.v.up (by omega)) (by omega))
      have CMb := hid (fun (W : World) (g : Bool) (A1 : Option Addr) (n1 c1 : Nat) (D1 : Option Addr) (m1 d1 : Nat) (L : FrV W g A1 n1 c1 D1 m1 d1 k (q j)) (A2 : Option Addr) (n2 c2 : Nat) (D2 : Option Addr) (m2 d2 : Nat) (M : FrL W A2 n2 c2 D2 m2 d2 2 (up j : Rat)) => vrcmp g A1 n1 c1 D1 m1 d1 (sg (up j : Rat).num) A2 n2 c2 D2 m2 d2 (2 + k) (q j) (up j : Rat) W (L.up (by omega)) (M.v.up (by omega)) (by omega))
      have FRa := hid (fun W => vrfrom (lo j) W l1 l2)
      have FRb := hid (fun W => vrfrom (up j) W u1 u2)
      have NO := hid (fun (W : World) (X : Below wr.heap.size wr W) (h : ¬within (op j) (lo j) (up j) (q j)) => (⟨by rw [show insB vn lo up op q = false from decide_eq_false fun g => h (g j hlt)], bx_call PZ.out.2.1 X⟩ : RetB w (insB vn lo up op q) (.returned (.bool false)) W))
      have YE := hid (fun (W : World) (X : Below wr.heap.size wr W) (h : within (op j) (lo j) (up j) (q j)) => (⟨fun i hi => by
        rcases Nat.lt_or_ge i j with h1 | h1
        · exact PZ.out.1 i h1
        · obtain rfl : i = j := by omega
          exact h, (PZ.out.keep X).2⟩ : InP w [.slice (some ⟨b, o, none⟩) vn vc, .slice R0 rn rc] lo up op q (j + 1) W))
      obtain ⟨s1, hs1⟩ : ∃ s, s = sgnQ (q j - (lo j : Rat)) := ⟨_, rfl⟩
      obtain ⟨s2, hs2⟩ : ∃ s, s = sgnQ (q j - (up j : Rat)) := ⟨_, rfl⟩
      have RS : s1 = -1 ∨ s1 = 0 ∨ s1 = 1 := by rw [hs1]; exact sgnQ_range _
      have WI : within (op j) (lo j) (up j) (q j) ↔ (¬s1 < 0 ∧ ¬(op j = false ∧ 0 < s2)) := by rw [hs1, hs2]; exact Iff.rfl
      rw [← hs1] at CMa
      rw [← hs2] at CMb
      obtain ⟨c0, c1, c2, _, _⟩ := blk_five KT
      clear ST hz B1 KT HT hcell AT0 PZ hs1 hs2
      go_upto_region 5 with fail
      rw [← hW3]
      clear hW3 x0 x1 x2 x3 x4 z0
      rcases RS with rfl | rfl | rfl
      · have t1 : decide ((-1 : Int) < 0) = true := by decide
        (try simp only [List.append_eq, List.cons_append, List.nil_append])
        refine wp_region_noPanic ?_
        refine wp_region_held_drew (S := (fun W => W.cell? ⟨wr.heap.size, 0, none⟩ = some (.int .i64 (lo j)) ∧ W.cell? ⟨wr.heap.size, 1, none⟩ = some (.int .i64 (up j)) ∧ W.cell? ⟨wr.heap.size, 2, none⟩ = some (.bool (op j)))) (by kernel_rfl) ?_ (fun hH => ?_)
        exact ⟨c0, c1, c2⟩
        have bd := bx_drew (bx_refl W3)
        obtain ⟨D0, hW0⟩ : ∃ W, W = W3.drew := ⟨_, rfl⟩
        rw [← hW0] at bd hH ⊢
        clear hW0
        have X1 := hid (bx_call X0.out bd)
        have y01 := cell_bx c0 bd
        have y11 := cell_bx c1 bd
        have y21 := cell_bx c2 bd
        clear bd c0 c1 c2 X0
        refine tk 0 hH ?_
        (try simp only [Act.put, gy0, gy1, gy2])
        refine tk 1 hH ?_
        (try simp only [Act.put, gy0, gy1, gy2])
        refine tk 3 hH ?_
        (try simp only [Act.put, gy0, gy1, gy2])
        refine tk 4 hH ?_
        (try simp only [Act.put, gy0, gy1, gy2])
        refine wpAnyH_ready (rs := [2]) (by kernel_rfl) (by simp) ?_
        refine rdy (fun K hK => ?_) AllReadyH.nil
        go_simp
        refine (AT.out _ X1.out j).mono ?_
        rintro e v2 ⟨ga, Aa, na, ca, Da, ma, da, rfl, r, b⟩
        have X2 := hid (bx_call X1.out b)
        have y02 := cell_bx y01 b
        have y12 := cell_bx y11 b
        have y22 := cell_bx y21 b
        have Ea := hid r
        clear b r hH
        (try go_wp2_with fail)
        refine hK.out _ _ ?_ (fun hH => ?_)
        exact ⟨y02, y12, y22⟩
        clear hK K
        (try simp only [Act.put, gy0, gy1, gy2])
        refine wpAnyH_ready (rs := [5]) (by kernel_rfl) (by simp) ?_
        refine rdy (fun K hK => ?_) AllReadyH.nil
        go_simp
        refine (FRa.out _).mono ?_
        rintro e v3 ⟨Ba, pa, ra, Ca, qa, sa, rfl, r, b⟩
        have X3 := hid (bx_call X2.out b)
        have y03 := cell_bx y02 b
        have y13 := cell_bx y12 b
        have y23 := cell_bx y22 b
        have Ea3 := hid (Ea.out.keep b)
        have Ma := hid r
        clear b r hH Ea
        (try go_wp2_with fail)
        refine hK.out _ _ ?_ (fun hH => ?_)
        exact ⟨y03, y13, y23⟩
        clear hK K
        (try simp only [Act.put, gy0, gy1, gy2])
        refine wpAnyH_ready (rs := [6]) (by kernel_rfl) (by simp) ?_
        refine rdy (fun K hK => ?_) AllReadyH.nil
        go_simp
        refine (CMa.out _ ga Aa na ca Da ma da Ea3.out Ba pa ra Ca qa sa Ma.out).mono ?_
        rintro e v4 ⟨rfl, b⟩
        have X4 := hid (bx_call X3.out b)
        have y04 := cell_bx y03 b
        have y14 := cell_bx y13 b
        have y24 := cell_bx y23 b
        clear b hH Ea3 Ma
        (try go_wp2_with fail)
        refine hK.out _ _ ?_ (fun hH => ?_)
        exact ⟨y04, y14, y24⟩
        clear hK K
        (try simp only [Act.put, gy0, gy1, gy2])
        refine tk 7 hH ?_
        (try simp only [Act.put, gy0, gy1, gy2])
        refine tk 8 hH ?_
        (try simp only [Act.put, gy0, gy1, gy2])
        refine tkn 9 hH ?_
        (try simp only [Act.put, gy0, gy1, gy2])
        refine tkn 10 hH ?_
        (try simp only [Act.put, gy0, gy1, gy2])
        refine tkn 11 hH ?_
        (try simp only [Act.put, gy0, gy1, gy2])
        refine tkn 12 hH ?_
        (try simp only [Act.put, gy0, gy1, gy2])
        refine tkn 13 hH ?_
        (try simp only [Act.put, gy0, gy1, gy2])
        refine tkn 14 hH ?_
        (try simp only [Act.put, gy0, gy1, gy2])
        refine tkn 15 hH ?_
        (try simp only [Act.put, gy0, gy1, gy2])
        refine tkn 16 hH ?_
        (try simp only [Act.put, gy0, gy1, gy2])
        refine tkn 17 hH ?_
        (try simp only [Act.put, gy0, gy1, gy2])
        refine tkn 18 hH ?_
        (try simp only [Act.put, gy0, gy1, gy2])
        refine tkn 19 hH ?_
        (try simp only [Act.put, gy0, gy1, gy2])
        refine tkn 20 hH ?_
        (try simp only [Act.put, gy0, gy1, gy2])
        refine tkn 21 hH ?_
        (try simp only [Act.put, gy0, gy1, gy2])
        refine tk 22 hH ?_
        (try simp only [Act.put, gy0, gy1, gy2])
        refine wpAnyH_done (by kernel_rfl) ?_ _
        refine NoPanic.normal ?_
        clear hH
        have NN := hid (NO.out _ X4.out (fun h => by have := (WI.1 h).1; omega))
        clear NO YE AT CMa CMb FRa FRb WI X4
        go_wp2_with fail
        go_ret
        exact NN.out
      all_goals
        by_cases k1 : op j = true
        · rw [k1] at c2
          (try simp only [List.append_eq, List.cons_append, List.nil_append])
          refine wp_region_noPanic ?_
          refine wp_region_held_drew (S := (fun W => W.cell? ⟨wr.heap.size, 0, none⟩ = some (.int .i64 (lo j)) ∧ W.cell? ⟨wr.heap.size, 1, none⟩ = some (.int .i64 (up j)) ∧ W.cell? ⟨wr.heap.size, 2, none⟩ = some (.bool true))) (by kernel_rfl) ?_ (fun hH => ?_)
          exact ⟨c0, c1, c2⟩
          have bd := bx_drew (bx_refl W3)
          obtain ⟨D0, hW0⟩ : ∃ W, W = W3.drew := ⟨_, rfl⟩
          rw [← hW0] at bd hH ⊢
          clear hW0
          have X1 := hid (bx_call X0.out bd)
          have y01 := cell_bx c0 bd
          have y11 := cell_bx c1 bd
          have y21 := cell_bx c2 bd
          clear bd c0 c1 c2 X0
          refine tk 0 hH ?_
          (try simp only [Act.put, gy0, gy1, gy2])
          refine tk 1 hH ?_
          (try simp only [Act.put, gy0, gy1, gy2])
          refine tk 3 hH ?_
          (try simp only [Act.put, gy0, gy1, gy2])
          refine tk 4 hH ?_
          (try simp only [Act.put, gy0, gy1, gy2])
          refine wpAnyH_ready (rs := [2]) (by kernel_rfl) (by simp) ?_
          refine rdy (fun K hK => ?_) AllReadyH.nil
          go_simp
          refine (AT.out _ X1.out j).mono ?_
          rintro e v2 ⟨ga, Aa, na, ca, Da, ma, da, rfl, r, b⟩
          have X2 := hid (bx_call X1.out b)
          have y02 := cell_bx y01 b
          have y12 := cell_bx y11 b
          have y22 := cell_bx y21 b
          have Ea := hid r
          clear b r hH
          (try go_wp2_with fail)
          refine hK.out _ _ ?_ (fun hH => ?_)
          exact ⟨y02, y12, y22⟩
          clear hK K
          (try simp only [Act.put, gy0, gy1, gy2])
          refine wpAnyH_ready (rs := [5]) (by kernel_rfl) (by simp) ?_
          refine rdy (fun K hK => ?_) AllReadyH.nil
          go_simp
          refine (FRa.out _).mono ?_
          rintro e v3 ⟨Ba, pa, ra, Ca, qa, sa, rfl, r, b⟩
          have X3 := hid (bx_call X2.out b)
          have y03 := cell_bx y02 b
          have y13 := cell_bx y12 b
          have y23 := cell_bx y22 b
          have Ea3 := hid (Ea.out.keep b)
          have Ma := hid r
          clear b r hH Ea
          (try go_wp2_with fail)
          refine hK.out _ _ ?_ (fun hH => ?_)
          exact ⟨y03, y13, y23⟩
          clear hK K
          (try simp only [Act.put, gy0, gy1, gy2])
          refine wpAnyH_ready (rs := [6]) (by kernel_rfl) (by simp) ?_
          refine rdy (fun K hK => ?_) AllReadyH.nil
          go_simp
          refine (CMa.out _ ga Aa na ca Da ma da Ea3.out Ba pa ra Ca qa sa Ma.out).mono ?_
          rintro e v4 ⟨rfl, b⟩
          have X4 := hid (bx_call X3.out b)
          have y04 := cell_bx y03 b
          have y14 := cell_bx y13 b
          have y24 := cell_bx y23 b
          clear b hH Ea3 Ma
          (try go_wp2_with fail)
          refine hK.out _ _ ?_ (fun hH => ?_)
          exact ⟨y04, y14, y24⟩
          clear hK K
          (try simp only [Act.put, gy0, gy1, gy2])
          refine tk 7 hH ?_
          (try simp only [Act.put, gy0, gy1, gy2])
          refine tk 8 hH ?_
          (try simp only [Act.put, gy0, gy1, gy2])
          refine tk 9 hH ?_
          (try simp only [Act.put, gy0, gy1, gy2])
          refine tk 10 hH ?_
          (try simp only [Act.put, gy0, gy1, gy2])
          refine tk 11 hH ?_
          (try simp only [Act.put, gy0, gy1, gy2])
          refine tk 12 hH ?_
          (try simp only [Act.put, gy0, gy1, gy2])
          refine tkn 13 hH ?_
          (try simp only [Act.put, gy0, gy1, gy2])
          refine tkn 14 hH ?_
          (try simp only [Act.put, gy0, gy1, gy2])
          refine tkn 15 hH ?_
          (try simp only [Act.put, gy0, gy1, gy2])
          refine tkn 16 hH ?_
          (try simp only [Act.put, gy0, gy1, gy2])
          refine tkn 17 hH ?_
          (try simp only [Act.put, gy0, gy1, gy2])
          refine tkn 18 hH ?_
          (try simp only [Act.put, gy0, gy1, gy2])
          refine tkn 19 hH ?_
          (try simp only [Act.put, gy0, gy1, gy2])
          refine tkn 20 hH ?_
          (try simp only [Act.put, gy0, gy1, gy2])
          refine tk 21 hH ?_
          (try simp only [Act.put, gy0, gy1, gy2])
          refine tk 22 hH ?_
          (try simp only [Act.put, gy0, gy1, gy2])
          refine wpAnyH_done (by kernel_rfl) ?_ _
          refine NoPanic.normal ?_
          clear hH
          have YY := hid (YE.out _ X4.out (WI.2 ⟨by omega, fun h => by rw [k1] at h; cases h.1⟩))
          clear NO YE AT CMa CMb FRa FRb WI X4
          go_wp2_with fail
          go_roundw
          case rel => exact ⟨j + 1, by omega, by go_num, YY⟩
          case measure => simp [intOf]; omega
        · have k2 : op j = false := by simpa using k1
          rw [k2] at c2
          (try simp only [List.append_eq, List.cons_append, List.nil_append])
          refine wp_region_noPanic ?_
          refine wp_region_held_drew (S := (fun W => W.cell? ⟨wr.heap.size, 0, none⟩ = some (.int .i64 (lo j)) ∧ W.cell? ⟨wr.heap.size, 1, none⟩ = some (.int .i64 (up j)) ∧ W.cell? ⟨wr.heap.size, 2, none⟩ = some (.bool false))) (by kernel_rfl) ?_ (fun hH => ?_)
          exact ⟨c0, c1, c2⟩
          have bd := bx_drew (bx_refl W3)
          obtain ⟨D0, hW0⟩ : ∃ W, W = W3.drew := ⟨_, rfl⟩
          rw [← hW0] at bd hH ⊢
          clear hW0
          have X1 := hid (bx_call X0.out bd)
          have y01 := cell_bx c0 bd
          have y11 := cell_bx c1 bd
          have y21 := cell_bx c2 bd
          clear bd c0 c1 c2 X0
          refine tk 0 hH ?_
          (try simp only [Act.put, gy0, gy1, gy2])
          refine tk 1 hH ?_
          (try simp only [Act.put, gy0, gy1, gy2])
          refine tk 3 hH ?_
          (try simp only [Act.put, gy0, gy1, gy2])
          refine tk 4 hH ?_
          (try simp only [Act.put, gy0, gy1, gy2])
          refine wpAnyH_ready (rs := [2]) (by kernel_rfl) (by simp) ?_
          refine rdy (fun K hK => ?_) AllReadyH.nil
          go_simp
          refine (AT.out _ X1.out j).mono ?_
          rintro e v2 ⟨ga, Aa, na, ca, Da, ma, da, rfl, r, b⟩
          have X2 := hid (bx_call X1.out b)
          have y02 := cell_bx y01 b
          have y12 := cell_bx y11 b
          have y22 := cell_bx y21 b
          have Ea := hid r
          clear b r hH
          (try go_wp2_with fail)
          refine hK.out _ _ ?_ (fun hH => ?_)
          exact ⟨y02, y12, y22⟩
          clear hK K
          (try simp only [Act.put, gy0, gy1, gy2])
          refine wpAnyH_ready (rs := [5]) (by kernel_rfl) (by simp) ?_
          refine rdy (fun K hK => ?_) AllReadyH.nil
          go_simp
          refine (FRa.out _).mono ?_
          rintro e v3 ⟨Ba, pa, ra, Ca, qa, sa, rfl, r, b⟩
          have X3 := hid (bx_call X2.out b)
          have y03 := cell_bx y02 b
          have y13 := cell_bx y12 b
          have y23 := cell_bx y22 b
          have Ea3 := hid (Ea.out.keep b)
          have Ma := hid r
          clear b r hH Ea
          (try go_wp2_with fail)
          refine hK.out _ _ ?_ (fun hH => ?_)
          exact ⟨y03, y13, y23⟩
          clear hK K
          (try simp only [Act.put, gy0, gy1, gy2])
          refine wpAnyH_ready (rs := [6]) (by kernel_rfl) (by simp) ?_
          refine rdy (fun K hK => ?_) AllReadyH.nil
          go_simp
          refine (CMa.out _ ga Aa na ca Da ma da Ea3.out Ba pa ra Ca qa sa Ma.out).mono ?_
          rintro e v4 ⟨rfl, b⟩
          have X4 := hid (bx_call X3.out b)
          have y04 := cell_bx y03 b
          have y14 := cell_bx y13 b
          have y24 := cell_bx y23 b
          clear b hH Ea3 Ma
          (try go_wp2_with fail)
          refine hK.out _ _ ?_ (fun hH => ?_)
          exact ⟨y04, y14, y24⟩
          clear hK K
          (try simp only [Act.put, gy0, gy1, gy2])
          refine tk 7 hH ?_
          (try simp only [Act.put, gy0, gy1, gy2])
          refine tk 8 hH ?_
          (try simp only [Act.put, gy0, gy1, gy2])
          refine tk 9 hH ?_
          (try simp only [Act.put, gy0, gy1, gy2])
          refine tk 10 hH ?_
          (try simp only [Act.put, gy0, gy1, gy2])
          refine tk 11 hH ?_
          (try simp only [Act.put, gy0, gy1, gy2])
          refine tk 12 hH ?_
          (try simp only [Act.put, gy0, gy1, gy2])
          refine tk 13 hH ?_
          (try simp only [Act.put, gy0, gy1, gy2])
          refine tk 14 hH ?_
          (try simp only [Act.put, gy0, gy1, gy2])
          refine tk 16 hH ?_
          (try simp only [Act.put, gy0, gy1, gy2])
          refine tk 17 hH ?_
          (try simp only [Act.put, gy0, gy1, gy2])
          refine wpAnyH_ready (rs := [15]) (by kernel_rfl) (by simp) ?_
          refine rdy (fun K hK => ?_) AllReadyH.nil
          go_simp
          refine (AT.out _ X4.out j).mono ?_
          rintro e v5 ⟨gb, Ab, nb, cb, Db, mb, db, rfl, r, b⟩
          have X5 := hid (bx_call X4.out b)
          have y05 := cell_bx y04 b
          have y15 := cell_bx y14 b
          have y25 := cell_bx y24 b
          have Eb := hid r
          clear b r hH
          (try go_wp2_with fail)
          refine hK.out _ _ ?_ (fun hH => ?_)
          exact ⟨y05, y15, y25⟩
          clear hK K
          (try simp only [Act.put, gy0, gy1, gy2])
          refine wpAnyH_ready (rs := [18]) (by kernel_rfl) (by simp) ?_
          refine rdy (fun K hK => ?_) AllReadyH.nil
          go_simp
          refine (FRb.out _).mono ?_
          rintro e v6 ⟨Bb, pb, rb, Cb, qb, sb, rfl, r, b⟩
          have X6 := hid (bx_call X5.out b)
          have y06 := cell_bx y05 b
          have y16 := cell_bx y15 b
          have y26 := cell_bx y25 b
          have Eb3 := hid (Eb.out.keep b)
          have Mb := hid r
          clear b r hH Eb
          (try go_wp2_with fail)
          refine hK.out _ _ ?_ (fun hH => ?_)
          exact ⟨y06, y16, y26⟩
          clear hK K
          (try simp only [Act.put, gy0, gy1, gy2])
          refine wpAnyH_ready (rs := [19]) (by kernel_rfl) (by simp) ?_
          refine rdy (fun K hK => ?_) AllReadyH.nil
          go_simp
          refine (CMb.out _ gb Ab nb cb Db mb db Eb3.out Bb pb rb Cb qb sb Mb.out).mono ?_
          rintro e v7 ⟨rfl, b⟩
          have X7 := hid (bx_call X6.out b)
          have y07 := cell_bx y06 b
          have y17 := cell_bx y16 b
          have y27 := cell_bx y26 b
          clear b hH Eb3 Mb
          (try go_wp2_with fail)
          refine hK.out _ _ ?_ (fun hH => ?_)
          exact ⟨y07, y17, y27⟩
          clear hK K
          (try simp only [Act.put, gy0, gy1, gy2])
          refine tk 20 hH ?_
          (try simp only [Act.put, gy0, gy1, gy2])
          refine tk 21 hH ?_
          (try simp only [Act.put, gy0, gy1, gy2])
          refine tk 22 hH ?_
          (try simp only [Act.put, gy0, gy1, gy2])
          refine wpAnyH_done (by kernel_rfl) ?_ _
          refine NoPanic.normal ?_
          clear hH
          by_cases u : 0 < s2
          · have u1 : decide (0 < s2) = true := decide_eq_true u
            have NN := hid (NO.out _ X7.out (fun h => (WI.1 h).2 ⟨k2, u⟩))
            clear NO YE AT CMa CMb FRa FRb WI X7
            go_wp2_with fail
            go_ret
            exact NN.out
          · have u1 : decide (0 < s2) = false := decide_eq_false u
            have YY := hid (YE.out _ X7.out (WI.2 ⟨by omega, fun h => u h.2⟩))
            clear NO YE AT CMa CMb FRa FRb WI X7
            go_wp2_with fail
            go_roundw
            case rel => exact ⟨j + 1, by omega, by go_num, YY⟩
            case measure => simp [intOf]; omega
    · obtain rfl : j = vn := by omega
      have YY := hid (show RetB w (insB j lo up op q) (.returned (.bool true)) wr from ⟨by rw [show insB j lo up op q = true from decide_eq_true hz.out.1], hz.out.2.1⟩)
      clear HT AT0 hz ST
      go_wp2_with fail
      go_ret
      exact YY.out
set_option maxHeartbeats 4000000 in
theorem rpoint (V0 : Option Addr) (vn vc : Nat) (R0 : Option Addr) (rn rc : Nat) (A : Option Addr) (n c k : Nat) (qs : Nat → Rat) (w : World) (hv : vn ≤ 1000) (hQ : Qs w A n c k qs) :
    Calls Tryz.prog 110 #[.agg #[.slice V0 vn vc, .slice R0 rn rc], .slice A n c] w (RetQs w vn k (fun j : Nat => atQ n qs (j : Int))) := by
  have hk1 := hQ.2.2.1
  obtain ⟨q, hq⟩ : ∃ q : Nat → Rat, q = fun j : Nat => atQ n qs (j : Int) := ⟨_, rfl⟩
  rw [← hq]
  obtain ⟨W0, hW⟩ : ∃ W, W = w.alloc (.cells #[.slice V0 vn vc, .slice R0 rn rc] 25) := ⟨_, rfl⟩
  have B0 := bx_alloc (bx_refl w) (.cells #[.slice V0 vn vc, .slice R0 rn rc] 25)
  have K0 := Blk.new w [.slice V0 vn vc, .slice R0 rn rc] 25
  change Blk (w.alloc (.cells #[.slice V0 vn vc, .slice R0 rn rc] 25)) _ _ _ at K0
  rw [← hW] at B0 K0
  have AT0 := hid (fun (W : World) (b : Below W0.heap.size W0 W) (j : Nat) => (show Calls Tryz.prog 39 #[.slice A n c, .int .i64 (j : Int)] W (RetV W (q j) k) by rw [hq]; exact qat A n c k qs (j : Int) W (hQ.keep (bx_call B0 b))))
  have ST := hid (show PIn W0 (.slice (some ⟨W0.heap.size, 0, none⟩) 0 0) 0 k q (W0.alloc (.cells #[] 41)) from ⟨bx_alloc (bx_refl W0) _, QO.start W0 k _⟩)
  have KB := hid K0
  have BB := hid B0
  obtain ⟨z0, z1⟩ := blk_two K0
  clear hQ hq K0 B0
  go_enter Tryz.func110, Tryz.ntmps110
  go_upto_region 1 with fail
  rw [← hW]
  clear hW
  go_wp2_with fail
  clear z0 z1
  go_loopw [5, 6] (fun u i wr => ∃ j : Nat, j ≤ vn ∧ i = .int .i64 j ∧ (∃ A0 c0, u = .slice A0 j c0) ∧ Hid (PIn W0 u j k q wr)) (fun _ i _ => vn - (intOf i).toNat)
  case atStart => exact ⟨0, Nat.zero_le _, rfl, ⟨_, _, rfl⟩, ST⟩
  case round =>
    clear ST
    obtain ⟨j, hj, rfl, ⟨A0, c0, rfl⟩, hz⟩ := hrel
    obtain ⟨z0, z1⟩ := blk_two (KB.out.keep hz.out.bel)
    rcases Nat.lt_or_ge j vn with hlt | hge
    · have AT := hid (AT0.out wr hz.out.bel j)
      have NX := hid (fun (w' : World) (g1 cap : Nat) (W : World) (B : Below wr.heap.size wr W) (x : QO w' W0.heap.size (.slice (some ⟨g1, 0, none⟩) (j + 1) cap) (j + 1) k (fun i => if i = j then q j else q i)) (hg : W.grownBy w' (Value.slice A0 j c0).ownBlock) => (show PIn W0 (.slice (some ⟨g1, 0, none⟩) (j + 1) cap) (j + 1) k q w' from (hz.out.keep B).grow (x.congr fun i hi => by
        show (if i = j then q j else q i) = q i
        by_cases e : i = j
        · rw [if_pos e, e]
        · rw [if_neg e]) hg))
      have OW := hid (fun (W : World) (B : Below wr.heap.size wr W) => (hz.out.keep B).own)
      have LE := hid hz.out.bel.size
      obtain ⟨z, hzz⟩ : ∃ z, z = q j := ⟨_, rfl⟩
      rw [← hzz] at AT NX
      clear hz hzz AT0
      go_wp2_with fail
      refine (AT.out).mono ?_
      rintro e w1 ⟨gg, A1, n1, c1, D1, m1, d1, rfl, rv, b1⟩
      have KN := hid (Blk.new w1 [.bool gg, .slice A1 n1 c1, .slice D1 m1 d1] 41)
      have BN := hid (bx_alloc b1 (.cells #[.bool gg, .slice A1 n1 c1, .slice D1 m1 d1] 41))
      have FV := hid (rv.keep (bx_alloc (bx_refl w1) (.cells #[.bool gg, .slice A1 n1 c1, .slice D1 m1 d1] 41)))
      have OV := hid (OW.out _ BN.out)
      have LV := hid (Nat.le_trans LE.out BN.out.size)
      have NV := hid (fun (w' : World) (g1 cap : Nat) q hg => NX.out w' g1 cap _ BN.out q hg)
      have hn9 : j ≤ 1000000 := by omega
      clear rv b1 AT OW LE NX BN z0 z1
      go_wp2_with (at_builtin; refine wpList_append_rat rfl (.tmp 15) (.tmp 19) rfl W0.heap.size (.slice A0 j c0) j k _ rfl OV.out w1.heap.size rfl KN.out FV.out hn9 LV.out ?_; intro w2 g1 cap q hg; have ZZ := hid (NV.out w2 g1 cap q hg); clear q hg)
      clear KN FV OV LV NV
      go_roundw
      case rel => exact ⟨j + 1, by omega, by go_num, ⟨_, _, rfl⟩, ZZ⟩
      case measure => simp [intOf]; omega
    · obtain rfl : j = vn := by omega
      obtain ⟨A2, c2, e2, q2⟩ := hz.out.own.qs hk1
      have YY := hid (show RetQs w j k q (.returned (.slice A0 j c0)) wr from ⟨A2, c2, by rw [e2], q2, bx_call BB.out hz.out.bel⟩)
      clear hz AT0 q2 e2 KB BB
      go_wp2_with fail
      go_ret
      exact YY.out
set_option maxHeartbeats 8000000 in
theorem rholds (V0 : Option Addr) (vn vc : Nat) (R0 : Option Addr) (rn rc : Nat) (nm : ByteArray) (gr ki bo : Int) (TA : Option Addr) (tn tc : Nat) (v cf : Nat → Int) (A : Option Addr) (n c k : Nat) (qs : Nat → Rat) (w : World) (hv : vn ≤ 1000) (hki : -9223372036854775808 ≤ ki ∧ ki ≤ 9223372036854775807) (hbo : -9223372036854775808 ≤ bo ∧ bo ≤ 9223372036854775807) (hT : Ts w TA tn tc v cf) (ht : tn ≤ 1000) (hQ : Qs w A n c k qs) (hk : k ≤ 1000000) :
    Calls Tryz.prog 72 #[.agg #[.slice V0 vn vc, .slice R0 rn rc], .agg #[.string nm, .int .i64 gr, .int .i64 ki, .slice TA tn tc, .int .i64 bo], .slice A n c] w (RetB w (holdB ki bo (rowV vn tn v cf (fun i : Nat => atQ n qs (i : Int))))) := by
  have hmm : tn * (k + 3) + 1 + (k + 2) ≤ 1000 * 1000003 + 1 + 1000002 := by
    have := Nat.mul_le_mul ht (show k + 3 ≤ 1000003 by omega)
    omega
  have hm9 : tn * (k + 3) ≤ 1000003000 := Nat.le_trans (Nat.mul_le_mul ht (show k + 3 ≤ 1000003 by omega)) (by omega)
  obtain ⟨W0, hW⟩ : ∃ W, W = (w.alloc (.cells #[.slice V0 vn vc, .slice R0 rn rc] 25)).alloc (.cells #[.string nm, .int .i64 gr, .int .i64 ki, .slice TA tn tc, .int .i64 bo] 77) := ⟨_, rfl⟩
  have B0 := bx_alloc (bx_alloc (bx_refl w) (.cells #[.slice V0 vn vc, .slice R0 rn rc] 25)) (.cells #[.string nm, .int .i64 gr, .int .i64 ki, .slice TA tn tc, .int .i64 bo] 77)
  have K0 := (Blk.new w [.slice V0 vn vc, .slice R0 rn rc] 25).alloc (.cells #[.string nm, .int .i64 gr, .int .i64 ki, .slice TA tn tc, .int .i64 bo] 77)
  have K1 := blk_new1 w (.cells #[.slice V0 vn vc, .slice R0 rn rc] 25) [.string nm, .int .i64 gr, .int .i64 ki, .slice TA tn tc, .int .i64 bo] 77
  change Blk ((w.alloc (.cells #[.slice V0 vn vc, .slice R0 rn rc] 25)).alloc (.cells #[.string nm, .int .i64 gr, .int .i64 ki, .slice TA tn tc, .int .i64 bo] 77)) _ _ _ at K0 K1
  rw [← hW] at B0 K0 K1
  have PO := hid (fun (W : World) (b : Below w.heap.size w W) => rpoint V0 vn vc R0 rn rc A n c k qs W hv (hQ.keep b))
  have DO := hid (fun (W : World) (b : Below w.heap.size w W) (A1 : Option Addr) (c1 : Nat) (q : Qs W A1 vn c1 k (fun j : Nat => atQ n qs (j : Int))) => (show Calls Tryz.prog 20 #[.slice TA tn tc, .slice A1 vn c1] W (RetV W (rowV vn tn v cf (fun i : Nat => atQ n qs (i : Int))) 1001001005) from (rdot TA tn tc v cf A1 vn c1 k _ W (hT.keep b) q (by omega)).mono (fun _ _ ⟨g, A, n, c, D, m, d, h1, h2, h3⟩ => ⟨g, A, n, c, D, m, d, h1, h2.up (by omega), h3⟩)))
  have FR := hid (fun (W : World) => vrfrom bo W hbo.1 hbo.2)
  obtain ⟨x, hx⟩ : ∃ x, x = rowV vn tn v cf (fun i : Nat => atQ n qs (i : Int)) := ⟨_, rfl⟩
  rw [← hx] at DO ⊢
  have CM := hid (fun (W : World) (g : Bool) (A1 : Option Addr) (n1 c1 : Nat) (D1 : Option Addr) (m1 d1 : Nat) (L : FrV W g A1 n1 c1 D1 m1 d1 1001001005 x) (A2 : Option Addr) (n2 c2 : Nat) (D2 : Option Addr) (m2 d2 : Nat) (M : FrL W A2 n2 c2 D2 m2 d2 2 (bo : Rat)) => vrcmp g A1 n1 c1 D1 m1 d1 (sg (bo : Rat).num) A2 n2 c2 D2 m2 d2 1001001005 x (bo : Rat) W L (M.v.up (by omega)) (by omega))
  obtain ⟨s, hs⟩ : ∃ s, s = sgnQ (x - (bo : Rat)) := ⟨_, rfl⟩
  obtain ⟨r, hr⟩ : ∃ r, r = holdB ki bo x := ⟨_, rfl⟩
  have HR := hid (show r = (if ki = 0 then decide (s ≤ 0) else if ki = 1 then decide (0 ≤ s) else decide (s = 0)) by rw [hr, hs]; rfl)
  rw [← hs] at CM
  rw [← hr]
  obtain ⟨k1, k2⟩ := hki
  have KP0 := hid K0
  have KR0 := hid K1
  have BB0 := hid B0
  clear hT hQ hr hs hx B0 K0 K1 hbo hmm hm9 hv ht hk
  go_enter Tryz.func72, Tryz.ntmps72
  go_upto_region 1 with fail
  rw [← hW]
  clear hW
  (try simp only [List.append_eq, List.cons_append, List.nil_append])
  refine wp_region_noPanic ?_
  refine wp_region_held_drew (S := (fun W => (W.cell? ⟨w.heap.size, 0, none⟩ = some (.slice V0 vn vc) ∧ W.cell? ⟨w.heap.size, 1, none⟩ = some (.slice R0 rn rc)) ∧ (W.cell? ⟨w.heap.size + 1, 0, none⟩ = some (.string nm) ∧ W.cell? ⟨w.heap.size + 1, 1, none⟩ = some (.int .i64 gr) ∧ W.cell? ⟨w.heap.size + 1, 2, none⟩ = some (.int .i64 ki) ∧ W.cell? ⟨w.heap.size + 1, 3, none⟩ = some (.slice TA tn tc) ∧ W.cell? ⟨w.heap.size + 1, 4, none⟩ = some (.int .i64 bo)))) (by kernel_rfl) ?_ (fun hH => ?_)
  exact (And.intro (blk_two KP0.out) (blk_five KR0.out))
  have bd := bx_drew (bx_refl W0)
  obtain ⟨D0, hW0⟩ : ∃ W, W = W0.drew := ⟨_, rfl⟩
  rw [← hW0] at bd hH ⊢
  clear hW0
  have KP1 := hid (KP0.out.keep bd)
  have KR1 := hid (KR0.out.keep bd)
  have BB1 := hid (bx_call BB0.out bd)
  clear bd KP0 KR0 BB0
  refine tk 0 hH ?_
  (try simp only [Act.put, gy0, gy1, gy2])
  refine tk 1 hH ?_
  (try simp only [Act.put, gy0, gy1, gy2])
  refine tk 2 hH ?_
  (try simp only [Act.put, gy0, gy1, gy2])
  refine tk 3 hH ?_
  (try simp only [Act.put, gy0, gy1, gy2])
  refine tk 6 hH ?_
  (try simp only [Act.put, gy0, gy1, gy2])
  refine tk 7 hH ?_
  (try simp only [Act.put, gy0, gy1, gy2])
  refine wpAnyH_ready (rs := [4]) (by kernel_rfl) (by simp) ?_
  refine rdy (fun K hK => ?_) AllReadyH.nil
  go_simp
  refine (PO.out _ BB1.out).mono ?_
  rintro e v2 ⟨A1, c1, rfl, q1, b⟩
  have KP2 := hid (KP1.out.keep b)
  have KR2 := hid (KR1.out.keep b)
  have BB2 := hid (bx_call BB1.out b)
  clear b hH KP1 KR1 BB1
  have Q1 := hid q1
  clear q1
  (try go_wp2_with fail)
  refine hK.out _ _ ?_ (fun hH => ?_)
  exact (And.intro (blk_two KP2.out) (blk_five KR2.out))
  clear hK K
  (try simp only [Act.put, gy0, gy1, gy2])
  refine wpAnyH_ready (rs := [5]) (by kernel_rfl) (by simp) ?_
  refine rdy (fun K hK => ?_) AllReadyH.nil
  go_simp
  refine (DO.out _ BB2.out A1 c1 Q1.out).mono ?_
  rintro e v3 ⟨g2, A2, n2, c2, D2, m2, d2, rfl, r2, b⟩
  have KP3 := hid (KP2.out.keep b)
  have KR3 := hid (KR2.out.keep b)
  have BB3 := hid (bx_call BB2.out b)
  clear b hH KP2 KR2 BB2
  have R2 := hid r2
  clear r2 Q1
  (try go_wp2_with fail)
  refine hK.out _ _ ?_ (fun hH => ?_)
  exact (And.intro (blk_two KP3.out) (blk_five KR3.out))
  clear hK K
  (try simp only [Act.put, gy0, gy1, gy2])
  refine wpAnyH_ready (rs := [8]) (by kernel_rfl) (by simp) ?_
  refine rdy (fun K hK => ?_) AllReadyH.nil
  go_simp
  refine (FR.out _).mono ?_
  rintro e v4 ⟨A3, n3, c3, D3, m3, d3, rfl, r3, b⟩
  have R24 := hid (R2.out.keep b)
  have KP4 := hid (KP3.out.keep b)
  have KR4 := hid (KR3.out.keep b)
  have BB4 := hid (bx_call BB3.out b)
  clear b hH KP3 KR3 BB3
  have R3 := hid r3
  clear r3 R2
  (try go_wp2_with fail)
  refine hK.out _ _ ?_ (fun hH => ?_)
  exact (And.intro (blk_two KP4.out) (blk_five KR4.out))
  clear hK K
  (try simp only [Act.put, gy0, gy1, gy2])
  refine wpAnyH_ready (rs := [9]) (by kernel_rfl) (by simp) ?_
  refine rdy (fun K hK => ?_) AllReadyH.nil
  go_simp
  refine (CM.out _ g2 A2 n2 c2 D2 m2 d2 R24.out A3 n3 c3 D3 m3 d3 R3.out).mono ?_
  rintro e v5 ⟨rfl, b⟩
  have KP5 := hid (KP4.out.keep b)
  have KR5 := hid (KR4.out.keep b)
  have BB5 := hid (bx_call BB4.out b)
  clear b hH KP4 KR4 BB4
  clear R24 R3
  (try go_wp2_with fail)
  refine hK.out _ _ ?_ (fun hH => ?_)
  exact (And.intro (blk_two KP5.out) (blk_five KR5.out))
  clear hK K
  (try simp only [Act.put, gy0, gy1, gy2])
  refine tk 10 hH ?_
  (try simp only [Act.put, gy0, gy1, gy2])
  refine wpAnyH_done (by kernel_rfl) ?_ _
  refine NoPanic.normal ?_
  clear hH
  obtain ⟨y0, y1, y2, y3, y4⟩ := blk_five KR5.out
  clear PO DO FR CM KP5
  by_cases e0 : ki = 0
  · have HH := hid (show RetB w r (.returned (.bool (decide (s ≤ 0)))) v5 from ⟨by rw [HR.out, if_pos e0], BB5.out⟩)
    subst e0
    clear HR BB5 KR5
    go_wp2_with fail
    go_ret
    exact HH.out
  · have t0 : (ki == 0) = false := beq_eq_false_iff_ne.2 e0
    have t1 : decide (ki = 0) = false := decide_eq_false e0
    by_cases e1 : ki = 1
    · have HH := hid (show RetB w r (.returned (.bool (decide (0 ≤ s)))) v5 from ⟨by rw [HR.out, if_neg e0, if_pos e1], BB5.out⟩)
      subst e1
      clear HR BB5 KR5
      go_wp2_with fail
      go_ret
      exact HH.out
    · have t2 : (ki == 1) = false := beq_eq_false_iff_ne.2 e1
      have t3 : decide (ki = 1) = false := decide_eq_false e1
      have HH := hid (show RetB w r (.returned (.bool (s == 0))) v5 from ⟨by rw [HR.out, if_neg e0, if_neg e1]; rfl, BB5.out⟩)
      have E0 := hid e0
      have E1 := hid e1
      clear HR BB5 KR5 e0 e1
      go_wp2_with fail
      go_ret
      exact HH.out
structure VrP (w : World) (cs : List Value) (B : Nat) (v : Value) (l : List Nat) (W : World) : Prop where
  bel : Below w.heap.size w W
  box : Blk W w.heap.size cs 25
  own : W.ownsRow B 3 1 v l.length (ints l)
  le : B ≤ W.heap.size
section
variable {w W W' : World} {cs : List Value} {B : Nat} {v : Value} {l : List Nat}
theorem VrP.keep (h : VrP w cs B v l W) (b : Below W.heap.size W W') : VrP w cs B v l W' :=
  ⟨bx_call h.bel b, h.box.keep b, own_keep h.own b, Nat.le_trans h.le b.size⟩
theorem VrP.grow (h : VrP w cs B v l W) (h1 : w.heap.size < B) {v' : Value} {m : List Nat} (ho : W'.ownsRow B 3 1 v' m.length (ints m)) (hg : W.grownBy W' v.ownBlock) : VrP w cs B v' m W' := by
  have hlt := h.own.lt
  have far : ∀ k, k < B → some k ≠ v.ownBlock := fun k hk e => by have := (hlt k e.symm).1; omega
  have hs := h.le
  refine ⟨⟨hg.os.trans h.bel.os, hg.tape.trans h.bel.tape, hg.output.trans h.bel.output, Nat.le_trans h.bel.size hg.size, fun k hk => ?_⟩, (hg.block _ h.box.lt (far _ h1)).trans h.box, ho, Nat.le_trans h.le hg.size⟩
  rw [hg.block k (by omega) (far k (by omega))]
  exact h.bel.block k hk
end
set_option maxHeartbeats 8000000 in
theorem rviolated (V0 : Option Addr) (vn vc : Nat) (R0 : Option Addr) (rn rc : Nat) (nm : Nat → ByteArray) (gr ki bo : Nat → Int) (TA : Nat → Option Addr) (tn tc : Nat → Nat) (v cf : Nat → Nat → Int) (A : Option Addr) (n c k : Nat) (qs : Nat → Rat) (w : World) (hvn : vn ≤ 1000) (hrn : rn ≤ 1000) (hR : Rs w R0 rn rc nm gr ki bo TA tn tc v cf) (htn : ∀ i, i < rn → tn i ≤ 1000) (hQ : Qs w A n c k qs) (hk : k ≤ 1000000) :
    Calls Tryz.prog 25 #[.agg #[.slice V0 vn vc, .slice R0 rn rc], .slice A n c] w (RetL w (vio (fun i => holdB (ki i) (bo i) (rowV vn (tn i) (v i) (cf i) (fun i : Nat => atQ n qs (i : Int)))) rn)) := by
  have hd := hR.1
  have hd2 := hR.2.1
  obtain ⟨W0, hW⟩ : ∃ W, W = w.alloc (.cells #[.slice V0 vn vc, .slice R0 rn rc] 25) := ⟨_, rfl⟩
  have B0 := bx_alloc (bx_refl w) (.cells #[.slice V0 vn vc, .slice R0 rn rc] 25)
  have K0 := Blk.new w [.slice V0 vn vc, .slice R0 rn rc] 25
  have hz : w.heap.size < W0.heap.size := by rw [hW]; simp
  change Blk (w.alloc (.cells #[.slice V0 vn vc, .slice R0 rn rc] 25)) _ _ _ at K0
  rw [← hW] at B0 K0
  obtain ⟨z0, z1⟩ := blk_two K0
  obtain ⟨H, hH⟩ : ∃ H : Nat → Bool, H = fun i => holdB (ki i) (bo i) (rowV vn (tn i) (v i) (cf i) (fun i : Nat => atQ n qs (i : Int))) := ⟨_, rfl⟩
  rw [← hH]
  have HO := hid (fun (W : World) (b : Below w.heap.size w W) (j : Nat) (hj : j < rn) => (show Calls Tryz.prog 72 #[.agg #[.slice V0 vn vc, .slice R0 rn rc], .agg #[.string (nm j), .int .i64 (gr j), .int .i64 (ki j), .slice (TA j) (tn j) (tc j), .int .i64 (bo j)], .slice A n c] W (RetB W (H j)) by
    rw [hH]
    obtain ⟨h1, h2, _, h4⟩ := hR.2.2.1 j hj
    exact rholds V0 vn vc R0 rn rc (nm j) (gr j) (ki j) (bo j) (TA j) (tn j) (tc j) (v j) (cf j) A n c k qs W hvn h1 h2 (h4.keep b) (htn j hj) (hQ.keep b) hk))
  have ST := hid (show VrP w [.slice V0 vn vc, .slice R0 rn rc] W0.heap.size (.slice (some ⟨W0.heap.size, 0, none⟩) 0 0) (vio H 0) (W0.alloc (.cells #[] 3)) from
    ⟨bx_alloc B0 _, K0.alloc _, ⟨by simp [vio, ints], .inr ⟨W0.heap.size, 0, #[], rfl, Nat.le_refl _, heap_alloc_new W0 _, by simp [vio], by unfold maxLen; omega, by simp, by simp [vio, ints]⟩⟩, by simp⟩)
  have HR := hid hR
  clear hR htn hQ B0 K0 hH
  go_enter Tryz.func25, Tryz.ntmps25
  go_upto_region 1 with fail
  rw [← hW]
  clear hW
  go_wp2_with fail
  clear z0 z1
  go_loopw [5, 6] (fun u i wr => ∃ j : Nat, j ≤ rn ∧ i = .int .i64 j ∧ Hid (VrP w [.slice V0 vn vc, .slice R0 rn rc] W0.heap.size u (vio H j) wr)) (fun _ i _ => rn - (intOf i).toNat)
  case atStart => exact ⟨0, Nat.zero_le _, rfl, ST⟩
  case round =>
    clear ST
    obtain ⟨j, hj, rfl, hz2⟩ := hrel
    obtain ⟨z0, z1⟩ := blk_two hz2.out.box
    rcases Nat.lt_or_ge j rn with hlt | hge
    · obtain ⟨b, o, rfl, hb, hcell⟩ := HR.out.2.2.2 (by omega)
      have x0 := cell_bx (hcell j hlt).1 hz2.out.bel
      have x1 := cell_bx (hcell j hlt).2.1 hz2.out.bel
      have x2 := cell_bx (hcell j hlt).2.2.1 hz2.out.bel
      have x3 := cell_bx (hcell j hlt).2.2.2.1 hz2.out.bel
      have x4 := cell_bx (hcell j hlt).2.2.2.2 hz2.out.bel
      have VP := hid hz2.out
      have HC := hid (fun (W : World) (B : Below wr.heap.size wr W) => HO.out W (bx_call VP.out.bel B) j hlt)
      have hvl := vio_len H j
      have VY := hid (fun (h : H j = true) => (show vio H (j + 1) = vio H j by show vio H j ++ _ = _; rw [if_pos h, List.append_nil]))
      have VN := hid (fun (h : H j = false) => (show vio H (j + 1) = vio H j ++ [j] by show vio H j ++ _ = _; rw [if_neg (by rw [h]; decide)]))
      obtain ⟨hv, hhv⟩ : ∃ h, h = H j := ⟨_, rfl⟩
      rw [← hhv] at HC VY VN
      obtain ⟨L, hL⟩ : ∃ L, L = vio H j := ⟨_, rfl⟩
      obtain ⟨L2, hL2⟩ : ∃ L, L = vio H (j + 1) := ⟨_, rfl⟩
      rw [← hL] at VP hvl VY VN
      rw [← hL2] at VY VN
      have LL := hid hL2
      have HZ := hid hz
      clear hz2 HR HO hcell hhv hL hL2 hz
      go_upto_region 5 with fail
      go_region_held3 (fun W => (W.cell? ⟨w.heap.size, 0, none⟩ = some (.slice V0 vn vc) ∧ W.cell? ⟨w.heap.size, 1, none⟩ = some (.slice (some ⟨b, o, none⟩) rn rc)) ∧ (W.cell? ⟨b, o + j * 5, none⟩ = some (.string (nm j)) ∧ W.cell? ⟨b, o + j * 5 + 1, none⟩ = some (.int .i64 (gr j)) ∧ W.cell? ⟨b, o + j * 5 + 2, none⟩ = some (.int .i64 (ki j)) ∧ W.cell? ⟨b, o + j * 5 + 3, none⟩ = some (.slice (TA j) (tn j) (tc j)) ∧ W.cell? ⟨b, o + j * 5 + 4, none⟩ = some (.int .i64 (bo j))))
        (refine ⟨⟨?_, ?_⟩, ⟨?_, ?_, ?_, ?_, ?_⟩⟩ <;> repeat' (first | with_reducible assumption | with_reducible refine cell_dr ?_))
        (first | (go_at_call 72; refine (HC.out _ (bx_drew (bx_refl _))).mono ?_; rintro e v2 ⟨rfl, b⟩; have y0 := cell_bx (cell_dr z0) b; have y1 := cell_bx (cell_dr z1) b; have t0 := cell_bx (cell_dr x0) b; have t1 := cell_bx (cell_dr x1) b; have t2 := cell_bx (cell_dr x2) b; have t3 := cell_bx (cell_dr x3) b; have t4 := cell_bx (cell_dr x4) b; have X2 := hid (bx_call (bx_drew (bx_refl _)) b); clear b))
      clear x0 x1 x2 x3 x4 z0 z1 HC
      cases hv
      · have hL2 := VN.out rfl
        have P2 := VP.out.keep X2.out
        have KN := hid (Blk.new v2 [.int .i64 (j : Int)] 3)
        have P3 := hid (P2.keep (bx_alloc (bx_refl v2) (.cells #[.int .i64 (j : Int)] 3)))
        have hl9 : L.length + 1 ≤ 1000000000 := by omega
        have OW := hid P3.out.own
        have LE := hid P3.out.le
        have GW := hid (fun (v' : Value) (w1 : World) (ho : w1.ownsRow W0.heap.size 3 1 v' (L ++ [j]).length (ints (L ++ [j]))) (hg : (v2.alloc (.cells #[.int .i64 (j : Int)] 3)).grownBy w1 u5.ownBlock) => (show VrP w [.slice V0 vn vc, .slice (some ⟨b, o, none⟩) rn rc] W0.heap.size v' (vio H (j + 1)) w1 by rw [← LL.out, VN.out rfl]; exact P3.out.grow HZ.out ho hg))
        clear VP VY VN LL hL2 P2 P3 X2 t0 t1 t2 t3 t4 y0 y1 HZ
        go_wp2_with (at_builtin; refine wpList_append_idx rfl (.tmp 24) (.tmp 26) rfl W0.heap.size u5 L rfl OW.out v2.heap.size j rfl KN.out hl9 LE.out ?_; intro v' w1 ho hg; have ZZ := hid (GW.out v' w1 ho hg); clear ho hg)
        clear OW LE GW KN
        go_roundw
        case rel => exact ⟨j + 1, by omega, by go_num, ZZ⟩
        case measure => simp [intOf]; omega
      · have ZZ := hid (show VrP w [.slice V0 vn vc, .slice (some ⟨b, o, none⟩) rn rc] W0.heap.size u5 (vio H (j + 1)) v2 by rw [← LL.out, VY.out rfl]; exact VP.out.keep X2.out)
        clear VP VY VN LL X2 t0 t1 t2 t3 t4 y0 y1 HZ
        go_wp2_with fail
        go_roundw
        case rel => exact ⟨j + 1, by omega, by go_num, ZZ⟩
        case measure => simp [intOf]; omega
    · obtain rfl : j = rn := by omega
      obtain ⟨A2, c2, hu, hI⟩ := own_ints hz2.out.own
      subst hu
      have YY : RetL w (vio H j) (.returned (.slice A2 (vio H j).length c2)) wr := ⟨_, _, rfl, hI, hz2.out.bel⟩
      have YH := hid YY
      clear hz2 HR HO hI YY
      go_wp2_with fail
      go_ret
      exact YH.out
section
variable (p : PD) (A : Option Addr) (n c k : Nat) (qs : Nat → Rat) (w : World)
theorem r_inside (h : Pg w p) (hQ : Qs w A n c k qs) (hk : k ≤ 100) : Calls Tryz.prog 27 #[.agg #[.slice p.V0 p.vn p.vc, .slice p.R0 p.rn p.rc], .slice A n c] w (RetB w (p.inB (pt n qs))) :=
  rinside p.V0 p.vn p.vc p.R0 p.rn p.rc p.lo p.up p.op p.it p.co A n c k qs w h.vs hQ (by omega)
theorem r_violated (h : Pg w p) (hQ : Qs w A n c k qs) (hk : k ≤ 100) : Calls Tryz.prog 25 #[.agg #[.slice p.V0 p.vn p.vc, .slice p.R0 p.rn p.rc], .slice A n c] w (RetL w (vio (p.rowB (pt n qs)) p.rn)) :=
  rviolated p.V0 p.vn p.vc p.R0 p.rn p.rc p.nm p.gr p.ki p.bo p.TA p.tn p.tc p.v p.cf A n c k qs w (by have := h.vl; omega) (by have := h.rl; omega) h.rs (fun i hi => by have := h.tl i hi; omega) hQ (by omega)
end
end Go.Proofs.YtdbccidlnhjfhaaGreatDoor
