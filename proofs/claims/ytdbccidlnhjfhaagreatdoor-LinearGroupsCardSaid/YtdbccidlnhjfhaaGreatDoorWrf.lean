/- Without of the specification. -/
import Derived.Test.YtdbccidlnhjfhaaGreatDoorWth
import Derived.Deep.DeepCutAuto
import Derived.BigQuiet
namespace Go.Proofs.YtdbccidlnhjfhaaGreatDoor
open Go.RowKit
set_option maxRecDepth 100000
def stayB (gn : Nat) (gf gr : Nat → Int) (j : Nat) : Bool := decide (gr j = 0) || !hasB gn gf (gr j)
def keptL (gn : Nat) (gf gr : Nat → Int) (n : Nat) : List Nat := (List.range n).filter (stayB gn gf gr)
theorem keptL_yes {gn : Nat} {gf gr : Nat → Int} {n : Nat} (h : stayB gn gf gr n = true) : keptL gn gf gr (n + 1) = keptL gn gf gr n ++ [n] := by
  unfold keptL
  rw [List.range_succ, List.filter_append, List.filter_cons_of_pos h]
  rfl
theorem keptL_no {gn : Nat} {gf gr : Nat → Int} {n : Nat} (h : stayB gn gf gr n = false) : keptL gn gf gr (n + 1) = keptL gn gf gr n := by
  unfold keptL
  rw [List.range_succ, List.filter_append, List.filter_cons_of_neg (by rw [h]; decide)]
  simp
theorem keptL_lt {gn : Nat} {gf gr : Nat → Int} {n j : Nat} (h : j ∈ keptL gn gf gr n) : j < n := by
  unfold keptL at h
  exact List.mem_range.1 (List.mem_filter.1 h).1
theorem keptL_len {gn : Nat} {gf gr : Nat → Int} {n : Nat} : (keptL gn gf gr n).length ≤ n := by
  unfold keptL
  have := List.length_filter_le (stayB gn gf gr) (List.range n)
  rw [List.length_range] at this
  exact this
structure WrP (x1 : Value) (nm : Nat → ByteArray) (gr ki bo : Nat → Int) (TA : Nat → Option Addr) (tn tc : Nat → Nat) (W4 : World) (K : List Nat) (u : Value) (W : World) : Prop where
  ow : OwP W4 (W4.heap.size + 1) 77 5 u K.length (rowsC nm gr ki bo tn (K.map fun j => (j, TA j, tc j))) W
  o : Blk W W4.heap.size [x1, u] 25
section
variable {x1 : Value} {nm : Nat → ByteArray} {gr ki bo : Nat → Int} {TA : Nat → Option Addr} {tn tc : Nat → Nat} {W4 : World} {K : List Nat} {u : Value} {W W' : World}
theorem WrP.keep (h : WrP x1 nm gr ki bo TA tn tc W4 K u W) (b : Below W.heap.size W W') : WrP x1 nm gr ki bo TA tn tc W4 K u W' := ⟨h.ow.keep b, h.o.keep b⟩
theorem wr_next {gn j : Nat} {gf : Nat → Int} (S9 : OwP W4 (W4.heap.size + 1) 77 5 u ((keptL gn gf gr j).length + 1) (rowsC nm gr ki bo tn ((keptL gn gf gr j).map fun j => (j, TA j, tc j)) ++ [.string (nm j), .int .i64 (gr j), .int .i64 (ki j), .slice (TA j) (tn j) (tc j), .int .i64 (bo j)]) W) {y : Value} (R9 : Blk W W4.heap.size [x1, y] 25) (h : stayB gn gf gr j = true) :
    WrP x1 nm gr ki bo TA tn tc W4 (keptL gn gf gr (j + 1)) u (W.setCell ⟨W4.heap.size, 1, none⟩ u) := by
  refine ⟨?_, R9.set_ 1 u⟩
  rw [keptL_yes h, List.map_append, List.length_append]
  have e : rowsC nm gr ki bo tn ((keptL gn gf gr j).map (fun j => (j, TA j, tc j)) ++ [j].map (fun j => (j, TA j, tc j))) = rowsC nm gr ki bo tn ((keptL gn gf gr j).map fun j => (j, TA j, tc j)) ++ [.string (nm j), .int .i64 (gr j), .int .i64 (ki j), .slice (TA j) (tn j) (tc j), .int .i64 (bo j)] := rowsC_snoc (j, TA j, tc j)
  rw [e]
  exact S9.far (Nat.le_refl _) (Nat.lt_succ_self _) u
end
set_option maxHeartbeats 16000000 in
theorem r_without (V0 : Option Addr) (vn vc : Nat) (R0 : Option Addr) (rn rc : Nat) (lo up : Nat → Int) (op it : Nat → Bool) (co : Nat → Int) (nm : Nat → ByteArray) (gr ki bo : Nat → Int) (TA : Nat → Option Addr) (tn tc : Nat → Nat) (v cf : Nat → Nat → Int) (G : Option Addr) (gn gc : Nat) (gf : Nat → Int) (w : World)
    (hV : Vs w V0 vn vc lo up op it co) (hR : Rs w R0 rn rc nm gr ki bo TA tn tc v cf) (hG : Il w G gn gc gf) (hv : vn ≤ 1000) (hr : rn ≤ 1000) :
    Calls Tryz.prog 48 #[.agg #[.slice V0 vn vc, .slice R0 rn rc], .slice G gn gc] w (RetPg w vn lo up op it co nm gr ki bo tn v cf (keptL gn gf gr rn)) := by
  have h3 := hR.1
  have h4 := hR.2.1
  have HR := hid hR
  have HG := hid hG
  have VB := hid hV.2.2.1
  obtain ⟨W0, hW⟩ : ∃ W, W = (w.alloc (.cells #[.slice V0 vn vc, .slice R0 rn rc] 25)).alloc (.cells #[.slice none 0 0, .slice none 0 0] 25) := ⟨_, rfl⟩
  have B0 := bx_alloc (bx_alloc (bx_refl w) (.cells #[.slice V0 vn vc, .slice R0 rn rc] 25)) (.cells #[.slice none 0 0, .slice none 0 0] 25)
  have K0 := (Blk.new w [.slice V0 vn vc, .slice R0 rn rc] 25).alloc (.cells #[.slice none 0 0, .slice none 0 0] 25)
  have K1 := blk_new1 w (.cells #[.slice V0 vn vc, .slice R0 rn rc] 25) [.slice none 0 0, .slice none 0 0] 25
  simp only [List.toArray] at K0 K1
  rw [← hW] at B0 K0 K1
  obtain ⟨x1, W4, hrun, OV, b4⟩ := own_copy_vars (ty := 22) B0 hV hv
  obtain ⟨V1, d1, rfl, _, _, _⟩ := own_form OV
  have x0 := (blk_two (K0.alloc (.cells #[] 60))).1
  have hlt : w.heap.size + 1 < W0.heap.size := by have := K1.lt; omega
  have hlt4 : w.heap.size + 1 < W4.heap.size := Nat.lt_of_lt_of_le hlt b4.size
  have KK := hid (show Below w.heap.size w W4 ∧ Blk W4 w.heap.size [.slice V0 vn vc, .slice R0 rn rc] 25 ∧ Blk W4 (w.heap.size + 1) [.slice none 0 0, .slice none 0 0] 25 ∧ W4.ownsRow W0.heap.size 60 5 (.slice V1 vn d1) vn (cellsOf5 (vcell lo up op it co) vn) from ⟨bx_call B0 b4, K0.keep b4, K1.keep b4, OV⟩)
  clear hV hR hG B0 K0 K1 b4 OV
  go_enter Tryz.func48, Tryz.ntmps48
  go_upto_region 1 with fail
  rw [← hW]
  clear hW
  go_upto_region 2 with (at_builtin; refine wpList_app_run rfl (.tmp 8) (.tmp 10) rfl rfl rfl hrun ?_; clear hrun)
  clear x0
  obtain ⟨W5, hW5⟩ : ∃ W, W = W4.alloc (.cells #[.slice V1 vn d1, .slice none 0 0] 25) := ⟨_, rfl⟩
  have b5 := bx_alloc (bx_refl W4) (.cells #[.slice V1 vn d1, .slice none 0 0] 25)
  have o5 := Blk.new W4 [.slice V1 vn d1, .slice none 0 0] 25
  simp only [List.toArray] at o5
  rw [← hW5] at b5 o5 ⊢
  have M0 := hid (show WrP (.slice V1 vn d1) nm gr ki bo TA tn tc W4 (keptL gn gf gr 0) (.slice none 0 0) W5 from ⟨⟨b5, World.ownsRow_nil W5 _ _ _, Nat.le_succ _, o5.lt⟩, o5⟩)
  clear hW5 b5 o5
  go_wp2_with fail
  go_loopw [6] (fun i wr => ∃ j : Nat, ∃ u : Value, j ≤ rn ∧ i = .int .i64 j ∧ (∃ U k c, u = .slice U k c) ∧ Hid (WrP (.slice V1 vn d1) nm gr ki bo TA tn tc W4 (keptL gn gf gr j) u wr)) (fun i _ => rn - (intOf i).toNat)
  case atStart => exact ⟨0, _, Nat.zero_le _, rfl, ⟨_, _, _, rfl⟩, M0⟩
  case round =>
    clear M0
    obtain ⟨j, u, hj, rfl, ⟨U, k, c, rfl⟩, hz⟩ := hrel
    obtain ⟨z0, z1⟩ := blk_two (KK.out.2.1.keep hz.out.ow.bel)
    rcases Nat.lt_or_ge j rn with hlt5 | hge
    · obtain ⟨b, o, rfl, hb, hcell⟩ := HR.out.2.2.2 (by omega)
      have SP := hid (show ∀ W, Below W4.heap.size W4 W → (fun W : World => W.cell? ⟨w.heap.size, 1, none⟩ = some (.slice (some ⟨b, o, none⟩) rn rc) ∧ W.cell? ⟨b, o + j * 5, none⟩ = some (.string (nm j)) ∧ W.cell? ⟨b, o + j * 5 + 1, none⟩ = some (.int .i64 (gr j)) ∧ W.cell? ⟨b, o + j * 5 + 2, none⟩ = some (.int .i64 (ki j)) ∧ W.cell? ⟨b, o + j * 5 + 3, none⟩ = some (.slice (TA j) (tn j) (tc j)) ∧ W.cell? ⟨b, o + j * 5 + 4, none⟩ = some (.int .i64 (bo j))) W from fun W B => by
        obtain ⟨p0, p1, p2, p3, p4⟩ := hcell j hlt5
        have B' := bx_call KK.out.1 B
        exact ⟨(blk_two (KK.out.2.1.keep B)).2, cell_bx p0 B', cell_bx p1 B', cell_bx p2 B', cell_bx p3 B', cell_bx p4 B'⟩)
      simp only at SP
      have M := hid hz.out
      have L9 := hid (Nat.le_trans (keptL_len (gn := gn) (gf := gf) (gr := gr) (n := j)) (by omega : j ≤ 1000000))
      have HH := hid (fun (W : World) (B : Below W4.heap.size W4 W) => r_has (il_keep HG.out (bx_call KK.out.1 B)) (gr j))
      have SY := hid (fun (h : gr j = 0 ∨ hasB gn gf (gr j) = false) => show stayB gn gf gr j = true from by unfold stayB; rcases h with h | h <;> simp [h])
      have SN := hid (fun (h1 : ¬gr j = 0) (h2 : hasB gn gf (gr j) = true) => show stayB gn gf gr j = false from by unfold stayB; simp [h1, h2])
      obtain ⟨q0, q1, q2, q3, q4, q5⟩ := SP.out _ M.out.ow.bel
      obtain ⟨gj, hgj⟩ : ∃ x, x = gr j := ⟨_, rfl⟩
      rw [← hgj] at q2
      have HJ := hid hgj
      clear hz hcell HR hgj
      go_upto_region 6 with fail
      by_cases e : gr j = 0
      · have hgj := HJ.out
        rw [e] at hgj
        clear HJ
        subst hgj
        have t1 : ((0 : Int) == 0) = true := rfl
        have ST := hid (SY.out (.inl e))
        clear e HH SY SN q0 q1 q2 q3 q4 q5 z0 z1 HG
        go_upto_region 7 with fail
        (try simp only [List.append_eq, List.cons_append, List.nil_append])
        refine wp_region_noPanic ?_
        refine wp_region_held_drew (S := (fun W => W.cell? ⟨w.heap.size, 1, none⟩ = some (.slice (some ⟨b, o, none⟩) rn rc) ∧ W.cell? ⟨b, o + j * 5, none⟩ = some (.string (nm j)) ∧ W.cell? ⟨b, o + j * 5 + 1, none⟩ = some (.int .i64 (gr j)) ∧ W.cell? ⟨b, o + j * 5 + 2, none⟩ = some (.int .i64 (ki j)) ∧ W.cell? ⟨b, o + j * 5 + 3, none⟩ = some (.slice (TA j) (tn j) (tc j)) ∧ W.cell? ⟨b, o + j * 5 + 4, none⟩ = some (.int .i64 (bo j)))) (by kernel_rfl) ?_ (fun hH => ?_)
        · exact SP.out _ (bx_drew M.out.ow.bel)
        have bd := bx_drew (bx_refl wr)
        obtain ⟨wc, hW0⟩ : ∃ W, W = wr.drew := ⟨_, rfl⟩
        rw [← hW0] at bd hH ⊢
        clear hW0
        replace M := hid (M.out.keep bd)
        have y1 := (blk_two M.out.o).2
        clear bd
        refine tk 0 hH ?_
        (try simp only [Act.put, gy0, gy1, gy2])
        refine tk 2 hH ?_
        (try simp only [Act.put, gy0, gy1, gy2])
        refine tk 3 hH ?_
        (try simp only [Act.put, gy0, gy1, gy2])
        refine tk 4 hH ?_
        (try simp only [Act.put, gy0, gy1, gy2])
        refine tk 5 hH ?_
        (try simp only [Act.put, gy0, gy1, gy2])
        refine tk 6 hH ?_
        (try simp only [Act.put, gy0, gy1, gy2])
        refine wpAnyH_ready (rs := [1, 7]) (by kernel_rfl) (by simp) ?_
        refine rdy (fun K hK => ?_) ?_
        go_simp
        refine hK.out _ _ hH (fun hH2 => ?_)
        clear hK K hH
        have hH := hH2
        clear hH2
        (try simp only [Act.put, gy0, gy1, gy2])
        refine wpAnyH_ready (rs := [7]) (by kernel_rfl) (by simp) ?_
        refine rdy (fun K hK => ?_) ?_
        go_simp
        obtain ⟨wc, nb, hW, hp, b9, kk⟩ := mk_cells wc [.string (nm j), .int .i64 (gr j), .int .i64 (ki j), .slice (TA j) (tn j) (tc j), .int .i64 (bo j)] 77
        simp only [List.toArray] at hW
        rw [← hW, ← hp]
        clear hW hp hH
        replace M := hid (M.out.keep b9)
        have y1 := (blk_two M.out.o).2
        have KB := hid kk
        clear kk b9
        refine hK.out _ _ ?_ (fun hH => ?_)
        · exact SP.out _ M.out.ow.bel
        clear hK K
        (try simp only [Act.put, gy0, gy1, gy2])
        refine wpAnyH_ready (rs := [8]) (by kernel_rfl) (by simp) ?_
        refine rdy (fun K hK => ?_) ?_
        obtain ⟨v9, w9, hrun9, ho, hg⟩ := app_row (ty := 23) M.out.ow.own KB.out (by intro u hu; simp only [List.mem_cons, List.not_mem_nil, or_false] at hu; rcases hu with rfl | rfl | rfl | rfl | rfl <;> rfl) L9.out M.out.ow.le
        obtain ⟨U9, c9, rfl, _, _, _⟩ := own_form ho
        rw [if_pos (by rfl)]
        refine wp_app_run (.tmp 35) (.tmp 41) rfl rfl rfl hrun9 ?_
        clear hrun9 hH
        have R9 := hid (blk_grow M.out.ow.own M.out.o (by decide) hg)
        have S9 := hid (M.out.ow.grow ho hg)
        clear ho hg M KB
        refine hK.out _ _ ?_ (fun hH => ?_)
        · exact SP.out _ S9.out.bel
        clear hK K
        (try simp only [Act.put, gy0, gy1, gy2])
        refine tk 9 hH ?_
        (try simp only [Act.put, gy0, gy1, gy2])
        refine wpAnyH_ready (rs := [10]) (by kernel_rfl) (by simp) ?_
        refine rdy (fun K hK => ?_) ?_
        have f1 := Blk.free R9.out 1
        have y9 := (blk_two R9.out).2
        go_simp
        clear hH
        refine hK.out _ _ ?_ (fun hH => ?_)
        · exact SP.out _ (bx_set S9.out.bel (Nat.le_refl _))
        clear hK K
        (try simp only [Act.put, gy0, gy1, gy2])
        refine wpAnyH_done (by kernel_rfl) ?_ _
        refine NoPanic.normal ?_
        · clear hH f1 y9
          have NN := hid (wr_next S9.out R9.out ST.out)
          clear S9 R9 SP ST L9 KK
          obtain ⟨W9, hW9⟩ : ∃ W, W = w9.setCell ⟨W4.heap.size, 1, none⟩ (.slice U9 ((keptL gn gf gr j).length + 1) c9) := ⟨_, rfl⟩
          rw [← hW9] at NN ⊢
          clear hW9
          go_wp2_with fail
          refine ⟨⟨j + 1, _, by omega, rfl, ⟨_, _, _, rfl⟩, NN⟩, by show rn - ((j : Int) + 1).toNat < rn - (j : Int).toNat; omega⟩
        exact AllReadyH.nil
        exact AllReadyH.nil
        exact AllReadyH.nil
        refine rdy (fun K hK => ?_) ?_
        go_simp
        obtain ⟨wc, nb, hW, hp, b9, kk⟩ := mk_cells wc [.string (nm j), .int .i64 (gr j), .int .i64 (ki j), .slice (TA j) (tn j) (tc j), .int .i64 (bo j)] 77
        simp only [List.toArray] at hW
        rw [← hW, ← hp]
        clear hW hp hH
        replace M := hid (M.out.keep b9)
        have y1 := (blk_two M.out.o).2
        have KB := hid kk
        clear kk b9
        refine hK.out _ _ ?_ (fun hH => ?_)
        · exact SP.out _ M.out.ow.bel
        clear hK K
        (try simp only [Act.put, gy0, gy1, gy2])
        refine wpAnyH_ready (rs := [1]) (by kernel_rfl) (by simp) ?_
        refine rdy (fun K hK => ?_) ?_
        go_simp
        refine hK.out _ _ hH (fun hH2 => ?_)
        clear hK K hH
        have hH := hH2
        clear hH2
        (try simp only [Act.put, gy0, gy1, gy2])
        refine wpAnyH_ready (rs := [8]) (by kernel_rfl) (by simp) ?_
        refine rdy (fun K hK => ?_) ?_
        obtain ⟨v9, w9, hrun9, ho, hg⟩ := app_row (ty := 23) M.out.ow.own KB.out (by intro u hu; simp only [List.mem_cons, List.not_mem_nil, or_false] at hu; rcases hu with rfl | rfl | rfl | rfl | rfl <;> rfl) L9.out M.out.ow.le
        obtain ⟨U9, c9, rfl, _, _, _⟩ := own_form ho
        rw [if_pos (by rfl)]
        refine wp_app_run (.tmp 35) (.tmp 41) rfl rfl rfl hrun9 ?_
        clear hrun9 hH
        have R9 := hid (blk_grow M.out.ow.own M.out.o (by decide) hg)
        have S9 := hid (M.out.ow.grow ho hg)
        clear ho hg M KB
        refine hK.out _ _ ?_ (fun hH => ?_)
        · exact SP.out _ S9.out.bel
        clear hK K
        (try simp only [Act.put, gy0, gy1, gy2])
        refine tk 9 hH ?_
        (try simp only [Act.put, gy0, gy1, gy2])
        refine wpAnyH_ready (rs := [10]) (by kernel_rfl) (by simp) ?_
        refine rdy (fun K hK => ?_) ?_
        have f1 := Blk.free R9.out 1
        have y9 := (blk_two R9.out).2
        go_simp
        clear hH
        refine hK.out _ _ ?_ (fun hH => ?_)
        · exact SP.out _ (bx_set S9.out.bel (Nat.le_refl _))
        clear hK K
        (try simp only [Act.put, gy0, gy1, gy2])
        refine wpAnyH_done (by kernel_rfl) ?_ _
        refine NoPanic.normal ?_
        · clear hH f1 y9
          have NN := hid (wr_next S9.out R9.out ST.out)
          clear S9 R9 SP ST L9 KK
          obtain ⟨W9, hW9⟩ : ∃ W, W = w9.setCell ⟨W4.heap.size, 1, none⟩ (.slice U9 ((keptL gn gf gr j).length + 1) c9) := ⟨_, rfl⟩
          rw [← hW9] at NN ⊢
          clear hW9
          go_wp2_with fail
          refine ⟨⟨j + 1, _, by omega, rfl, ⟨_, _, _, rfl⟩, NN⟩, by show rn - ((j : Int) + 1).toNat < rn - (j : Int).toNat; omega⟩
        exact AllReadyH.nil
        exact AllReadyH.nil
        exact AllReadyH.nil
        exact AllReadyH.nil
      · have hgj := HJ.out
        clear HJ
        rw [← hgj] at e
        have t1 : (gj == 0) = false := by simp [e]
        have e5 := e
        rw [hgj] at e
        clear q0 q1 q2 q3 q4 q5 z0 z1 HG
        replace HH := hid HH.out
        replace SY := hid (fun h => SY.out (.inr h))
        replace SN := hid (SN.out e)
        rw [← hgj] at HH SY SN
        clear hgj e
        go_wp2_with fail
        refine (HH.out _ M.out.ow.bel).mono ?_
        rintro e wr ⟨rfl, b8⟩
        replace M := hid (M.out.keep b8)
        clear b8 HH
        obtain ⟨s, hs⟩ : ∃ s, s = hasB gn gf gj := ⟨_, rfl⟩
        rw [← hs] at SY SN ⊢
        clear hs
        cases s
        · have ST := hid (SY.out rfl)
          clear SY SN
          go_upto_region 7 with fail
          (try simp only [List.append_eq, List.cons_append, List.nil_append])
          refine wp_region_noPanic ?_
          refine wp_region_held_drew (S := (fun W => W.cell? ⟨w.heap.size, 1, none⟩ = some (.slice (some ⟨b, o, none⟩) rn rc) ∧ W.cell? ⟨b, o + j * 5, none⟩ = some (.string (nm j)) ∧ W.cell? ⟨b, o + j * 5 + 1, none⟩ = some (.int .i64 (gr j)) ∧ W.cell? ⟨b, o + j * 5 + 2, none⟩ = some (.int .i64 (ki j)) ∧ W.cell? ⟨b, o + j * 5 + 3, none⟩ = some (.slice (TA j) (tn j) (tc j)) ∧ W.cell? ⟨b, o + j * 5 + 4, none⟩ = some (.int .i64 (bo j)))) (by kernel_rfl) ?_ (fun hH => ?_)
          · exact SP.out _ (bx_drew M.out.ow.bel)
          have bd := bx_drew (bx_refl wr)
          obtain ⟨wc, hW0⟩ : ∃ W, W = wr.drew := ⟨_, rfl⟩
          rw [← hW0] at bd hH ⊢
          clear hW0
          replace M := hid (M.out.keep bd)
          have y1 := (blk_two M.out.o).2
          clear bd
          refine tk 0 hH ?_
          (try simp only [Act.put, gy0, gy1, gy2])
          refine tk 2 hH ?_
          (try simp only [Act.put, gy0, gy1, gy2])
          refine tk 3 hH ?_
          (try simp only [Act.put, gy0, gy1, gy2])
          refine tk 4 hH ?_
          (try simp only [Act.put, gy0, gy1, gy2])
          refine tk 5 hH ?_
          (try simp only [Act.put, gy0, gy1, gy2])
          refine tk 6 hH ?_
          (try simp only [Act.put, gy0, gy1, gy2])
          refine wpAnyH_ready (rs := [1, 7]) (by kernel_rfl) (by simp) ?_
          refine rdy (fun K hK => ?_) ?_
          go_simp
          refine hK.out _ _ hH (fun hH2 => ?_)
          clear hK K hH
          have hH := hH2
          clear hH2
          (try simp only [Act.put, gy0, gy1, gy2])
          refine wpAnyH_ready (rs := [7]) (by kernel_rfl) (by simp) ?_
          refine rdy (fun K hK => ?_) ?_
          go_simp
          obtain ⟨wc, nb, hW, hp, b9, kk⟩ := mk_cells wc [.string (nm j), .int .i64 (gr j), .int .i64 (ki j), .slice (TA j) (tn j) (tc j), .int .i64 (bo j)] 77
          simp only [List.toArray] at hW
          rw [← hW, ← hp]
          clear hW hp hH
          replace M := hid (M.out.keep b9)
          have y1 := (blk_two M.out.o).2
          have KB := hid kk
          clear kk b9
          refine hK.out _ _ ?_ (fun hH => ?_)
          · exact SP.out _ M.out.ow.bel
          clear hK K
          (try simp only [Act.put, gy0, gy1, gy2])
          refine wpAnyH_ready (rs := [8]) (by kernel_rfl) (by simp) ?_
          refine rdy (fun K hK => ?_) ?_
          obtain ⟨v9, w9, hrun9, ho, hg⟩ := app_row (ty := 23) M.out.ow.own KB.out (by intro u hu; simp only [List.mem_cons, List.not_mem_nil, or_false] at hu; rcases hu with rfl | rfl | rfl | rfl | rfl <;> rfl) L9.out M.out.ow.le
          obtain ⟨U9, c9, rfl, _, _, _⟩ := own_form ho
          rw [if_pos (by rfl)]
          refine wp_app_run (.tmp 35) (.tmp 41) rfl rfl rfl hrun9 ?_
          clear hrun9 hH
          have R9 := hid (blk_grow M.out.ow.own M.out.o (by decide) hg)
          have S9 := hid (M.out.ow.grow ho hg)
          clear ho hg M KB
          refine hK.out _ _ ?_ (fun hH => ?_)
          · exact SP.out _ S9.out.bel
          clear hK K
          (try simp only [Act.put, gy0, gy1, gy2])
          refine tk 9 hH ?_
          (try simp only [Act.put, gy0, gy1, gy2])
          refine wpAnyH_ready (rs := [10]) (by kernel_rfl) (by simp) ?_
          refine rdy (fun K hK => ?_) ?_
          have f1 := Blk.free R9.out 1
          have y9 := (blk_two R9.out).2
          go_simp
          clear hH
          refine hK.out _ _ ?_ (fun hH => ?_)
          · exact SP.out _ (bx_set S9.out.bel (Nat.le_refl _))
          clear hK K
          (try simp only [Act.put, gy0, gy1, gy2])
          refine wpAnyH_done (by kernel_rfl) ?_ _
          refine NoPanic.normal ?_
          · clear hH f1 y9
            have NN := hid (wr_next S9.out R9.out ST.out)
            clear S9 R9 SP ST L9 KK
            obtain ⟨W9, hW9⟩ : ∃ W, W = w9.setCell ⟨W4.heap.size, 1, none⟩ (.slice U9 ((keptL gn gf gr j).length + 1) c9) := ⟨_, rfl⟩
            rw [← hW9] at NN ⊢
            clear hW9
            go_wp2_with fail
            refine ⟨⟨j + 1, _, by omega, rfl, ⟨_, _, _, rfl⟩, NN⟩, by show rn - ((j : Int) + 1).toNat < rn - (j : Int).toNat; omega⟩
          exact AllReadyH.nil
          exact AllReadyH.nil
          exact AllReadyH.nil
          refine rdy (fun K hK => ?_) ?_
          go_simp
          obtain ⟨wc, nb, hW, hp, b9, kk⟩ := mk_cells wc [.string (nm j), .int .i64 (gr j), .int .i64 (ki j), .slice (TA j) (tn j) (tc j), .int .i64 (bo j)] 77
          simp only [List.toArray] at hW
          rw [← hW, ← hp]
          clear hW hp hH
          replace M := hid (M.out.keep b9)
          have y1 := (blk_two M.out.o).2
          have KB := hid kk
          clear kk b9
          refine hK.out _ _ ?_ (fun hH => ?_)
          · exact SP.out _ M.out.ow.bel
          clear hK K
          (try simp only [Act.put, gy0, gy1, gy2])
          refine wpAnyH_ready (rs := [1]) (by kernel_rfl) (by simp) ?_
          refine rdy (fun K hK => ?_) ?_
          go_simp
          refine hK.out _ _ hH (fun hH2 => ?_)
          clear hK K hH
          have hH := hH2
          clear hH2
          (try simp only [Act.put, gy0, gy1, gy2])
          refine wpAnyH_ready (rs := [8]) (by kernel_rfl) (by simp) ?_
          refine rdy (fun K hK => ?_) ?_
          obtain ⟨v9, w9, hrun9, ho, hg⟩ := app_row (ty := 23) M.out.ow.own KB.out (by intro u hu; simp only [List.mem_cons, List.not_mem_nil, or_false] at hu; rcases hu with rfl | rfl | rfl | rfl | rfl <;> rfl) L9.out M.out.ow.le
          obtain ⟨U9, c9, rfl, _, _, _⟩ := own_form ho
          rw [if_pos (by rfl)]
          refine wp_app_run (.tmp 35) (.tmp 41) rfl rfl rfl hrun9 ?_
          clear hrun9 hH
          have R9 := hid (blk_grow M.out.ow.own M.out.o (by decide) hg)
          have S9 := hid (M.out.ow.grow ho hg)
          clear ho hg M KB
          refine hK.out _ _ ?_ (fun hH => ?_)
          · exact SP.out _ S9.out.bel
          clear hK K
          (try simp only [Act.put, gy0, gy1, gy2])
          refine tk 9 hH ?_
          (try simp only [Act.put, gy0, gy1, gy2])
          refine wpAnyH_ready (rs := [10]) (by kernel_rfl) (by simp) ?_
          refine rdy (fun K hK => ?_) ?_
          have f1 := Blk.free R9.out 1
          have y9 := (blk_two R9.out).2
          go_simp
          clear hH
          refine hK.out _ _ ?_ (fun hH => ?_)
          · exact SP.out _ (bx_set S9.out.bel (Nat.le_refl _))
          clear hK K
          (try simp only [Act.put, gy0, gy1, gy2])
          refine wpAnyH_done (by kernel_rfl) ?_ _
          refine NoPanic.normal ?_
          · clear hH f1 y9
            have NN := hid (wr_next S9.out R9.out ST.out)
            clear S9 R9 SP ST L9 KK
            obtain ⟨W9, hW9⟩ : ∃ W, W = w9.setCell ⟨W4.heap.size, 1, none⟩ (.slice U9 ((keptL gn gf gr j).length + 1) c9) := ⟨_, rfl⟩
            rw [← hW9] at NN ⊢
            clear hW9
            go_wp2_with fail
            refine ⟨⟨j + 1, _, by omega, rfl, ⟨_, _, _, rfl⟩, NN⟩, by show rn - ((j : Int) + 1).toNat < rn - (j : Int).toNat; omega⟩
          exact AllReadyH.nil
          exact AllReadyH.nil
          exact AllReadyH.nil
          exact AllReadyH.nil
        · have ST := SN.out rfl
          clear SY SN
          have NN := hid (show WrP (.slice V1 vn d1) nm gr ki bo TA tn tc W4 (keptL gn gf gr (j + 1)) (.slice U k c) wr from by rw [keptL_no ST]; exact M.out)
          clear M SP L9 ST
          go_wp2_with fail
          go_roundw
          case rel => exact ⟨j + 1, .slice U k c, by omega, by go_num, ⟨_, _, _, rfl⟩, NN⟩
          case measure => simp [intOf]; omega
    · obtain rfl : j = rn := by omega
      have M := hid hz.out
      clear hz
      obtain ⟨y0, y1⟩ := blk_two M.out.o
      have f0 := (KK.out.2.2.1.keep M.out.ow.bel).free 0
      have f1 := (KK.out.2.2.1.keep M.out.ow.bel).free 1
      obtain ⟨r0, r1⟩ := blk_two (KK.out.2.2.1.keep M.out.ow.bel)
      have FIN := hid (show RetPg w vn lo up op it co nm gr ki bo tn v cf (keptL gn gf gr j) (.returned (.agg #[.slice V1 vn d1, .slice U k c])) ((wr.setCell ⟨w.heap.size + 1, 0, none⟩ (.slice V1 vn d1)).setCell ⟨w.heap.size + 1, 1, none⟩ (.slice U k c)) from by
        have B9 := bx_set (i := 1) (u := .slice U k c) (bx_set (i := 0) (u := (.slice V1 vn d1)) (bx_call KK.out.1 M.out.ow.bel) (Nat.le_succ _)) (Nat.le_succ _)
        have O1 := ownsRow_setCell_below (ownsRow_setCell_below (own_keep KK.out.2.2.2 M.out.ow.bel) (a := ⟨w.heap.size + 1, 0, none⟩) (by exact hlt) (.slice V1 vn d1)) (a := ⟨w.heap.size + 1, 1, none⟩) (by exact hlt) (.slice U k c)
        have O2 := ownsRow_setCell_below (ownsRow_setCell_below M.out.ow.own (a := ⟨w.heap.size + 1, 0, none⟩) (by show w.heap.size + 1 < W4.heap.size + 1; omega) (.slice V1 vn d1)) (a := ⟨w.heap.size + 1, 1, none⟩) (by show w.heap.size + 1 < W4.heap.size + 1; omega) (.slice U k c)
        obtain ⟨V2, d3, e, HV⟩ := own_vs O1 VB.out
        cases e
        have hm : ((keptL gn gf gr j).map fun j => (j, TA j, tc j)).map (·.1) = keptL gn gf gr j := by rw [List.map_map]; exact List.map_id _
        obtain ⟨R1, d2, TB, td, e, HR1⟩ := rows_made (v := v) (cf := cf) (L := (keptL gn gf gr j).map fun j => (j, TA j, tc j)) hm (by rw [List.length_map]; exact O2) (fun x hx => by
          obtain ⟨i, hi, rfl⟩ := List.mem_map.1 hx
          obtain ⟨a1, a2, a3, a4⟩ := HR.out.2.2.1 i (keptL_lt hi)
          exact ⟨a1, a2, a3, a4.keep B9⟩)
        cases e
        exact ⟨_, _, _, _, TB, td, rfl, HV, HR1, B9⟩)
      have R8 := blk_set2 (u := .slice V1 vn d1) (v := .slice U k c) (KK.out.2.2.1.keep M.out.ow.bel)
      obtain ⟨W9, hW9⟩ : ∃ W, W = (wr.setCell ⟨w.heap.size + 1, 0, none⟩ (.slice V1 vn d1)).setCell ⟨w.heap.size + 1, 1, none⟩ (.slice U k c) := ⟨_, rfl⟩
      rw [← hW9] at FIN R8
      replace hW9 := hid hW9
      clear M HR HG KK VB
      go_wp2_with fail
      rw [← hW9.out]
      clear r0 r1 f0 f1
      obtain ⟨r0, r1⟩ := blk_two R8
      try simp only [Exit.inBlock, Exit.then]
      exact bodyPost_ret (v := .agg #[.slice V1 vn d1, .slice U k c]) (by simp [results, Tryz.results48, go_sem, r0, r1]) rfl FIN.out
end Go.Proofs.YtdbccidlnhjfhaaGreatDoor
