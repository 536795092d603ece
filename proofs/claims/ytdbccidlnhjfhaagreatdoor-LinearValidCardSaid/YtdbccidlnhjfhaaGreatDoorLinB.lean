/- LinB: Lin10, Lin11, Lin12, Lin13, Lin14, Lin15, Lin16, Lin17 in one text. -/
import Derived.Test.YtdbccidlnhjfhaaGreatDoorLinA
import Derived.Deep.DeepCutAuto
import Derived.BigQuiet
namespace Go.Proofs.YtdbccidlnhjfhaaGreatDoor
open Go.RowKit
set_option maxRecDepth 100000
def Rs (w : World) (A : Option Addr) (n c : Nat) (nm : Nat → ByteArray) (gr ki bo : Nat → Int) (TA : Nat → Option Addr) (tn tc : Nat → Nat) (v cf : Nat → Nat → Int) : Prop := n ≤ c ∧ c ≤ 9223372036854775807 ∧ (∀ j, j < n → (-9223372036854775808 ≤ ki j ∧ ki j ≤ 9223372036854775807) ∧ (-9223372036854775808 ≤ bo j ∧ bo j ≤ 9223372036854775807) ∧ (-9223372036854775808 ≤ gr j ∧ gr j ≤ 9223372036854775807) ∧ Ts w (TA j) (tn j) (tc j) (v j) (cf j)) ∧ (0 < n → ∃ b o, A = some ⟨b, o, none⟩ ∧ b < w.heap.size ∧ ∀ j, j < n → w.cell? ⟨b, o + j * 5, none⟩ = some (.string (nm j)) ∧ w.cell? ⟨b, o + j * 5 + 1, none⟩ = some (.int .i64 (gr j)) ∧ w.cell? ⟨b, o + j * 5 + 2, none⟩ = some (.int .i64 (ki j)) ∧ w.cell? ⟨b, o + j * 5 + 3, none⟩ = some (.slice (TA j) (tn j) (tc j)) ∧ w.cell? ⟨b, o + j * 5 + 4, none⟩ = some (.int .i64 (bo j)))
theorem Rs.keep {w w' : World} {A : Option Addr} {n c : Nat} {nm : Nat → ByteArray} {gr ki bo : Nat → Int} {TA : Nat → Option Addr} {tn tc : Nat → Nat} {v cf : Nat → Nat → Int} (h : Rs w A n c nm gr ki bo TA tn tc v cf) (b : Below w.heap.size w w') : Rs w' A n c nm gr ki bo TA tn tc v cf := by
  refine ⟨h.1, h.2.1, fun j hj => ⟨(h.2.2.1 j hj).1, (h.2.2.1 j hj).2.1, (h.2.2.1 j hj).2.2.1, (h.2.2.1 j hj).2.2.2.keep b⟩, fun hn => ?_⟩
  obtain ⟨bb, o, hA, hlt, hc⟩ := h.2.2.2 hn
  exact ⟨bb, o, hA, Nat.lt_of_lt_of_le hlt b.size, fun j hj => ⟨cell_bx (hc j hj).1 b, cell_bx (hc j hj).2.1 b, cell_bx (hc j hj).2.2.1 b, cell_bx (hc j hj).2.2.2.1 b, cell_bx (hc j hj).2.2.2.2 b⟩⟩
def suits (ki : Int) (q : Rat) : Prop := ¬(ki = 1 ∧ sgnQ q < 0) ∧ ¬(ki = 0 ∧ 0 < sgnQ q)
instance (ki : Int) (q : Rat) : Decidable (suits ki q) := by unfold suits; infer_instance
def sgdB (rn : Nat) (ki : Nat → Int) (q : Nat → Rat) : Bool := decide (∀ j, j < rn → suits (ki j) (q j))
def SgP (w : World) (cs : List Value) (ki : Nat → Int) (q : Nat → Rat) (j : Nat) (W : World) : Prop := (∀ i, i < j → suits (ki i) (q i)) ∧ Below w.heap.size w W ∧ Blk W w.heap.size cs 25
theorem SgP.next {w W : World} {cs : List Value} {ki : Nat → Int} {q : Nat → Rat} {j : Nat} (h : SgP w cs ki q j W) (hj : suits (ki j) (q j)) : SgP w cs ki q (j + 1) W := ⟨fun i hi => by
  rcases Nat.lt_or_ge i j with h1 | h1
  · exact h.1 i h1
  · obtain rfl : i = j := by omega
    exact hj, h.2⟩
theorem SgP.keep {w W W' : World} {cs : List Value} {ki : Nat → Int} {q : Nat → Rat} {j : Nat} (h : SgP w cs ki q j W) (b : Below W.heap.size W W') : SgP w cs ki q j W' := ⟨h.1, bx_call h.2.1 b, h.2.2.keep b⟩
theorem sgd_no {w W : World} {rn : Nat} {ki : Nat → Int} {q : Nat → Rat} {j : Nat} (hj : j < rn) (hs : ¬suits (ki j) (q j)) (b : Below w.heap.size w W) : RetB w (sgdB rn ki q) (.returned (.bool false)) W :=
  ⟨by rw [show sgdB rn ki q = false from decide_eq_false fun h => hs (h j hj)], b⟩
theorem sgd_yes {w W : World} {cs : List Value} {rn : Nat} {ki : Nat → Int} {q : Nat → Rat} (h : SgP w cs ki q rn W) : RetB w (sgdB rn ki q) (.returned (.bool true)) W :=
  ⟨by rw [show sgdB rn ki q = true from decide_eq_true h.1], h.2.1⟩
set_option maxHeartbeats 4000000 in
theorem rsigned (V0 : Option Addr) (vn vc : Nat) (R0 : Option Addr) (rn rc : Nat) (nm : Nat → ByteArray) (gr ki bo : Nat → Int) (TA : Nat → Option Addr) (tn tc : Nat → Nat) (v cf : Nat → Nat → Int) (A : Option Addr) (n c k : Nat) (qs : Nat → Rat) (w : World) (hR : Rs w R0 rn rc nm gr ki bo TA tn tc v cf) (hQ : Qs w A n c k qs) (hk : k ≤ 274877906943) :
    Calls Tryz.prog 35 #[.agg #[.slice V0 vn vc, .slice R0 rn rc], .slice A n c] w (RetB w (sgdB rn ki (fun j : Nat => atQ n qs (j : Int)))) := by
  have hc := hR.1
  have hc2 := hR.2.1
  obtain ⟨q, hq⟩ : ∃ q : Nat → Rat, q = fun j : Nat => atQ n qs (j : Int) := ⟨_, rfl⟩
  rw [← hq]
  have ST := hid (show SgP w [.slice V0 vn vc, .slice R0 rn rc] ki q 0 (w.alloc (.cells #[.slice V0 vn vc, .slice R0 rn rc] 25)) from ⟨fun i hi => absurd hi (by omega), bx_alloc (bx_refl w) _, Blk.new w [.slice V0 vn vc, .slice R0 rn rc] 25⟩)
  have AT := hid (fun (W : World) (b : Below w.heap.size w W) (j : Nat) => (show Calls Tryz.prog 39 #[.slice A n c, .int .i64 (j : Int)] W (RetV W (q j) k) by rw [hq]; exact qat A n c k qs (j : Int) W (hQ.keep b)))
  have HR := hid hR
  clear hR hQ hq
  go_enter Tryz.func35, Tryz.ntmps35
  go_wp2_with fail
  go_loopw [5] (fun i wr => ∃ j : Nat, j ≤ rn ∧ i = .int .i64 j ∧ Hid (SgP w [.slice V0 vn vc, .slice R0 rn rc] ki q j wr)) (fun i _ => rn - (intOf i).toNat)
  case atStart => exact ⟨0, Nat.zero_le _, rfl, ST⟩
  case round =>
    obtain ⟨j, hj, rfl, hz⟩ := hrel
    have z0 := (blk_two hz.out.2.2).2
    rcases Nat.lt_or_ge j rn with hlt | hge
    · obtain ⟨b, o, rfl, hb, hcell⟩ := HR.out.2.2.2 (by omega)
      have CA := hid (AT.out wr hz.out.2.1 j)
      have HZ := hz
      clear ST hz
      go_wp2_with fail
      refine (CA.out).mono ?_
      rintro e w1 ⟨ga, A1, n1, c1, D1, m1, d1, rfl, r, b1⟩
      have SG := hid (vrsign ga A1 n1 c1 D1 m1 d1 k (q j) w1 r hk)
      have Z1 := hid (HZ.out.keep b1)
      clear r b1 CA HZ z0
      go_wp2_with fail
      refine (SG.out).mono ?_
      rintro e w2 ⟨rfl, b2⟩
      have Z2 := hid (Z1.out.keep b2)
      have z0 := (blk_two Z2.out.2.2).2
      have z1 := cell_bx (hcell j hlt).2.2.1 Z2.out.2.1
      have B2 := hid Z2.out.2.1
      obtain ⟨s, hs⟩ : ∃ s, s = sgnQ (q j) := ⟨_, rfl⟩
      have NO := hid (fun h : ¬suits (ki j) (q j) => sgd_no (rn := rn) hlt h B2.out)
      have YE := hid (fun h : suits (ki j) (q j) => Z2.out.next h)
      unfold suits at NO YE
      rw [← hs] at NO YE ⊢
      clear SG Z1 b2 HR AT hcell hs Z2 B2
      by_cases k1 : ki j = 1
      · have u1 : decide (ki j = 1) = true := decide_eq_true k1
        have u2 : decide (ki j = 0) = false := decide_eq_false (by omega)
        by_cases s1 : s < 0
        · have v1 : decide (s < 0) = true := decide_eq_true s1
          have NN := hid (NO.out (by omega))
          clear NO YE
          go_wp2_with fail
          go_ret
          exact NN.out
        · have v1 : decide (s < 0) = false := decide_eq_false s1
          have YY := hid (YE.out (by omega))
          clear NO YE
          go_wp2_with fail
          go_roundw
          case rel => exact ⟨j + 1, by omega, by go_num, YY⟩
          case measure => simp [intOf]; omega
      · have u1 : decide (ki j = 1) = false := decide_eq_false k1
        by_cases k0 : ki j = 0
        · have u2 : decide (ki j = 0) = true := decide_eq_true k0
          by_cases s1 : 0 < s
          · have v1 : decide (0 < s) = true := decide_eq_true s1
            have NN := hid (NO.out (by omega))
            clear NO YE
            go_wp2_with fail
            go_ret
            exact NN.out
          · have v1 : decide (0 < s) = false := decide_eq_false s1
            have YY := hid (YE.out (by omega))
            clear NO YE
            go_wp2_with fail
            go_roundw
            case rel => exact ⟨j + 1, by omega, by go_num, YY⟩
            case measure => simp [intOf]; omega
        · have u2 : decide (ki j = 0) = false := decide_eq_false k0
          have YY := hid (YE.out (by omega))
          clear NO YE
          go_wp2_with fail
          go_roundw
          case rel => exact ⟨j + 1, by omega, by go_num, YY⟩
          case measure => simp [intOf]; omega
    · obtain rfl : j = rn := by omega
      have YY := hid (sgd_yes hz.out)
      clear HR AT ST hz
      go_wp2_with fail
      go_ret
      exact YY.out
theorem atQ_min (rn n : Nat) (qs : Nat → Rat) {j : Nat} (hj : j < rn) : atQ (min rn n) qs (j : Int) = atQ n qs (j : Int) := by
  unfold atQ
  by_cases h : j < n
  · rw [if_pos (by omega), if_pos (by omega)]
  · rw [if_neg (by omega), if_neg (by omega)]
theorem sgd_congr {rn : Nat} {ki : Nat → Int} {p q : Nat → Rat} (h : ∀ j, j < rn → p j = q j) : sgdB rn ki p = sgdB rn ki q := by
  unfold sgdB
  refine decide_eq_decide.2 ⟨fun g j hj => ?_, fun g j hj => ?_⟩
  · rw [← h j hj]; exact g j hj
  · rw [h j hj]; exact g j hj
theorem blk_five {w : World} {b t : Nat} {x y z u s : Value} (h : Blk w b [x, y, z, u, s] t) : w.cell? ⟨b, 0, none⟩ = some x ∧ w.cell? ⟨b, 1, none⟩ = some y ∧ w.cell? ⟨b, 2, none⟩ = some z ∧ w.cell? ⟨b, 3, none⟩ = some u ∧ w.cell? ⟨b, 4, none⟩ = some s := ⟨Blk.cell h 0, Blk.cell h 1, Blk.cell h 2, Blk.cell h 3, Blk.cell h 4⟩
set_option maxHeartbeats 4000000 in
theorem vsigned (V0 : Option Addr) (vn vc : Nat) (R0 : Option Addr) (rn rc : Nat) (nm : Nat → ByteArray) (gr ki bo : Nat → Int) (TA : Nat → Option Addr) (tn tc : Nat → Nat) (v cf : Nat → Nat → Int) (A : Option Addr) (n c k : Nat) (qs : Nat → Rat) (w : World) (hR : Rs w R0 rn rc nm gr ki bo TA tn tc v cf) (hQ : Qs w A n c k qs) (_hk : k ≤ 274877906943) :
    Calls Tryz.prog 34 #[.agg #[.slice V0 vn vc, .slice R0 rn rc], .slice A n c] w (RetB w (sgdB rn ki (fun j : Nat => atQ n qs (j : Int)))) := by
  have hc := hR.1
  have hc2 := hR.2.1
  have hqn : n ≤ 9223372036854775807 := Nat.le_trans hQ.1 hQ.2.1
  obtain ⟨W0, hW⟩ : ∃ W, W = w.alloc (.cells #[.slice V0 vn vc, .slice R0 rn rc] 25) := ⟨_, rfl⟩
  have B0 := bx_alloc (bx_refl w) (.cells #[.slice V0 vn vc, .slice R0 rn rc] 25)
  have KP := Blk.new w [.slice V0 vn vc, .slice R0 rn rc] 25
  change Blk (w.alloc (.cells #[.slice V0 vn vc, .slice R0 rn rc] 25)) _ _ _ at KP
  rw [← hW] at B0 KP
  have EL := hid (velem A n c rn (min rn n) W0 hqn rfl)
  obtain ⟨q, hq⟩ : ∃ q : Nat → Rat, q = fun j : Nat => atQ (min rn n) qs (j : Int) := ⟨_, rfl⟩
  rw [show sgdB rn ki (fun j : Nat => atQ n qs (j : Int)) = sgdB rn ki q from sgd_congr fun j hj => by rw [hq]; exact (atQ_min rn n qs hj).symm]
  have AT := hid (fun (W : World) (bn bl : Nat) (b : Below w.heap.size w W) (kn : Blk W bn [.int .i64 (min rn n : Nat)] 3) (kl : Blk W bl [.slice A n c] 32) (j : Nat) => (show Calls Tryz.prog 109 #[.int .i64 (j : Int), .pointer (some ⟨bn, 0, none⟩), .pointer (some ⟨bl, 0, none⟩)] W (RetV W (q j) k) by rw [hq]; exact velem1 bn bl A n c k (min rn n) qs (j : Int) W (hQ.keep b) kn kl (Nat.min_le_right _ _)))
  obtain ⟨m, hm⟩ : ∃ m, m = min rn n := ⟨_, rfl⟩
  rw [← hm] at AT EL
  have HR := hid hR
  have z0 := (blk_two KP).2
  have KK := hid KP
  have BB := hid B0
  clear hR hQ hq hm KP B0
  go_enter Tryz.func34, Tryz.ntmps34
  go_upto_region 1 with fail
  rw [← hW]
  clear hW
  go_wp2_with fail
  refine (EL.out).mono ?_
  rintro e w1 ⟨bn, bl, rfl, kn, kl, _, _, b⟩
  have ST := hid (show SgP w [.slice V0 vn vc, .slice R0 rn rc] ki q 0 w1 from ⟨fun i hi => absurd hi (by omega), bx_call BB.out b, KK.out.keep b⟩)
  have BN := hid kn
  have BL := hid kl
  have z0 := (blk_two ST.out.2.2).2
  clear kn kl b EL KK BB
  unfold El
  go_wp2_with fail
  go_loopw [17] (fun i wr => ∃ j : Nat, j ≤ rn ∧ i = .int .i64 j ∧ Hid (SgP w [.slice V0 vn vc, .slice R0 rn rc] ki q j wr ∧ Below w1.heap.size w1 wr)) (fun i _ => rn - (intOf i).toNat)
  case atStart => exact ⟨0, Nat.zero_le _, rfl, hid ⟨ST.out, bx_refl w1⟩⟩
  case round =>
    obtain ⟨j, hj, rfl, hz⟩ := hrel
    clear z0
    rcases Nat.lt_or_ge j rn with hlt | hge
    · obtain ⟨b, o, rfl, hb, hcell⟩ := HR.out.2.2.2 (by omega)
      have x0 := cell_bx (hcell j hlt).1 hz.out.1.2.1
      have x1 := cell_bx (hcell j hlt).2.1 hz.out.1.2.1
      have x2 := cell_bx (hcell j hlt).2.2.1 hz.out.1.2.1
      have x3 := cell_bx (hcell j hlt).2.2.2.1 hz.out.1.2.1
      have x4 := cell_bx (hcell j hlt).2.2.2.2 hz.out.1.2.1
      have B1 := bx_alloc (bx_refl wr) (.cells #[.string (nm j), .int .i64 (gr j), .int .i64 (ki j), .slice (TA j) (tn j) (tc j), .int .i64 (bo j)] 77)
      have CA := hid (AT.out _ bn bl (bx_call hz.out.1.2.1 B1) ((BN.out.keep hz.out.2).keep B1) ((BL.out.keep hz.out.2).keep B1) j)
      have KT := hid (Blk.new wr [.string (nm j), .int .i64 (gr j), .int .i64 (ki j), .slice (TA j) (tn j) (tc j), .int .i64 (bo j)] 77)
      have Z1 := hid (hz.out.1.keep B1)
      have L1 := hid (bx_call hz.out.2 B1)
      clear ST hz B1 HR AT hcell BN BL
      go_wp2_with fail
      refine (CA.out).mono ?_
      rintro e w2 ⟨ga, A1, n1, c1, D1, m1, d1, rfl, r, b1⟩
      have SG := hid (vsign ga A1 n1 c1 D1 m1 d1 k (q j) w2 r)
      have Z2 := hid (Z1.out.keep b1)
      have L2 := hid (bx_call L1.out b1)
      have KT2 := hid (KT.out.keep b1)
      clear r b1 CA Z1 L1 KT x0 x1 x2 x3 x4
      go_wp2_with fail
      refine (SG.out).mono ?_
      rintro e w3 ⟨rfl, b2⟩
      have Z3 := hid (Z2.out.keep b2)
      have L3 := hid (bx_call L2.out b2)
      obtain ⟨_, _, z1, _, _⟩ := blk_five (KT2.out.keep b2)
      have B2 := hid Z3.out.2.1
      obtain ⟨s, hs⟩ : ∃ s, s = sgnQ (q j) := ⟨_, rfl⟩
      have NO := hid (fun h : ¬suits (ki j) (q j) => sgd_no (rn := rn) hlt h B2.out)
      have YE := hid (fun h : suits (ki j) (q j) => And.intro (Z3.out.next h) L3.out)
      unfold suits at NO YE
      rw [← hs] at NO YE ⊢
      clear SG b2 hs Z2 Z3 B2 L2 L3 KT2
      by_cases k1 : ki j = 1
      · have u1 : decide (ki j = 1) = true := decide_eq_true k1
        have u2 : decide (ki j = 0) = false := decide_eq_false (by omega)
        by_cases s1 : s < 0
        · have v1 : decide (s < 0) = true := decide_eq_true s1
          have NN := hid (NO.out (by omega))
          clear NO YE
          go_wp2_with fail
          go_ret
          exact NN.out
        · have v1 : decide (s < 0) = false := decide_eq_false s1
          have YY := hid (YE.out (by omega))
          clear NO YE
          go_wp2_with fail
          go_roundw
          case rel => exact ⟨j + 1, by omega, by go_num, YY⟩
          case measure => simp [intOf]; omega
      · have u1 : decide (ki j = 1) = false := decide_eq_false k1
        by_cases k0 : ki j = 0
        · have u2 : decide (ki j = 0) = true := decide_eq_true k0
          by_cases s1 : 0 < s
          · have v1 : decide (0 < s) = true := decide_eq_true s1
            have NN := hid (NO.out (by omega))
            clear NO YE
            go_wp2_with fail
            go_ret
            exact NN.out
          · have v1 : decide (0 < s) = false := decide_eq_false s1
            have YY := hid (YE.out (by omega))
            clear NO YE
            go_wp2_with fail
            go_roundw
            case rel => exact ⟨j + 1, by omega, by go_num, YY⟩
            case measure => simp [intOf]; omega
        · have u2 : decide (ki j = 0) = false := decide_eq_false k0
          have YY := hid (YE.out (by omega))
          clear NO YE
          go_wp2_with fail
          go_roundw
          case rel => exact ⟨j + 1, by omega, by go_num, YY⟩
          case measure => simp [intOf]; omega
    · obtain rfl : j = rn := by omega
      have YY := hid (sgd_yes hz.out.1)
      clear HR AT ST hz
      go_wp2_with fail
      go_ret
      exact YY.out
theorem bx_drewN {w W : World} (h : Below w.heap.size w W) (k : Nat) : Below w.heap.size w (W.drewN k) := ⟨h.os, h.tape, h.output, h.size, h.block⟩
def room (op : Bool) (lo up : Int) : Prop := op = true ∨ lo ≤ up
instance (op : Bool) (lo up : Int) : Decidable (room op lo up) := by unfold room; infer_instance
def empB (vn : Nat) (lo up : Nat → Int) (op : Nat → Bool) : Bool := !decide (∀ j, j < vn → room (op j) (lo j) (up j))
def EmP (w : World) (cs : List Value) (lo up : Nat → Int) (op : Nat → Bool) (j : Nat) (W : World) : Prop := (∀ i, i < j → room (op i) (lo i) (up i)) ∧ Below w.heap.size w W ∧ Blk W w.heap.size cs 25
theorem EmP.next {w W : World} {cs : List Value} {lo up : Nat → Int} {op : Nat → Bool} {j : Nat} (h : EmP w cs lo up op j W) (hj : room (op j) (lo j) (up j)) : EmP w cs lo up op (j + 1) W := ⟨fun i hi => by
  rcases Nat.lt_or_ge i j with h1 | h1
  · exact h.1 i h1
  · obtain rfl : i = j := by omega
    exact hj, h.2⟩
theorem EmP.keep {w W W' : World} {cs : List Value} {lo up : Nat → Int} {op : Nat → Bool} {j : Nat} (h : EmP w cs lo up op j W) (b : Below W.heap.size W W') : EmP w cs lo up op j W' := ⟨h.1, bx_call h.2.1 b, h.2.2.keep b⟩
theorem emp_yes {w W : World} {vn : Nat} {lo up : Nat → Int} {op : Nat → Bool} {j : Nat} (hj : j < vn) (hs : ¬room (op j) (lo j) (up j)) (b : Below w.heap.size w W) : RetB w (empB vn lo up op) (.returned (.bool true)) W :=
  ⟨by rw [show empB vn lo up op = true by unfold empB; rw [decide_eq_false fun h => hs (h j hj)]; rfl], b⟩
theorem emp_no {w W : World} {cs : List Value} {vn : Nat} {lo up : Nat → Int} {op : Nat → Bool} (h : EmP w cs lo up op vn W) : RetB w (empB vn lo up op) (.returned (.bool false)) W :=
  ⟨by rw [show empB vn lo up op = false by unfold empB; rw [decide_eq_true h.1]; rfl], h.2.1⟩
set_option maxHeartbeats 4000000 in
theorem rempty (V0 : Option Addr) (vn vc : Nat) (R0 : Option Addr) (rn rc : Nat) (lo up : Nat → Int) (op it : Nat → Bool) (co : Nat → Int) (w : World) (hT : Vs w V0 vn vc lo up op it co) :
    Calls Tryz.prog 83 #[.agg #[.slice V0 vn vc, .slice R0 rn rc]] w (RetB w (empB vn lo up op)) := by
  have hc := hT.1
  have hc2 := hT.2.1
  have ST := hid (show EmP w [.slice V0 vn vc, .slice R0 rn rc] lo up op 0 (w.alloc (.cells #[.slice V0 vn vc, .slice R0 rn rc] 25)) from ⟨fun i hi => absurd hi (by omega), bx_alloc (bx_refl w) _, Blk.new w [.slice V0 vn vc, .slice R0 rn rc] 25⟩)
  have HT := hid hT
  clear hT
  go_enter Tryz.func83, Tryz.ntmps83
  go_wp2_with fail
  go_loopw [3] (fun i wr => ∃ j : Nat, j ≤ vn ∧ i = .int .i64 j ∧ Hid (EmP w [.slice V0 vn vc, .slice R0 rn rc] lo up op j wr)) (fun i _ => vn - (intOf i).toNat)
  case atStart => exact ⟨0, Nat.zero_le _, rfl, ST⟩
  case round =>
    obtain ⟨j, hj, rfl, hz⟩ := hrel
    have z0 := (blk_two hz.out.2.2).1
    rcases Nat.lt_or_ge j vn with hlt | hge
    · obtain ⟨b, o, rfl, hb, hcell⟩ := HT.out.2.2.2 (by omega)
      have x0 := cell_bx (hcell j hlt).1 hz.out.2.1
      have x1 := cell_bx (hcell j hlt).2.1 hz.out.2.1
      have x2 := cell_bx (hcell j hlt).2.2.1 hz.out.2.1
      have BD := fun nq : Nat => bx_drewN (bx_refl wr) nq
      have NO := hid (fun (nq : Nat) (h : ¬room (op j) (lo j) (up j)) => emp_yes (vn := vn) hlt h (bx_call hz.out.2.1 (BD nq)))
      have YE := hid (fun (nq : Nat) (h : room (op j) (lo j) (up j)) => (hz.out.keep (BD nq)).next h)
      have i1 : (0 : Int) ≤ (j : Int) := by omega
      have i2 : (j : Int) < (vn : Int) := by omega
      unfold room at NO YE
      clear ST HT hcell hz BD
      by_cases k1 : op j = true
      · rw [k1] at x2 NO YE
        have YY := hid (fun nq => YE.out nq (.inl rfl))
        clear NO YE
        go_wp2_with fail
        go_quiet (fail)
        go_wp2_with fail
        go_roundw
        case rel => exact ⟨j + 1, by omega, by go_num, hid (YY.out _)⟩
        case measure => simp [intOf]; omega
      · have k2 : op j = false := by simpa using k1
        rw [k2] at x2 NO YE
        by_cases k3 : lo j ≤ up j
        · have t3 : decide (up j < lo j) = false := decide_eq_false (by omega)
          have YY := hid (fun nq => YE.out nq (.inr k3))
          clear NO YE
          go_wp2_with fail
          go_quiet (fail)
          go_wp2_with fail
          go_roundw
          case rel => exact ⟨j + 1, by omega, by go_num, hid (YY.out _)⟩
          case measure => simp [intOf]; omega
        · have t3 : decide (up j < lo j) = true := decide_eq_true (by omega)
          have NN := hid (fun nq => NO.out nq (by intro h; rcases h with h | h <;> first | exact k3 h | cases h))
          clear NO YE
          go_wp2_with fail
          go_quiet (fail)
          go_wp2_with fail
          go_ret
          exact NN.out _
    · obtain rfl : j = vn := by omega
      have YY := hid (emp_no hz.out)
      clear HT ST hz
      go_wp2_with fail
      go_ret
      exact YY.out
def endZ (q : Rat) (lo up : Int) : Int := if sgnQ q < 0 then up else lo
theorem least1_cf (args : Array Value) (W : World) : Sem.run Tryz.prog (callFunc 82 args) W = .ok (.enter 82 args) W := by kernel_rfl
set_option maxHeartbeats 4000000 in
theorem vleast1 (cb pb bn bl : Nat) (V0 : Option Addr) (vn vc : Nat) (R0 : Option Addr) (rn rc : Nat) (lo up : Nat → Int) (op it : Nat → Bool) (co : Nat → Int) (A : Option Addr) (n c k m : Nat) (qs : Nat → Rat) (i : Nat) (w : World) (hi : i < vn) (hT : Vs w V0 vn vc lo up op it co) (hQ : Qs w A n c k qs) (kc : Blk w cb [El bn bl] 90) (kp : Blk w pb [.slice V0 vn vc, .slice R0 rn rc] 25) (kn : Blk w bn [.int .i64 m] 3) (kl : Blk w bl [.slice A n c] 32) (hm : m ≤ n) :
    Calls Tryz.prog 82 #[.int .i64 (i : Int), .pointer (some ⟨cb, 0, none⟩), .pointer (some ⟨pb, 0, none⟩)] w (RetI w (endZ (atQ m qs (i : Int)) (lo i) (up i))) := by
  have h1 := hT.1
  have h2 := hT.2.1
  have y0 : w.cell? ⟨cb, 0, none⟩ = some (El bn bl) := Blk.cell kc 0
  have CA := hid (velem1 bn bl A n c k m qs (i : Int) w hQ kn kl hm)
  obtain ⟨q, hq⟩ : ∃ q, q = atQ m qs (i : Int) := ⟨_, rfl⟩
  rw [← hq] at CA ⊢
  obtain ⟨b, o, rfl, hlt, hc⟩ := hT.2.2.2 (by omega)
  have z0 := (blk_two kp).1
  have z1 := (hc i hi).1
  have z2 := (hc i hi).2.1
  clear hc hT kp kc kn kl hQ hq
  unfold El at y0
  go_enter Tryz.func82, Tryz.ntmps82
  go_wp2_with fail
  refine (CA.out).mono ?_
  rintro e w1 ⟨ga, A1, n1, c1, D1, m1, d1, rfl, r, b1⟩
  have SG := hid (vsign ga A1 n1 c1 D1 m1 d1 k q w1 r)
  have B1 := hid b1
  clear r b1 CA y0
  go_wp2_with fail
  refine (SG.out).mono ?_
  rintro e w2 ⟨rfl, b2⟩
  have B2 := bx_call B1.out b2
  have x0 := cell_bx z0 B2
  have x1 := cell_bx z1 B2
  have x2 := cell_bx z2 B2
  have BB := hid B2
  clear z0 z1 z2 SG b2 B1 B2
  by_cases s : sgnQ q < 0
  · have t1 : decide (sgnQ q < 0) = true := decide_eq_true s
    have he : endZ q (lo i) (up i) = up i := if_pos s
    go_wp2_with fail
    exact bodyPost_ret (v := .int .i64 (up i)) (by simp [results, Tryz.results82, go_sem]) rfl ⟨by rw [he], BB.out⟩
  · have t1 : decide (sgnQ q < 0) = false := decide_eq_false s
    have he : endZ q (lo i) (up i) = lo i := if_neg s
    go_wp2_with fail
    exact bodyPost_ret (v := .int .i64 (lo i)) (by simp [results, Tryz.results82, go_sem]) rfl ⟨by rw [he], BB.out⟩
def RetVB (w : World) (q : Rat) (k : Nat) (b : Bool) (e : Ending) (w' : World) : Prop := ∃ g A n c D m d, e = .returned (.tuple #[.agg #[.bool g, .slice A n c, .slice D m d], .bool b]) ∧ FrV w' g A n c D m d k q ∧ Below w.heap.size w w'
theorem retvb_end {w w2 : World} {q : Rat} {g1 : Bool} {A A0 D D0 : Option Addr} {n c n0 c0 m d m0 d0 g k : Nat} {b0 b : Bool} (h : FrV w2 g1 A n c D m d k q) (K : Blk w2 g [.bool b0, .slice A0 n0 c0, .slice D0 m0 d0] 41) (hb : Below w.heap.size w w2) (hg : w.heap.size ≤ g) :
    RetVB w q k b (.returned (.tuple #[.agg #[.bool g1, .slice A n c, .slice D m d], .bool b])) (((w2.setCell ⟨g, 0, none⟩ (.bool g1)).setCell ⟨g, 1, none⟩ (.slice A n c)).setCell ⟨g, 2, none⟩ (.slice D m d)) :=
  ⟨g1, A, n, c, D, m, d, rfl, frv_far3 h K _ _ _, bx_set (bx_set (bx_set hb hg) hg) hg⟩
theorem retvb_as {w w' : World} {q q' : Rat} {k : Nat} {b b' : Bool} {e : Ending} (h : RetVB w q k b e w') (hq : q' = q) (hb : b' = b) : RetVB w q' k b' e w' := by subst hq; subst hb; exact h
def shut (vn : Nat) (op : Nat → Bool) (q : Nat → Rat) : Prop := ∀ j, j < vn → ¬(sgnQ (q j) < 0 ∧ op j = true)
instance (vn : Nat) (op : Nat → Bool) (q : Nat → Rat) : Decidable (shut vn op q) := by unfold shut; infer_instance
def lstB (vn : Nat) (lo up : Nat → Int) (op : Nat → Bool) (q : Nat → Rat) : Bool := !empB vn lo up op && decide (shut vn op q)
def lstV (vn : Nat) (lo up : Nat → Int) (op : Nat → Bool) (q : Nat → Rat) : Rat := if lstB vn lo up op q = true then sumN (fun j => ((endZ (q j) (lo j) (up j) : Int) : Rat) * q j) vn else 0
def fine (op : Bool) (lo up : Int) (q : Rat) : Prop := room op lo up ∧ ¬(sgnQ q < 0 ∧ op = true)
theorem lst_no {vn : Nat} {lo up : Nat → Int} {op : Nat → Bool} {q : Nat → Rat} {j : Nat} (hj : j < vn) (h : ¬fine (op j) (lo j) (up j) (q j)) : lstB vn lo up op q = false ∧ lstV vn lo up op q = 0 := by
  have hb : lstB vn lo up op q = false := by
    unfold lstB empB
    by_cases h1 : ∀ i, i < vn → room (op i) (lo i) (up i)
    · rw [decide_eq_true h1, decide_eq_false (fun h2 : shut vn op q => h ⟨h1 j hj, h2 j hj⟩)]; rfl
    · rw [decide_eq_false h1]; rfl
  exact ⟨hb, by unfold lstV; rw [hb]; rfl⟩
theorem lst_yes {vn : Nat} {lo up : Nat → Int} {op : Nat → Bool} {q : Nat → Rat} (h : ∀ j, j < vn → fine (op j) (lo j) (up j) (q j)) : lstB vn lo up op q = true ∧ lstV vn lo up op q = sumN (fun j => ((endZ (q j) (lo j) (up j) : Int) : Rat) * q j) vn := by
  have hb : lstB vn lo up op q = true := by
    unfold lstB empB
    rw [decide_eq_true fun i hi => (h i hi).1, decide_eq_true (show shut vn op q from fun i hi => (h i hi).2)]; rfl
  exact ⟨hb, by unfold lstV; rw [hb]; rfl⟩
set_option maxHeartbeats 4000000 in
theorem vleast (V0 : Option Addr) (vn vc : Nat) (R0 : Option Addr) (rn rc : Nat) (lo up : Nat → Int) (op it : Nat → Bool) (co : Nat → Int) (A : Option Addr) (n c k : Nat) (qs : Nat → Rat) (w : World) (hT : Vs w V0 vn vc lo up op it co) (hQ : Qs w A n c k qs) (hvn : vn ≤ 17592186044416) (hk : vn * (k + 3) + 1 + (k + 2) ≤ 274877906943) :
    Calls Tryz.prog 32 #[.agg #[.slice V0 vn vc, .slice R0 rn rc], .slice A n c] w (RetVB w (lstV vn lo up op (fun j : Nat => atQ (min vn n) qs (j : Int))) (vn * (k + 3) + 1) (lstB vn lo up op (fun j : Nat => atQ (min vn n) qs (j : Int)))) := by
  have hc := hT.1
  have hc2 := hT.2.1
  have hqn : n ≤ 9223372036854775807 := Nat.le_trans hQ.1 hQ.2.1
  obtain ⟨m, hm⟩ : ∃ m, m = min vn n := ⟨_, rfl⟩
  rw [← hm]
  have hmn : m ≤ n := by omega
  obtain ⟨q, hq⟩ : ∃ q : Nat → Rat, q = fun j : Nat => atQ m qs (j : Int) := ⟨_, rfl⟩
  rw [← hq]
  obtain ⟨ez, hez⟩ : ∃ ez : Nat → Int, ez = fun j => endZ (q j) (lo j) (up j) := ⟨_, rfl⟩
  have ebd : ∀ i, i < vn → -9223372036854775808 ≤ ez i ∧ ez i ≤ 9223372036854775807 := fun i hi => by
    obtain ⟨a, b, _⟩ := hT.2.2.1 i hi
    rw [hez]
    show -9223372036854775808 ≤ endZ (q i) (lo i) (up i) ∧ endZ (q i) (lo i) (up i) ≤ 9223372036854775807
    unfold endZ
    split
    · exact b
    · exact a
  have kp : 1 ≤ vn * (k + 3) + 1 := by omega
  obtain ⟨W0, hW⟩ : ∃ W, W = (w.alloc (.cells #[.slice V0 vn vc, .slice R0 rn rc] 25)).alloc (.cells #[.bool false, .slice none 0 0, .slice none 0 0] 41) := ⟨_, rfl⟩
  have B0 := bx_alloc (bx_alloc (bx_refl w) (.cells #[.slice V0 vn vc, .slice R0 rn rc] 25)) (.cells #[.bool false, .slice none 0 0, .slice none 0 0] 41)
  have KP := (Blk.new w [.slice V0 vn vc, .slice R0 rn rc] 25).alloc (.cells #[.bool false, .slice none 0 0, .slice none 0 0] 41)
  have KR := blk_new1 w (.cells #[.slice V0 vn vc, .slice R0 rn rc] 25) [.bool false, .slice none 0 0, .slice none 0 0] 41
  change Blk ((w.alloc (.cells #[.slice V0 vn vc, .slice R0 rn rc] 25)).alloc (.cells #[.bool false, .slice none 0 0, .slice none 0 0] 41)) _ _ _ at KP KR
  rw [← hW] at B0 KP KR
  have EL := hid (velem A n c vn m W0 hqn hm)
  have HT := hid hT
  have HQ := hid hQ
  obtain ⟨z0, z0'⟩ := blk_two KP
  have BB := hid B0
  have KKP := hid KP
  have KKR := hid KR
  have SM := hid (fun (W : World) (b : Below w.heap.size w W) (tb bn bl : Nat) (ts : Ts W (some ⟨tb, 0, none⟩) vn vn (fun i => (i : Int)) ez) (kn : Blk W bn [.int .i64 m] 3) (kl : Blk W bl [.slice A n c] 32) => (show Calls Tryz.prog 66 #[.slice (some ⟨tb, 0, none⟩) vn vn, El bn bl] W (RetV W (sumN (fun j => ((endZ (q j) (lo j) (up j) : Int) : Rat) * q j) vn) (vn * (k + 3) + 1)) by
    have := vsum (some ⟨tb, 0, none⟩) vn vn (fun i => (i : Int)) ez A n c k m bn bl qs W ts (hQ.keep b) kn kl hmn hk
    rw [hez, hq] at this
    rw [hq]
    exact this))
  have LI := hid (fun (W : World) (b : Below w.heap.size w W) (cb bn bl : Nat) (kc : Blk W cb [El bn bl] 90) (kpb : Blk W w.heap.size [.slice V0 vn vc, .slice R0 rn rc] 25) (kn : Blk W bn [.int .i64 m] 3) (kl : Blk W bl [.slice A n c] 32) => vlisted vn 82 #[.pointer (some ⟨cb, 0, none⟩), .pointer (some ⟨w.heap.size, 0, none⟩)] ez W hvn ebd least1_cf (fun W' i hi hb => (show Calls Tryz.prog 82 #[.int .i64 (i : Int), .pointer (some ⟨cb, 0, none⟩), .pointer (some ⟨w.heap.size, 0, none⟩)] W' (RetI W' (ez i)) by
    rw [hez, hq]
    exact vleast1 cb w.heap.size bn bl V0 vn vc R0 rn rc lo up op it co A n c k m qs i W' hi (hT.keep (bx_call b hb)) (hQ.keep (bx_call b hb)) (kc.keep hb) (kpb.keep hb) (kn.keep hb) (kl.keep hb) hmn)))
  have AT := hid (fun (W : World) (bn bl : Nat) (b : Below w.heap.size w W) (kn : Blk W bn [.int .i64 m] 3) (kl : Blk W bl [.slice A n c] 32) (j : Nat) => (show Calls Tryz.prog 109 #[.int .i64 (j : Int), .pointer (some ⟨bn, 0, none⟩), .pointer (some ⟨bl, 0, none⟩)] W (RetV W (q j) k) by rw [hq]; exact velem1 bn bl A n c k m qs (j : Int) W (hQ.keep b) kn kl hmn))
  obtain ⟨K, hK⟩ : ∃ K, K = vn * (k + 3) + 1 := ⟨_, rfl⟩
  rw [← hK] at kp SM ⊢
  clear hT hQ hq hez ebd hK KP KR B0
  go_enter Tryz.func32, Tryz.ntmps32
  go_upto_region 1 with fail
  rw [← hW]
  clear hW
  go_wp2_with fail
  refine (EL.out).mono ?_
  rintro e w1 ⟨bn, bl, rfl, kn, kl, _, _, b⟩
  obtain ⟨W2, hW2⟩ : ∃ W, W = w1.alloc (.cells #[El bn bl] 90) := ⟨_, rfl⟩
  have B2 := bx_alloc (bx_refl w1) (.cells #[El bn bl] 90)
  have KC := Blk.new w1 [El bn bl] 90
  change Blk (w1.alloc (.cells #[El bn bl] 90)) _ _ _ at KC
  rw [← hW2] at B2 KC
  have HC := hid KC
  have HN := hid (kn.keep B2)
  have HL := hid (kl.keep B2)
  have HP := hid ((KKP.out.keep b).keep B2)
  have HR := hid ((KKR.out.keep b).keep B2)
  have HB := hid (bx_call (bx_call BB.out b) B2)
  obtain ⟨z0, _⟩ := blk_two HP.out
  clear EL kn kl b B2 KC KKP KKR BB z0'
  unfold El
  unfold El at hW2
  go_upto_region 2 with fail
  rw [← hW2]
  clear hW2
  have y0 : W2.cell? ⟨w1.heap.size, 0, none⟩ = some (.func (.func 109) #[] #[.pointer (some ⟨bn, 0, none⟩), .pointer (some ⟨bl, 0, none⟩)]) := Blk.cell HC.out 0
  go_wp2_with fail
  go_loopw [18] (fun i wr => ∃ j : Nat, j ≤ vn ∧ i = .int .i64 j ∧ Hid ((∀ i, i < j → fine (op i) (lo i) (up i) (q i)) ∧ Below W2.heap.size W2 wr)) (fun i _ => vn - (intOf i).toNat)
  case atStart => exact ⟨0, Nat.zero_le _, rfl, hid ⟨fun i hi => absurd hi (by omega), bx_refl W2⟩⟩
  case round =>
    clear z0 y0
    obtain ⟨j, hj, rfl, hz⟩ := hrel
    rcases Nat.lt_or_ge j vn with hlt | hge
    · have BZ := bx_call HB.out hz.out.2
      obtain ⟨b, o, rfl, hb, hcell⟩ := HT.out.2.2.2 (by omega)
      have x0 := cell_bx (hcell j hlt).1 BZ
      have x1 := cell_bx (hcell j hlt).2.1 BZ
      have x2 := cell_bx (hcell j hlt).2.2.1 BZ
      have x3 := cell_bx (hcell j hlt).2.2.2.1 BZ
      have x4 := cell_bx (hcell j hlt).2.2.2.2 BZ
      obtain ⟨W3, hW3⟩ : ∃ W, W = wr.alloc (.cells #[.int .i64 (lo j), .int .i64 (up j), .bool (op j), .bool (it j), .int .i64 (co j)] 60) := ⟨_, rfl⟩
      have B1 := bx_alloc (bx_refl wr) (.cells #[.int .i64 (lo j), .int .i64 (up j), .bool (op j), .bool (it j), .int .i64 (co j)] 60)
      have KT := Blk.new wr [.int .i64 (lo j), .int .i64 (up j), .bool (op j), .bool (it j), .int .i64 (co j)] 60
      change Blk (wr.alloc (.cells #[.int .i64 (lo j), .int .i64 (up j), .bool (op j), .bool (it j), .int .i64 (co j)] 60)) _ _ _ at KT
      rw [← hW3] at B1 KT
      have L3 := bx_call hz.out.2 B1
      have B3 := hid (bx_call HB.out L3)
      have R3 := hid (HR.out.keep L3)
      obtain ⟨z0, z1, z2, _, _⟩ := blk_five KT
      have y0 : W3.cell? ⟨w1.heap.size, 0, none⟩ = some (.func (.func 109) #[] #[.pointer (some ⟨bn, 0, none⟩), .pointer (some ⟨bl, 0, none⟩)]) := Blk.cell (HC.out.keep L3) 0
      have CA := hid (AT.out W3 bn bl B3.out (HN.out.keep L3) (HL.out.keep L3) j)
      have M3 := hid L3
      have HK := hid KT
      have OK := hid hz.out.1
      have NO := hid (fun h : ¬fine (op j) (lo j) (up j) (q j) => lst_no hlt h)
      have YE : Hid (∀ W, Below W2.heap.size W2 W → fine (op j) (lo j) (up j) (q j) → Hid ((∀ i, i < j + 1 → fine (op i) (lo i) (up i) (q i)) ∧ Below W2.heap.size W2 W)) := hid (fun W bW h => hid ⟨fun i hi => by
        rcases Nat.lt_or_ge i j with h1 | h1
        · exact OK.out i h1
        · obtain rfl : i = j := by omega
          exact h, bW⟩)
      unfold fine room at NO
      clear hz B1 KT L3 HT hcell BZ AT HN HL HC HP HR HB SM LI OK HQ
      go_upto_region 5 with fail
      rw [← hW3]
      clear hW3 x0 x1 x2 x3 x4
      by_cases k1 : op j = true
      · rw [k1] at z2
        go_wp2_with fail
        refine (CA.out).mono ?_
        rintro e w4 ⟨ga, A1, n1, c1, D1, m1, d1, rfl, r, b1⟩
        have SG := hid (vsign ga A1 n1 c1 D1 m1 d1 k (q j) w4 r)
        have M4 := hid (bx_call M3.out b1)
        have B4 := hid (bx_call B3.out b1)
        have R4 := hid (R3.out.keep b1)
        have H4 := hid (HK.out.keep b1)
        clear r b1 CA M3 B3 R3 HK z0 z1 z2 y0
        go_wp2_with fail
        refine (SG.out).mono ?_
        rintro e w5 ⟨rfl, b2⟩
        have M5 := hid (bx_call M4.out b2)
        have B5 := hid (bx_call B4.out b2)
        have R5 := hid (R4.out.keep b2)
        obtain ⟨z0, z1, z2, _, _⟩ := blk_five (H4.out.keep b2)
        rw [k1] at z2
        clear SG b2 M4 B4 R4 H4
        by_cases s : sgnQ (q j) < 0
        · have t1 : decide (sgnQ (q j) < 0) = true := decide_eq_true s
          obtain ⟨NB, NV⟩ := NO.out (fun h => h.2 ⟨s, k1⟩)
          have EE := hid (retvb_as (retvb_end (b := false) (FrV.zero w5 (k := K) kp) R5.out B5.out (Nat.le_succ _)) NV NB)
          obtain ⟨e0, e1, e2⟩ := blk_three R5.out
          have f0 := Blk.free R5.out 0
          have f1 := Blk.free R5.out 1
          have f2 := Blk.free R5.out 2
          clear NO YE R5 B5 NB NV
          go_wp2_with fail
          exact bodyPost_ret (v := .tuple #[.agg #[.bool false, .slice none 0 0, .slice none 0 0], .bool false]) (by simp [results, Tryz.results32, go_sem, e0, e1, e2]) rfl EE.out
        · have t1 : decide (sgnQ (q j) < 0) = false := decide_eq_false s
          have YY := YE.out w5 M5.out ⟨.inl k1, fun h => s h.1⟩
          clear NO YE R5 B5 M5
          go_wp2_with fail
          go_roundw
          case rel => exact ⟨j + 1, by omega, by go_num, YY⟩
          case measure => simp [intOf]; omega
      · have k2 : op j = false := by simpa using k1
        rw [k2] at z2
        clear CA y0
        by_cases k3 : lo j ≤ up j
        · have t3 : decide (up j < lo j) = false := decide_eq_false (by omega)
          have YY := YE.out W3 M3.out ⟨.inr k3, fun h => k1 h.2⟩
          clear NO YE R3 B3 M3 HK
          go_wp2_with fail
          go_roundw
          case rel => exact ⟨j + 1, by omega, by go_num, YY⟩
          case measure => simp [intOf]; omega
        · have t3 : decide (up j < lo j) = true := decide_eq_true (by omega)
          obtain ⟨NB, NV⟩ := NO.out (fun h => h.1.elim k1 k3)
          have EE := hid (retvb_as (retvb_end (b := false) (FrV.zero W3 (k := K) kp) R3.out B3.out (Nat.le_succ _)) NV NB)
          obtain ⟨e0, e1, e2⟩ := blk_three R3.out
          have f0 := Blk.free R3.out 0
          have f1 := Blk.free R3.out 1
          have f2 := Blk.free R3.out 2
          clear NO YE R3 B3 NB NV
          go_wp2_with fail
          exact bodyPost_ret (v := .tuple #[.agg #[.bool false, .slice none 0 0, .slice none 0 0], .bool false]) (by simp [results, Tryz.results32, go_sem, e0, e1, e2]) rfl EE.out
    · obtain rfl : j = vn := by omega
      obtain ⟨hb, hv⟩ := lst_yes hz.out.1
      have BZ := hz.out.2
      have CL := hid (LI.out wr (bx_call HB.out BZ) w1.heap.size bn bl (HC.out.keep BZ) (HP.out.keep BZ) (HN.out.keep BZ) (HL.out.keep BZ))
      have z0 := (blk_two (HP.out.keep BZ)).1
      have M0 := hid BZ
      rw [← hv] at SM
      clear HT HQ AT LI hge hz BZ HP hv
      go_wp2_with fail
      refine (CL.out).mono ?_
      rintro e w4 ⟨tb, rfl, ts, _, b1⟩
      have BZ := bx_call M0.out b1
      have SC := hid (SM.out w4 (bx_call HB.out BZ) tb bn bl ts (HN.out.keep BZ) (HL.out.keep BZ))
      have y0 : w4.cell? ⟨w1.heap.size, 0, none⟩ = some (.func (.func 109) #[] #[.pointer (some ⟨bn, 0, none⟩), .pointer (some ⟨bl, 0, none⟩)]) := Blk.cell (HC.out.keep BZ) 0
      have R4 := hid (HR.out.keep BZ)
      have B4 := hid (bx_call HB.out BZ)
      unfold El at SC
      clear CL ts b1 BZ M0 SM HN HL HC HR HB z0
      go_wp2_with fail
      refine (SC.out).mono ?_
      rintro e w5 ⟨g1, A1, n1, c1, D1, m1, d1, rfl, r, b2⟩
      have R5 := R4.out.keep b2
      have EE := hid (retvb_as (retvb_end (b := true) r R5 (bx_call B4.out b2) (Nat.le_succ _)) rfl hb)
      obtain ⟨e0, e1, e2⟩ := blk_three R5
      have f0 := Blk.free R5 0
      have f1 := Blk.free R5 1
      have f2 := Blk.free R5 2
      clear R5 R4 B4 r b2 SC y0
      go_wp2_with fail
      exact bodyPost_ret (v := .tuple #[.agg #[.bool g1, .slice A1 n1 c1, .slice D1 m1 d1], .bool true]) (by simp [results, Tryz.results32, go_sem, e0, e1, e2]) rfl EE.out
theorem shut_congr {vn : Nat} {op : Nat → Bool} {p q : Nat → Rat} (h : ∀ j, j < vn → p j = q j) : decide (shut vn op p) = decide (shut vn op q) := by
  refine decide_eq_decide.2 ⟨fun g j hj => ?_, fun g j hj => ?_⟩
  · rw [← h j hj]; exact g j hj
  · rw [h j hj]; exact g j hj
theorem lstB_congr {vn : Nat} {lo up : Nat → Int} {op : Nat → Bool} {p q : Nat → Rat} (h : ∀ j, j < vn → p j = q j) : lstB vn lo up op p = lstB vn lo up op q := by
  unfold lstB
  rw [shut_congr h]
theorem lstV_congr {vn : Nat} {lo up : Nat → Int} {op : Nat → Bool} {p q : Nat → Rat} (h : ∀ j, j < vn → p j = q j) : lstV vn lo up op p = lstV vn lo up op q := by
  unfold lstV
  rw [lstB_congr h, sumN_congr (fun j hj => by show ((endZ (p j) (lo j) (up j) : Int) : Rat) * p j = ((endZ (q j) (lo j) (up j) : Int) : Rat) * q j; rw [h j hj])]
def holdB (ki bo : Int) (q : Rat) : Bool := if ki = 0 then decide (sgnQ (q - (bo : Rat)) ≤ 0) else if ki = 1 then decide (0 ≤ sgnQ (q - (bo : Rat))) else decide (sgnQ (q - (bo : Rat)) = 0)
set_option maxHeartbeats 4000000 in
theorem vsatisfied (nm : ByteArray) (gr ki bo : Int) (TA : Option Addr) (tn tc : Nat) (g : Bool) (A : Option Addr) (n c : Nat) (D : Option Addr) (m d k : Nat) (q : Rat) (w : World) (hb1 : -9223372036854775808 ≤ bo) (hb2 : bo ≤ 9223372036854775807) (hv : FrV w g A n c D m d k q) (hk : k ≤ 274877906941) :
    Calls Tryz.prog 71 #[.agg #[.string nm, .int .i64 gr, .int .i64 ki, .slice TA tn tc, .int .i64 bo], .agg #[.bool g, .slice A n c, .slice D m d]] w (RetB w (holdB ki bo q)) := by
  obtain ⟨W0, hW⟩ : ∃ W, W = (w.alloc (.cells #[.string nm, .int .i64 gr, .int .i64 ki, .slice TA tn tc, .int .i64 bo] 77)).alloc (.cells #[.bool g, .slice A n c, .slice D m d] 41) := ⟨_, rfl⟩
  have B0 := bx_alloc (bx_alloc (bx_refl w) (.cells #[.string nm, .int .i64 gr, .int .i64 ki, .slice TA tn tc, .int .i64 bo] 77)) (.cells #[.bool g, .slice A n c, .slice D m d] 41)
  have K0 := (Blk.new w [.string nm, .int .i64 gr, .int .i64 ki, .slice TA tn tc, .int .i64 bo] 77).alloc (.cells #[.bool g, .slice A n c, .slice D m d] 41)
  have K1 := blk_new1 w (.cells #[.string nm, .int .i64 gr, .int .i64 ki, .slice TA tn tc, .int .i64 bo] 77) [.bool g, .slice A n c, .slice D m d] 41
  change Blk ((w.alloc (.cells #[.string nm, .int .i64 gr, .int .i64 ki, .slice TA tn tc, .int .i64 bo] 77)).alloc (.cells #[.bool g, .slice A n c, .slice D m d] 41)) _ _ _ at K0 K1
  rw [← hW] at B0 K0 K1
  have FR := hid (fun (W : World) => vfrom bo W hb1 hb2)
  have CM := hid (fun (W : World) (b : Below w.heap.size w W) (A1 : Option Addr) (n1 c1 : Nat) (D1 : Option Addr) (m1 d1 : Nat) (M : FrL W A1 n1 c1 D1 m1 d1 2 (bo : Rat)) => vcmp g A n c D m d (sg (bo : Rat).num) A1 n1 c1 D1 m1 d1 (2 + k) q (bo : Rat) W ((hv.keep b).up (by omega)) (M.v.up (by omega)) (by omega))
  obtain ⟨s, hs⟩ : ∃ s, s = sgnQ (q - (bo : Rat)) := ⟨_, rfl⟩
  have hh : holdB ki bo q = if ki = 0 then decide (s ≤ 0) else if ki = 1 then decide (0 ≤ s) else decide (s = 0) := by rw [hs]; rfl
  rw [← hs] at CM
  rw [hh]
  obtain ⟨_, _, r2, _, r4⟩ := blk_five K0
  obtain ⟨z0, z1, z2⟩ := blk_three K1
  have BB := hid B0
  clear hv K0 K1 B0 hs hh
  go_enter Tryz.func71, Tryz.ntmps71
  go_upto_region 1 with fail
  rw [← hW]
  clear hW
  go_region_held3 (fun W => W.cell? ⟨w.heap.size, 4, none⟩ = some (.int .i64 bo) ∧ W.cell? ⟨w.heap.size + 1, 0, none⟩ = some (.bool g) ∧ W.cell? ⟨w.heap.size + 1, 1, none⟩ = some (.slice A n c) ∧ W.cell? ⟨w.heap.size + 1, 2, none⟩ = some (.slice D m d))
    (refine ⟨?_, ?_, ?_, ?_⟩ <;> repeat' (first | with_reducible assumption | with_reducible refine cell_dr ?_ | with_reducible refine cell_al ?_ | with_reducible refine cell_fr ?_ (by omega)))
    (first
      | (go_at_call 73; refine (CM.out w1 X1.out A1 n1 c1 D1 m1 d1 R1.out).mono ?_; rintro e w2 ⟨rfl, b⟩; have r2_2 := cell_bx r2_1 b; have r4_2 := cell_bx r4_1 b; have z0_2 := cell_bx z0_1 b; have z1_2 := cell_bx z1_1 b; have z2_2 := cell_bx z2_1 b; have X2 := hid (bx_call X1.out b); clear b)
      | (go_at_call 74; refine (FR.out _).mono ?_; rintro e w1 ⟨A1, n1, c1, D1, m1, d1, rfl, r, b⟩; have r2_1 := cell_bx (cell_dr r2) b; have r4_1 := cell_bx (cell_dr r4) b; have z0_1 := cell_bx (cell_dr z0) b; have z1_1 := cell_bx (cell_dr z1) b; have z2_1 := cell_bx (cell_dr z2) b; have R1 := hid r; have X1 := hid (bx_call BB.out (bx_call (bx_drew (bx_refl _)) b)); clear b r))
  by_cases k0 : ki = 0
  · have t0 : decide (ki = 0) = true := decide_eq_true k0
    rw [if_pos k0]
    go_wp2_with fail
    go_ret
    exact ⟨rfl, X2.out⟩
  · have t0 : decide (ki = 0) = false := decide_eq_false k0
    rw [if_neg k0]
    by_cases k1 : ki = 1
    · have t1 : decide (ki = 1) = true := decide_eq_true k1
      rw [if_pos k1]
      go_wp2_with fail
      go_ret
      exact ⟨rfl, X2.out⟩
    · have t1 : decide (ki = 1) = false := decide_eq_false k1
      rw [if_neg k1]
      go_wp2_with fail
      go_ret
      exact ⟨rfl, X2.out⟩
def within (op : Bool) (lo up : Int) (q : Rat) : Prop := ¬sgnQ (q - (lo : Rat)) < 0 ∧ ¬(op = false ∧ 0 < sgnQ (q - (up : Rat)))
instance (op : Bool) (lo up : Int) (q : Rat) : Decidable (within op lo up q) := by unfold within; infer_instance
def insB (vn : Nat) (lo up : Nat → Int) (op : Nat → Bool) (q : Nat → Rat) : Bool := decide (∀ j, j < vn → within (op j) (lo j) (up j) (q j))
theorem insB_congr {vn : Nat} {lo up : Nat → Int} {op : Nat → Bool} {p q : Nat → Rat} (h : ∀ j, j < vn → p j = q j) : insB vn lo up op p = insB vn lo up op q := by
  refine decide_eq_decide.2 ⟨fun g j hj => ?_, fun g j hj => ?_⟩
  · rw [← h j hj]; exact g j hj
  · rw [h j hj]; exact g j hj
set_option maxHeartbeats 4000000 in
theorem vinside (V0 : Option Addr) (vn vc : Nat) (R0 : Option Addr) (rn rc : Nat) (lo up : Nat → Int) (op it : Nat → Bool) (co : Nat → Int) (A : Option Addr) (n c k : Nat) (qs : Nat → Rat) (w : World) (hT : Vs w V0 vn vc lo up op it co) (hQ : Qs w A n c k qs) (hk : k ≤ 274877906941) :
    Calls Tryz.prog 26 #[.agg #[.slice V0 vn vc, .slice R0 rn rc], .slice A n c] w (RetB w (insB vn lo up op (fun j : Nat => atQ (min vn n) qs (j : Int)))) := by
  have hc := hT.1
  have hc2 := hT.2.1
  have hqn : n ≤ 9223372036854775807 := Nat.le_trans hQ.1 hQ.2.1
  obtain ⟨m, hm⟩ : ∃ m, m = min vn n := ⟨_, rfl⟩
  rw [← hm]
  have hmn : m ≤ n := by omega
  obtain ⟨q, hq⟩ : ∃ q : Nat → Rat, q = fun j : Nat => atQ m qs (j : Int) := ⟨_, rfl⟩
  rw [← hq]
  obtain ⟨W0, hW⟩ : ∃ W, W = w.alloc (.cells #[.slice V0 vn vc, .slice R0 rn rc] 25) := ⟨_, rfl⟩
  have B0 := bx_alloc (bx_refl w) (.cells #[.slice V0 vn vc, .slice R0 rn rc] 25)
  have KP := Blk.new w [.slice V0 vn vc, .slice R0 rn rc] 25
  change Blk (w.alloc (.cells #[.slice V0 vn vc, .slice R0 rn rc] 25)) _ _ _ at KP
  rw [← hW] at B0 KP
  have EL := hid (velem A n c vn m W0 hqn hm)
  have HT := hid hT
  have z0 := (blk_two KP).1
  have BB := hid B0
  have KKP := hid KP
  have AT0 := hid (fun (W : World) (bn bl : Nat) (b : Below w.heap.size w W) (kn : Blk W bn [.int .i64 m] 3) (kl : Blk W bl [.slice A n c] 32) (j : Nat) => (show Calls Tryz.prog 109 #[.int .i64 (j : Int), .pointer (some ⟨bn, 0, none⟩), .pointer (some ⟨bl, 0, none⟩)] W (RetV W (q j) k) by rw [hq]; exact velem1 bn bl A n c k m qs (j : Int) W (hQ.keep b) kn kl hmn))
  clear hT hQ hq KP B0
  go_enter Tryz.func26, Tryz.ntmps26
  go_upto_region 1 with fail
  rw [← hW]
  clear hW
  go_wp2_with fail
  refine (EL.out).mono ?_
  rintro e W2 ⟨bn, bl, rfl, kn, kl, _, _, b⟩
  have HN := hid kn
  have HL := hid kl
  have AT := hid (fun (W : World) (b2 : Below W2.heap.size W2 W) (j : Nat) => AT0.out W bn bl (bx_call (bx_call BB.out b) b2) (kn.keep b2) (kl.keep b2) j)
  have HB := hid (bx_call BB.out b)
  have z0 := (blk_two (KKP.out.keep b)).1
  clear EL kn kl b KKP BB AT0 HN HL
  unfold El
  go_wp2_with fail
  go_loopw [16] (fun i wr => ∃ j : Nat, j ≤ vn ∧ i = .int .i64 j ∧ Hid ((∀ i, i < j → within (op i) (lo i) (up i) (q i)) ∧ Below W2.heap.size W2 wr)) (fun i _ => vn - (intOf i).toNat)
  case atStart => exact ⟨0, Nat.zero_le _, rfl, hid ⟨fun i hi => absurd hi (by omega), bx_refl W2⟩⟩
  case round =>
    clear z0
    obtain ⟨j, hj, rfl, hz⟩ := hrel
    rcases Nat.lt_or_ge j vn with hlt | hge
    · have BZ := bx_call HB.out hz.out.2
      obtain ⟨b, o, rfl, hb, hcell⟩ := HT.out.2.2.2 (by omega)
      obtain ⟨⟨l1, l2⟩, ⟨u1, u2⟩, _⟩ := HT.out.2.2.1 j hlt
      have x0 := cell_bx (hcell j hlt).1 BZ
      have x1 := cell_bx (hcell j hlt).2.1 BZ
      have x2 := cell_bx (hcell j hlt).2.2.1 BZ
      have x3 := cell_bx (hcell j hlt).2.2.2.1 BZ
      have x4 := cell_bx (hcell j hlt).2.2.2.2 BZ
      obtain ⟨W3, hW3⟩ : ∃ W, W = wr.alloc (.cells #[.int .i64 (lo j), .int .i64 (up j), .bool (op j), .bool (it j), .int .i64 (co j)] 60) := ⟨_, rfl⟩
      have B1 := bx_alloc (bx_refl wr) (.cells #[.int .i64 (lo j), .int .i64 (up j), .bool (op j), .bool (it j), .int .i64 (co j)] 60)
      have KT := Blk.new wr [.int .i64 (lo j), .int .i64 (up j), .bool (op j), .bool (it j), .int .i64 (co j)] 60
      change Blk (wr.alloc (.cells #[.int .i64 (lo j), .int .i64 (up j), .bool (op j), .bool (it j), .int .i64 (co j)] 60)) _ _ _ at KT
      rw [← hW3] at B1 KT
      have X0 := hid (bx_call hz.out.2 B1)
      have K0 := hid KT
      have OK := hid hz.out.1
      have CMa := hid (fun (W : World) (g : Bool) (A1 : Option Addr) (n1 c1 : Nat) (D1 : Option Addr) (m1 d1 : Nat) (L : FrV W g A1 n1 c1 D1 m1 d1 k (q j)) (A2 : Option Addr) (n2 c2 : Nat) (D2 : Option Addr) (m2 d2 : Nat) (M : FrL W A2 n2 c2 D2 m2 d2 2 (lo j : Rat)) => vcmp g A1 n1 c1 D1 m1 d1 (sg (lo j : Rat).num) A2 n2 c2 D2 m2 d2 (2 + k) (q j) (lo j : Rat) W (L.up (by omega)) (M.v.up (by omega)) (by omega))
      have CMb := hid (fun (W : World) (g : Bool) (A1 : Option Addr) (n1 c1 : Nat) (D1 : Option Addr) (m1 d1 : Nat) (L : FrV W g A1 n1 c1 D1 m1 d1 k (q j)) (A2 : Option Addr) (n2 c2 : Nat) (D2 : Option Addr) (m2 d2 : Nat) (M : FrL W A2 n2 c2 D2 m2 d2 2 (up j : Rat)) => vcmp g A1 n1 c1 D1 m1 d1 (sg (up j : Rat).num) A2 n2 c2 D2 m2 d2 (2 + k) (q j) (up j : Rat) W (L.up (by omega)) (M.v.up (by omega)) (by omega))
      have FRa := hid (fun W => vfrom (lo j) W l1 l2)
      have FRb := hid (fun W => vfrom (up j) W u1 u2)
      have NO := hid (fun (W : World) (X : Below W2.heap.size W2 W) (h : ¬within (op j) (lo j) (up j) (q j)) => (⟨by rw [show insB vn lo up op q = false from decide_eq_false fun g => h (g j hlt)], bx_call HB.out X⟩ : RetB w (insB vn lo up op q) (.returned (.bool false)) W))
      have YE := hid (fun (W : World) (X : Below W2.heap.size W2 W) (h : within (op j) (lo j) (up j) (q j)) => (⟨fun i hi => by
        rcases Nat.lt_or_ge i j with h1 | h1
        · exact OK.out i h1
        · obtain rfl : i = j := by omega
          exact h, X⟩ : (∀ i, i < j + 1 → within (op i) (lo i) (up i) (q i)) ∧ Below W2.heap.size W2 W))
      obtain ⟨s1, hs1⟩ : ∃ s, s = sgnQ (q j - (lo j : Rat)) := ⟨_, rfl⟩
      obtain ⟨s2, hs2⟩ : ∃ s, s = sgnQ (q j - (up j : Rat)) := ⟨_, rfl⟩
      have WI : within (op j) (lo j) (up j) (q j) ↔ (¬s1 < 0 ∧ ¬(op j = false ∧ 0 < s2)) := by rw [hs1, hs2]; exact Iff.rfl
      rw [← hs1] at CMa
      rw [← hs2] at CMb
      clear hz B1 KT HT hcell BZ HB OK hs1 hs2
      go_upto_region 5 with fail
      rw [← hW3]
      clear hW3 x0 x1 x2 x3 x4
      obtain ⟨c0, c1, c2, _, _⟩ := blk_five K0.out
      go_region_held3 (fun W => W.cell? ⟨wr.heap.size, 0, none⟩ = some (.int .i64 (lo j)))
        (repeat' (first | with_reducible assumption | with_reducible refine cell_dr ?_ | with_reducible refine cell_al ?_ | with_reducible refine cell_fr ?_ (by omega)))
        (first
          | (go_at_call 73; refine (CMa.out v2 ga Aa na ca Da ma da Ea2.out Ba pa ra Ca qa sa Ma.out).mono ?_; rintro e v3 ⟨rfl, b⟩; have Xa3 := hid (bx_call Xa2.out b); have Ka3 := hid (Ka2.out.keep b); have ha3 := cell_bx ha2 b; clear b)
          | (go_at_call 74; refine (FRa.out v1).mono ?_; rintro e v2 ⟨Ba, pa, ra, Ca, qa, sa, rfl, r, b⟩; have Xa2 := hid (bx_call Xa1.out b); have Ka2 := hid (Ka1.out.keep b); have Ea2 := hid (Ea1.out.keep b); have ha2 := cell_bx ha1 b; have Ma := hid r; clear b r)
          | (go_at_call 109; refine (AT.out _ (bx_call X0.out (bx_drew (bx_refl _))) j).mono ?_; rintro e v1 ⟨ga, Aa, na, ca, Da, ma, da, rfl, r, b⟩; have Xa1 := hid (bx_call X0.out (bx_call (bx_drew (bx_refl _)) b)); have Ka1 := hid (K0.out.keep (bx_call (bx_drew (bx_refl _)) b)); have ha1 := cell_bx (cell_dr c0) b; have Ea1 := hid r; clear b r))
      clear c0 c1 c2
      by_cases t : s1 < 0
      · have t1 : decide (s1 < 0) = true := decide_eq_true t
        have NN := hid (NO.out v3 Xa3.out (fun h => by have := (WI.1 h).1; omega))
        clear NO YE Xa3 Ka3 AT CMa CMb FRa FRb WI
        go_wp2_with fail
        go_ret
        exact NN.out
      · have t1 : decide (s1 < 0) = false := decide_eq_false t
        by_cases k1 : op j = true
        · obtain ⟨_, _, c2, _, _⟩ := blk_five Ka3.out
          rw [k1] at c2
          have YY := hid (fun nq : Nat => YE.out (v3.drewN nq) (bx_drewN Xa3.out nq) (WI.2 ⟨by omega, fun h => by rw [k1] at h; cases h.1⟩))
          clear NO YE Xa3 Ka3 AT CMa CMb FRa FRb WI
          go_wp2_with fail
          go_quiet (fail)
          go_wp2_with fail
          go_roundw
          case rel => exact ⟨j + 1, by omega, by go_num, hid (YY.out _)⟩
          case measure => simp [intOf]; omega
        · have k2 : op j = false := by simpa using k1
          obtain ⟨_, c1, c2, _, _⟩ := blk_five Ka3.out
          rw [k2] at c2
          go_wp2_with fail
          go_region_held3 (fun W => W.cell? ⟨wr.heap.size, 1, none⟩ = some (.int .i64 (up j)) ∧ W.cell? ⟨wr.heap.size, 2, none⟩ = some (.bool false))
            (refine ⟨?_, ?_⟩ <;> repeat' (first | with_reducible assumption | with_reducible refine cell_dr ?_ | with_reducible refine cell_al ?_ | with_reducible refine cell_fr ?_ (by omega)))
            (first
              | (go_at_call 73; refine (CMb.out v5 gb Ab nb cb Db mb db Eb2.out Bb pb rb Cb qb sb Mb.out).mono ?_; rintro e v6 ⟨rfl, b⟩; have Xb3 := hid (bx_call Xb2.out b); have hb3 := cell_bx hb2 b; have ib3 := cell_bx ib2 b; clear b)
              | (go_at_call 74; refine (FRb.out v4).mono ?_; rintro e v5 ⟨Bb, pb, rb, Cb, qb, sb, rfl, r, b⟩; have Xb2 := hid (bx_call Xb1.out b); have Eb2 := hid (Eb1.out.keep b); have hb2 := cell_bx hb1 b; have ib2 := cell_bx ib1 b; have Mb := hid r; clear b r)
              | (go_at_call 109; refine (AT.out _ (bx_call Xa3.out (bx_drew (bx_refl _))) j).mono ?_; rintro e v4 ⟨gb, Ab, nb, cb, Db, mb, db, rfl, r, b⟩; have Xb1 := hid (bx_call Xa3.out (bx_call (bx_drew (bx_refl _)) b)); have hb1 := cell_bx (cell_dr c1) b; have ib1 := cell_bx (cell_dr c2) b; have Eb1 := hid r; clear b r))
          by_cases u : 0 < s2
          · have u1 : decide (0 < s2) = true := decide_eq_true u
            have NN := hid (NO.out v6 Xb3.out (fun h => (WI.1 h).2 ⟨k2, u⟩))
            clear NO YE Xa3 Ka3 AT CMa CMb FRa FRb WI Xb3
            go_wp2_with fail
            go_ret
            exact NN.out
          · have u1 : decide (0 < s2) = false := decide_eq_false u
            have YY := hid (YE.out v6 Xb3.out (WI.2 ⟨by omega, fun h => u h.2⟩))
            clear NO YE Xa3 Ka3 AT CMa CMb FRa FRb WI Xb3
            go_wp2_with fail
            go_roundw
            case rel => exact ⟨j + 1, by omega, by go_num, YY⟩
            case measure => simp [intOf]; omega
    · obtain rfl : j = vn := by omega
      have YY := hid (show RetB w (insB j lo up op q) (.returned (.bool true)) wr from ⟨by rw [show insB j lo up op q = true from decide_eq_true hz.out.1], bx_call HB.out hz.out.2⟩)
      clear HT AT hz HB
      go_wp2_with fail
      go_ret
      exact YY.out
end Go.Proofs.YtdbccidlnhjfhaaGreatDoor
