/- R5ax. -/
import Derived.Test.YtdbccidlnhjfhaaGreatDoorR5a
namespace Go.Proofs.YtdbccidlnhjfhaaGreatDoor
open Go.RowKit
set_option maxRecDepth 100000
set_option maxHeartbeats 2000000 in
theorem rin (z : Int) (w : World) (_h1 : -9223372036854775808 ≤ z) (_h2 : z ≤ 9223372036854775807) : Calls Tryz.prog 57 #[.int .i64 z] w (RetB w (decide (inR z))) := by
  have B0 := hid (bx_refl w)
  by_cases a : -1099511627776 ≤ z
  · have t1 : decide (-1099511627776 ≤ z) = true := decide_eq_true a
    have e : decide (inR z) = decide (z ≤ 1099511627776) := decide_eq_decide.2 ⟨fun h => h.2, fun h => ⟨a, h⟩⟩
    rw [e]
    clear e
    go_enter Tryz.func57, Tryz.ntmps57
    go_wp2_with fail
    go_ret
    exact ⟨rfl, B0.out⟩
  · have t1 : decide (-1099511627776 ≤ z) = false := decide_eq_false a
    rw [decide_eq_false (show ¬inR z from fun h => a h.1)]
    go_enter Tryz.func57, Tryz.ntmps57
    go_wp2_with fail
    go_ret
    exact ⟨rfl, B0.out⟩
def RvP (w : World) (cs : List Value) (Q : Prop) (W : World) : Prop := Q ∧ Below w.heap.size w W ∧ Blk W w.heap.size cs 77
theorem rowB_iff {vn : Nat} {nm : ByteArray} {gr ki bo : Int} {tn : Nat} {v cf : Nat → Int} : rowB vn nm gr ki bo tn v cf = true ↔ (0 ≤ ki ∧ ki ≤ 2) ∧ (0 ≤ gr ∧ gr ≤ 60) ∧ nm.size ≤ 80 ∧ inR bo ∧ (∀ c, c ∈ nm.data.toList → chOk c) ∧ (∀ t, t < tn → tmOk vn (prevV v t) (v t) (cf t)) := by
  unfold rowB nmB tmsB
  simp only [Bool.and_eq_true, decide_eq_true_eq]
  constructor
  · rintro ⟨⟨⟨⟨a, b⟩, c⟩, d, e⟩, f⟩
    exact ⟨a, b, e, c, d, f⟩
  · rintro ⟨a, b, e, c, d, f⟩
    exact ⟨⟨⟨⟨a, b⟩, c⟩, d, e⟩, f⟩
set_option maxHeartbeats 8000000 in
theorem rvalidrow (nm : ByteArray) (gr ki bo : Int) (TA : Option Addr) (tn tc vn : Nat) (v cf : Nat → Int) (w : World) (hT : Ts w TA tn tc v cf) (hki : -9223372036854775808 ≤ ki ∧ ki ≤ 9223372036854775807) (hbo : -9223372036854775808 ≤ bo ∧ bo ≤ 9223372036854775807) (hgr : -9223372036854775808 ≤ gr ∧ gr ≤ 9223372036854775807) (hnm : nm.size ≤ 9223372036854775807) (_hvn : vn ≤ 9223372036854775807) :
    Calls Tryz.prog 58 #[.int .i64 (vn : Int), .agg #[.string nm, .int .i64 gr, .int .i64 ki, .slice TA tn tc, .int .i64 bo]] w (RetB w (rowB vn nm gr ki bo tn v cf)) := by
  have hc := hT.1
  have hc2 := hT.2.1
  obtain ⟨k1, k2⟩ := hki
  obtain ⟨g1, g2⟩ := hgr
  obtain ⟨W0, hW⟩ : ∃ W, W = w.alloc (.cells #[.string nm, .int .i64 gr, .int .i64 ki, .slice TA tn tc, .int .i64 bo] 77) := ⟨_, rfl⟩
  have B0 := bx_alloc (bx_refl w) (.cells #[.string nm, .int .i64 gr, .int .i64 ki, .slice TA tn tc, .int .i64 bo] 77)
  have K0 := Blk.new w [.string nm, .int .i64 gr, .int .i64 ki, .slice TA tn tc, .int .i64 bo] 77
  change Blk (w.alloc (.cells #[.string nm, .int .i64 gr, .int .i64 ki, .slice TA tn tc, .int .i64 bo] 77)) _ _ _ at K0
  rw [← hW] at B0 K0
  obtain ⟨r, hr⟩ : ∃ r, r = rowB vn nm gr ki bo tn v cf := ⟨_, rfl⟩
  rw [← hr]
  have HE := rowB_iff (vn := vn) (nm := nm) (gr := gr) (ki := ki) (bo := bo) (tn := tn) (v := v) (cf := cf)
  rw [← hr] at HE
  have NO := hid (fun (W : World) (b : Below w.heap.size w W) (h : ¬((0 ≤ ki ∧ ki ≤ 2) ∧ (0 ≤ gr ∧ gr ≤ 60) ∧ nm.size ≤ 80 ∧ inR bo ∧ (∀ c, c ∈ nm.data.toList → chOk c) ∧ (∀ t, t < tn → tmOk vn (prevV v t) (v t) (cf t)))) => (vld_no (by
    cases hh : r
    · rfl
    · exact absurd (HE.1 hh) h) b : RetB w r (.returned (.bool false)) W))
  have YE := hid (fun (W : World) (b : Below w.heap.size w W) (h : (0 ≤ ki ∧ ki ≤ 2) ∧ (0 ≤ gr ∧ gr ≤ 60) ∧ nm.size ≤ 80 ∧ inR bo ∧ (∀ c, c ∈ nm.data.toList → chOk c) ∧ (∀ t, t < tn → tmOk vn (prevV v t) (v t) (cf t))) => (vld_yes (HE.2 h) b : RetB w r (.returned (.bool true)) W))
  have IN := hid (fun W => rin bo W hbo.1 hbo.2)
  have HT := hid hT
  obtain ⟨y0, y1, y2, y3, y4⟩ := blk_five K0
  have BB := hid B0
  have KK := hid K0
  clear hT hr HE B0 K0 hbo
  go_enter Tryz.func58, Tryz.ntmps58
  go_upto_region 1 with fail
  rw [← hW]
  clear hW
  by_cases a1 : ki < 0
  · have t1 : decide (ki < 0) = true := decide_eq_true a1
    have NN := hid (NO.out _ BB.out (fun h => by have := h.1.1; omega))
    clear NO YE IN HT BB KK
    go_wp2_with fail
    go_ret
    exact NN.out
  have t1 : decide (ki < 0) = false := decide_eq_false a1
  by_cases a2 : 2 < ki
  · have t2 : decide (2 < ki) = true := decide_eq_true a2
    have NN := hid (NO.out _ BB.out (fun h => by have := h.1.2; omega))
    clear NO YE IN HT BB KK
    go_wp2_with fail
    go_ret
    exact NN.out
  have t2 : decide (2 < ki) = false := decide_eq_false a2
  by_cases a3 : gr < 0
  · have t3 : decide (gr < 0) = true := decide_eq_true a3
    have NN := hid (NO.out _ BB.out (fun h => by have := h.2.1.1; omega))
    clear NO YE IN HT BB KK
    go_wp2_with fail
    go_ret
    exact NN.out
  have t3 : decide (gr < 0) = false := decide_eq_false a3
  by_cases a4 : 60 < gr
  · have t4 : decide (60 < gr) = true := decide_eq_true a4
    have NN := hid (NO.out _ BB.out (fun h => by have := h.2.1.2; omega))
    clear NO YE IN HT BB KK
    go_wp2_with fail
    go_ret
    exact NN.out
  have t4 : decide (60 < gr) = false := decide_eq_false a4
  by_cases a5 : 80 < nm.size
  · have t5 : decide ((80 : Int) < (nm.size : Int)) = true := decide_eq_true (by omega)
    have u5 : decide (80 < nm.size) = true := decide_eq_true a5
    have NN := hid (NO.out _ BB.out (fun h => by have := h.2.2.1; omega))
    clear NO YE IN HT BB KK
    go_wp2_with fail
    go_ret
    exact NN.out
  have t5 : decide ((80 : Int) < (nm.size : Int)) = false := decide_eq_false (by omega)
  have u5 : decide (80 < nm.size) = false := decide_eq_false a5
  go_wp2_with fail
  refine (IN.out _).mono ?_
  rintro e W1 ⟨rfl, b⟩
  have B1 := hid (bx_call BB.out b)
  have K1 := hid (KK.out.keep b)
  clear IN BB KK b y0 y1 y2 y3 y4
  obtain ⟨y0, y1, y2, y3, y4⟩ := blk_five K1.out
  by_cases a6 : inR bo
  case neg =>
    rw [decide_eq_false a6]
    have NN := hid (NO.out _ B1.out (fun h => a6 h.2.2.2.1))
    clear NO YE HT B1 K1
    go_wp2_with fail
    go_ret
    exact NN.out
  rw [decide_eq_true a6]
  have A6 := hid a6
  clear a6
  have ST := hid (show RvP w [.string nm, .int .i64 gr, .int .i64 ki, .slice TA tn tc, .int .i64 bo] (∀ c, c ∈ nm.data.toList.take 0 → chOk c) W1 from ⟨fun c hc => by simp at hc, B1.out, K1.out⟩)
  clear B1 K1
  go_wp2_with fail
  clear y0 y1 y2 y3 y4
  go_loopw [5] (fun i wr => ∃ j : Nat, j ≤ nm.size ∧ i = .int .i64 j ∧ Hid (RvP w [.string nm, .int .i64 gr, .int .i64 ki, .slice TA tn tc, .int .i64 bo] (∀ c, c ∈ nm.data.toList.take j → chOk c) wr)) (fun i _ => nm.size - (intOf i).toNat)
  case atStart => exact ⟨0, Nat.zero_le _, rfl, ST⟩
  case round =>
    clear ST
    obtain ⟨j, hj, rfl, hz⟩ := hrel
    obtain ⟨y0, y1, y2, y3, y4⟩ := blk_five hz.out.2.2
    rcases Nat.lt_or_ge j nm.size with hlt | hge
    · have NN0 := hid (fun (h : ¬chOk nm[j]) => NO.out wr hz.out.2.1 (fun g => h (g.2.2.2.2.1 _ (mem_byte hlt))))
      have YY0 := hid (fun (h : chOk nm[j]) => (⟨mem_take_succ hlt hz.out.1 h, hz.out.2⟩ : RvP w [.string nm, .int .i64 gr, .int .i64 ki, .slice TA tn tc, .int .i64 bo] (∀ c, c ∈ nm.data.toList.take (j + 1) → chOk c) wr))
      clear hz NO YE HT
      by_cases h1 : (nm[j].toNat : Int) < 32
      · have t6 : decide ((nm[j].toNat : Int) < 32) = true := decide_eq_true h1
        have NN := hid (NN0.out (fun h => by unfold chOk at h; omega))
        clear NN0 YY0
        go_wp2_with fail
        go_ret
        exact NN.out
      · have t6 : decide ((nm[j].toNat : Int) < 32) = false := decide_eq_false h1
        by_cases h2 : 126 < (nm[j].toNat : Int)
        · have t7 : decide (126 < (nm[j].toNat : Int)) = true := decide_eq_true h2
          have NN := hid (NN0.out (fun h => by unfold chOk at h; omega))
          clear NN0 YY0
          go_wp2_with fail
          go_ret
          exact NN.out
        · have t7 : decide (126 < (nm[j].toNat : Int)) = false := decide_eq_false h2
          have ZZ := hid (YY0.out (by unfold chOk; omega))
          clear NN0 YY0
          go_wp2_with fail
          go_roundw
          case rel => exact ⟨j + 1, by omega, by go_num, ZZ⟩
          case measure => simp [intOf]; omega
    · obtain rfl : j = nm.size := by omega
      have AC := hid (show ∀ c, c ∈ nm.data.toList → chOk c from fun c hc => hz.out.1 c (by rw [List.take_of_length_le (by simp)]; exact hc))
      have ST := hid (show RvP w [.string nm, .int .i64 gr, .int .i64 ki, .slice TA tn tc, .int .i64 bo] (∀ t, t < 0 → tmOk vn (prevV v t) (v t) (cf t)) wr from ⟨fun i hi => absurd hi (by omega), hz.out.2⟩)
      clear hz
      go_wp2_with fail
      clear y0 y1 y2 y3 y4
      obtain ⟨wo, rfl⟩ : ∃ wo : World, wo = wr := ⟨_, rfl⟩
      go_loopw [6, 7] (fun l i wr => ∃ j : Nat, j ≤ tn ∧ i = .int .i64 j ∧ l = .int .i64 (prevV v j) ∧ Hid (RvP w [.string nm, .int .i64 gr, .int .i64 ki, .slice TA tn tc, .int .i64 bo] (∀ t, t < j → tmOk vn (prevV v t) (v t) (cf t)) wr)) (fun _ i _ => tn - (intOf i).toNat)
      case atStart => exact ⟨0, Nat.zero_le _, rfl, rfl, ST⟩
      case round =>
        clear ST
        obtain ⟨t, hj2, rfl, rfl, hz⟩ := hrel
        obtain ⟨y0, y1, y2, y3, y4⟩ := blk_five hz.out.2.2
        rcases Nat.lt_or_ge t tn with hlt | hge
        · obtain ⟨b, o, rfl, hb, hcell⟩ := HT.out.2.2.2 (by omega)
          obtain ⟨⟨l1, l2⟩, l3, l4⟩ := HT.out.2.2.1 t hlt
          have x0 := cell_bx (hcell t hlt).1 hz.out.2.1
          have x1 := cell_bx (hcell t hlt).2 hz.out.2.1
          have NN0 := hid (fun (W : World) (B : Below wr.heap.size wr W) (h : ¬tmOk vn (prevV v t) (v t) (cf t)) => NO.out W (bx_call hz.out.2.1 B) (fun g => h (g.2.2.2.2.2 t hlt)))
          have YY0 := hid (fun (W : World) (B : Below wr.heap.size wr W) (h : tmOk vn (prevV v t) (v t) (cf t)) => (⟨fun i hi => by
            rcases Nat.lt_or_ge i t with h1 | h1
            · exact hz.out.1 i h1
            · obtain rfl : i = t := by omega
              exact h, bx_call hz.out.2.1 B, hz.out.2.2.keep B⟩ : RvP w [.string nm, .int .i64 gr, .int .i64 ki, .slice (some ⟨b, o, none⟩) tn tc, .int .i64 bo] (∀ i, i < t + 1 → tmOk vn (prevV v i) (v i) (cf i)) W))
          obtain ⟨p, hp⟩ : ∃ p, p = prevV v t := ⟨_, rfl⟩
          have HN := hid (show prevV v (t + 1) = v t from rfl)
          obtain ⟨V, hV⟩ : ∃ V, V = v t := ⟨_, rfl⟩
          obtain ⟨C, hC⟩ : ∃ C, C = cf t := ⟨_, rfl⟩
          have IC := hid (fun (W : World) => rin (cf t) W l3 l4)
          rw [← hp, ← hV, ← hC] at NN0 YY0
          rw [← hV] at x0 l1 l2 HN
          rw [← hC] at x1 l3 l4 IC
          rw [← hp]
          obtain ⟨W3, hW3⟩ : ∃ W, W = wr.alloc (.cells #[.int .i64 V, .int .i64 C] 94) := ⟨_, rfl⟩
          have B1 := bx_alloc (bx_refl wr) (.cells #[.int .i64 V, .int .i64 C] 94)
          have KT := Blk.new wr [.int .i64 V, .int .i64 C] 94
          change Blk (wr.alloc (.cells #[.int .i64 V, .int .i64 C] 94)) _ _ _ at KT
          rw [← hW3] at B1 KT
          have KT1 := hid KT
          have BB := hid B1
          obtain ⟨q0, q1⟩ := blk_two KT
          clear hz HT hcell hp hV hC B1 KT NO YE AC A6
          go_upto_region 13 with fail
          rw [← hW3]
          clear hW3 x0 x1 y0 y1 y2 y3 y4
          by_cases h1 : V ≤ p
          · have t8 : decide (V ≤ p) = true := decide_eq_true h1
            have NN := hid (NN0.out _ BB.out (fun h => by unfold tmOk at h; omega))
            clear NN0 YY0 BB KT1 IC
            go_wp2_with fail
            go_ret
            exact NN.out
          have t8 : decide (V ≤ p) = false := decide_eq_false h1
          by_cases h2 : (vn : Int) ≤ V
          · have t9 : decide ((vn : Int) ≤ V) = true := decide_eq_true h2
            have NN := hid (NN0.out _ BB.out (fun h => by unfold tmOk at h; omega))
            clear NN0 YY0 BB KT1 IC
            go_wp2_with fail
            go_ret
            exact NN.out
          have t9 : decide ((vn : Int) ≤ V) = false := decide_eq_false h2
          by_cases h3 : C = 0
          · have t10 : (C == 0) = true := beq_iff_eq.2 h3
            have NN := hid (NN0.out _ BB.out (fun h => by unfold tmOk at h; omega))
            have H3 := hid h3
            clear NN0 YY0 BB KT1 IC h3
            go_wp2_with fail
            go_ret
            exact NN.out
          have t10 : (C == 0) = false := beq_eq_false_iff_ne.2 h3
          have H3 := hid h3
          clear h3
          go_wp2_with fail
          refine (IC.out _).mono ?_
          rintro e W4 ⟨rfl, b2⟩
          have B2 := hid (bx_call BB.out b2)
          have z0 := (blk_two (KT1.out.keep b2)).1
          clear IC BB KT1 b2 q0 q1
          by_cases h4 : inR C
          · rw [decide_eq_true h4]
            have ZZ := hid (YY0.out _ B2.out ⟨by omega, by omega, H3.out, h4⟩)
            clear NN0 YY0 B2 h4 H3
            go_wp2_with fail
            go_roundw
            case rel => exact ⟨t + 1, by omega, by go_num, by rw [HN.out], ZZ⟩
            case measure => simp [intOf]; omega
          · rw [decide_eq_false h4]
            have NN := hid (NN0.out _ B2.out (fun h => h4 h.2.2.2))
            clear NN0 YY0 B2 h4 H3
            go_wp2_with fail
            go_ret
            exact NN.out
        · obtain rfl : t = tn := by omega
          have YY := hid (YE.out _ hz.out.2.1 ⟨by omega, by omega, by omega, A6.out, AC.out, hz.out.1⟩)
          clear hz NO YE HT AC A6
          go_wp2_with fail
          go_ret
          exact YY.out
set_option maxHeartbeats 8000000 in
theorem rvalidp (V0 : Option Addr) (vn vc : Nat) (R0 : Option Addr) (rn rc : Nat) (lo up : Nat → Int) (op it : Nat → Bool) (co : Nat → Int) (nm : Nat → ByteArray) (gr ki bo : Nat → Int) (TA : Nat → Option Addr) (tn tc : Nat → Nat) (v cf : Nat → Nat → Int) (w : World) (hT : Vs w V0 vn vc lo up op it co) (hR : Rs w R0 rn rc nm gr ki bo TA tn tc v cf) (hnm : ∀ j, j < rn → (nm j).size ≤ 9223372036854775807) :
    Calls Tryz.prog 13 #[.agg #[.slice V0 vn vc, .slice R0 rn rc]] w (RetB w (vldB vn rn lo up op co nm gr ki bo tn v cf)) := by
  have hc := hT.1
  have hc2 := hT.2.1
  have hd := hR.1
  have hd2 := hR.2.1
  obtain ⟨W0, hW⟩ : ∃ W, W = w.alloc (.cells #[.slice V0 vn vc, .slice R0 rn rc] 25) := ⟨_, rfl⟩
  have B0 := bx_alloc (bx_refl w) (.cells #[.slice V0 vn vc, .slice R0 rn rc] 25)
  have K0 := Blk.new w [.slice V0 vn vc, .slice R0 rn rc] 25
  change Blk (w.alloc (.cells #[.slice V0 vn vc, .slice R0 rn rc] 25)) _ _ _ at K0
  rw [← hW] at B0 K0
  obtain ⟨r, hr⟩ : ∃ r, r = vldB vn rn lo up op co nm gr ki bo tn v cf := ⟨_, rfl⟩
  rw [← hr]
  have ST := hid (show AllP w [.slice V0 vn vc, .slice R0 rn rc] (fun j => varOk (lo j) (up j) (op j) (co j)) 0 W0 from ⟨fun i hi => absurd hi (by omega), B0, K0⟩)
  have HT := hid hT
  have HR := hid hR
  have HN := hid hnm
  have HE := hid hr
  obtain ⟨z0, z1⟩ := blk_two K0
  have BB := hid B0
  clear hT hR hnm hr B0 K0
  by_cases h1 : 400 < vn
  · have t1 : decide ((400 : Int) < (vn : Int)) = true := decide_eq_true (by omega)
    have NN := hid (vld_no (by rw [HE.out]; unfold vldB; rw [decide_eq_false (show ¬(vn ≤ 400 ∧ rn ≤ 4000) by omega)]; rfl : r = false) BB.out)
    clear HT HR HN HE BB ST
    go_enter Tryz.func13, Tryz.ntmps13
    go_upto_region 1 with fail
    rw [← hW]
    clear hW
    go_wp2_with fail
    go_ret
    exact NN.out
  have t1 : decide ((400 : Int) < (vn : Int)) = false := decide_eq_false (by omega)
  by_cases h2 : 4000 < rn
  · have t2 : decide ((4000 : Int) < (rn : Int)) = true := decide_eq_true (by omega)
    have NN := hid (vld_no (by rw [HE.out]; unfold vldB; rw [decide_eq_false (show ¬(vn ≤ 400 ∧ rn ≤ 4000) by omega)]; rfl : r = false) BB.out)
    clear HT HR HN HE BB ST
    go_enter Tryz.func13, Tryz.ntmps13
    go_upto_region 1 with fail
    rw [← hW]
    clear hW
    go_wp2_with fail
    go_ret
    exact NN.out
  have t2 : decide ((4000 : Int) < (rn : Int)) = false := decide_eq_false (by omega)
  have h3 : vn ≤ 400 ∧ rn ≤ 4000 := by omega
  have HE2 := hid (show r = (decide (∀ j, j < vn → varOk (lo j) (up j) (op j) (co j)) && decide (∀ j, j < rn → rowB vn (nm j) (gr j) (ki j) (bo j) (tn j) (v j) (cf j) = true)) by rw [HE.out]; unfold vldB; rw [decide_eq_true h3, Bool.true_and])
  clear HE BB h3
  go_enter Tryz.func13, Tryz.ntmps13
  go_upto_region 1 with fail
  rw [← hW]
  clear hW
  go_wp2_with fail
  go_loopw [3] (fun i wr => ∃ j : Nat, j ≤ vn ∧ i = .int .i64 j ∧ Hid (AllP w [.slice V0 vn vc, .slice R0 rn rc] (fun j => varOk (lo j) (up j) (op j) (co j)) j wr)) (fun i _ => vn - (intOf i).toNat)
  case atStart => exact ⟨0, Nat.zero_le _, rfl, ST⟩
  case round =>
    clear ST z0 z1 t1 t2
    obtain ⟨j, hj, rfl, hz⟩ := hrel
    obtain ⟨z0, z1⟩ := blk_two hz.out.2.2
    rcases Nat.lt_or_ge j vn with hlt | hge
    · obtain ⟨b, o, rfl, hb, hcell⟩ := HT.out.2.2.2 (by omega)
      obtain ⟨⟨l1, l2⟩, ⟨u1, u2⟩, c1, c2⟩ := HT.out.2.2.1 j hlt
      have x0 := cell_bx (hcell j hlt).1 hz.out.2.1
      have x1 := cell_bx (hcell j hlt).2.1 hz.out.2.1
      have x2 := cell_bx (hcell j hlt).2.2.1 hz.out.2.1
      have x3 := cell_bx (hcell j hlt).2.2.2.1 hz.out.2.1
      have x4 := cell_bx (hcell j hlt).2.2.2.2 hz.out.2.1
      have NO := hid (fun (W : World) (B : Below wr.heap.size wr W) (h : ¬varOk (lo j) (up j) (op j) (co j)) => vld_no (by rw [HE2.out, decide_eq_false fun g => h (g j hlt)]; rfl : r = false) (bx_call hz.out.2.1 B))
      have YE := hid (fun (W : World) (B : Below wr.heap.size wr W) (h : varOk (lo j) (up j) (op j) (co j)) => AllP.next hz.out h B)
      obtain ⟨L, hL⟩ : ∃ L, L = lo j := ⟨_, rfl⟩
      obtain ⟨U, hU⟩ : ∃ U, U = up j := ⟨_, rfl⟩
      obtain ⟨O, hO⟩ : ∃ O, O = op j := ⟨_, rfl⟩
      obtain ⟨C, hC⟩ : ∃ C, C = co j := ⟨_, rfl⟩
      obtain ⟨I, hI⟩ : ∃ I, I = it j := ⟨_, rfl⟩
      rw [← hL, ← hU, ← hO, ← hC] at NO
      have YE := hid (fun (W : World) (B : Below wr.heap.size wr W) (h : varOk L U O C) => YE.out W B (by rw [← hL, ← hU, ← hO, ← hC]; exact h))
      rw [← hL] at x0 l1 l2
      rw [← hU] at x1 u1 u2
      rw [← hO] at x2
      rw [← hI] at x3
      rw [← hC] at x4 c1 c2
      obtain ⟨W3, hW3⟩ : ∃ W, W = wr.alloc (.cells #[.int .i64 L, .int .i64 U, .bool O, .bool I, .int .i64 C] 60) := ⟨_, rfl⟩
      have B1 := bx_alloc (bx_refl wr) (.cells #[.int .i64 L, .int .i64 U, .bool O, .bool I, .int .i64 C] 60)
      have KT := Blk.new wr [.int .i64 L, .int .i64 U, .bool O, .bool I, .int .i64 C] 60
      change Blk (wr.alloc (.cells #[.int .i64 L, .int .i64 U, .bool O, .bool I, .int .i64 C] 60)) _ _ _ at KT
      rw [← hW3] at B1 KT
      have KV := hid KT
      have BV := hid B1
      have IL := hid (fun (W : World) => rin L W l1 l2)
      have IU := hid (fun (W : World) => rin U W u1 u2)
      have IC := hid (fun (W : World) => rin C W c1 c2)
      obtain ⟨y0, y1, y2, y3, y4⟩ := blk_five KT
      clear hz HT hcell hL hU hO hC hI HR HN HE2 B1 KT
      go_upto_region 7 with fail
      rw [← hW3]
      clear hW3 x0 x1 x2 x3 x4
      go_wp2_with fail
      refine (IL.out _).mono ?_
      rintro e w1 ⟨rfl, b1⟩
      have KV1 := hid (KV.out.keep b1)
      have BV1 := hid (bx_call BV.out b1)
      clear IL KV BV b1 y0 y1 y2 y3 y4
      obtain ⟨y0, y1, y2, y3, y4⟩ := blk_five KV1.out
      by_cases g1 : inR L
      case neg =>
        rw [decide_eq_false g1]
        have NN := hid (NO.out _ BV1.out (fun h => g1 h.1.1))
        clear NO YE BV1 KV1 IU IC
        go_wp2_with fail
        go_ret
        exact NN.out
      rw [decide_eq_true g1]
      have G1 := hid g1
      clear g1
      go_wp2_with fail
      refine (IU.out _).mono ?_
      rintro e w2 ⟨rfl, b1⟩
      have KV2 := hid (KV1.out.keep b1)
      have BV2 := hid (bx_call BV1.out b1)
      clear IU KV1 BV1 b1 y0 y1 y2 y3 y4
      obtain ⟨y0, y1, y2, y3, y4⟩ := blk_five KV2.out
      by_cases g2 : inR U
      case neg =>
        rw [decide_eq_false g2]
        have NN := hid (NO.out _ BV2.out (fun h => g2 h.1.2.1))
        clear NO YE BV2 KV2 IC
        go_wp2_with fail
        go_ret
        exact NN.out
      rw [decide_eq_true g2]
      have G2 := hid g2
      clear g2
      go_wp2_with fail
      refine (IC.out _).mono ?_
      rintro e w3 ⟨rfl, b1⟩
      have KV3 := hid (KV2.out.keep b1)
      have BV3 := hid (bx_call BV2.out b1)
      clear IC KV2 BV2 b1 y0 y1 y2 y3 y4
      obtain ⟨y0, y1, y2, y3, y4⟩ := blk_five KV3.out
      by_cases g3 : inR C
      case neg =>
        rw [decide_eq_false g3]
        have NN := hid (NO.out _ BV3.out (fun h => g3 h.1.2.2))
        clear NO YE BV3 KV3
        go_wp2_with fail
        go_ret
        exact NN.out
      rw [decide_eq_true g3]
      have G3 := hid g3
      clear g3
      cases O
      · have ZZ := hid (YE.out _ BV3.out ⟨⟨G1.out, G2.out, G3.out⟩, fun h => by cases h⟩)
        clear NO YE BV3 KV3
        go_wp2_with fail
        go_roundw
        case rel => exact ⟨j + 1, by omega, by go_num, ZZ⟩
        case measure => simp [intOf]; omega
      · by_cases g4 : U = 0
        · have ZZ := hid (YE.out _ BV3.out ⟨⟨G1.out, G2.out, G3.out⟩, fun _ => g4⟩)
          have t4 : (U != 0) = false := bne_eq_false_iff_eq.2 g4
          have t5 : decide (U = 0) = true := decide_eq_true g4
          have G4 := hid g4
          clear NO YE BV3 KV3 G1 G2 G3
          subst g4
          go_wp2_with fail
          go_roundw
          case rel => exact ⟨j + 1, by omega, by go_num, ZZ⟩
          case measure => simp [intOf]; omega
        · have t4 : (U != 0) = true := bne_iff_ne.2 g4
          have t5 : decide (U = 0) = false := decide_eq_false g4
          have NN := hid (NO.out _ BV3.out (fun h => g4 (h.2 rfl)))
          have G4 := hid g4
          clear NO YE BV3 KV3 g4
          go_wp2_with fail
          go_ret
          exact NN.out
    · obtain rfl : j = vn := by omega
      have HE3 := hid (show r = decide (∀ i, i < rn → rowB j (nm i) (gr i) (ki i) (bo i) (tn i) (v i) (cf i) = true) by rw [HE2.out, decide_eq_true hz.out.1, Bool.true_and])
      have S2 := hid (show AllP w [.slice V0 j vc, .slice R0 rn rc] (fun i => rowB j (nm i) (gr i) (ki i) (bo i) (tn i) (v i) (cf i) = true) 0 wr from ⟨fun i hi => absurd hi (by omega), hz.out.2⟩)
      obtain ⟨z0, z1⟩ := blk_two hz.out.2.2
      clear hz HT HE2 hge hj
      go_wp2_with fail
      obtain ⟨wo, rfl⟩ : ∃ wo : World, wo = wr := ⟨_, rfl⟩
      go_loopw [5] (fun i wr => ∃ k : Nat, k ≤ rn ∧ i = .int .i64 k ∧ Hid (AllP w [.slice V0 j vc, .slice R0 rn rc] (fun i => rowB j (nm i) (gr i) (ki i) (bo i) (tn i) (v i) (cf i) = true) k wr)) (fun i _ => rn - (intOf i).toNat)
      case atStart => exact ⟨0, Nat.zero_le _, rfl, S2⟩
      case round =>
        clear S2 z0 z1
        obtain ⟨k, hk, rfl, hz⟩ := hrel
        obtain ⟨y0, y1⟩ := blk_two hz.out.2.2
        rcases Nat.lt_or_ge k rn with hlt | hge
        · obtain ⟨b, o, rfl, hb, hcell⟩ := HR.out.2.2.2 (by omega)
          obtain ⟨_, _, _, hTs⟩ := HR.out.2.2.1 k hlt
          have x0 := cell_bx (hcell k hlt).1 hz.out.2.1
          have x1 := cell_bx (hcell k hlt).2.1 hz.out.2.1
          have x2 := cell_bx (hcell k hlt).2.2.1 hz.out.2.1
          have x3 := cell_bx (hcell k hlt).2.2.2.1 hz.out.2.1
          have x4 := cell_bx (hcell k hlt).2.2.2.2 hz.out.2.1
          obtain ⟨hk1, hk2, hk3, _⟩ := HR.out.2.2.1 k hlt
          have RW := hid (fun (W : World) (B : Below wr.heap.size wr W) => rvalidrow (nm k) (gr k) (ki k) (bo k) (TA k) (tn k) (tc k) j (v k) (cf k) W (hTs.keep (bx_call hz.out.2.1 B)) hk1 hk2 hk3 (HN.out k hlt) (by omega))
          have NO := hid (fun (W : World) (B : Below wr.heap.size wr W) (h : ¬rowB j (nm k) (gr k) (ki k) (bo k) (tn k) (v k) (cf k) = true) => vld_no (by rw [HE3.out, decide_eq_false fun g => h (g k hlt)] : r = false) (bx_call hz.out.2.1 B))
          have YE := hid (fun (W : World) (B : Below wr.heap.size wr W) (h : rowB j (nm k) (gr k) (ki k) (bo k) (tn k) (v k) (cf k) = true) => AllP.next hz.out h B)
          obtain ⟨q, hq⟩ : ∃ q, q = rowB j (nm k) (gr k) (ki k) (bo k) (tn k) (v k) (cf k) := ⟨_, rfl⟩
          rw [← hq] at RW NO
          have YE := hid (fun (W : World) (B : Below wr.heap.size wr W) (h : q = true) => YE.out W B (by rw [← hq]; exact h))
          clear hz HR HN HE3 hcell hTs hq hk1 hk2 hk3
          go_upto_region 12 with fail
          go_region_held3 (fun W => (W.cell? ⟨w.heap.size, 0, none⟩ = some (.slice V0 j vc) ∧ W.cell? ⟨w.heap.size, 1, none⟩ = some (.slice (some ⟨b, o, none⟩) rn rc)) ∧ (W.cell? ⟨b, o + k * 5, none⟩ = some (.string (nm k)) ∧ W.cell? ⟨b, o + k * 5 + 1, none⟩ = some (.int .i64 (gr k)) ∧ W.cell? ⟨b, o + k * 5 + 2, none⟩ = some (.int .i64 (ki k)) ∧ W.cell? ⟨b, o + k * 5 + 3, none⟩ = some (.slice (TA k) (tn k) (tc k)) ∧ W.cell? ⟨b, o + k * 5 + 4, none⟩ = some (.int .i64 (bo k))))
            (refine ⟨⟨?_, ?_⟩, ⟨?_, ?_, ?_, ?_, ?_⟩⟩ <;> repeat' (first | with_reducible assumption | with_reducible refine cell_dr ?_))
            (first | (go_at_call 58; refine (RW.out _ (bx_drew (bx_refl _))).mono ?_; rintro e w1 ⟨rfl, b1⟩; have p0 := cell_bx (cell_dr y0) b1; have p1 := cell_bx (cell_dr y1) b1; have q0 := cell_bx (cell_dr x0) b1; have q1 := cell_bx (cell_dr x1) b1; have q2 := cell_bx (cell_dr x2) b1; have q3 := cell_bx (cell_dr x3) b1; have q4 := cell_bx (cell_dr x4) b1; have B2 := hid (bx_call (bx_drew (bx_refl _)) b1); clear b1))
          clear RW x0 x1 x2 x3 x4 y0 y1 p0 p1 q0 q1 q2 q3 q4
          cases q
          · have NN := hid (NO.out _ B2.out (by decide))
            clear NO YE B2
            go_wp2_with fail
            go_ret
            exact NN.out
          · have ZZ := hid (YE.out _ B2.out rfl)
            clear NO YE B2
            go_wp2_with fail
            go_roundw
            case rel => exact ⟨k + 1, by omega, by go_num, ZZ⟩
            case measure => simp [intOf]; omega
        · obtain rfl : k = rn := by omega
          have YY := hid (vld_yes (by rw [HE3.out, decide_eq_true hz.out.1] : r = true) hz.out.2.1)
          clear HR HN hz HE3
          go_wp2_with fail
          go_ret
          exact YY.out
end Go.Proofs.YtdbccidlnhjfhaaGreatDoor
