/- R5a: VaR, ComR in one text. -/
import Derived.Test.YthbogaindaflpaaGreatDrf
import Derived.Deep.DeepCutAuto
import Derived.BigQuiet
namespace Go.Proofs.YthbogaindaflpaaGreat
open Go.RowKit
set_option maxRecDepth 100000
set_option maxHeartbeats 2000000 in
theorem rin (z : Int) (w : World) (_h1 : -9223372036854775808 ≤ z) (_h2 : z ≤ 9223372036854775807) : Calls Tryz.prog 28 #[.int .i64 z] w (RetB w (decide (inR z))) := by
  have B0 := hid (bx_refl w)
  by_cases a : -1099511627776 ≤ z
  · have t1 : decide (-1099511627776 ≤ z) = true := decide_eq_true a
    have e : decide (inR z) = decide (z ≤ 1099511627776) := decide_eq_decide.2 ⟨fun h => h.2, fun h => ⟨a, h⟩⟩
    rw [e]
    clear e
    go_enter Tryz.func28, Tryz.ntmps28
    go_wp2_with fail
    go_ret
    exact ⟨rfl, B0.out⟩
  · have t1 : decide (-1099511627776 ≤ z) = false := decide_eq_false a
    rw [decide_eq_false (show ¬inR z from fun h => a h.1)]
    go_enter Tryz.func28, Tryz.ntmps28
    go_wp2_with fail
    go_ret
    exact ⟨rfl, B0.out⟩
def RvP (w : World) (cs : List Value) (Q : Prop) (W : World) : Prop := Q ∧ Below w.heap.size w W ∧ Blk W w.heap.size cs 43
theorem rowB_iff {vn : Nat} {nm : ByteArray} {gr ki bo : Int} {tn : Nat} {v cf : Nat → Int} : rowB vn nm gr ki bo tn v cf = true ↔ (0 ≤ ki ∧ ki ≤ 2) ∧ (0 ≤ gr ∧ gr ≤ 60) ∧ nm.size ≤ 80 ∧ inR bo ∧ (∀ c, c ∈ nm.data.toList → chOk c) ∧ (∀ t, t < tn → tmOk vn (prevV v t) (v t) (cf t)) := by
  unfold rowB nmB tmsB
  simp only [Bool.and_eq_true, decide_eq_true_eq]
  constructor
  · rintro ⟨⟨⟨⟨a, b⟩, c⟩, d, e⟩, f⟩
    exact ⟨a, b, e, c, d, f⟩
  · rintro ⟨a, b, e, c, d, f⟩
    exact ⟨⟨⟨⟨a, b⟩, c⟩, d, e⟩, f⟩
set_option maxHeartbeats 8000000 in
theorem rvalidrow (nm : ByteArray) (gr ki bo : Int) (TA : Option Addr) (tn tc vn : Nat) (v cf : Nat → Int) (w : World) (hT : Ts w TA tn tc v cf) (hki : -9223372036854775808 ≤ ki ∧ ki ≤ 9223372036854775807) (hbo : -9223372036854775808 ≤ bo ∧ bo ≤ 9223372036854775807) (hgr : -9223372036854775808 ≤ gr ∧ gr ≤ 9223372036854775807) (hnm : nm.size ≤ 9223372036854775807) (_hvn : vn ≤ 9223372036854775807) :
    Calls Tryz.prog 10 #[.int .i64 (vn : Int), .agg #[.string nm, .int .i64 gr, .int .i64 ki, .slice TA tn tc, .int .i64 bo]] w (RetB w (rowB vn nm gr ki bo tn v cf)) := by
  have hc := hT.1
  have hc2 := hT.2.1
  obtain ⟨k1, k2⟩ := hki
  obtain ⟨g1, g2⟩ := hgr
  obtain ⟨W0, hW⟩ : ∃ W, W = w.alloc (.cells #[.string nm, .int .i64 gr, .int .i64 ki, .slice TA tn tc, .int .i64 bo] 43) := ⟨_, rfl⟩
  have B0 := bx_alloc (bx_refl w) (.cells #[.string nm, .int .i64 gr, .int .i64 ki, .slice TA tn tc, .int .i64 bo] 43)
  have K0 := Blk.new w [.string nm, .int .i64 gr, .int .i64 ki, .slice TA tn tc, .int .i64 bo] 43
  change Blk (w.alloc (.cells #[.string nm, .int .i64 gr, .int .i64 ki, .slice TA tn tc, .int .i64 bo] 43)) _ _ _ at K0
  rw [← hW] at B0 K0
  obtain ⟨r, hr⟩ : ∃ r, r = rowB vn nm gr ki bo tn v cf := ⟨_, rfl⟩
  rw [← hr]
  have HE := rowB_iff (vn := vn) (nm := nm) (gr := gr) (ki := ki) (bo := bo) (tn := tn) (v := v) (cf := cf)
  rw [← hr] at HE
  have NO := hid (fun (W : World) (b : Below w.heap.size w W) (h : ¬((0 ≤ ki ∧ ki ≤ 2) ∧ (0 ≤ gr ∧ gr ≤ 60) ∧ nm.size ≤ 80 ∧ inR bo ∧ (∀ c, c ∈ nm.data.toList → chOk c) ∧ (∀ t, t < tn → tmOk vn (prevV v t) (v t) (cf t)))) => (vld_no (by
    cases hh : r
    · rfl
    · exact absurd (HE.1 hh) h) b : RetB w r (.returned (.bool false)) W))
  have YE := hid (fun (W : World) (b : Below w.heap.size w W) (h : (0 ≤ ki ∧ ki ≤ 2) ∧ (0 ≤ gr ∧ gr ≤ 60) ∧ nm.size ≤ 80 ∧ inR bo ∧ (∀ c, c ∈ nm.data.toList → chOk c) ∧ (∀ t, t < tn → tmOk vn (prevV v t) (v t) (cf t))) => (vld_yes (HE.2 h) b : RetB w r (.returned (.bool true)) W))
  have IN := hid (fun W => rin bo W hbo.1 hbo.2)
  have HT := hid hT
  obtain ⟨y0, y1, y2, y3, y4⟩ := blk_five K0
  have BB := hid B0
  have KK := hid K0
  clear hT hr HE B0 K0 hbo
  go_enter Tryz.func10, Tryz.ntmps10
  go_upto_region 1 with fail
  rw [← hW]
  clear hW
  by_cases a1 : ki < 0
  · have t1 : decide (ki < 0) = true := decide_eq_true a1
    have NN := hid (NO.out _ BB.out (fun h => by have := h.1.1; omega))
    clear NO YE IN HT BB KK
    go_wp2_with fail
    go_ret
    exact NN.out
  have t1 : decide (ki < 0) = false := decide_eq_false a1
  by_cases a2 : 2 < ki
  · have t2 : decide (2 < ki) = true := decide_eq_true a2
    have NN := hid (NO.out _ BB.out (fun h => by have := h.1.2; omega))
    clear NO YE IN HT BB KK
    go_wp2_with fail
    go_ret
    exact NN.out
  have t2 : decide (2 < ki) = false := decide_eq_false a2
  by_cases a3 : gr < 0
  · have t3 : decide (gr < 0) = true := decide_eq_true a3
    have NN := hid (NO.out _ BB.out (fun h => by have := h.2.1.1; omega))
    clear NO YE IN HT BB KK
    go_wp2_with fail
    go_ret
    exact NN.out
  have t3 : decide (gr < 0) = false := decide_eq_false a3
  by_cases a4 : 60 < gr
  · have t4 : decide (60 < gr) = true := decide_eq_true a4
    have NN := hid (NO.out _ BB.out (fun h => by have := h.2.1.2; omega))
    clear NO YE IN HT BB KK
    go_wp2_with fail
    go_ret
    exact NN.out
  have t4 : decide (60 < gr) = false := decide_eq_false a4
  by_cases a5 : 80 < nm.size
  · have t5 : decide ((80 : Int) < (nm.size : Int)) = true := decide_eq_true (by omega)
    have u5 : decide (80 < nm.size) = true := decide_eq_true a5
    have NN := hid (NO.out _ BB.out (fun h => by have := h.2.2.1; omega))
    clear NO YE IN HT BB KK
    go_wp2_with fail
    go_ret
    exact NN.out
  have t5 : decide ((80 : Int) < (nm.size : Int)) = false := decide_eq_false (by omega)
  have u5 : decide (80 < nm.size) = false := decide_eq_false a5
  go_wp2_with fail
  refine (IN.out _).mono ?_
  rintro e W1 ⟨rfl, b⟩
  have B1 := hid (bx_call BB.out b)
  have K1 := hid (KK.out.keep b)
  clear IN BB KK b y0 y1 y2 y3 y4
  obtain ⟨y0, y1, y2, y3, y4⟩ := blk_five K1.out
  by_cases a6 : inR bo
  case neg =>
    rw [decide_eq_false a6]
    have NN := hid (NO.out _ B1.out (fun h => a6 h.2.2.2.1))
    clear NO YE HT B1 K1
    go_wp2_with fail
    go_ret
    exact NN.out
  rw [decide_eq_true a6]
  have A6 := hid a6
  clear a6
  have ST := hid (show RvP w [.string nm, .int .i64 gr, .int .i64 ki, .slice TA tn tc, .int .i64 bo] (∀ c, c ∈ nm.data.toList.take 0 → chOk c) W1 from ⟨fun c hc => by simp at hc, B1.out, K1.out⟩)
  clear B1 K1
  go_wp2_with fail
  clear y0 y1 y2 y3 y4
  go_loopw [5] (fun i wr => ∃ j : Nat, j ≤ nm.size ∧ i = .int .i64 j ∧ Hid (RvP w [.string nm, .int .i64 gr, .int .i64 ki, .slice TA tn tc, .int .i64 bo] (∀ c, c ∈ nm.data.toList.take j → chOk c) wr)) (fun i _ => nm.size - (intOf i).toNat)
  case atStart => exact ⟨0, Nat.zero_le _, rfl, ST⟩
  case round =>
    clear ST
    obtain ⟨j, hj, rfl, hz⟩ := hrel
    obtain ⟨y0, y1, y2, y3, y4⟩ := blk_five hz.out.2.2
    rcases Nat.lt_or_ge j nm.size with hlt | hge
    · have NN0 := hid (fun (h : ¬chOk nm[j]) => NO.out wr hz.out.2.1 (fun g => h (g.2.2.2.2.1 _ (mem_byte hlt))))
      have YY0 := hid (fun (h : chOk nm[j]) => (⟨mem_take_succ hlt hz.out.1 h, hz.out.2⟩ : RvP w [.string nm, .int .i64 gr, .int .i64 ki, .slice TA tn tc, .int .i64 bo] (∀ c, c ∈ nm.data.toList.take (j + 1) → chOk c) wr))
      clear hz NO YE HT
      by_cases h1 : (nm[j].toNat : Int) < 32
      · have t6 : decide ((nm[j].toNat : Int) < 32) = true := decide_eq_true h1
        have NN := hid (NN0.out (fun h => by unfold chOk at h; omega))
        clear NN0 YY0
        go_wp2_with fail
        go_ret
        exact NN.out
      · have t6 : decide ((nm[j].toNat : Int) < 32) = false := decide_eq_false h1
        by_cases h2 : 126 < (nm[j].toNat : Int)
        · have t7 : decide (126 < (nm[j].toNat : Int)) = true := decide_eq_true h2
          have NN := hid (NN0.out (fun h => by unfold chOk at h; omega))
          clear NN0 YY0
          go_wp2_with fail
          go_ret
          exact NN.out
        · have t7 : decide (126 < (nm[j].toNat : Int)) = false := decide_eq_false h2
          have ZZ := hid (YY0.out (by unfold chOk; omega))
          clear NN0 YY0
          go_wp2_with fail
          go_roundw
          case rel => exact ⟨j + 1, by omega, by go_num, ZZ⟩
          case measure => simp [intOf]; omega
    · obtain rfl : j = nm.size := by omega
      have AC := hid (show ∀ c, c ∈ nm.data.toList → chOk c from fun c hc => hz.out.1 c (by rw [List.take_of_length_le (by simp)]; exact hc))
      have ST := hid (show RvP w [.string nm, .int .i64 gr, .int .i64 ki, .slice TA tn tc, .int .i64 bo] (∀ t, t < 0 → tmOk vn (prevV v t) (v t) (cf t)) wr from ⟨fun i hi => absurd hi (by omega), hz.out.2⟩)
      clear hz
      go_wp2_with fail
      clear y0 y1 y2 y3 y4
      obtain ⟨wo, rfl⟩ : ∃ wo : World, wo = wr := ⟨_, rfl⟩
      go_loopw [6, 7] (fun l i wr => ∃ j : Nat, j ≤ tn ∧ i = .int .i64 j ∧ l = .int .i64 (prevV v j) ∧ Hid (RvP w [.string nm, .int .i64 gr, .int .i64 ki, .slice TA tn tc, .int .i64 bo] (∀ t, t < j → tmOk vn (prevV v t) (v t) (cf t)) wr)) (fun _ i _ => tn - (intOf i).toNat)
      case atStart => exact ⟨0, Nat.zero_le _, rfl, rfl, ST⟩
      case round =>
        clear ST
        obtain ⟨t, hj2, rfl, rfl, hz⟩ := hrel
        obtain ⟨y0, y1, y2, y3, y4⟩ := blk_five hz.out.2.2
        rcases Nat.lt_or_ge t tn with hlt | hge
        · obtain ⟨b, o, rfl, hb, hcell⟩ := HT.out.2.2.2 (by omega)
          obtain ⟨⟨l1, l2⟩, l3, l4⟩ := HT.out.2.2.1 t hlt
          have x0 := cell_bx (hcell t hlt).1 hz.out.2.1
          have x1 := cell_bx (hcell t hlt).2 hz.out.2.1
          have NN0 := hid (fun (W : World) (B : Below wr.heap.size wr W) (h : ¬tmOk vn (prevV v t) (v t) (cf t)) => NO.out W (bx_call hz.out.2.1 B) (fun g => h (g.2.2.2.2.2 t hlt)))
          have YY0 := hid (fun (W : World) (B : Below wr.heap.size wr W) (h : tmOk vn (prevV v t) (v t) (cf t)) => (⟨fun i hi => by
            rcases Nat.lt_or_ge i t with h1 | h1
            · exact hz.out.1 i h1
            · obtain rfl : i = t := by omega
              exact h, bx_call hz.out.2.1 B, hz.out.2.2.keep B⟩ : RvP w [.string nm, .int .i64 gr, .int .i64 ki, .slice (some ⟨b, o, none⟩) tn tc, .int .i64 bo] (∀ i, i < t + 1 → tmOk vn (prevV v i) (v i) (cf i)) W))
          obtain ⟨p, hp⟩ : ∃ p, p = prevV v t := ⟨_, rfl⟩
          have HN := hid (show prevV v (t + 1) = v t from rfl)
          obtain ⟨V, hV⟩ : ∃ V, V = v t := ⟨_, rfl⟩
          obtain ⟨C, hC⟩ : ∃ C, C = cf t := ⟨_, rfl⟩
          have IC := hid (fun (W : World) => rin (cf t) W l3 l4)
          rw [← hp, ← hV, ← hC] at NN0 YY0
          rw [← hV] at x0 l1 l2 HN
          rw [← hC] at x1 l3 l4 IC
          rw [← hp]
          obtain ⟨W3, hW3⟩ : ∃ W, W = wr.alloc (.cells #[.int .i64 V, .int .i64 C] 72) := ⟨_, rfl⟩
          have B1 := bx_alloc (bx_refl wr) (.cells #[.int .i64 V, .int .i64 C] 72)
          have KT := Blk.new wr [.int .i64 V, .int .i64 C] 72
          change Blk (wr.alloc (.cells #[.int .i64 V, .int .i64 C] 72)) _ _ _ at KT
          rw [← hW3] at B1 KT
          have KT1 := hid KT
          have BB := hid B1
          obtain ⟨q0, q1⟩ := blk_two KT
          clear hz HT hcell hp hV hC B1 KT NO YE AC A6
          go_upto_region 13 with fail
          rw [← hW3]
          clear hW3 x0 x1 y0 y1 y2 y3 y4
          by_cases h1 : V ≤ p
          · have t8 : decide (V ≤ p) = true := decide_eq_true h1
            have NN := hid (NN0.out _ BB.out (fun h => by unfold tmOk at h; omega))
            clear NN0 YY0 BB KT1 IC
            go_wp2_with fail
            go_ret
            exact NN.out
          have t8 : decide (V ≤ p) = false := decide_eq_false h1
          by_cases h2 : (vn : Int) ≤ V
          · have t9 : decide ((vn : Int) ≤ V) = true := decide_eq_true h2
            have NN := hid (NN0.out _ BB.out (fun h => by unfold tmOk at h; omega))
            clear NN0 YY0 BB KT1 IC
            go_wp2_with fail
            go_ret
            exact NN.out
          have t9 : decide ((vn : Int) ≤ V) = false := decide_eq_false h2
          by_cases h3 : C = 0
          · have t10 : (C == 0) = true := beq_iff_eq.2 h3
            have NN := hid (NN0.out _ BB.out (fun h => by unfold tmOk at h; omega))
            have H3 := hid h3
            clear NN0 YY0 BB KT1 IC h3
            go_wp2_with fail
            go_ret
            exact NN.out
          have t10 : (C == 0) = false := beq_eq_false_iff_ne.2 h3
          have H3 := hid h3
          clear h3
          go_wp2_with fail
          refine (IC.out _).mono ?_
          rintro e W4 ⟨rfl, b2⟩
          have B2 := hid (bx_call BB.out b2)
          have z0 := (blk_two (KT1.out.keep b2)).1
          clear IC BB KT1 b2 q0 q1
          by_cases h4 : inR C
          · rw [decide_eq_true h4]
            have ZZ := hid (YY0.out _ B2.out ⟨by omega, by omega, H3.out, h4⟩)
            clear NN0 YY0 B2 h4 H3
            go_wp2_with fail
            go_roundw
            case rel => exact ⟨t + 1, by omega, by go_num, by rw [HN.out], ZZ⟩
            case measure => simp [intOf]; omega
          · rw [decide_eq_false h4]
            have NN := hid (NN0.out _ B2.out (fun h => h4 h.2.2.2))
            clear NN0 YY0 B2 h4 H3
            go_wp2_with fail
            go_ret
            exact NN.out
        · obtain rfl : t = tn := by omega
          have YY := hid (YE.out _ hz.out.2.1 ⟨by omega, by omega, by omega, A6.out, AC.out, hz.out.1⟩)
          clear hz NO YE HT AC A6
          go_wp2_with fail
          go_ret
          exact YY.out
set_option maxHeartbeats 8000000 in
theorem rvalidp (V0 : Option Addr) (vn vc : Nat) (R0 : Option Addr) (rn rc : Nat) (lo up : Nat → Int) (op it : Nat → Bool) (co : Nat → Int) (nm : Nat → ByteArray) (gr ki bo : Nat → Int) (TA : Nat → Option Addr) (tn tc : Nat → Nat) (v cf : Nat → Nat → Int) (w : World) (hT : Vs w V0 vn vc lo up op it co) (hR : Rs w R0 rn rc nm gr ki bo TA tn tc v cf) (hnm : ∀ j, j < rn → (nm j).size ≤ 9223372036854775807) :
    Calls Tryz.prog 24 #[.agg #[.slice V0 vn vc, .slice R0 rn rc]] w (RetB w (vldB vn rn lo up op co nm gr ki bo tn v cf)) := by
  have hc := hT.1
  have hc2 := hT.2.1
  have hd := hR.1
  have hd2 := hR.2.1
  obtain ⟨W0, hW⟩ : ∃ W, W = w.alloc (.cells #[.slice V0 vn vc, .slice R0 rn rc] 25) := ⟨_, rfl⟩
  have B0 := bx_alloc (bx_refl w) (.cells #[.slice V0 vn vc, .slice R0 rn rc] 25)
  have K0 := Blk.new w [.slice V0 vn vc, .slice R0 rn rc] 25
  change Blk (w.alloc (.cells #[.slice V0 vn vc, .slice R0 rn rc] 25)) _ _ _ at K0
  rw [← hW] at B0 K0
  obtain ⟨r, hr⟩ : ∃ r, r = vldB vn rn lo up op co nm gr ki bo tn v cf := ⟨_, rfl⟩
  rw [← hr]
  have ST := hid (show AllP w [.slice V0 vn vc, .slice R0 rn rc] (fun j => varOk (lo j) (up j) (op j) (co j)) 0 W0 from ⟨fun i hi => absurd hi (by omega), B0, K0⟩)
  have HT := hid hT
  have HR := hid hR
  have HN := hid hnm
  have HE := hid hr
  obtain ⟨z0, z1⟩ := blk_two K0
  have BB := hid B0
  clear hT hR hnm hr B0 K0
  by_cases h1 : 400 < vn
  · have t1 : decide ((400 : Int) < (vn : Int)) = true := decide_eq_true (by omega)
    have NN := hid (vld_no (by rw [HE.out]; unfold vldB; rw [decide_eq_false (show ¬(vn ≤ 400 ∧ rn ≤ 4000) by omega)]; rfl : r = false) BB.out)
    clear HT HR HN HE BB ST
    go_enter Tryz.func24, Tryz.ntmps24
    go_upto_region 1 with fail
    rw [← hW]
    clear hW
    go_wp2_with fail
    go_ret
    exact NN.out
  have t1 : decide ((400 : Int) < (vn : Int)) = false := decide_eq_false (by omega)
  by_cases h2 : 4000 < rn
  · have t2 : decide ((4000 : Int) < (rn : Int)) = true := decide_eq_true (by omega)
    have NN := hid (vld_no (by rw [HE.out]; unfold vldB; rw [decide_eq_false (show ¬(vn ≤ 400 ∧ rn ≤ 4000) by omega)]; rfl : r = false) BB.out)
    clear HT HR HN HE BB ST
    go_enter Tryz.func24, Tryz.ntmps24
    go_upto_region 1 with fail
    rw [← hW]
    clear hW
    go_wp2_with fail
    go_ret
    exact NN.out
  have t2 : decide ((4000 : Int) < (rn : Int)) = false := decide_eq_false (by omega)
  have h3 : vn ≤ 400 ∧ rn ≤ 4000 := by omega
  have HE2 := hid (show r = (decide (∀ j, j < vn → varOk (lo j) (up j) (op j) (co j)) && decide (∀ j, j < rn → rowB vn (nm j) (gr j) (ki j) (bo j) (tn j) (v j) (cf j) = true)) by rw [HE.out]; unfold vldB; rw [decide_eq_true h3, Bool.true_and])
  clear HE BB h3
  go_enter Tryz.func24, Tryz.ntmps24
  go_upto_region 1 with fail
  rw [← hW]
  clear hW
  go_wp2_with fail
  go_loopw [3] (fun i wr => ∃ j : Nat, j ≤ vn ∧ i = .int .i64 j ∧ Hid (AllP w [.slice V0 vn vc, .slice R0 rn rc] (fun j => varOk (lo j) (up j) (op j) (co j)) j wr)) (fun i _ => vn - (intOf i).toNat)
  case atStart => exact ⟨0, Nat.zero_le _, rfl, ST⟩
  case round =>
    clear ST z0 z1 t1 t2
    obtain ⟨j, hj, rfl, hz⟩ := hrel
    obtain ⟨z0, z1⟩ := blk_two hz.out.2.2
    rcases Nat.lt_or_ge j vn with hlt | hge
    · obtain ⟨b, o, rfl, hb, hcell⟩ := HT.out.2.2.2 (by omega)
      obtain ⟨⟨l1, l2⟩, ⟨u1, u2⟩, c1, c2⟩ := HT.out.2.2.1 j hlt
      have x0 := cell_bx (hcell j hlt).1 hz.out.2.1
      have x1 := cell_bx (hcell j hlt).2.1 hz.out.2.1
      have x2 := cell_bx (hcell j hlt).2.2.1 hz.out.2.1
      have x3 := cell_bx (hcell j hlt).2.2.2.1 hz.out.2.1
      have x4 := cell_bx (hcell j hlt).2.2.2.2 hz.out.2.1
      have NO := hid (fun (W : World) (B : Below wr.heap.size wr W) (h : ¬varOk (lo j) (up j) (op j) (co j)) => vld_no (by rw [HE2.out, decide_eq_false fun g => h (g j hlt)]; rfl : r = false) (bx_call hz.out.2.1 B))
      have YE := hid (fun (W : World) (B : Below wr.heap.size wr W) (h : varOk (lo j) (up j) (op j) (co j)) => AllP.next hz.out h B)
      obtain ⟨L, hL⟩ : ∃ L, L = lo j := ⟨_, rfl⟩
      obtain ⟨U, hU⟩ : ∃ U, U = up j := ⟨_, rfl⟩
      obtain ⟨O, hO⟩ : ∃ O, O = op j := ⟨_, rfl⟩
      obtain ⟨C, hC⟩ : ∃ C, C = co j := ⟨_, rfl⟩
      obtain ⟨I, hI⟩ : ∃ I, I = it j := ⟨_, rfl⟩
      rw [← hL, ← hU, ← hO, ← hC] at NO
      have YE := hid (fun (W : World) (B : Below wr.heap.size wr W) (h : varOk L U O C) => YE.out W B (by rw [← hL, ← hU, ← hO, ← hC]; exact h))
      rw [← hL] at x0 l1 l2
      rw [← hU] at x1 u1 u2
      rw [← hO] at x2
      rw [← hI] at x3
      rw [← hC] at x4 c1 c2
      obtain ⟨W3, hW3⟩ : ∃ W, W = wr.alloc (.cells #[.int .i64 L, .int .i64 U, .bool O, .bool I, .int .i64 C] 50) := ⟨_, rfl⟩
      have B1 := bx_alloc (bx_refl wr) (.cells #[.int .i64 L, .int .i64 U, .bool O, .bool I, .int .i64 C] 50)
      have KT := Blk.new wr [.int .i64 L, .int .i64 U, .bool O, .bool I, .int .i64 C] 50
      change Blk (wr.alloc (.cells #[.int .i64 L, .int .i64 U, .bool O, .bool I, .int .i64 C] 50)) _ _ _ at KT
      rw [← hW3] at B1 KT
      have KV := hid KT
      have BV := hid B1
      have IL := hid (fun (W : World) => rin L W l1 l2)
      have IU := hid (fun (W : World) => rin U W u1 u2)
      have IC := hid (fun (W : World) => rin C W c1 c2)
      obtain ⟨y0, y1, y2, y3, y4⟩ := blk_five KT
      clear hz HT hcell hL hU hO hC hI HR HN HE2 B1 KT
      go_upto_region 7 with fail
      rw [← hW3]
      clear hW3 x0 x1 x2 x3 x4
      go_wp2_with fail
      refine (IL.out _).mono ?_
      rintro e w1 ⟨rfl, b1⟩
      have KV1 := hid (KV.out.keep b1)
      have BV1 := hid (bx_call BV.out b1)
      clear IL KV BV b1 y0 y1 y2 y3 y4
      obtain ⟨y0, y1, y2, y3, y4⟩ := blk_five KV1.out
      by_cases g1 : inR L
      case neg =>
        rw [decide_eq_false g1]
        have NN := hid (NO.out _ BV1.out (fun h => g1 h.1.1))
        clear NO YE BV1 KV1 IU IC
        go_wp2_with fail
        go_ret
        exact NN.out
      rw [decide_eq_true g1]
      have G1 := hid g1
      clear g1
      go_wp2_with fail
      refine (IU.out _).mono ?_
      rintro e w2 ⟨rfl, b1⟩
      have KV2 := hid (KV1.out.keep b1)
      have BV2 := hid (bx_call BV1.out b1)
      clear IU KV1 BV1 b1 y0 y1 y2 y3 y4
      obtain ⟨y0, y1, y2, y3, y4⟩ := blk_five KV2.out
      by_cases g2 : inR U
      case neg =>
        rw [decide_eq_false g2]
        have NN := hid (NO.out _ BV2.out (fun h => g2 h.1.2.1))
        clear NO YE BV2 KV2 IC
        go_wp2_with fail
        go_ret
        exact NN.out
      rw [decide_eq_true g2]
      have G2 := hid g2
      clear g2
      go_wp2_with fail
      refine (IC.out _).mono ?_
      rintro e w3 ⟨rfl, b1⟩
      have KV3 := hid (KV2.out.keep b1)
      have BV3 := hid (bx_call BV2.out b1)
      clear IC KV2 BV2 b1 y0 y1 y2 y3 y4
      obtain ⟨y0, y1, y2, y3, y4⟩ := blk_five KV3.out
      by_cases g3 : inR C
      case neg =>
        rw [decide_eq_false g3]
        have NN := hid (NO.out _ BV3.out (fun h => g3 h.1.2.2))
        clear NO YE BV3 KV3
        go_wp2_with fail
        go_ret
        exact NN.out
      rw [decide_eq_true g3]
      have G3 := hid g3
      clear g3
      cases O
      · have ZZ := hid (YE.out _ BV3.out ⟨⟨G1.out, G2.out, G3.out⟩, fun h => by cases h⟩)
        clear NO YE BV3 KV3
        go_wp2_with fail
        go_roundw
        case rel => exact ⟨j + 1, by omega, by go_num, ZZ⟩
        case measure => simp [intOf]; omega
      · by_cases g4 : U = 0
        · have ZZ := hid (YE.out _ BV3.out ⟨⟨G1.out, G2.out, G3.out⟩, fun _ => g4⟩)
          have t4 : (U != 0) = false := bne_eq_false_iff_eq.2 g4
          have t5 : decide (U = 0) = true := decide_eq_true g4
          have G4 := hid g4
          clear NO YE BV3 KV3 G1 G2 G3
          subst g4
          go_wp2_with fail
          go_roundw
          case rel => exact ⟨j + 1, by omega, by go_num, ZZ⟩
          case measure => simp [intOf]; omega
        · have t4 : (U != 0) = true := bne_iff_ne.2 g4
          have t5 : decide (U = 0) = false := decide_eq_false g4
          have NN := hid (NO.out _ BV3.out (fun h => g4 (h.2 rfl)))
          have G4 := hid g4
          clear NO YE BV3 KV3 g4
          go_wp2_with fail
          go_ret
          exact NN.out
    · obtain rfl : j = vn := by omega
      have HE3 := hid (show r = decide (∀ i, i < rn → rowB j (nm i) (gr i) (ki i) (bo i) (tn i) (v i) (cf i) = true) by rw [HE2.out, decide_eq_true hz.out.1, Bool.true_and])
      have S2 := hid (show AllP w [.slice V0 j vc, .slice R0 rn rc] (fun i => rowB j (nm i) (gr i) (ki i) (bo i) (tn i) (v i) (cf i) = true) 0 wr from ⟨fun i hi => absurd hi (by omega), hz.out.2⟩)
      obtain ⟨z0, z1⟩ := blk_two hz.out.2.2
      clear hz HT HE2 hge hj
      go_wp2_with fail
      obtain ⟨wo, rfl⟩ : ∃ wo : World, wo = wr := ⟨_, rfl⟩
      go_loopw [5] (fun i wr => ∃ k : Nat, k ≤ rn ∧ i = .int .i64 k ∧ Hid (AllP w [.slice V0 j vc, .slice R0 rn rc] (fun i => rowB j (nm i) (gr i) (ki i) (bo i) (tn i) (v i) (cf i) = true) k wr)) (fun i _ => rn - (intOf i).toNat)
      case atStart => exact ⟨0, Nat.zero_le _, rfl, S2⟩
      case round =>
        clear S2 z0 z1
        obtain ⟨k, hk, rfl, hz⟩ := hrel
        obtain ⟨y0, y1⟩ := blk_two hz.out.2.2
        rcases Nat.lt_or_ge k rn with hlt | hge
        · obtain ⟨b, o, rfl, hb, hcell⟩ := HR.out.2.2.2 (by omega)
          obtain ⟨_, _, _, hTs⟩ := HR.out.2.2.1 k hlt
          have x0 := cell_bx (hcell k hlt).1 hz.out.2.1
          have x1 := cell_bx (hcell k hlt).2.1 hz.out.2.1
          have x2 := cell_bx (hcell k hlt).2.2.1 hz.out.2.1
          have x3 := cell_bx (hcell k hlt).2.2.2.1 hz.out.2.1
          have x4 := cell_bx (hcell k hlt).2.2.2.2 hz.out.2.1
          obtain ⟨hk1, hk2, hk3, _⟩ := HR.out.2.2.1 k hlt
          have RW := hid (fun (W : World) (B : Below wr.heap.size wr W) => rvalidrow (nm k) (gr k) (ki k) (bo k) (TA k) (tn k) (tc k) j (v k) (cf k) W (hTs.keep (bx_call hz.out.2.1 B)) hk1 hk2 hk3 (HN.out k hlt) (by omega))
          have NO := hid (fun (W : World) (B : Below wr.heap.size wr W) (h : ¬rowB j (nm k) (gr k) (ki k) (bo k) (tn k) (v k) (cf k) = true) => vld_no (by rw [HE3.out, decide_eq_false fun g => h (g k hlt)] : r = false) (bx_call hz.out.2.1 B))
          have YE := hid (fun (W : World) (B : Below wr.heap.size wr W) (h : rowB j (nm k) (gr k) (ki k) (bo k) (tn k) (v k) (cf k) = true) => AllP.next hz.out h B)
          obtain ⟨q, hq⟩ : ∃ q, q = rowB j (nm k) (gr k) (ki k) (bo k) (tn k) (v k) (cf k) := ⟨_, rfl⟩
          rw [← hq] at RW NO
          have YE := hid (fun (W : World) (B : Below wr.heap.size wr W) (h : q = true) => YE.out W B (by rw [← hq]; exact h))
          clear hz HR HN HE3 hcell hTs hq hk1 hk2 hk3
          go_upto_region 12 with fail
          go_region_held3 (fun W => (W.cell? ⟨w.heap.size, 0, none⟩ = some (.slice V0 j vc) ∧ W.cell? ⟨w.heap.size, 1, none⟩ = some (.slice (some ⟨b, o, none⟩) rn rc)) ∧ (W.cell? ⟨b, o + k * 5, none⟩ = some (.string (nm k)) ∧ W.cell? ⟨b, o + k * 5 + 1, none⟩ = some (.int .i64 (gr k)) ∧ W.cell? ⟨b, o + k * 5 + 2, none⟩ = some (.int .i64 (ki k)) ∧ W.cell? ⟨b, o + k * 5 + 3, none⟩ = some (.slice (TA k) (tn k) (tc k)) ∧ W.cell? ⟨b, o + k * 5 + 4, none⟩ = some (.int .i64 (bo k))))
            (refine ⟨⟨?_, ?_⟩, ⟨?_, ?_, ?_, ?_, ?_⟩⟩ <;> repeat' (first | with_reducible assumption | with_reducible refine cell_dr ?_))
            (first | (go_at_call 10; refine (RW.out _ (bx_drew (bx_refl _))).mono ?_; rintro e w1 ⟨rfl, b1⟩; have p0 := cell_bx (cell_dr y0) b1; have p1 := cell_bx (cell_dr y1) b1; have q0 := cell_bx (cell_dr x0) b1; have q1 := cell_bx (cell_dr x1) b1; have q2 := cell_bx (cell_dr x2) b1; have q3 := cell_bx (cell_dr x3) b1; have q4 := cell_bx (cell_dr x4) b1; have B2 := hid (bx_call (bx_drew (bx_refl _)) b1); clear b1))
          clear RW x0 x1 x2 x3 x4 y0 y1 p0 p1 q0 q1 q2 q3 q4
          cases q
          · have NN := hid (NO.out _ B2.out (by decide))
            clear NO YE B2
            go_wp2_with fail
            go_ret
            exact NN.out
          · have ZZ := hid (YE.out _ B2.out rfl)
            clear NO YE B2
            go_wp2_with fail
            go_roundw
            case rel => exact ⟨k + 1, by omega, by go_num, ZZ⟩
            case measure => simp [intOf]; omega
        · obtain rfl : k = rn := by omega
          have YY := hid (vld_yes (by rw [HE3.out, decide_eq_true hz.out.1] : r = true) hz.out.2.1)
          clear HR HN hz HE3
          go_wp2_with fail
          go_ret
          exact YY.out
def cmbI (tn : Nat → Nat) (v cf : Nat → Nat → Int) (y : Nat → Rat) (i t j : Nat) : Rat := cmbA i tn v cf y j + sumN (fun s => if v i s = (j : Int) then (cf i s : Rat) * y i else 0) t
theorem cmbI_zero (tn : Nat → Nat) (v cf : Nat → Nat → Int) (y : Nat → Rat) (i j : Nat) : cmbI tn v cf y i 0 j = cmbA i tn v cf y j := by
  show _ + (0 : Rat) = _; grind
theorem cmbI_in (tn : Nat → Nat) (v cf : Nat → Nat → Int) (y : Nat → Rat) (i t j : Nat) (h : v i t = (j : Int)) : cmbI tn v cf y i (t + 1) j = cmbI tn v cf y i t j + (cf i t : Rat) * y i := by
  show cmbA i tn v cf y j + (sumN _ t + (if v i t = (j : Int) then (cf i t : Rat) * y i else 0)) = cmbA i tn v cf y j + sumN _ t + _
  rw [if_pos h]; grind
theorem cmbI_out (tn : Nat → Nat) (v cf : Nat → Nat → Int) (y : Nat → Rat) (i t j : Nat) (h : v i t ≠ (j : Int)) : cmbI tn v cf y i (t + 1) j = cmbI tn v cf y i t j := by
  show cmbA i tn v cf y j + (sumN _ t + (if v i t = (j : Int) then (cf i t : Rat) * y i else 0)) = cmbA i tn v cf y j + sumN _ t
  rw [if_neg h]; grind
theorem part_lq {v cf : Nat → Int} {y : Rat} {k t : Nat} (j : Nat) (hy : LQ k y) (hk : 1 ≤ k) (hc : ∀ s, s < t → -9223372036854775808 ≤ cf s ∧ cf s ≤ 9223372036854775807) : LQ (t * (k + 3) + 1) (sumN (fun s => if v s = (j : Int) then (cf s : Rat) * y else 0) t) := by
  have := sumN_lq (f := fun s => if v s = (j : Int) then (cf s : Rat) * y else 0) (k := k + 2) (n := t) (fun s hs => by
    show LQ (k + 2) (if v s = (j : Int) then (cf s : Rat) * y else 0)
    split
    · exact (LQ_mul (LQ_int (hc s hs).1 (hc s hs).2) hy).up (by omega)
    · exact LQ_zero.up (by omega))
  exact this
theorem cmbA_lq {rn m : Nat} {tn : Nat → Nat} {v cf : Nat → Nat → Int} {y : Nat → Rat} {k : Nat} (j : Nat) (hy : ∀ i, LQ k (y i)) (hk : 1 ≤ k) (ht : ∀ i, i < rn → tn i ≤ m) (hc : ∀ i, i < rn → ∀ s, s < tn i → -9223372036854775808 ≤ cf i s ∧ cf i s ≤ 9223372036854775807) : LQ (rn * (m * (k + 3) + 1 + 1) + 1) (cmbA rn tn v cf y j) :=
  sumN_lq fun i hi => (part_lq j (hy i) hk (hc i hi)).up (Nat.add_le_add_right (Nat.mul_le_mul_right _ (ht i hi)) 1)
section
variable {w W W' : World} {cs : List Value} {rb bb Cb vn : Nat} {g : Bool} {A : Option Addr} {n c : Nat} {D : Option Addr} {m d : Nat} {b : Rat} {f : Nat → Rat}
theorem BoP.sum (h : BoP w cs rb bb Cb vn g A n c D m d b f W) (h1 : w.heap.size < bb) (h2 : rb ≠ bb) (h3 : Cb ≠ bb) {g1 : Bool} {A1 : Option Addr} {n1 c1 : Nat} {D1 : Option Addr} {m1 d1 : Nat} {q : Rat} (r : FrV W g1 A1 n1 c1 D1 m1 d1 1100000 q) :
    BoP w cs rb bb Cb vn g1 A1 n1 c1 D1 m1 d1 q f (((W.setCell ⟨bb, 0, none⟩ (.bool g1)).setCell ⟨bb, 1, none⟩ (.slice A1 n1 c1)).setCell ⟨bb, 2, none⟩ (.slice D1 m1 d1)) :=
  ⟨bx_set (bx_set (bx_set h.bel (by omega)) (by omega)) (by omega), ((h.box.far (by omega) _).far (by omega) _).far (by omega) _, ((h.res.far h2 _).far h2 _).far h2 _, ((h.bnd.set_ 0 _).set_ 1 _).set_ 2 _, frv_far3 r h.bnd _ _ _, h.qb.far3 h.bnd h3 _ _ _⟩
end
theorem retcm_drew {w w' : World} {vn k : Nat} {f : Nat → Rat} {q : Rat} {e : Ending} (h : RetCm w vn k f q e w') : RetCm w vn k f q e w'.drew := by
  obtain ⟨Cb, g, A, n, c, D, m, d, h1, h2, h3, h4, h5⟩ := h
  exact ⟨Cb, g, A, n, c, D, m, d, h1, h2.keep (bx_drew (bx_refl _)), h3.keep (bx_drew (bx_refl _)), h4, bx_call h5 (bx_drew (bx_refl _))⟩
set_option maxHeartbeats 16000000 in
theorem rcombine (V0 : Option Addr) (vn vc : Nat) (R0 : Option Addr) (rn rc : Nat) (nm : Nat → ByteArray) (gr ki bo : Nat → Int) (TA : Nat → Option Addr) (tn tc : Nat → Nat) (v cf : Nat → Nat → Int) (A : Option Addr) (n c k : Nat) (qs : Nat → Rat) (w : World) (hvn : vn ≤ 1000) (hrn : rn ≤ 100) (hR : Rs w R0 rn rc nm gr ki bo TA tn tc v cf) (htn : ∀ i, i < rn → tn i ≤ 100) (hQ : Qs w A n c k qs) (hk : k ≤ 100) :
    Calls Tryz.prog 95 #[.agg #[.slice V0 vn vc, .slice R0 rn rc], .slice A n c] w (RetCm w vn 1100003 (cmbA rn tn v cf (fun i : Nat => atQ n qs (i : Int))) (cmbB rn bo (fun i : Nat => atQ n qs (i : Int)))) := by
  have hd := hR.1
  have hd2 := hR.2.1
  have hk1 := hQ.2.2.1
  obtain ⟨y, hy⟩ : ∃ y : Nat → Rat, y = fun i : Nat => atQ n qs (i : Int) := ⟨_, rfl⟩
  rw [← hy]
  have LY : ∀ i, LQ k (y i) := fun i => by rw [hy]; exact atQ_lq hQ i
  have cb : ∀ i, i < rn → ∀ s, s < tn i → -9223372036854775808 ≤ cf i s ∧ cf i s ≤ 9223372036854775807 := fun i hi s hs => ((hR.2.2.1 i hi).2.2.2.2.2.1 s hs).2
  have LI := hid (fun (i t j : Nat) (hi : i < rn) (ht : t ≤ tn i) => (show LQ 1100003 (cmbI tn v cf y i t j) by
    have h1 := cmbA_lq (rn := i) (m := 100) (v := v) (cf := cf) (tn := tn) j LY hk1 (fun a ha => htn a (by omega)) (fun a ha => cb a (by omega))
    have h2 := part_lq (v := v i) (t := t) j (LY i) hk1 (fun s hs => cb i hi s (by omega))
    have h3 := htn i hi
    have e1 : i * (100 * (k + 3) + 1 + 1) ≤ 100 * (100 * 103 + 2) := Nat.mul_le_mul (by omega) (by omega)
    have e2 : t * (k + 3) ≤ 100 * 103 := Nat.mul_le_mul (by omega) (by omega)
    exact (LQ_add h1 h2).up (by omega)))
  have LB := hid (fun (i : Nat) (hi : i ≤ rn) => (show LQ 1100000 (cmbB i bo y) by
    have := sumN_lq (f := fun i => (bo i : Rat) * y i) (k := 2 + k) (n := i) (fun a ha => LQ_mul (LQ_int (hR.2.2.1 a (by omega)).2.1.1 (hR.2.2.1 a (by omega)).2.1.2) (LY a))
    have e1 : i * (2 + k + 1) ≤ 100 * 103 := Nat.mul_le_mul (by omega) (by omega)
    exact LQ.up this (by omega)))
  have AT0 := hid (fun (W : World) (b : Below w.heap.size w W) (i : Nat) => (show Calls Tryz.prog 13 #[.slice A n c, .int .i64 (i : Int)] W (RetV W (y i) k) by rw [hy]; exact qat A n c k qs (i : Int) W (hQ.keep b)))
  have TM0 := hid (fun (W : World) (z : Int) (h1 : -9223372036854775808 ≤ z) (h2 : z ≤ 9223372036854775807) (q : Rat) (g1 : Bool) (A1 : Option Addr) (n1 c1 : Nat) (D1 : Option Addr) (m1 d1 : Nat) (L : FrV W g1 A1 n1 c1 D1 m1 d1 k q) => vtimes z g1 A1 n1 c1 D1 m1 d1 k q W h1 h2 L (by omega))
  have AD0 := hid (fun (W : World) (K : Nat) (hK : K ≤ 1100003) (hKk : k + 2 ≤ K) (p q : Rat) (hl : LQ K (p + q)) (g1 : Bool) (A1 : Option Addr) (n1 c1 : Nat) (D1 : Option Addr) (m1 d1 : Nat) (L : FrV W g1 A1 n1 c1 D1 m1 d1 K p) (A2 : Option Addr) (n2 c2 : Nat) (D2 : Option Addr) (m2 d2 : Nat) (M : FrL W A2 n2 c2 D2 m2 d2 (2 + k) q) => (vradd g1 A1 n1 c1 D1 m1 d1 (sg q.num) A2 n2 c2 D2 m2 d2 K p q W L (M.v.up (by omega)) (by omega)).mono fun _ _ r => RetQ.fit r hl)
  obtain ⟨W0, hW⟩ : ∃ W, W = (w.alloc (.cells #[.slice V0 vn vc, .slice R0 rn rc] 25)).alloc (.cells #[.bool false, .slice none 0 0, .slice none 0 0] 31) := ⟨_, rfl⟩
  have B0 := bx_alloc (bx_alloc (bx_refl w) (.cells #[.slice V0 vn vc, .slice R0 rn rc] 25)) (.cells #[.bool false, .slice none 0 0, .slice none 0 0] 31)
  have K0 := (Blk.new w [.slice V0 vn vc, .slice R0 rn rc] 25).alloc (.cells #[.bool false, .slice none 0 0, .slice none 0 0] 31)
  have K1 := blk_new1 w (.cells #[.slice V0 vn vc, .slice R0 rn rc] 25) [.bool false, .slice none 0 0, .slice none 0 0] 31
  have hz : W0.heap.size = w.heap.size + 2 := by rw [hW]; simp
  change Blk ((w.alloc (.cells #[.slice V0 vn vc, .slice R0 rn rc] 25)).alloc (.cells #[.bool false, .slice none 0 0, .slice none 0 0] 31)) _ _ _ at K0 K1
  rw [← hW] at B0 K0 K1
  obtain ⟨z0, z1⟩ := blk_two K0
  have hmk := run_make_rats vn (by omega)
  obtain ⟨WB, hWB⟩ : ∃ W, W = (W0.alloc (.cells (qzs vn).toArray 31)).alloc (.cells #[.bool false, .slice none 0 0, .slice none 0 0] 31) := ⟨_, rfl⟩
  have QQ := (QB.start W0 vn (k := 1100003) (by omega)).keep (bx_alloc (bx_refl _) (.cells #[.bool false, .slice none 0 0, .slice none 0 0] 31))
  have KS := blk_new1 W0 (.cells (qzs vn).toArray 31) [.bool false, .slice none 0 0, .slice none 0 0] 31
  have BA := bx_alloc (bx_alloc (bx_refl W0) (.cells (qzs vn).toArray 31)) (.cells #[.bool false, .slice none 0 0, .slice none 0 0] 31)
  change Blk ((W0.alloc (.cells (qzs vn).toArray 31)).alloc (.cells #[.bool false, .slice none 0 0, .slice none 0 0] 31)) _ _ _ at KS
  rw [← hWB] at QQ KS BA
  have ST := hid (show BoP w [.slice V0 vn vc, .slice R0 rn rc] (w.heap.size + 1) (W0.heap.size + 1) W0.heap.size vn false none 0 0 none 0 0 (cmbB 0 bo y) (fun j => cmbA 0 tn v cf y j) WB from ⟨bx_call B0 BA, K0.keep BA, K1.keep BA, KS, FrV.zero _ (by omega), QQ⟩)
  have HR := hid hR
  have HT := hid htn
  have hs1 : w.heap.size < W0.heap.size := by omega
  have hs2 : w.heap.size + 1 ≠ W0.heap.size := by omega
  have hs3 : W0.heap.size + 1 ≠ W0.heap.size := by omega
  have hs4 : w.heap.size < W0.heap.size + 1 := by omega
  have hs5 : w.heap.size + 1 ≠ W0.heap.size + 1 := by omega
  have hs6 : W0.heap.size ≠ W0.heap.size + 1 := by omega
  clear hR htn hQ B0 K0 K1 KS BA QQ hy LY cb hz
  go_enter Tryz.func95, Tryz.ntmps95
  go_upto_region 1 with fail
  rw [← hW]
  clear hW
  go_upto_region 3 with (with_reducible rw [hmk])
  rw [← hWB]
  clear hWB z0 z1 hmk
  obtain ⟨Cb, hCb⟩ : ∃ x, x = W0.heap.size := ⟨_, rfl⟩
  rw [← hCb] at ST hs1 hs2 hs3 hs4 hs5 hs6 ⊢
  clear hCb
  go_wp2_with fail
  go_loopw [8] (fun i wr => ∃ j : Nat, j ≤ rn ∧ i = .int .i64 j ∧ Hid (∃ g1 A1 n1 c1 D1 m1 d1, BoP w [.slice V0 vn vc, .slice R0 rn rc] (w.heap.size + 1) (Cb + 1) Cb vn g1 A1 n1 c1 D1 m1 d1 (cmbB j bo y) (fun x => cmbA j tn v cf y x) wr)) (fun i _ => rn - (intOf i).toNat)
  case atStart => exact ⟨0, Nat.zero_le _, rfl, hid ⟨_, _, _, _, _, _, _, ST.out⟩⟩
  case round =>
    clear ST
    obtain ⟨i, hi, rfl, hz2⟩ := hrel
    obtain ⟨g1, A1, n1, c1, D1, m1, d1, Z0⟩ := hz2.out
    obtain ⟨z0, z1⟩ := blk_two Z0.box
    rcases Nat.lt_or_ge i rn with hlt | hge
    · obtain ⟨b, o, rfl, hb, hcell⟩ := HR.out.2.2.2 (by omega)
      obtain ⟨_, ⟨o1, o2⟩, _, hTs⟩ := HR.out.2.2.1 i hlt
      have x0 := cell_bx (hcell i hlt).1 Z0.bel
      have x1 := cell_bx (hcell i hlt).2.1 Z0.bel
      have x2 := cell_bx (hcell i hlt).2.2.1 Z0.bel
      have x3 := cell_bx (hcell i hlt).2.2.2.1 Z0.bel
      have x4 := cell_bx (hcell i hlt).2.2.2.2 Z0.bel
      have TS := hid hTs
      have ht1 := hTs.1
      have ht2 := hTs.2.1
      obtain ⟨W3, hW3⟩ : ∃ W, W = wr.alloc (.cells #[.string (nm i), .int .i64 (gr i), .int .i64 (ki i), .slice (TA i) (tn i) (tc i), .int .i64 (bo i)] 43) := ⟨_, rfl⟩
      have B1 := bx_alloc (bx_refl wr) (.cells #[.string (nm i), .int .i64 (gr i), .int .i64 (ki i), .slice (TA i) (tn i) (tc i), .int .i64 (bo i)] 43)
      have KT := Blk.new wr [.string (nm i), .int .i64 (gr i), .int .i64 (ki i), .slice (TA i) (tn i) (tc i), .int .i64 (bo i)] 43
      change Blk (wr.alloc (.cells #[.string (nm i), .int .i64 (gr i), .int .i64 (ki i), .slice (TA i) (tn i) (tc i), .int .i64 (bo i)] 43)) _ _ _ at KT
      rw [← hW3] at B1 KT
      have hrb1 : Cb ≠ wr.heap.size := by have := Z0.qb.lt; omega
      have hrb2 : Cb + 1 ≠ wr.heap.size := by have := Z0.bnd.lt; omega
      have hrb3 : w.heap.size < wr.heap.size := Z0.box.lt
      obtain ⟨rb, hrb⟩ : ∃ x, x = wr.heap.size := ⟨_, rfl⟩
      rw [← hrb] at KT hrb1 hrb2 hrb3
      have SI := hid (show BoP w [.slice V0 vn vc, .slice (some ⟨b, o, none⟩) rn rc] (w.heap.size + 1) (Cb + 1) Cb vn g1 A1 n1 c1 D1 m1 d1 (cmbB i bo y) (fun x => cmbI tn v cf y i 0 x) W3 ∧ Blk W3 rb [.string (nm i), .int .i64 (gr i), .int .i64 (ki i), .slice (TA i) (tn i) (tc i), .int .i64 (bo i)] 43 from ⟨(Z0.keep B1).congr fun j _ => (cmbI_zero tn v cf y i j).symm, KT⟩)
      clear hz2 Z0 hcell hTs B1 KT
      go_upto_region 7 with fail
      rw [← hW3, ← hrb]
      clear hW3 hrb x0 x1 x2 x3 x4 z0 z1
      go_wp2_with fail
      obtain ⟨wo, rfl⟩ : ∃ wo : World, wo = wr := ⟨_, rfl⟩
      go_loopw [10] (fun u wr => ∃ t : Nat, t ≤ tn i ∧ u = .int .i64 t ∧ Hid (BoP w [.slice V0 vn vc, .slice (some ⟨b, o, none⟩) rn rc] (w.heap.size + 1) (Cb + 1) Cb vn g1 A1 n1 c1 D1 m1 d1 (cmbB i bo y) (fun x => cmbI tn v cf y i t x) wr ∧ Blk wr rb [.string (nm i), .int .i64 (gr i), .int .i64 (ki i), .slice (TA i) (tn i) (tc i), .int .i64 (bo i)] 43)) (fun u _ => tn i - (intOf u).toNat)
      case atStart => exact ⟨0, Nat.zero_le _, rfl, SI⟩
      case round =>
        clear SI
        obtain ⟨t, ht, rfl, hz3⟩ := hrel
        obtain ⟨r0, r1, r2, r3, r4⟩ := blk_five hz3.out.2
        rcases Nat.lt_or_ge t (tn i) with hlt2 | hge2
        · obtain ⟨bt, ot, hTA, hbt, hct⟩ := TS.out.2.2.2 (by omega)
          obtain ⟨⟨l1, l2⟩, l3, l4⟩ := TS.out.2.2.1 t hlt2
          have s0 := cell_bx (hct t hlt2).1 hz3.out.1.bel
          have s1 := cell_bx (hct t hlt2).2 hz3.out.1.bel
          have hbC : bt ≠ Cb := by omega
          have EQ := hid (fun (j : Nat) (h : v i t = (j : Int)) => cmbI_in tn v cf y i t j h)
          have EN := hid (fun (j : Nat) (h : v i t ≠ (j : Int)) => cmbI_out tn v cf y i t j h)
          have LI1 := hid (fun j => LI.out i (t + 1) j hlt (by omega))
          obtain ⟨V, hV⟩ : ∃ V, V = v i t := ⟨_, rfl⟩
          obtain ⟨C, hC⟩ : ∃ C, C = cf i t := ⟨_, rfl⟩
          rw [← hV] at s0 l1 l2 EQ EN
          rw [← hC] at s1 l3 l4 EQ
          rw [hTA] at r3
          have AT := hid (fun W b => AT0.out W b i)
          have TM := hid (fun W q g1 A1 n1 c1 D1 m1 d1 L => TM0.out W C l3 l4 q g1 A1 n1 c1 D1 m1 d1 L)
          have NXN := hid (fun (h : ∀ j, j < vn → V ≠ (j : Int)) => (show BoP w [.slice V0 vn vc, .slice (some ⟨b, o, none⟩) rn rc] (w.heap.size + 1) (Cb + 1) Cb vn g1 A1 n1 c1 D1 m1 d1 (cmbB i bo y) (fun x => cmbI tn v cf y i (t + 1) x) wr ∧ Blk wr rb [.string (nm i), .int .i64 (gr i), .int .i64 (ki i), .slice (TA i) (tn i) (tc i), .int .i64 (bo i)] 43 from ⟨hz3.out.1.congr fun j hj => (EN.out j (h j hj)).symm, hz3.out.2⟩))
          by_cases v1 : 0 ≤ V
          case neg =>
            have t1 : decide (0 ≤ V) = false := decide_eq_false v1
            have ZZ := hid (NXN.out (fun j _ => by omega))
            clear NXN hz3 EQ EN LI1 AT TM hV hC hTA hct TS
            go_wp2_with fail
            go_roundw
            case rel => exact ⟨t + 1, by omega, by go_num, ZZ⟩
            case measure => simp [intOf]; omega
          by_cases v2 : V < (vn : Int)
          case neg =>
            have t1 : decide (0 ≤ V) = true := decide_eq_true v1
            have t2 : decide (V < (vn : Int)) = false := decide_eq_false v2
            have ZZ := hid (NXN.out (fun j _ => by omega))
            clear NXN hz3 EQ EN LI1 AT TM hV hC hTA hct TS
            go_wp2_with fail
            go_roundw
            case rel => exact ⟨t + 1, by omega, by go_num, ZZ⟩
            case measure => simp [intOf]; omega
          obtain ⟨jv, hjv⟩ : ∃ jv : Nat, V = (jv : Int) := ⟨V.toNat, by omega⟩
          have hjn : jv < vn := by omega
          have t1 : decide ((0 : Int) ≤ (jv : Int)) = true := decide_eq_true (by omega)
          have t2 : decide ((jv : Int) < (vn : Int)) = true := decide_eq_true (by omega)
          have EJ := hid (EQ.out jv hjv)
          have NXT := hid (fun (W : World) (Z : BoP w [.slice V0 vn vc, .slice (some ⟨b, o, none⟩) rn rc] (w.heap.size + 1) (Cb + 1) Cb vn g1 A1 n1 c1 D1 m1 d1 (cmbB i bo y) (fun x => cmbI tn v cf y i t x) W) (KR : Blk W rb [.string (nm i), .int .i64 (gr i), .int .i64 (ki i), .slice (TA i) (tn i) (tc i), .int .i64 (bo i)] 43) (g2 : Bool) (A2 : Option Addr) (n2 c2 : Nat) (D2 : Option Addr) (m2 d2 : Nat) (r : FrV W g2 A2 n2 c2 D2 m2 d2 1100003 (cmbI tn v cf y i (t + 1) jv)) => (show BoP w [.slice V0 vn vc, .slice (some ⟨b, o, none⟩) rn rc] (w.heap.size + 1) (Cb + 1) Cb vn g1 A1 n1 c1 D1 m1 d1 (cmbB i bo y) (fun x => cmbI tn v cf y i (t + 1) x) (((W.setCell ⟨Cb, jv * 3, none⟩ (.bool g2)).setCell ⟨Cb, jv * 3 + 1, none⟩ (.slice A2 n2 c2)).setCell ⟨Cb, jv * 3 + 2, none⟩ (.slice D2 m2 d2)) ∧ Blk (((W.setCell ⟨Cb, jv * 3, none⟩ (.bool g2)).setCell ⟨Cb, jv * 3 + 1, none⟩ (.slice A2 n2 c2)).setCell ⟨Cb, jv * 3 + 2, none⟩ (.slice D2 m2 d2)) rb [.string (nm i), .int .i64 (gr i), .int .i64 (ki i), .slice (TA i) (tn i) (tc i), .int .i64 (bo i)] 43 from
            ⟨(Z.store hs1 hs2 hs3 hjn r).congr fun x _ => by
              by_cases e : x = jv
              · rw [if_pos e, e]
              · rw [if_neg e]
                exact (EN.out x (by omega)).symm, ((KR.far (Ne.symm hrb1) _).far (Ne.symm hrb1) _).far (Ne.symm hrb1) _⟩))
          have Z1 := hid hz3.out
          obtain ⟨gj, Aj, nj, cj, Dj, mj, dj, y0, y1, y2, FJ⟩ := hz3.out.1.qb.get hjn
          subst hjv
          obtain ⟨fj, hfj⟩ : ∃ q, q = cmbI tn v cf y i t jv := ⟨_, rfl⟩
          obtain ⟨fk, hfk⟩ : ∃ q, q = cmbI tn v cf y i (t + 1) jv := ⟨_, rfl⟩
          obtain ⟨yi, hyi⟩ : ∃ q, q = y i := ⟨_, rfl⟩
          have LK := hid (LI1.out jv)
          have FF := hid (show FrV wr gj Aj nj cj Dj mj dj 1100003 (cmbI tn v cf y i t jv) from FJ)
          rw [← hfk] at NXT LK EJ
          rw [← hfj] at FF EJ
          rw [← hyi] at AT EJ
          have AD := hid (fun (W : World) (L : FrV W gj Aj nj cj Dj mj dj 1100003 fj) (A2 : Option Addr) (n2 c2 : Nat) (D2 : Option Addr) (m2 d2 : Nat) (M : FrL W A2 n2 c2 D2 m2 d2 (2 + k) ((C : Rat) * yi)) => (show Calls Tryz.prog 89 #[.agg #[.bool gj, .slice Aj nj cj, .slice Dj mj dj], .agg #[.bool (sg ((C : Rat) * yi).num), .slice A2 n2 c2, .slice D2 m2 d2]] W (RetQ W fk 1100003) by
            rw [EJ.out]
            exact AD0.out W 1100003 (by omega) (by omega) fj ((C : Rat) * yi) (by rw [← EJ.out]; exact LK.out) gj Aj nj cj Dj mj dj L A2 n2 c2 D2 m2 d2 M))
          obtain ⟨cq, hcq⟩ : ∃ q, q = (C : Rat) * yi := ⟨_, rfl⟩
          have TM1 := hid (fun W g1 A1 n1 c1 D1 m1 d1 L => TM.out W yi g1 A1 n1 c1 D1 m1 d1 L)
          rw [← hcq] at AD TM1
          clear hz3 EQ EN LI1 TM hV hC hct TS NXN hfj hfk hyi LK EJ FJ hcq
          go_upto_region 12 with fail
          (try simp only [List.append_eq, List.cons_append, List.nil_append])
          refine wp_region_noPanic ?_
          refine wp_region_held_drew (S := (fun W => W.cell? ⟨rb, 3, none⟩ = some (.slice (some ⟨bt, ot, none⟩) (tn i) (tc i)) ∧ W.cell? ⟨bt, ot + t * 2 + 1, none⟩ = some (.int .i64 C))) (by kernel_rfl) ?_ (fun hH => ?_)
          · exact ⟨cell_dr r3, cell_dr s1⟩
          refine tk 0 hH ?_
          (try simp only [Act.put, gy0, gy1, gy2])
          refine tk 1 hH ?_
          (try simp only [Act.put, gy0, gy1, gy2])
          refine tk 2 hH ?_
          (try simp only [Act.put, gy0, gy1, gy2])
          refine tk 3 hH ?_
          (try simp only [Act.put, gy0, gy1, gy2])
          refine tk 4 hH ?_
          (try simp only [Act.put, gy0, gy1, gy2])
          refine tk 6 hH ?_
          (try simp only [Act.put, gy0, gy1, gy2])
          refine tk 7 hH ?_
          (try simp only [Act.put, gy0, gy1, gy2])
          refine tk 8 hH ?_
          (try simp only [Act.put, gy0, gy1, gy2])
          refine tk 9 hH ?_
          (try simp only [Act.put, gy0, gy1, gy2])
          refine tk 10 hH ?_
          (try simp only [Act.put, gy0, gy1, gy2])
          refine tk 11 hH ?_
          (try simp only [Act.put, gy0, gy1, gy2])
          refine tk 12 hH ?_
          (try simp only [Act.put, gy0, gy1, gy2])
          refine tk 13 hH ?_
          (try simp only [Act.put, gy0, gy1, gy2])
          refine wpAnyH_ready (rs := [5, 14]) (by kernel_rfl) (by simp) ?_
          refine rdy (fun K hK => ?_) ?_
          go_simp
          refine hK.out _ _ hH (fun hH2 => ?_)
          clear hK K hH
          have hH := hH2
          clear hH2
          (try simp only [Act.put, gy0, gy1, gy2])
          refine wpAnyH_ready (rs := [14]) (by kernel_rfl) (by simp) ?_
          refine rdy (fun K hK => ?_) ?_
          go_simp
          refine (AT.out _ (bx_call Z1.out.1.bel (bx_drew (bx_refl _)))).mono ?_
          rintro e w1 ⟨ga, Aa, na, ca, Da, ma, da, rfl, r, b⟩
          have y0_1 := cell_bx (cell_dr y0) b
          have y1_1 := cell_bx (cell_dr y1) b
          have y2_1 := cell_bx (cell_dr y2) b
          have r3_1 := cell_bx (cell_dr r3) b
          have s1_1 := cell_bx (cell_dr s1) b
          have Z_1 := hid (And.intro (Z1.out.1.keep (bx_call (bx_drew (bx_refl _)) b)) (Z1.out.2.keep (bx_call (bx_drew (bx_refl _)) b)))
          have F_1 := hid (FF.out.keep (bx_call (bx_drew (bx_refl _)) b))
          have R1 := hid r
          clear r b hH
          (try go_wp2_with fail)
          refine hK.out _ _ ?_ (fun hH => ?_)
          · exact ⟨r3_1, s1_1⟩
          clear hK K
          (try simp only [Act.put, gy0, gy1, gy2])
          refine wpAnyH_ready (rs := [15]) (by kernel_rfl) (by simp) ?_
          refine rdy (fun K hK => ?_) ?_
          go_simp
          refine (TM1.out _ ga Aa na ca Da ma da R1.out).mono ?_
          rintro e w2 ⟨Ab, nb, cb, Db, mb, db, rfl, r, b⟩
          have y0_2 := cell_bx y0_1 b
          have y1_2 := cell_bx y1_1 b
          have y2_2 := cell_bx y2_1 b
          have r3_2 := cell_bx r3_1 b
          have s1_2 := cell_bx s1_1 b
          have Z_2 := hid (And.intro (Z_1.out.1.keep b) (Z_1.out.2.keep b))
          have F_2 := hid (F_1.out.keep b)
          have R2 := hid r
          clear r b hH
          (try go_wp2_with fail)
          refine hK.out _ _ ?_ (fun hH => ?_)
          · exact ⟨r3_2, s1_2⟩
          clear hK K
          (try simp only [Act.put, gy0, gy1, gy2])
          refine wpAnyH_ready (rs := [16]) (by kernel_rfl) (by simp) ?_
          refine rdy (fun K hK => ?_) ?_
          go_simp
          refine (AD.out _ F_2.out Ab nb cb Db mb db R2.out).mono ?_
          rintro e w3 ⟨Ac, nc, cc, Dc, mc, dc, rfl, r, b⟩
          have y0_3 := cell_bx y0_2 b
          have y1_3 := cell_bx y1_2 b
          have y2_3 := cell_bx y2_2 b
          have r3_3 := cell_bx r3_2 b
          have s1_3 := cell_bx s1_2 b
          have Z_3 := hid (And.intro (Z_2.out.1.keep b) (Z_2.out.2.keep b))
          have F_3 := hid (F_2.out.keep b)
          have NN := hid (NXT.out _ Z_3.out.1 Z_3.out.2 _ _ _ _ _ _ _ r.v)
          have f0 := Z_3.out.1.qb.free (jv * 3)
          have f1 := Z_3.out.1.qb.free (jv * 3 + 1)
          have f2 := Z_3.out.1.qb.free (jv * 3 + 2)
          clear r b hH
          (try go_wp2_with fail)
          refine hK.out _ _ ?_ (fun hH => ?_)
          · exact ⟨r3_3, s1_3⟩
          clear hK K
          (try simp only [Act.put, gy0, gy1, gy2])
          refine tk 17 hH ?_
          (try simp only [Act.put, gy0, gy1, gy2])
          refine wpAnyH_ready (rs := [18]) (by kernel_rfl) (by simp) ?_
          refine rdy (fun K hK => ?_) ?_
          go_simp
          clear hH
          refine hK.out _ _ ?_ (fun hH => ?_)
          · exact ⟨cell_fr (cell_fr (cell_fr r3_3 (Ne.symm hrb1)) (Ne.symm hrb1)) (Ne.symm hrb1), cell_fr (cell_fr (cell_fr s1_3 hbC) hbC) hbC⟩
          clear hK K
          (try simp only [Act.put, gy0, gy1, gy2])
          refine wpAnyH_done (by kernel_rfl) ?_ _
          refine NoPanic.normal ?_
          clear hH
          rotate_left
          exact AllReadyH.nil
          exact AllReadyH.nil
          exact AllReadyH.nil
          exact AllReadyH.nil
          refine rdy (fun K hK => ?_) ?_
          go_simp
          refine (AT.out _ (bx_call Z1.out.1.bel (bx_drew (bx_refl _)))).mono ?_
          rintro e w1 ⟨ga, Aa, na, ca, Da, ma, da, rfl, r, b⟩
          have y0_1 := cell_bx (cell_dr y0) b
          have y1_1 := cell_bx (cell_dr y1) b
          have y2_1 := cell_bx (cell_dr y2) b
          have r3_1 := cell_bx (cell_dr r3) b
          have s1_1 := cell_bx (cell_dr s1) b
          have Z_1 := hid (And.intro (Z1.out.1.keep (bx_call (bx_drew (bx_refl _)) b)) (Z1.out.2.keep (bx_call (bx_drew (bx_refl _)) b)))
          have F_1 := hid (FF.out.keep (bx_call (bx_drew (bx_refl _)) b))
          have R1 := hid r
          clear r b hH
          (try go_wp2_with fail)
          refine hK.out _ _ ?_ (fun hH => ?_)
          · exact ⟨r3_1, s1_1⟩
          clear hK K
          (try simp only [Act.put, gy0, gy1, gy2])
          refine wpAnyH_ready (rs := [5, 15]) (by kernel_rfl) (by simp) ?_
          refine rdy (fun K hK => ?_) ?_
          go_simp
          refine hK.out _ _ hH (fun hH2 => ?_)
          clear hK K hH
          have hH := hH2
          clear hH2
          (try simp only [Act.put, gy0, gy1, gy2])
          refine wpAnyH_ready (rs := [15]) (by kernel_rfl) (by simp) ?_
          refine rdy (fun K hK => ?_) ?_
          go_simp
          refine (TM1.out _ ga Aa na ca Da ma da R1.out).mono ?_
          rintro e w2 ⟨Ab, nb, cb, Db, mb, db, rfl, r, b⟩
          have y0_2 := cell_bx y0_1 b
          have y1_2 := cell_bx y1_1 b
          have y2_2 := cell_bx y2_1 b
          have r3_2 := cell_bx r3_1 b
          have s1_2 := cell_bx s1_1 b
          have Z_2 := hid (And.intro (Z_1.out.1.keep b) (Z_1.out.2.keep b))
          have F_2 := hid (F_1.out.keep b)
          have R2 := hid r
          clear r b hH
          (try go_wp2_with fail)
          refine hK.out _ _ ?_ (fun hH => ?_)
          · exact ⟨r3_2, s1_2⟩
          clear hK K
          (try simp only [Act.put, gy0, gy1, gy2])
          refine wpAnyH_ready (rs := [16]) (by kernel_rfl) (by simp) ?_
          refine rdy (fun K hK => ?_) ?_
          go_simp
          refine (AD.out _ F_2.out Ab nb cb Db mb db R2.out).mono ?_
          rintro e w3 ⟨Ac, nc, cc, Dc, mc, dc, rfl, r, b⟩
          have y0_3 := cell_bx y0_2 b
          have y1_3 := cell_bx y1_2 b
          have y2_3 := cell_bx y2_2 b
          have r3_3 := cell_bx r3_2 b
          have s1_3 := cell_bx s1_2 b
          have Z_3 := hid (And.intro (Z_2.out.1.keep b) (Z_2.out.2.keep b))
          have F_3 := hid (F_2.out.keep b)
          have NN := hid (NXT.out _ Z_3.out.1 Z_3.out.2 _ _ _ _ _ _ _ r.v)
          have f0 := Z_3.out.1.qb.free (jv * 3)
          have f1 := Z_3.out.1.qb.free (jv * 3 + 1)
          have f2 := Z_3.out.1.qb.free (jv * 3 + 2)
          clear r b hH
          (try go_wp2_with fail)
          refine hK.out _ _ ?_ (fun hH => ?_)
          · exact ⟨r3_3, s1_3⟩
          clear hK K
          (try simp only [Act.put, gy0, gy1, gy2])
          refine tk 17 hH ?_
          (try simp only [Act.put, gy0, gy1, gy2])
          refine wpAnyH_ready (rs := [18]) (by kernel_rfl) (by simp) ?_
          refine rdy (fun K hK => ?_) ?_
          go_simp
          clear hH
          refine hK.out _ _ ?_ (fun hH => ?_)
          · exact ⟨cell_fr (cell_fr (cell_fr r3_3 (Ne.symm hrb1)) (Ne.symm hrb1)) (Ne.symm hrb1), cell_fr (cell_fr (cell_fr s1_3 hbC) hbC) hbC⟩
          clear hK K
          (try simp only [Act.put, gy0, gy1, gy2])
          refine wpAnyH_done (by kernel_rfl) ?_ _
          refine NoPanic.normal ?_
          clear hH
          rotate_left
          exact AllReadyH.nil
          exact AllReadyH.nil
          exact AllReadyH.nil
          refine rdy (fun K hK => ?_) ?_
          go_simp
          refine (TM1.out _ ga Aa na ca Da ma da R1.out).mono ?_
          rintro e w2 ⟨Ab, nb, cb, Db, mb, db, rfl, r, b⟩
          have y0_2 := cell_bx y0_1 b
          have y1_2 := cell_bx y1_1 b
          have y2_2 := cell_bx y2_1 b
          have r3_2 := cell_bx r3_1 b
          have s1_2 := cell_bx s1_1 b
          have Z_2 := hid (And.intro (Z_1.out.1.keep b) (Z_1.out.2.keep b))
          have F_2 := hid (F_1.out.keep b)
          have R2 := hid r
          clear r b hH
          (try go_wp2_with fail)
          refine hK.out _ _ ?_ (fun hH => ?_)
          · exact ⟨r3_2, s1_2⟩
          clear hK K
          (try simp only [Act.put, gy0, gy1, gy2])
          refine wpAnyH_ready (rs := [5]) (by kernel_rfl) (by simp) ?_
          refine rdy (fun K hK => ?_) ?_
          go_simp
          refine hK.out _ _ hH (fun hH2 => ?_)
          clear hK K hH
          have hH := hH2
          clear hH2
          (try simp only [Act.put, gy0, gy1, gy2])
          refine wpAnyH_ready (rs := [16]) (by kernel_rfl) (by simp) ?_
          refine rdy (fun K hK => ?_) ?_
          go_simp
          refine (AD.out _ F_2.out Ab nb cb Db mb db R2.out).mono ?_
          rintro e w3 ⟨Ac, nc, cc, Dc, mc, dc, rfl, r, b⟩
          have y0_3 := cell_bx y0_2 b
          have y1_3 := cell_bx y1_2 b
          have y2_3 := cell_bx y2_2 b
          have r3_3 := cell_bx r3_2 b
          have s1_3 := cell_bx s1_2 b
          have Z_3 := hid (And.intro (Z_2.out.1.keep b) (Z_2.out.2.keep b))
          have F_3 := hid (F_2.out.keep b)
          have NN := hid (NXT.out _ Z_3.out.1 Z_3.out.2 _ _ _ _ _ _ _ r.v)
          have f0 := Z_3.out.1.qb.free (jv * 3)
          have f1 := Z_3.out.1.qb.free (jv * 3 + 1)
          have f2 := Z_3.out.1.qb.free (jv * 3 + 2)
          clear r b hH
          (try go_wp2_with fail)
          refine hK.out _ _ ?_ (fun hH => ?_)
          · exact ⟨r3_3, s1_3⟩
          clear hK K
          (try simp only [Act.put, gy0, gy1, gy2])
          refine tk 17 hH ?_
          (try simp only [Act.put, gy0, gy1, gy2])
          refine wpAnyH_ready (rs := [18]) (by kernel_rfl) (by simp) ?_
          refine rdy (fun K hK => ?_) ?_
          go_simp
          clear hH
          refine hK.out _ _ ?_ (fun hH => ?_)
          · exact ⟨cell_fr (cell_fr (cell_fr r3_3 (Ne.symm hrb1)) (Ne.symm hrb1)) (Ne.symm hrb1), cell_fr (cell_fr (cell_fr s1_3 hbC) hbC) hbC⟩
          clear hK K
          (try simp only [Act.put, gy0, gy1, gy2])
          refine wpAnyH_done (by kernel_rfl) ?_ _
          refine NoPanic.normal ?_
          clear hH
          rotate_left
          exact AllReadyH.nil
          exact AllReadyH.nil
          exact AllReadyH.nil
          exact AllReadyH.nil
          exact AllReadyH.nil
          all_goals
            rw [← hTA] at *
            clear y0 y1 y2 r3 s1 y0_1 y1_1 y2_1 r3_1 s1_1 y0_2 y1_2 y2_2 r3_2 s1_2 y0_3 y1_3 y2_3 r3_3 s1_3 f0 f1 f2
            go_wp2_with fail
            go_roundw
            case rel => exact ⟨t + 1, by omega, by go_num, NN⟩
            case measure => simp [intOf]; omega
        · obtain rfl : t = tn i := by omega
          have Z1 := hid (show BoP w [.slice V0 vn vc, .slice (some ⟨b, o, none⟩) rn rc] (w.heap.size + 1) (Cb + 1) Cb vn g1 A1 n1 c1 D1 m1 d1 (cmbB i bo y) (fun x => cmbA (i + 1) tn v cf y x) wr from hz3.out.1)
          have NXT := hid (fun (W : World) (Z : BoP w [.slice V0 vn vc, .slice (some ⟨b, o, none⟩) rn rc] (w.heap.size + 1) (Cb + 1) Cb vn g1 A1 n1 c1 D1 m1 d1 (cmbB i bo y) (fun x => cmbA (i + 1) tn v cf y x) W) (g2 : Bool) (A2 : Option Addr) (n2 c2 : Nat) (D2 : Option Addr) (m2 d2 : Nat) (r : FrV W g2 A2 n2 c2 D2 m2 d2 1100000 (cmbB (i + 1) bo y)) => Z.sum hs4 hs5 hs6 r)
          have FF := hid hz3.out.1.fr
          have LK := hid (LB.out (i + 1) (by omega))
          have EJ := hid (show cmbB (i + 1) bo y = cmbB i bo y + (bo i : Rat) * y i from rfl)
          obtain ⟨y0, y1, y2⟩ := blk_three hz3.out.1.bnd
          have AT := hid (fun W b => AT0.out W b i)
          obtain ⟨fj, hfj⟩ : ∃ q, q = cmbB i bo y := ⟨_, rfl⟩
          obtain ⟨fk, hfk⟩ : ∃ q, q = cmbB (i + 1) bo y := ⟨_, rfl⟩
          obtain ⟨yi, hyi⟩ : ∃ q, q = y i := ⟨_, rfl⟩
          have HK := hid hfk
          rw [← hfk] at LK EJ NXT
          rw [← hfj] at FF EJ NXT Z1
          rw [← hyi] at AT EJ
          obtain ⟨C, hC⟩ : ∃ C, C = bo i := ⟨_, rfl⟩
          have TM := hid (fun W g1 A1 n1 c1 D1 m1 d1 L => TM0.out W (bo i) o1 o2 yi g1 A1 n1 c1 D1 m1 d1 L)
          rw [← hC] at r4 TM EJ
          have AD := hid (fun (W : World) (L : FrV W g1 A1 n1 c1 D1 m1 d1 1100000 fj) (A2 : Option Addr) (n2 c2 : Nat) (D2 : Option Addr) (m2 d2 : Nat) (M : FrL W A2 n2 c2 D2 m2 d2 (2 + k) ((C : Rat) * yi)) => (show Calls Tryz.prog 89 #[.agg #[.bool g1, .slice A1 n1 c1, .slice D1 m1 d1], .agg #[.bool (sg ((C : Rat) * yi).num), .slice A2 n2 c2, .slice D2 m2 d2]] W (RetQ W fk 1100000) by
            rw [EJ.out]
            exact AD0.out W 1100000 (by omega) (by omega) fj ((C : Rat) * yi) (by rw [← EJ.out]; exact LK.out) g1 A1 n1 c1 D1 m1 d1 L A2 n2 c2 D2 m2 d2 M))
          obtain ⟨cq, hcq⟩ : ∃ q, q = (C : Rat) * yi := ⟨_, rfl⟩
          rw [← hcq] at AD TM
          clear hz3 TS hfj hfk hyi LK EJ hC hcq
          go_upto_region 13 with fail
          (try simp only [List.append_eq, List.cons_append, List.nil_append])
          refine wp_region_noPanic ?_
          refine wp_region_held_drew (S := (fun W => W.cell? ⟨rb, 4, none⟩ = some (.int .i64 C))) (by kernel_rfl) ?_ (fun hH => ?_)
          · exact (cell_dr r4)
          refine tk 1 hH ?_
          (try simp only [Act.put, gy0, gy1, gy2])
          refine tk 2 hH ?_
          (try simp only [Act.put, gy0, gy1, gy2])
          refine tk 3 hH ?_
          (try simp only [Act.put, gy0, gy1, gy2])
          refine tk 4 hH ?_
          (try simp only [Act.put, gy0, gy1, gy2])
          refine wpAnyH_ready (rs := [0, 5]) (by kernel_rfl) (by simp) ?_
          refine rdy (fun K hK => ?_) ?_
          go_simp
          refine hK.out _ _ hH (fun hH2 => ?_)
          clear hK K hH
          have hH := hH2
          clear hH2
          (try simp only [Act.put, gy0, gy1, gy2])
          refine wpAnyH_ready (rs := [5]) (by kernel_rfl) (by simp) ?_
          refine rdy (fun K hK => ?_) ?_
          go_simp
          refine (AT.out _ (bx_call Z1.out.bel (bx_drew (bx_refl _)))).mono ?_
          rintro e w1 ⟨ga, Aa, na, ca, Da, ma, da, rfl, r, b⟩
          have y0_1 := cell_bx (cell_dr y0) b
          have y1_1 := cell_bx (cell_dr y1) b
          have y2_1 := cell_bx (cell_dr y2) b
          have r4_1 := cell_bx (cell_dr r4) b
          have Z_1 := hid (Z1.out.keep (bx_call (bx_drew (bx_refl _)) b))
          have F_1 := hid (FF.out.keep (bx_call (bx_drew (bx_refl _)) b))
          have R1 := hid r
          clear r b hH
          (try go_wp2_with fail)
          refine hK.out _ _ ?_ (fun hH => ?_)
          · exact r4_1
          clear hK K
          (try simp only [Act.put, gy0, gy1, gy2])
          refine wpAnyH_ready (rs := [6]) (by kernel_rfl) (by simp) ?_
          refine rdy (fun K hK => ?_) ?_
          go_simp
          refine (TM.out _ ga Aa na ca Da ma da R1.out).mono ?_
          rintro e w2 ⟨Ab, nb, cb, Db, mb, db, rfl, r, b⟩
          have y0_2 := cell_bx y0_1 b
          have y1_2 := cell_bx y1_1 b
          have y2_2 := cell_bx y2_1 b
          have r4_2 := cell_bx r4_1 b
          have Z_2 := hid (Z_1.out.keep b)
          have F_2 := hid (F_1.out.keep b)
          have R2 := hid r
          clear r b hH
          (try go_wp2_with fail)
          refine hK.out _ _ ?_ (fun hH => ?_)
          · exact r4_2
          clear hK K
          (try simp only [Act.put, gy0, gy1, gy2])
          refine wpAnyH_ready (rs := [7]) (by kernel_rfl) (by simp) ?_
          refine rdy (fun K hK => ?_) ?_
          go_simp
          refine (AD.out _ F_2.out Ab nb cb Db mb db R2.out).mono ?_
          rintro e w3 ⟨Ac, nc, cc, Dc, mc, dc, rfl, r, b⟩
          have y0_3 := cell_bx y0_2 b
          have y1_3 := cell_bx y1_2 b
          have y2_3 := cell_bx y2_2 b
          have r4_3 := cell_bx r4_2 b
          have Z_3 := hid (Z_2.out.keep b)
          have F_3 := hid (F_2.out.keep b)
          have NN := hid (NXT.out _ Z_3.out _ _ _ _ _ _ _ r.v)
          have f0 := Z_3.out.bnd.free 0
          have f1 := Z_3.out.bnd.free 1
          have f2 := Z_3.out.bnd.free 2
          clear r b hH
          (try go_wp2_with fail)
          refine hK.out _ _ ?_ (fun hH => ?_)
          · exact r4_3
          clear hK K
          (try simp only [Act.put, gy0, gy1, gy2])
          refine wpAnyH_ready (rs := [8]) (by kernel_rfl) (by simp) ?_
          refine rdy (fun K hK => ?_) ?_
          go_simp
          clear hH
          refine hK.out _ _ ?_ (fun hH => ?_)
          · exact (cell_fr (cell_fr (cell_fr r4_3 (Ne.symm hrb2)) (Ne.symm hrb2)) (Ne.symm hrb2))
          clear hK K
          (try simp only [Act.put, gy0, gy1, gy2])
          refine wpAnyH_done (by kernel_rfl) ?_ _
          refine NoPanic.normal ?_
          clear hH
          rotate_left
          exact AllReadyH.nil
          exact AllReadyH.nil
          exact AllReadyH.nil
          exact AllReadyH.nil
          refine rdy (fun K hK => ?_) ?_
          go_simp
          refine (AT.out _ (bx_call Z1.out.bel (bx_drew (bx_refl _)))).mono ?_
          rintro e w1 ⟨ga, Aa, na, ca, Da, ma, da, rfl, r, b⟩
          have y0_1 := cell_bx (cell_dr y0) b
          have y1_1 := cell_bx (cell_dr y1) b
          have y2_1 := cell_bx (cell_dr y2) b
          have r4_1 := cell_bx (cell_dr r4) b
          have Z_1 := hid (Z1.out.keep (bx_call (bx_drew (bx_refl _)) b))
          have F_1 := hid (FF.out.keep (bx_call (bx_drew (bx_refl _)) b))
          have R1 := hid r
          clear r b hH
          (try go_wp2_with fail)
          refine hK.out _ _ ?_ (fun hH => ?_)
          · exact r4_1
          clear hK K
          (try simp only [Act.put, gy0, gy1, gy2])
          refine wpAnyH_ready (rs := [0, 6]) (by kernel_rfl) (by simp) ?_
          refine rdy (fun K hK => ?_) ?_
          go_simp
          refine hK.out _ _ hH (fun hH2 => ?_)
          clear hK K hH
          have hH := hH2
          clear hH2
          (try simp only [Act.put, gy0, gy1, gy2])
          refine wpAnyH_ready (rs := [6]) (by kernel_rfl) (by simp) ?_
          refine rdy (fun K hK => ?_) ?_
          go_simp
          refine (TM.out _ ga Aa na ca Da ma da R1.out).mono ?_
          rintro e w2 ⟨Ab, nb, cb, Db, mb, db, rfl, r, b⟩
          have y0_2 := cell_bx y0_1 b
          have y1_2 := cell_bx y1_1 b
          have y2_2 := cell_bx y2_1 b
          have r4_2 := cell_bx r4_1 b
          have Z_2 := hid (Z_1.out.keep b)
          have F_2 := hid (F_1.out.keep b)
          have R2 := hid r
          clear r b hH
          (try go_wp2_with fail)
          refine hK.out _ _ ?_ (fun hH => ?_)
          · exact r4_2
          clear hK K
          (try simp only [Act.put, gy0, gy1, gy2])
          refine wpAnyH_ready (rs := [7]) (by kernel_rfl) (by simp) ?_
          refine rdy (fun K hK => ?_) ?_
          go_simp
          refine (AD.out _ F_2.out Ab nb cb Db mb db R2.out).mono ?_
          rintro e w3 ⟨Ac, nc, cc, Dc, mc, dc, rfl, r, b⟩
          have y0_3 := cell_bx y0_2 b
          have y1_3 := cell_bx y1_2 b
          have y2_3 := cell_bx y2_2 b
          have r4_3 := cell_bx r4_2 b
          have Z_3 := hid (Z_2.out.keep b)
          have F_3 := hid (F_2.out.keep b)
          have NN := hid (NXT.out _ Z_3.out _ _ _ _ _ _ _ r.v)
          have f0 := Z_3.out.bnd.free 0
          have f1 := Z_3.out.bnd.free 1
          have f2 := Z_3.out.bnd.free 2
          clear r b hH
          (try go_wp2_with fail)
          refine hK.out _ _ ?_ (fun hH => ?_)
          · exact r4_3
          clear hK K
          (try simp only [Act.put, gy0, gy1, gy2])
          refine wpAnyH_ready (rs := [8]) (by kernel_rfl) (by simp) ?_
          refine rdy (fun K hK => ?_) ?_
          go_simp
          clear hH
          refine hK.out _ _ ?_ (fun hH => ?_)
          · exact (cell_fr (cell_fr (cell_fr r4_3 (Ne.symm hrb2)) (Ne.symm hrb2)) (Ne.symm hrb2))
          clear hK K
          (try simp only [Act.put, gy0, gy1, gy2])
          refine wpAnyH_done (by kernel_rfl) ?_ _
          refine NoPanic.normal ?_
          clear hH
          rotate_left
          exact AllReadyH.nil
          exact AllReadyH.nil
          exact AllReadyH.nil
          refine rdy (fun K hK => ?_) ?_
          go_simp
          refine (TM.out _ ga Aa na ca Da ma da R1.out).mono ?_
          rintro e w2 ⟨Ab, nb, cb, Db, mb, db, rfl, r, b⟩
          have y0_2 := cell_bx y0_1 b
          have y1_2 := cell_bx y1_1 b
          have y2_2 := cell_bx y2_1 b
          have r4_2 := cell_bx r4_1 b
          have Z_2 := hid (Z_1.out.keep b)
          have F_2 := hid (F_1.out.keep b)
          have R2 := hid r
          clear r b hH
          (try go_wp2_with fail)
          refine hK.out _ _ ?_ (fun hH => ?_)
          · exact r4_2
          clear hK K
          (try simp only [Act.put, gy0, gy1, gy2])
          refine wpAnyH_ready (rs := [0]) (by kernel_rfl) (by simp) ?_
          refine rdy (fun K hK => ?_) ?_
          go_simp
          refine hK.out _ _ hH (fun hH2 => ?_)
          clear hK K hH
          have hH := hH2
          clear hH2
          (try simp only [Act.put, gy0, gy1, gy2])
          refine wpAnyH_ready (rs := [7]) (by kernel_rfl) (by simp) ?_
          refine rdy (fun K hK => ?_) ?_
          go_simp
          refine (AD.out _ F_2.out Ab nb cb Db mb db R2.out).mono ?_
          rintro e w3 ⟨Ac, nc, cc, Dc, mc, dc, rfl, r, b⟩
          have y0_3 := cell_bx y0_2 b
          have y1_3 := cell_bx y1_2 b
          have y2_3 := cell_bx y2_2 b
          have r4_3 := cell_bx r4_2 b
          have Z_3 := hid (Z_2.out.keep b)
          have F_3 := hid (F_2.out.keep b)
          have NN := hid (NXT.out _ Z_3.out _ _ _ _ _ _ _ r.v)
          have f0 := Z_3.out.bnd.free 0
          have f1 := Z_3.out.bnd.free 1
          have f2 := Z_3.out.bnd.free 2
          clear r b hH
          (try go_wp2_with fail)
          refine hK.out _ _ ?_ (fun hH => ?_)
          · exact r4_3
          clear hK K
          (try simp only [Act.put, gy0, gy1, gy2])
          refine wpAnyH_ready (rs := [8]) (by kernel_rfl) (by simp) ?_
          refine rdy (fun K hK => ?_) ?_
          go_simp
          clear hH
          refine hK.out _ _ ?_ (fun hH => ?_)
          · exact (cell_fr (cell_fr (cell_fr r4_3 (Ne.symm hrb2)) (Ne.symm hrb2)) (Ne.symm hrb2))
          clear hK K
          (try simp only [Act.put, gy0, gy1, gy2])
          refine wpAnyH_done (by kernel_rfl) ?_ _
          refine NoPanic.normal ?_
          clear hH
          rotate_left
          exact AllReadyH.nil
          exact AllReadyH.nil
          exact AllReadyH.nil
          exact AllReadyH.nil
          exact AllReadyH.nil
          all_goals
            clear y0 y1 y2 r4 y0_1 y1_1 y2_1 r4_1 y0_2 y1_2 y2_2 r4_2 y0_3 y1_3 y2_3 r4_3 f0 f1 f2
            go_wp2_with fail
            go_roundw
            case rel => exact ⟨i + 1, by omega, by go_num, hid ⟨_, _, _, _, _, _, _, by rw [← HK.out]; exact NN.out⟩⟩
            case measure => simp [intOf]; omega
    · obtain rfl : i = rn := by omega
      have Z1 := hid Z0
      obtain ⟨y0, y1, y2⟩ := blk_three Z0.bnd
      obtain ⟨w0, w1, w2⟩ := blk_three Z0.res
      have f0 := Z0.res.free 0
      have f1 := Z0.res.free 1
      have f2 := Z0.res.free 2
      have EE := hid (show RetCm w vn 1100003 (fun x => cmbA i tn v cf y x) (cmbB i bo y) (.returned (.tuple #[.slice (some ⟨Cb, 0, none⟩) vn vn, .agg #[.bool g1, .slice A1 n1 c1, .slice D1 m1 d1]])) (((wr.setCell ⟨w.heap.size + 1, 0, none⟩ (.bool g1)).setCell ⟨w.heap.size + 1, 1, none⟩ (.slice A1 n1 c1)).setCell ⟨w.heap.size + 1, 2, none⟩ (.slice D1 m1 d1)) from
        ⟨_, _, _, _, _, _, _, _, rfl, Z0.qb.far3 Z0.res (Ne.symm hs2) _ _ _, (frv_far3 Z0.fr Z0.res _ _ _).up (by omega), by omega, bx_set (bx_set (bx_set Z0.bel (by omega)) (by omega)) (by omega)⟩)
      clear hz2 Z0 Z1 HR HT LI LB AT0 TM0 AD0
      go_upto_region 14 with fail
      go_region
      all_goals
        go_wp2_with fail
        exact bodyPost_ret (v := .tuple #[.slice (some ⟨Cb, 0, none⟩) vn vn, .agg #[.bool g1, .slice A1 n1 c1, .slice D1 m1 d1]]) (by simp [results, Tryz.results95, go_sem, w0, w1, w2]) rfl (retcm_drew EE.out)
end Go.Proofs.YthbogaindaflpaaGreat
