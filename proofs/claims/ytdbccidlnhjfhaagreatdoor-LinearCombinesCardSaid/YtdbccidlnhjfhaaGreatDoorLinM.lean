/- Least in the valid form. -/
import Derived.Test.YtdbccidlnhjfhaaGreatDoorLinB
import Derived.Test.YtdbccidlnhjfhaaGreatDoorLinL
import Derived.Deep.DeepCutAuto
import Derived.BigQuiet
namespace Go.Proofs.YtdbccidlnhjfhaaGreatDoor
open Go.RowKit
set_option maxRecDepth 100000
def RetWB (w : World) (q : Rat) (k : Nat) (b : Bool) (e : Ending) (w' : World) : Prop := ∃ g A n c D m d, e = .returned (.tuple #[.agg #[.bool g, .slice A n c, .slice D m d], .bool b]) ∧ FrW w' g A n c D m d k q ∧ Below w.heap.size w w'
theorem retwb_end {w w2 : World} {q : Rat} {g1 : Bool} {A A0 D D0 : Option Addr} {n c n0 c0 m d m0 d0 g k : Nat} {b0 b : Bool} (h : FrW w2 g1 A n c D m d k q) (K : Blk w2 g [.bool b0, .slice A0 n0 c0, .slice D0 m0 d0] 41) (hb : Below w.heap.size w w2) (hg : w.heap.size ≤ g) :
    RetWB w q k b (.returned (.tuple #[.agg #[.bool g1, .slice A n c, .slice D m d], .bool b])) (((w2.setCell ⟨g, 0, none⟩ (.bool g1)).setCell ⟨g, 1, none⟩ (.slice A n c)).setCell ⟨g, 2, none⟩ (.slice D m d)) :=
  ⟨g1, A, n, c, D, m, d, rfl, frw_far3 h K _ _ _, bx_set (bx_set (bx_set hb hg) hg) hg⟩
theorem retwb_as {w w' : World} {q q' : Rat} {k : Nat} {b b' : Bool} {e : Ending} (h : RetWB w q k b e w') (hq : q' = q) (hb : b' = b) : RetWB w q' k b' e w' := by subst hq; subst hb; exact h
set_option maxHeartbeats 4000000 in
theorem vleastL (V0 : Option Addr) (vn vc : Nat) (R0 : Option Addr) (rn rc : Nat) (lo up : Nat → Int) (op it : Nat → Bool) (co : Nat → Int) (A : Option Addr) (n c k : Nat) (qs : Nat → Rat) (w : World) (hT : Vs w V0 vn vc lo up op it co) (hQ : Qs w A n c k qs) (hvn : vn ≤ 17592186044416) (hk : vn * (k + 3) + 1 + (k + 2) ≤ 274877906943) :
    Calls Tryz.prog 32 #[.agg #[.slice V0 vn vc, .slice R0 rn rc], .slice A n c] w (RetWB w (lstV vn lo up op (fun j : Nat => atQ (min vn n) qs (j : Int))) (vn * (k + 3) + 1) (lstB vn lo up op (fun j : Nat => atQ (min vn n) qs (j : Int)))) := by
  have hc := hT.1
  have hc2 := hT.2.1
  have hqn : n ≤ 9223372036854775807 := Nat.le_trans hQ.1 hQ.2.1
  obtain ⟨m, hm⟩ : ∃ m, m = min vn n := ⟨_, rfl⟩
  rw [← hm]
  have hmn : m ≤ n := by omega
  obtain ⟨q, hq⟩ : ∃ q : Nat → Rat, q = fun j : Nat => atQ m qs (j : Int) := ⟨_, rfl⟩
  rw [← hq]
  obtain ⟨ez, hez⟩ : ∃ ez : Nat → Int, ez = fun j => endZ (q j) (lo j) (up j) := ⟨_, rfl⟩
  have ebd : ∀ i, i < vn → -9223372036854775808 ≤ ez i ∧ ez i ≤ 9223372036854775807 := fun i hi => by
    obtain ⟨a, b, _⟩ := hT.2.2.1 i hi
    rw [hez]
    show -9223372036854775808 ≤ endZ (q i) (lo i) (up i) ∧ endZ (q i) (lo i) (up i) ≤ 9223372036854775807
    unfold endZ
    split
    · exact b
    · exact a
  have kp : 1 ≤ vn * (k + 3) + 1 := by omega
  obtain ⟨W0, hW⟩ : ∃ W, W = (w.alloc (.cells #[.slice V0 vn vc, .slice R0 rn rc] 25)).alloc (.cells #[.bool false, .slice none 0 0, .slice none 0 0] 41) := ⟨_, rfl⟩
  have B0 := bx_alloc (bx_alloc (bx_refl w) (.cells #[.slice V0 vn vc, .slice R0 rn rc] 25)) (.cells #[.bool false, .slice none 0 0, .slice none 0 0] 41)
  have KP := (Blk.new w [.slice V0 vn vc, .slice R0 rn rc] 25).alloc (.cells #[.bool false, .slice none 0 0, .slice none 0 0] 41)
  have KR := blk_new1 w (.cells #[.slice V0 vn vc, .slice R0 rn rc] 25) [.bool false, .slice none 0 0, .slice none 0 0] 41
  change Blk ((w.alloc (.cells #[.slice V0 vn vc, .slice R0 rn rc] 25)).alloc (.cells #[.bool false, .slice none 0 0, .slice none 0 0] 41)) _ _ _ at KP KR
  rw [← hW] at B0 KP KR
  have EL := hid (velem A n c vn m W0 hqn hm)
  have HT := hid hT
  have HQ := hid hQ
  obtain ⟨z0, z0'⟩ := blk_two KP
  have BB := hid B0
  have KKP := hid KP
  have KKR := hid KR
  have SM := hid (fun (W : World) (b : Below w.heap.size w W) (tb bn bl : Nat) (ts : Ts W (some ⟨tb, 0, none⟩) vn vn (fun i => (i : Int)) ez) (kn : Blk W bn [.int .i64 m] 3) (kl : Blk W bl [.slice A n c] 32) => (show Calls Tryz.prog 66 #[.slice (some ⟨tb, 0, none⟩) vn vn, El bn bl] W (RetW W (sumN (fun j => ((endZ (q j) (lo j) (up j) : Int) : Rat) * q j) vn) (vn * (k + 3) + 1)) by
    have := vsumL (some ⟨tb, 0, none⟩) vn vn (fun i => (i : Int)) ez A n c k m bn bl qs W ts (hQ.keep b) kn kl hmn hk
    rw [hez, hq] at this
    rw [hq]
    exact this))
  have LI := hid (fun (W : World) (b : Below w.heap.size w W) (cb bn bl : Nat) (kc : Blk W cb [El bn bl] 90) (kpb : Blk W w.heap.size [.slice V0 vn vc, .slice R0 rn rc] 25) (kn : Blk W bn [.int .i64 m] 3) (kl : Blk W bl [.slice A n c] 32) => vlisted vn 82 #[.pointer (some ⟨cb, 0, none⟩), .pointer (some ⟨w.heap.size, 0, none⟩)] ez W hvn ebd least1_cf (fun W' i hi hb => (show Calls Tryz.prog 82 #[.int .i64 (i : Int), .pointer (some ⟨cb, 0, none⟩), .pointer (some ⟨w.heap.size, 0, none⟩)] W' (RetI W' (ez i)) by
    rw [hez, hq]
    exact vleast1 cb w.heap.size bn bl V0 vn vc R0 rn rc lo up op it co A n c k m qs i W' hi (hT.keep (bx_call b hb)) (hQ.keep (bx_call b hb)) (kc.keep hb) (kpb.keep hb) (kn.keep hb) (kl.keep hb) hmn)))
  have AT := hid (fun (W : World) (bn bl : Nat) (b : Below w.heap.size w W) (kn : Blk W bn [.int .i64 m] 3) (kl : Blk W bl [.slice A n c] 32) (j : Nat) => (show Calls Tryz.prog 109 #[.int .i64 (j : Int), .pointer (some ⟨bn, 0, none⟩), .pointer (some ⟨bl, 0, none⟩)] W (RetV W (q j) k) by rw [hq]; exact velem1 bn bl A n c k m qs (j : Int) W (hQ.keep b) kn kl hmn))
  obtain ⟨K, hK⟩ : ∃ K, K = vn * (k + 3) + 1 := ⟨_, rfl⟩
  rw [← hK] at kp SM ⊢
  clear hT hQ hq hez ebd hK KP KR B0
  go_enter Tryz.func32, Tryz.ntmps32
  go_upto_region 1 with fail
  rw [← hW]
  clear hW
  go_wp2_with fail
  refine (EL.out).mono ?_
  rintro e w1 ⟨bn, bl, rfl, kn, kl, _, _, b⟩
  obtain ⟨W2, hW2⟩ : ∃ W, W = w1.alloc (.cells #[El bn bl] 90) := ⟨_, rfl⟩
  have B2 := bx_alloc (bx_refl w1) (.cells #[El bn bl] 90)
  have KC := Blk.new w1 [El bn bl] 90
  change Blk (w1.alloc (.cells #[El bn bl] 90)) _ _ _ at KC
  rw [← hW2] at B2 KC
  have HC := hid KC
  have HN := hid (kn.keep B2)
  have HL := hid (kl.keep B2)
  have HP := hid ((KKP.out.keep b).keep B2)
  have HR := hid ((KKR.out.keep b).keep B2)
  have HB := hid (bx_call (bx_call BB.out b) B2)
  obtain ⟨z0, _⟩ := blk_two HP.out
  clear EL kn kl b B2 KC KKP KKR BB z0'
  unfold El
  unfold El at hW2
  go_upto_region 2 with fail
  rw [← hW2]
  clear hW2
  have y0 : W2.cell? ⟨w1.heap.size, 0, none⟩ = some (.func (.func 109) #[] #[.pointer (some ⟨bn, 0, none⟩), .pointer (some ⟨bl, 0, none⟩)]) := Blk.cell HC.out 0
  go_wp2_with fail
  go_loopw [18] (fun i wr => ∃ j : Nat, j ≤ vn ∧ i = .int .i64 j ∧ Hid ((∀ i, i < j → fine (op i) (lo i) (up i) (q i)) ∧ Below W2.heap.size W2 wr)) (fun i _ => vn - (intOf i).toNat)
  case atStart => exact ⟨0, Nat.zero_le _, rfl, hid ⟨fun i hi => absurd hi (by omega), bx_refl W2⟩⟩
  case round =>
    clear z0 y0
    obtain ⟨j, hj, rfl, hz⟩ := hrel
    rcases Nat.lt_or_ge j vn with hlt | hge
    · have BZ := bx_call HB.out hz.out.2
      obtain ⟨b, o, rfl, hb, hcell⟩ := HT.out.2.2.2 (by omega)
      have x0 := cell_bx (hcell j hlt).1 BZ
      have x1 := cell_bx (hcell j hlt).2.1 BZ
      have x2 := cell_bx (hcell j hlt).2.2.1 BZ
      have x3 := cell_bx (hcell j hlt).2.2.2.1 BZ
      have x4 := cell_bx (hcell j hlt).2.2.2.2 BZ
      obtain ⟨W3, hW3⟩ : ∃ W, W = wr.alloc (.cells #[.int .i64 (lo j), .int .i64 (up j), .bool (op j), .bool (it j), .int .i64 (co j)] 60) := ⟨_, rfl⟩
      have B1 := bx_alloc (bx_refl wr) (.cells #[.int .i64 (lo j), .int .i64 (up j), .bool (op j), .bool (it j), .int .i64 (co j)] 60)
      have KT := Blk.new wr [.int .i64 (lo j), .int .i64 (up j), .bool (op j), .bool (it j), .int .i64 (co j)] 60
      change Blk (wr.alloc (.cells #[.int .i64 (lo j), .int .i64 (up j), .bool (op j), .bool (it j), .int .i64 (co j)] 60)) _ _ _ at KT
      rw [← hW3] at B1 KT
      have L3 := bx_call hz.out.2 B1
      have B3 := hid (bx_call HB.out L3)
      have R3 := hid (HR.out.keep L3)
      obtain ⟨z0, z1, z2, _, _⟩ := blk_five KT
      have y0 : W3.cell? ⟨w1.heap.size, 0, none⟩ = some (.func (.func 109) #[] #[.pointer (some ⟨bn, 0, none⟩), .pointer (some ⟨bl, 0, none⟩)]) := Blk.cell (HC.out.keep L3) 0
      have CA := hid (AT.out W3 bn bl B3.out (HN.out.keep L3) (HL.out.keep L3) j)
      have M3 := hid L3
      have HK := hid KT
      have OK := hid hz.out.1
      have NO := hid (fun h : ¬fine (op j) (lo j) (up j) (q j) => lst_no hlt h)
      have YE : Hid (∀ W, Below W2.heap.size W2 W → fine (op j) (lo j) (up j) (q j) → Hid ((∀ i, i < j + 1 → fine (op i) (lo i) (up i) (q i)) ∧ Below W2.heap.size W2 W)) := hid (fun W bW h => hid ⟨fun i hi => by
        rcases Nat.lt_or_ge i j with h1 | h1
        · exact OK.out i h1
        · obtain rfl : i = j := by omega
          exact h, bW⟩)
      unfold fine room at NO
      clear hz B1 KT L3 HT hcell BZ AT HN HL HC HP HR HB SM LI OK HQ
      go_upto_region 5 with fail
      rw [← hW3]
      clear hW3 x0 x1 x2 x3 x4
      by_cases k1 : op j = true
      · rw [k1] at z2
        go_wp2_with fail
        refine (CA.out).mono ?_
        rintro e w4 ⟨ga, A1, n1, c1, D1, m1, d1, rfl, r, b1⟩
        have SG := hid (vsign ga A1 n1 c1 D1 m1 d1 k (q j) w4 r)
        have M4 := hid (bx_call M3.out b1)
        have B4 := hid (bx_call B3.out b1)
        have R4 := hid (R3.out.keep b1)
        have H4 := hid (HK.out.keep b1)
        clear r b1 CA M3 B3 R3 HK z0 z1 z2 y0
        go_wp2_with fail
        refine (SG.out).mono ?_
        rintro e w5 ⟨rfl, b2⟩
        have M5 := hid (bx_call M4.out b2)
        have B5 := hid (bx_call B4.out b2)
        have R5 := hid (R4.out.keep b2)
        obtain ⟨z0, z1, z2, _, _⟩ := blk_five (H4.out.keep b2)
        rw [k1] at z2
        clear SG b2 M4 B4 R4 H4
        by_cases s : sgnQ (q j) < 0
        · have t1 : decide (sgnQ (q j) < 0) = true := decide_eq_true s
          obtain ⟨NB, NV⟩ := NO.out (fun h => h.2 ⟨s, k1⟩)
          have EE := hid (retwb_as (retwb_end (b := false) (FrW.zero w5 (k := K) kp) R5.out B5.out (Nat.le_succ _)) NV NB)
          obtain ⟨e0, e1, e2⟩ := blk_three R5.out
          have f0 := Blk.free R5.out 0
          have f1 := Blk.free R5.out 1
          have f2 := Blk.free R5.out 2
          clear NO YE R5 B5 NB NV
          go_wp2_with fail
          exact bodyPost_ret (v := .tuple #[.agg #[.bool false, .slice none 0 0, .slice none 0 0], .bool false]) (by simp [results, Tryz.results32, go_sem, e0, e1, e2]) rfl EE.out
        · have t1 : decide (sgnQ (q j) < 0) = false := decide_eq_false s
          have YY := YE.out w5 M5.out ⟨.inl k1, fun h => s h.1⟩
          clear NO YE R5 B5 M5
          go_wp2_with fail
          go_roundw
          case rel => exact ⟨j + 1, by omega, by go_num, YY⟩
          case measure => simp [intOf]; omega
      · have k2 : op j = false := by simpa using k1
        rw [k2] at z2
        clear CA y0
        by_cases k3 : lo j ≤ up j
        · have t3 : decide (up j < lo j) = false := decide_eq_false (by omega)
          have YY := YE.out W3 M3.out ⟨.inr k3, fun h => k1 h.2⟩
          clear NO YE R3 B3 M3 HK
          go_wp2_with fail
          go_roundw
          case rel => exact ⟨j + 1, by omega, by go_num, YY⟩
          case measure => simp [intOf]; omega
        · have t3 : decide (up j < lo j) = true := decide_eq_true (by omega)
          obtain ⟨NB, NV⟩ := NO.out (fun h => h.1.elim k1 k3)
          have EE := hid (retwb_as (retwb_end (b := false) (FrW.zero W3 (k := K) kp) R3.out B3.out (Nat.le_succ _)) NV NB)
          obtain ⟨e0, e1, e2⟩ := blk_three R3.out
          have f0 := Blk.free R3.out 0
          have f1 := Blk.free R3.out 1
          have f2 := Blk.free R3.out 2
          clear NO YE R3 B3 NB NV
          go_wp2_with fail
          exact bodyPost_ret (v := .tuple #[.agg #[.bool false, .slice none 0 0, .slice none 0 0], .bool false]) (by simp [results, Tryz.results32, go_sem, e0, e1, e2]) rfl EE.out
    · obtain rfl : j = vn := by omega
      obtain ⟨hb, hv⟩ := lst_yes hz.out.1
      have BZ := hz.out.2
      have CL := hid (LI.out wr (bx_call HB.out BZ) w1.heap.size bn bl (HC.out.keep BZ) (HP.out.keep BZ) (HN.out.keep BZ) (HL.out.keep BZ))
      have z0 := (blk_two (HP.out.keep BZ)).1
      have M0 := hid BZ
      rw [← hv] at SM
      clear HT HQ AT LI hge hz BZ HP hv
      go_wp2_with fail
      refine (CL.out).mono ?_
      rintro e w4 ⟨tb, rfl, ts, _, b1⟩
      have BZ := bx_call M0.out b1
      have SC := hid (SM.out w4 (bx_call HB.out BZ) tb bn bl ts (HN.out.keep BZ) (HL.out.keep BZ))
      have y0 : w4.cell? ⟨w1.heap.size, 0, none⟩ = some (.func (.func 109) #[] #[.pointer (some ⟨bn, 0, none⟩), .pointer (some ⟨bl, 0, none⟩)]) := Blk.cell (HC.out.keep BZ) 0
      have R4 := hid (HR.out.keep BZ)
      have B4 := hid (bx_call HB.out BZ)
      unfold El at SC
      clear CL ts b1 BZ M0 SM HN HL HC HR HB z0
      go_wp2_with fail
      refine (SC.out).mono ?_
      rintro e w5 ⟨g1, A1, n1, c1, D1, m1, d1, rfl, r, b2⟩
      have R5 := R4.out.keep b2
      have EE := hid (retwb_as (retwb_end (b := true) r R5 (bx_call B4.out b2) (Nat.le_succ _)) rfl hb)
      obtain ⟨e0, e1, e2⟩ := blk_three R5
      have f0 := Blk.free R5 0
      have f1 := Blk.free R5 1
      have f2 := Blk.free R5 2
      clear R5 R4 B4 r b2 SC y0
      go_wp2_with fail
      exact bodyPost_ret (v := .tuple #[.agg #[.bool g1, .slice A1 n1 c1, .slice D1 m1 d1], .bool true]) (by simp [results, Tryz.results32, go_sem, e0, e1, e2]) rfl EE.out
end Go.Proofs.YtdbccidlnhjfhaaGreatDoor
