/- Integral of the program and of the specification. -/
import Derived.Test.YtdbccidlnhjfhaaGreatDoorLinB
import Derived.Test.YtdbccidlnhjfhaaGreatDoorRatY
import Derived.Deep.DeepCutAuto
import Derived.BigQuiet
namespace Go.Proofs.YtdbccidlnhjfhaaGreatDoor
open Go.RowKit
set_option maxRecDepth 100000
def itgB (vn : Nat) (it : Nat → Bool) (q : Nat → Rat) : Bool := decide (∀ j, j < vn → it j = true → (q j).den = 1)
theorem itgB_congr {vn : Nat} {it : Nat → Bool} {p q : Nat → Rat} (h : ∀ j, j < vn → p j = q j) : itgB vn it p = itgB vn it q := by
  refine decide_eq_decide.2 ⟨fun g j hj => ?_, fun g j hj => ?_⟩
  · rw [← h j hj]; exact g j hj
  · rw [h j hj]; exact g j hj
theorem whole_iff (q : Rat) : q.floor - q.ceil = 0 ↔ q.den = 1 := by
  have h1 := Rat.floor_le q
  have h2 := @Rat.le_ceil q
  constructor
  · intro e
    have e1 : q.floor = q.ceil := by omega
    have e2 : (q.floor : Rat) = q := by
      rw [← e1] at h2
      grind
    rw [← e2]
    exact Rat.den_intCast _
  · intro e
    have e3 : ((q.num : Int) : Rat) = q := Rat.ext (Rat.num_intCast _) ((Rat.den_intCast _).trans e.symm)
    have e4 : q.floor = q.num := by rw [← e3, Rat.floor_intCast, Rat.num_intCast]
    have e5 : q.ceil = q.num := by rw [← e3, Rat.ceil_intCast, Rat.num_intCast]
    omega
theorem den_field (x y z : Value) (W : World) : Sem.run Tryz.prog (Instr.field 41 (.agg #[x, y, z]) 1) W = .ok z W := by kernel_rfl
theorem sgnZ_zero {z : Int} : sgnZ z = 0 ↔ z = 0 := by
  unfold sgnZ
  split
  · omega
  · split <;> omega
def ItP (it : Nat → Bool) (q : Nat → Rat) (j : Nat) : Prop := ∀ i, i < j → it i = true → (q i).den = 1
theorem ItP.next {it : Nat → Bool} {q : Nat → Rat} {j : Nat} (h : ItP it q j) (hj : it j = true → (q j).den = 1) : ItP it q (j + 1) := fun i hi => by
  rcases Nat.lt_or_ge i j with h1 | h1
  · exact h i h1
  · obtain rfl : i = j := by omega
    exact hj
set_option maxHeartbeats 4000000 in
theorem vintegral (V0 : Option Addr) (vn vc : Nat) (R0 : Option Addr) (rn rc : Nat) (lo up : Nat → Int) (op it : Nat → Bool) (co : Nat → Int) (A : Option Addr) (n c k : Nat) (qs : Nat → Rat) (w : World) (hT : Vs w V0 vn vc lo up op it co) (hQ : Qs w A n c k qs) (hk : k ≤ 274877906941) :
    Calls Tryz.prog 28 #[.agg #[.slice V0 vn vc, .slice R0 rn rc], .slice A n c] w (RetB w (itgB vn it (fun j : Nat => atQ (min vn n) qs (j : Int)))) := by
  have hc := hT.1
  have hc2 := hT.2.1
  have hqn : n ≤ 9223372036854775807 := Nat.le_trans hQ.1 hQ.2.1
  obtain ⟨m, hm⟩ : ∃ m, m = min vn n := ⟨_, rfl⟩
  rw [← hm]
  have hmn : m ≤ n := by omega
  obtain ⟨q, hq⟩ : ∃ q : Nat → Rat, q = fun j : Nat => atQ m qs (j : Int) := ⟨_, rfl⟩
  rw [← hq]
  obtain ⟨W0, hW⟩ : ∃ W, W = w.alloc (.cells #[.slice V0 vn vc, .slice R0 rn rc] 25) := ⟨_, rfl⟩
  have B0 := bx_alloc (bx_refl w) (.cells #[.slice V0 vn vc, .slice R0 rn rc] 25)
  have KP := Blk.new w [.slice V0 vn vc, .slice R0 rn rc] 25
  change Blk (w.alloc (.cells #[.slice V0 vn vc, .slice R0 rn rc] 25)) _ _ _ at KP
  rw [← hW] at B0 KP
  have EL := hid (velem A n c vn m W0 hqn hm)
  have HT := hid hT
  have z0 := (blk_two KP).1
  have BB := hid B0
  have KKP := hid KP
  have AT0 := hid (fun (W : World) (bn bl : Nat) (b : Below w.heap.size w W) (kn : Blk W bn [.int .i64 m] 3) (kl : Blk W bl [.slice A n c] 32) (j : Nat) => (show Calls Tryz.prog 109 #[.int .i64 (j : Int), .pointer (some ⟨bn, 0, none⟩), .pointer (some ⟨bl, 0, none⟩)] W (RetV W (q j) k) by rw [hq]; exact velem1 bn bl A n c k m qs (j : Int) W (hQ.keep b) kn kl hmn))
  clear hT hQ hq KP B0
  go_enter Tryz.func28, Tryz.ntmps28
  go_upto_region 1 with fail
  rw [← hW]
  clear hW
  go_wp2_with fail
  refine (EL.out).mono ?_
  rintro e W2 ⟨bn, bl, rfl, kn, kl, _, _, b⟩
  have HN := hid kn
  have HL := hid kl
  have AT := hid (fun (W : World) (b2 : Below W2.heap.size W2 W) (j : Nat) => AT0.out W bn bl (bx_call (bx_call BB.out b) b2) (kn.keep b2) (kl.keep b2) j)
  have HB := hid (bx_call BB.out b)
  have z0 := (blk_two (KKP.out.keep b)).1
  clear EL kn kl b KKP BB AT0 HN HL
  unfold El
  go_wp2_with fail
  go_loopw [16] (fun i wr => ∃ j : Nat, j ≤ vn ∧ i = .int .i64 j ∧ Hid (ItP it q j ∧ Below W2.heap.size W2 wr)) (fun i _ => vn - (intOf i).toNat)
  case atStart => exact ⟨0, Nat.zero_le _, rfl, hid ⟨fun i hi => absurd hi (by omega), bx_refl W2⟩⟩
  case round =>
    clear z0
    obtain ⟨j, hj, rfl, hz⟩ := hrel
    rcases Nat.lt_or_ge j vn with hlt | hge
    · have BZ := bx_call HB.out hz.out.2
      obtain ⟨b, o, rfl, hb, hcell⟩ := HT.out.2.2.2 (by omega)
      have x0 := cell_bx (hcell j hlt).1 BZ
      have x1 := cell_bx (hcell j hlt).2.1 BZ
      have x2 := cell_bx (hcell j hlt).2.2.1 BZ
      have x3 := cell_bx (hcell j hlt).2.2.2.1 BZ
      have x4 := cell_bx (hcell j hlt).2.2.2.2 BZ
      obtain ⟨W3, hW3⟩ : ∃ W, W = wr.alloc (.cells #[.int .i64 (lo j), .int .i64 (up j), .bool (op j), .bool (it j), .int .i64 (co j)] 60) := ⟨_, rfl⟩
      have B1 := bx_alloc (bx_refl wr) (.cells #[.int .i64 (lo j), .int .i64 (up j), .bool (op j), .bool (it j), .int .i64 (co j)] 60)
      have KT := Blk.new wr [.int .i64 (lo j), .int .i64 (up j), .bool (op j), .bool (it j), .int .i64 (co j)] 60
      change Blk (wr.alloc (.cells #[.int .i64 (lo j), .int .i64 (up j), .bool (op j), .bool (it j), .int .i64 (co j)] 60)) _ _ _ at KT
      rw [← hW3] at B1 KT
      have X0 := hid (bx_call hz.out.2 B1)
      have OK := hid hz.out.1
      have NO := hid (fun (W : World) (X : Below W2.heap.size W2 W) (h1 : it j = true) (h : ¬(q j).den = 1) => (⟨by rw [show itgB vn it q = false from decide_eq_false fun g => h (g j hlt h1)], bx_call HB.out X⟩ : RetB w (itgB vn it q) (.returned (.bool false)) W))
      have YE := hid (fun (h : it j = true → (q j).den = 1) => OK.out.next h)
      obtain ⟨_, _, _, c3, _⟩ := blk_five KT
      clear hz B1 KT HT hcell BZ HB OK
      go_upto_region 5 with fail
      rw [← hW3]
      clear hW3 x0 x1 x2 x3 x4
      by_cases k1 : it j = true
      · rw [k1] at c3
        have FL := hid (fun (W : World) (g : Bool) (A1 : Option Addr) (n1 c1 : Nat) (D1 : Option Addr) (m1 d1 : Nat) (L : FrV W g A1 n1 c1 D1 m1 d1 k (q j)) => vfloor g A1 n1 c1 D1 m1 d1 k (q j) W L (by omega))
        have CL := hid (fun (W : World) (g : Bool) (A1 : Option Addr) (n1 c1 : Nat) (D1 : Option Addr) (m1 d1 : Nat) (L : FrV W g A1 n1 c1 D1 m1 d1 k (q j)) => vceil g A1 n1 c1 D1 m1 d1 k (q j) W L (by omega))
        obtain ⟨zf, hzf⟩ : ∃ z, z = (q j).floor := ⟨_, rfl⟩
        obtain ⟨zc, hzc⟩ : ∃ z, z = (q j).ceil := ⟨_, rfl⟩
        have WI : (q j).den = 1 ↔ zf - zc = 0 := by rw [hzf, hzc]; exact (whole_iff (q j)).symm
        rw [← hzf] at FL
        rw [← hzc] at CL
        have CM := hid (fun (W : World) (A1 : Option Addr) (n1 c1 : Nat) (A2 : Option Addr) (n2 c2 : Nat) (h1 : Rd W A1 n1 c1 (dg zf.natAbs)) (h2 : Rd W A2 n2 c2 (dg zc.natAbs)) => (show Calls Tryz.prog 75 #[.agg #[.bool (sg zf), .slice A1 n1 c1], .agg #[.bool (sg zc), .slice A2 n2 c2]] W (RetI W (sgnZ (zf - zc))) by
          have t := icmp_any (sg zf) A1 n1 c1 _ (sg zc) A2 n2 c2 _ W h1 h2
          rw [iv_sg, iv_sg] at t
          exact t))
        obtain ⟨s, hs⟩ : ∃ s, s = sgnZ (zf - zc) := ⟨_, rfl⟩
        have WS : (q j).den = 1 ↔ s = 0 := by rw [hs, sgnZ_zero]; exact WI
        rw [← hs] at CM
        clear hzf hzc hs WI
        go_wp2_with fail
        refine (AT.out _ X0.out j).mono ?_
        rintro e v1 ⟨ga, Aa, na, ca, Da, ma, da, rfl, r, b⟩
        have X1 := hid (bx_call X0.out b)
        have R1 := hid r
        clear r b X0 c3
        go_wp2_with fail
        refine (FL.out _ ga Aa na ca Da ma da R1.out).mono ?_
        rintro e v2 ⟨Ab, nb, cb, rfl, r, b⟩
        have X2 := hid (bx_call X1.out b)
        have R2 := hid r
        clear r b X1 R1
        go_wp2_with fail
        refine (AT.out _ X2.out j).mono ?_
        rintro e v3 ⟨gc, Ac, nc, cc, Dc, mc, dc, rfl, r, b⟩
        have X3 := hid (bx_call X2.out b)
        have R3 := hid r
        have R2b := hid (R2.out.keep b)
        clear r b X2 R2
        go_wp2_with fail
        refine (CL.out _ gc Ac nc cc Dc mc dc R3.out).mono ?_
        rintro e v4 ⟨Ad, nd, cd, rfl, r, b⟩
        have X4 := hid (bx_call X3.out b)
        have R4 := hid r
        have R2c := hid (R2b.out.keep b)
        clear r b X3 R3 R2b
        go_wp2_with fail
        refine (CM.out _ Ab nb cb Ad nd cd R2c.out R4.out).mono ?_
        rintro e v5 ⟨rfl, b⟩
        have X5 := hid (bx_call X4.out b)
        clear b X4 R4 R2c FL CL CM
        by_cases hs0 : s = 0
        · have t1 : (s != 0) = false := by simp [hs0]
          have YY := hid (show ItP it q (j + 1) ∧ Below W2.heap.size W2 v5 from ⟨YE.out fun _ => WS.2 hs0, X5.out⟩)
          clear NO YE X5 AT WS hs0
          go_wp2_with fail
          go_roundw
          case rel => exact ⟨j + 1, by omega, by go_num, YY⟩
          case measure => simp [intOf]; omega
        · have t1 : (s != 0) = true := by simpa using hs0
          have NN := hid (NO.out v5 X5.out k1 (fun h => hs0 (WS.1 h)))
          clear NO YE X5 AT WS hs0
          go_wp2_with fail
          go_ret
          exact NN.out
      · have k2 : it j = false := by simpa using k1
        rw [k2] at c3
        have YY := hid (show ItP it q (j + 1) ∧ Below W2.heap.size W2 W3 from ⟨YE.out fun h => absurd h k1, X0.out⟩)
        clear NO YE X0 AT k1
        go_wp2_with fail
        go_roundw
        case rel => exact ⟨j + 1, by omega, by go_num, YY⟩
        case measure => simp [intOf]; omega
    · obtain rfl : j = vn := by omega
      have YY := hid (show RetB w (itgB j it q) (.returned (.bool true)) wr from ⟨by rw [show itgB j it q = true from decide_eq_true hz.out.1], bx_call HB.out hz.out.2⟩)
      clear HT AT hz HB
      go_wp2_with fail
      go_ret
      exact YY.out
set_option maxHeartbeats 4000000 in
theorem rintegral (V0 : Option Addr) (vn vc : Nat) (R0 : Option Addr) (rn rc : Nat) (lo up : Nat → Int) (op it : Nat → Bool) (co : Nat → Int) (A : Option Addr) (n c k : Nat) (qs : Nat → Rat) (w : World) (hT : Vs w V0 vn vc lo up op it co) (hQ : Qs w A n c k qs) (hk : k ≤ 274877906941) :
    Calls Tryz.prog 29 #[.agg #[.slice V0 vn vc, .slice R0 rn rc], .slice A n c] w (RetB w (itgB vn it (fun j : Nat => atQ n qs (j : Int)))) := by
  have hc := hT.1
  have hc2 := hT.2.1
  obtain ⟨q, hq⟩ : ∃ q : Nat → Rat, q = fun j : Nat => atQ n qs (j : Int) := ⟨_, rfl⟩
  rw [← hq]
  have ST := hid (show ItP it q 0 ∧ Below w.heap.size w (w.alloc (.cells #[.slice V0 vn vc, .slice R0 rn rc] 25)) ∧ Blk (w.alloc (.cells #[.slice V0 vn vc, .slice R0 rn rc] 25)) w.heap.size [.slice V0 vn vc, .slice R0 rn rc] 25 from ⟨fun i hi => absurd hi (by omega), bx_alloc (bx_refl w) _, Blk.new w [.slice V0 vn vc, .slice R0 rn rc] 25⟩)
  have AT0 := hid (fun (W : World) (b : Below w.heap.size w W) (j : Nat) => (show Calls Tryz.prog 39 #[.slice A n c, .int .i64 (j : Int)] W (RetV W (q j) k) by rw [hq]; exact qat A n c k qs (j : Int) W (hQ.keep b)))
  have HT := hid hT
  clear hT hQ hq
  go_enter Tryz.func29, Tryz.ntmps29
  go_wp2_with fail
  go_loopw [5] (fun i wr => ∃ j : Nat, j ≤ vn ∧ i = .int .i64 j ∧ Hid (ItP it q j ∧ Below w.heap.size w wr ∧ Blk wr w.heap.size [.slice V0 vn vc, .slice R0 rn rc] 25)) (fun i _ => vn - (intOf i).toNat)
  case atStart => exact ⟨0, Nat.zero_le _, rfl, ST⟩
  case round =>
    clear ST
    obtain ⟨j, hj, rfl, hz⟩ := hrel
    have z0 := (blk_two hz.out.2.2).1
    rcases Nat.lt_or_ge j vn with hlt | hge
    · have AT := hid (AT0.out wr hz.out.2.1 j)
      have PZ := hid hz.out
      have NO := hid (fun (W : World) (X : Below wr.heap.size wr W) (h1 : it j = true) (h : ¬(q j).den = 1) => (⟨by rw [show itgB vn it q = false from decide_eq_false fun g => h (g j hlt h1)], bx_call PZ.out.2.1 X⟩ : RetB w (itgB vn it q) (.returned (.bool false)) W))
      have YE := hid (fun (W : World) (X : Below wr.heap.size wr W) (h : it j = true → (q j).den = 1) => (show ItP it q (j + 1) ∧ Below w.heap.size w W ∧ Blk W w.heap.size [.slice V0 vn vc, .slice R0 rn rc] 25 from ⟨PZ.out.1.next h, bx_call PZ.out.2.1 X, PZ.out.2.2.keep X⟩))
      obtain ⟨b, o, rfl, hb, hcell⟩ := HT.out.2.2.2 (by omega)
      have x3 := cell_bx (hcell j hlt).2.2.2.1 PZ.out.2.1
      clear hz HT hcell PZ AT0
      by_cases k1 : it j = true
      · rw [k1] at x3
        have FX := hid (fun (W : World) (g : Bool) (A1 : Option Addr) (n1 c1 : Nat) (D1 : Option Addr) (m1 d1 : Nat) (L : FrV W g A1 n1 c1 D1 m1 d1 k (q j)) => vrfix g A1 n1 c1 D1 m1 d1 k (q j) W L (by omega))
        go_wp2_with fail
        refine (AT.out).mono ?_
        rintro e v1 ⟨ga, Aa, na, ca, Da, ma, da, rfl, r, b⟩
        have X1 := hid b
        have R1 := hid r
        clear r b AT z0 x3
        go_wp2_with fail
        refine (FX.out _ ga Aa na ca Da ma da R1.out).mono ?_
        rintro e v2 ⟨Ab, nb, cb, Db, mb, db, rfl, r, b⟩
        have X2 := hid (bx_call X1.out b)
        have RD := hid r.2.2.1
        have hmb : mb ≤ k := r.2.2.2.1
        clear r b X1 R1 FX
        have hp := (q j).den_pos
        by_cases hd : (q j).den = 1
        · have hm0 : mb = 0 := dn_ln0 RD.out hd
          have YY := hid (YE.out v2 X2.out fun _ => hd)
          subst hm0
          have FD := den_field (.bool (sg (q j).num)) (.slice Ab nb cb) (.slice Db 0 db) v2
          clear NO YE X2 RD
          go_wp2_with fail
          go_roundw
          case rel => exact ⟨j + 1, by omega, by go_num, YY⟩
          case measure => simp [intOf]; omega
        · have hm1 : 0 < mb := dn_ln1 RD.out hd hp
          have t1 : decide ((0 : Int) < (mb : Int)) = true := decide_eq_true (by omega)
          have t2 : decide (0 < mb) = true := decide_eq_true hm1
          have NN := hid (NO.out v2 X2.out k1 hd)
          have FD := den_field (.bool (sg (q j).num)) (.slice Ab nb cb) (.slice Db mb db) v2
          clear NO YE X2 RD
          go_wp2_with fail
          go_ret
          exact NN.out
      · have k2 : it j = false := by simpa using k1
        rw [k2] at x3
        have YY := hid (YE.out wr (bx_refl wr) fun h => absurd h k1)
        clear NO YE AT k1
        go_wp2_with fail
        go_roundw
        case rel => exact ⟨j + 1, by omega, by go_num, YY⟩
        case measure => simp [intOf]; omega
    · obtain rfl : j = vn := by omega
      have YY := hid (show RetB w (itgB j it q) (.returned (.bool true)) wr from ⟨by rw [show itgB j it q = true from decide_eq_true hz.out.1], hz.out.2.1⟩)
      clear HT AT0 hz
      go_wp2_with fail
      go_ret
      exact YY.out
end Go.Proofs.YtdbccidlnhjfhaaGreatDoor
