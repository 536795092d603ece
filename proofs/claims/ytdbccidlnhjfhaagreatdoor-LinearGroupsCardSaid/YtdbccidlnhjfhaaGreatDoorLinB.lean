/- LinB: Lin10, Lin11, Lin12, Lin13, Lin14, Lin15, Lin16, Lin17 in one text. -/
import Derived.Test.YtdbccidlnhjfhaaGreatDoorLinA
import Derived.Deep.DeepCutAuto
import Derived.BigQuiet
namespace Go.Proofs.YtdbccidlnhjfhaaGreatDoor
open Go.RowKit
set_option maxRecDepth 100000
def Rs (w : World) (A : Option Addr) (n c : Nat) (nm : Nat → ByteArray) (gr ki bo : Nat → Int) (TA : Nat → Option Addr) (tn tc : Nat → Nat) (v cf : Nat → Nat → Int) : Prop := n ≤ c ∧ c ≤ 9223372036854775807 ∧ (∀ j, j < n → (-9223372036854775808 ≤ ki j ∧ ki j ≤ 9223372036854775807) ∧ (-9223372036854775808 ≤ bo j ∧ bo j ≤ 9223372036854775807) ∧ (-9223372036854775808 ≤ gr j ∧ gr j ≤ 9223372036854775807) ∧ Ts w (TA j) (tn j) (tc j) (v j) (cf j)) ∧ (0 < n → ∃ b o, A = some ⟨b, o, none⟩ ∧ b < w.heap.size ∧ ∀ j, j < n → w.cell? ⟨b, o + j * 5, none⟩ = some (.string (nm j)) ∧ w.cell? ⟨b, o + j * 5 + 1, none⟩ = some (.int .i64 (gr j)) ∧ w.cell? ⟨b, o + j * 5 + 2, none⟩ = some (.int .i64 (ki j)) ∧ w.cell? ⟨b, o + j * 5 + 3, none⟩ = some (.slice (TA j) (tn j) (tc j)) ∧ w.cell? ⟨b, o + j * 5 + 4, none⟩ = some (.int .i64 (bo j)))
theorem Rs.keep {w w' : World} {A : Option Addr} {n c : Nat} {nm : Nat → ByteArray} {gr ki bo : Nat → Int} {TA : Nat → Option Addr} {tn tc : Nat → Nat} {v cf : Nat → Nat → Int} (h : Rs w A n c nm gr ki bo TA tn tc v cf) (b : Below w.heap.size w w') : Rs w' A n c nm gr ki bo TA tn tc v cf := by
  refine ⟨h.1, h.2.1, fun j hj => ⟨(h.2.2.1 j hj).1, (h.2.2.1 j hj).2.1, (h.2.2.1 j hj).2.2.1, (h.2.2.1 j hj).2.2.2.keep b⟩, fun hn => ?_⟩
  obtain ⟨bb, o, hA, hlt, hc⟩ := h.2.2.2 hn
  exact ⟨bb, o, hA, Nat.lt_of_lt_of_le hlt b.size, fun j hj => ⟨cell_bx (hc j hj).1 b, cell_bx (hc j hj).2.1 b, cell_bx (hc j hj).2.2.1 b, cell_bx (hc j hj).2.2.2.1 b, cell_bx (hc j hj).2.2.2.2 b⟩⟩
def suits (ki : Int) (q : Rat) : Prop := ¬(ki = 1 ∧ sgnQ q < 0) ∧ ¬(ki = 0 ∧ 0 < sgnQ q)
instance (ki : Int) (q : Rat) : Decidable (suits ki q) := by unfold suits; infer_instance
theorem atQ_min (rn n : Nat) (qs : Nat → Rat) {j : Nat} (hj : j < rn) : atQ (min rn n) qs (j : Int) = atQ n qs (j : Int) := by
  unfold atQ
  by_cases h : j < n
  · rw [if_pos (by omega), if_pos (by omega)]
  · rw [if_neg (by omega), if_neg (by omega)]
theorem blk_five {w : World} {b t : Nat} {x y z u s : Value} (h : Blk w b [x, y, z, u, s] t) : w.cell? ⟨b, 0, none⟩ = some x ∧ w.cell? ⟨b, 1, none⟩ = some y ∧ w.cell? ⟨b, 2, none⟩ = some z ∧ w.cell? ⟨b, 3, none⟩ = some u ∧ w.cell? ⟨b, 4, none⟩ = some s := ⟨Blk.cell h 0, Blk.cell h 1, Blk.cell h 2, Blk.cell h 3, Blk.cell h 4⟩
theorem bx_drewN {w W : World} (h : Below w.heap.size w W) (k : Nat) : Below w.heap.size w (W.drewN k) := ⟨h.os, h.tape, h.output, h.size, h.block⟩
def room (op : Bool) (lo up : Int) : Prop := op = true ∨ lo ≤ up
instance (op : Bool) (lo up : Int) : Decidable (room op lo up) := by unfold room; infer_instance
def shut (vn : Nat) (op : Nat → Bool) (q : Nat → Rat) : Prop := ∀ j, j < vn → ¬(sgnQ (q j) < 0 ∧ op j = true)
instance (vn : Nat) (op : Nat → Bool) (q : Nat → Rat) : Decidable (shut vn op q) := by unfold shut; infer_instance
def holdB (ki bo : Int) (q : Rat) : Bool := if ki = 0 then decide (sgnQ (q - (bo : Rat)) ≤ 0) else if ki = 1 then decide (0 ≤ sgnQ (q - (bo : Rat))) else decide (sgnQ (q - (bo : Rat)) = 0)
set_option maxHeartbeats 4000000 in
theorem vsatisfied (nm : ByteArray) (gr ki bo : Int) (TA : Option Addr) (tn tc : Nat) (g : Bool) (A : Option Addr) (n c : Nat) (D : Option Addr) (m d k : Nat) (q : Rat) (w : World) (hb1 : -9223372036854775808 ≤ bo) (hb2 : bo ≤ 9223372036854775807) (hv : FrV w g A n c D m d k q) (hk : k ≤ 274877906941) :
    Calls Tryz.prog 71 #[.agg #[.string nm, .int .i64 gr, .int .i64 ki, .slice TA tn tc, .int .i64 bo], .agg #[.bool g, .slice A n c, .slice D m d]] w (RetB w (holdB ki bo q)) := by
  obtain ⟨W0, hW⟩ : ∃ W, W = (w.alloc (.cells #[.string nm, .int .i64 gr, .int .i64 ki, .slice TA tn tc, .int .i64 bo] 77)).alloc (.cells #[.bool g, .slice A n c, .slice D m d] 41) := ⟨_, rfl⟩
  have B0 := bx_alloc (bx_alloc (bx_refl w) (.cells #[.string nm, .int .i64 gr, .int .i64 ki, .slice TA tn tc, .int .i64 bo] 77)) (.cells #[.bool g, .slice A n c, .slice D m d] 41)
  have K0 := (Blk.new w [.string nm, .int .i64 gr, .int .i64 ki, .slice TA tn tc, .int .i64 bo] 77).alloc (.cells #[.bool g, .slice A n c, .slice D m d] 41)
  have K1 := blk_new1 w (.cells #[.string nm, .int .i64 gr, .int .i64 ki, .slice TA tn tc, .int .i64 bo] 77) [.bool g, .slice A n c, .slice D m d] 41
  change Blk ((w.alloc (.cells #[.string nm, .int .i64 gr, .int .i64 ki, .slice TA tn tc, .int .i64 bo] 77)).alloc (.cells #[.bool g, .slice A n c, .slice D m d] 41)) _ _ _ at K0 K1
  rw [← hW] at B0 K0 K1
  have FR := hid (fun (W : World) => vfrom bo W hb1 hb2)
  have CM := hid (fun (W : World) (b : Below w.heap.size w W) (A1 : Option Addr) (n1 c1 : Nat) (D1 : Option Addr) (m1 d1 : Nat) (M : FrL W A1 n1 c1 D1 m1 d1 2 (bo : Rat)) => vcmp g A n c D m d (sg (bo : Rat).num) A1 n1 c1 D1 m1 d1 (2 + k) q (bo : Rat) W ((hv.keep b).up (by omega)) (M.v.up (by omega)) (by omega))
  obtain ⟨s, hs⟩ : ∃ s, s = sgnQ (q - (bo : Rat)) := ⟨_, rfl⟩
  have hh : holdB ki bo q = if ki = 0 then decide (s ≤ 0) else if ki = 1 then decide (0 ≤ s) else decide (s = 0) := by rw [hs]; rfl
  rw [← hs] at CM
  rw [hh]
  obtain ⟨_, _, r2, _, r4⟩ := blk_five K0
  obtain ⟨z0, z1, z2⟩ := blk_three K1
  have BB := hid B0
  clear hv K0 K1 B0 hs hh
  go_enter Tryz.func71, Tryz.ntmps71
  go_upto_region 1 with fail
  rw [← hW]
  clear hW
  go_region_held3 (fun W => W.cell? ⟨w.heap.size, 4, none⟩ = some (.int .i64 bo) ∧ W.cell? ⟨w.heap.size + 1, 0, none⟩ = some (.bool g) ∧ W.cell? ⟨w.heap.size + 1, 1, none⟩ = some (.slice A n c) ∧ W.cell? ⟨w.heap.size + 1, 2, none⟩ = some (.slice D m d))
    (refine ⟨?_, ?_, ?_, ?_⟩ <;> repeat' (first | with_reducible assumption | with_reducible refine cell_dr ?_ | with_reducible refine cell_al ?_ | with_reducible refine cell_fr ?_ (by omega)))
    (first
      | (go_at_call 73; refine (CM.out w1 X1.out A1 n1 c1 D1 m1 d1 R1.out).mono ?_; rintro e w2 ⟨rfl, b⟩; have r2_2 := cell_bx r2_1 b; have r4_2 := cell_bx r4_1 b; have z0_2 := cell_bx z0_1 b; have z1_2 := cell_bx z1_1 b; have z2_2 := cell_bx z2_1 b; have X2 := hid (bx_call X1.out b); clear b)
      | (go_at_call 74; refine (FR.out _).mono ?_; rintro e w1 ⟨A1, n1, c1, D1, m1, d1, rfl, r, b⟩; have r2_1 := cell_bx (cell_dr r2) b; have r4_1 := cell_bx (cell_dr r4) b; have z0_1 := cell_bx (cell_dr z0) b; have z1_1 := cell_bx (cell_dr z1) b; have z2_1 := cell_bx (cell_dr z2) b; have R1 := hid r; have X1 := hid (bx_call BB.out (bx_call (bx_drew (bx_refl _)) b)); clear b r))
  by_cases k0 : ki = 0
  · have t0 : decide (ki = 0) = true := decide_eq_true k0
    rw [if_pos k0]
    go_wp2_with fail
    go_ret
    exact ⟨rfl, X2.out⟩
  · have t0 : decide (ki = 0) = false := decide_eq_false k0
    rw [if_neg k0]
    by_cases k1 : ki = 1
    · have t1 : decide (ki = 1) = true := decide_eq_true k1
      rw [if_pos k1]
      go_wp2_with fail
      go_ret
      exact ⟨rfl, X2.out⟩
    · have t1 : decide (ki = 1) = false := decide_eq_false k1
      rw [if_neg k1]
      go_wp2_with fail
      go_ret
      exact ⟨rfl, X2.out⟩
def within (op : Bool) (lo up : Int) (q : Rat) : Prop := ¬sgnQ (q - (lo : Rat)) < 0 ∧ ¬(op = false ∧ 0 < sgnQ (q - (up : Rat)))
instance (op : Bool) (lo up : Int) (q : Rat) : Decidable (within op lo up q) := by unfold within; infer_instance
def insB (vn : Nat) (lo up : Nat → Int) (op : Nat → Bool) (q : Nat → Rat) : Bool := decide (∀ j, j < vn → within (op j) (lo j) (up j) (q j))
theorem insB_congr {vn : Nat} {lo up : Nat → Int} {op : Nat → Bool} {p q : Nat → Rat} (h : ∀ j, j < vn → p j = q j) : insB vn lo up op p = insB vn lo up op q := by
  refine decide_eq_decide.2 ⟨fun g j hj => ?_, fun g j hj => ?_⟩
  · rw [← h j hj]; exact g j hj
  · rw [h j hj]; exact g j hj
set_option maxHeartbeats 4000000 in
theorem vinside (V0 : Option Addr) (vn vc : Nat) (R0 : Option Addr) (rn rc : Nat) (lo up : Nat → Int) (op it : Nat → Bool) (co : Nat → Int) (A : Option Addr) (n c k : Nat) (qs : Nat → Rat) (w : World) (hT : Vs w V0 vn vc lo up op it co) (hQ : Qs w A n c k qs) (hk : k ≤ 274877906941) :
    Calls Tryz.prog 26 #[.agg #[.slice V0 vn vc, .slice R0 rn rc], .slice A n c] w (RetB w (insB vn lo up op (fun j : Nat => atQ (min vn n) qs (j : Int)))) := by
  have hc := hT.1
  have hc2 := hT.2.1
  have hqn : n ≤ 9223372036854775807 := Nat.le_trans hQ.1 hQ.2.1
  obtain ⟨m, hm⟩ : ∃ m, m = min vn n := ⟨_, rfl⟩
  rw [← hm]
  have hmn : m ≤ n := by omega
  obtain ⟨q, hq⟩ : ∃ q : Nat → Rat, q = fun j : Nat => atQ m qs (j : Int) := ⟨_, rfl⟩
  rw [← hq]
  obtain ⟨W0, hW⟩ : ∃ W, W = w.alloc (.cells #[.slice V0 vn vc, .slice R0 rn rc] 25) := ⟨_, rfl⟩
  have B0 := bx_alloc (bx_refl w) (.cells #[.slice V0 vn vc, .slice R0 rn rc] 25)
  have KP := Blk.new w [.slice V0 vn vc, .slice R0 rn rc] 25
  change Blk (w.alloc (.cells #[.slice V0 vn vc, .slice R0 rn rc] 25)) _ _ _ at KP
  rw [← hW] at B0 KP
  have EL := hid (velem A n c vn m W0 hqn hm)
  have HT := hid hT
  have z0 := (blk_two KP).1
  have BB := hid B0
  have KKP := hid KP
  have AT0 := hid (fun (W : World) (bn bl : Nat) (b : Below w.heap.size w W) (kn : Blk W bn [.int .i64 m] 3) (kl : Blk W bl [.slice A n c] 32) (j : Nat) => (show Calls Tryz.prog 109 #[.int .i64 (j : Int), .pointer (some ⟨bn, 0, none⟩), .pointer (some ⟨bl, 0, none⟩)] W (RetV W (q j) k) by rw [hq]; exact velem1 bn bl A n c k m qs (j : Int) W (hQ.keep b) kn kl hmn))
  clear hT hQ hq KP B0
  go_enter Tryz.func26, Tryz.ntmps26
  go_upto_region 1 with fail
  rw [← hW]
  clear hW
  go_wp2_with fail
  refine (EL.out).mono ?_
  rintro e W2 ⟨bn, bl, rfl, kn, kl, _, _, b⟩
  have HN := hid kn
  have HL := hid kl
  have AT := hid (fun (W : World) (b2 : Below W2.heap.size W2 W) (j : Nat) => AT0.out W bn bl (bx_call (bx_call BB.out b) b2) (kn.keep b2) (kl.keep b2) j)
  have HB := hid (bx_call BB.out b)
  have z0 := (blk_two (KKP.out.keep b)).1
  clear EL kn kl b KKP BB AT0 HN HL
  unfold El
  go_wp2_with fail
  go_loopw [16] (fun i wr => ∃ j : Nat, j ≤ vn ∧ i = .int .i64 j ∧ Hid ((∀ i, i < j → within (op i) (lo i) (up i) (q i)) ∧ Below W2.heap.size W2 wr)) (fun i _ => vn - (intOf i).toNat)
  case atStart => exact ⟨0, Nat.zero_le _, rfl, hid ⟨fun i hi => absurd hi (by omega), bx_refl W2⟩⟩
  case round =>
    clear z0
    obtain ⟨j, hj, rfl, hz⟩ := hrel
    rcases Nat.lt_or_ge j vn with hlt | hge
    · have BZ := bx_call HB.out hz.out.2
      obtain ⟨b, o, rfl, hb, hcell⟩ := HT.out.2.2.2 (by omega)
      obtain ⟨⟨l1, l2⟩, ⟨u1, u2⟩, _⟩ := HT.out.2.2.1 j hlt
      have x0 := cell_bx (hcell j hlt).1 BZ
      have x1 := cell_bx (hcell j hlt).2.1 BZ
      have x2 := cell_bx (hcell j hlt).2.2.1 BZ
      have x3 := cell_bx (hcell j hlt).2.2.2.1 BZ
      have x4 := cell_bx (hcell j hlt).2.2.2.2 BZ
      obtain ⟨W3, hW3⟩ : ∃ W, W = wr.alloc (.cells #[.int .i64 (lo j), .int .i64 (up j), .bool (op j), .bool (it j), .int .i64 (co j)] 60) := ⟨_, rfl⟩
      have B1 := bx_alloc (bx_refl wr) (.cells #[.int .i64 (lo j), .int .i64 (up j), .bool (op j), .bool (it j), .int .i64 (co j)] 60)
      have KT := Blk.new wr [.int .i64 (lo j), .int .i64 (up j), .bool (op j), .bool (it j), .int .i64 (co j)] 60
      change Blk (wr.alloc (.cells #[.int .i64 (lo j), .int .i64 (up j), .bool (op j), .bool (it j), .int .i64 (co j)] 60)) _ _ _ at KT
      rw [← hW3] at B1 KT
      have X0 := hid (bx_call hz.out.2 B1)
      have K0 := hid KT
      have OK := hid hz.out.1
      have CMa := hid (fun (W : World) (g : Bool) (A1 : Option Addr) (n1 c1 : Nat) (D1 : Option Addr) (m1 d1 : Nat) (L : FrV W g A1 n1 c1 D1 m1 d1 k (q j)) (A2 : Option Addr) (n2 c2 : Nat) (D2 : Option Addr) (m2 d2 : Nat) (M : FrL W A2 n2 c2 D2 m2 d2 2 (lo j : Rat)) => vcmp g A1 n1 c1 D1 m1 d1 (sg (lo j : Rat).num) A2 n2 c2 D2 m2 d2 (2 + k) (q j) (lo j : Rat) W (L.up (by omega)) (M.v.up (by omega)) (by omega))
      have CMb := hid (fun (W : World) (g : Bool) (A1 : Option Addr) (n1 c1 : Nat) (D1 : Option Addr) (m1 d1 : Nat) (L : FrV W g A1 n1 c1 D1 m1 d1 k (q j)) (A2 : Option Addr) (n2 c2 : Nat) (D2 : Option Addr) (m2 d2 : Nat) (M : FrL W A2 n2 c2 D2 m2 d2 2 (up j : Rat)) => vcmp g A1 n1 c1 D1 m1 d1 (sg (up j : Rat).num) A2 n2 c2 D2 m2 d2 (2 + k) (q j) (up j : Rat) W (L.up (by omega)) (M.v.up (by omega)) (by omega))
      have FRa := hid (fun W => vfrom (lo j) W l1 l2)
      have FRb := hid (fun W => vfrom (up j) W u1 u2)
      have NO := hid (fun (W : World) (X : Below W2.heap.size W2 W) (h : ¬within (op j) (lo j) (up j) (q j)) => (⟨by rw [show insB vn lo up op q = false from decide_eq_false fun g => h (g j hlt)], bx_call HB.out X⟩ : RetB w (insB vn lo up op q) (.returned (.bool false)) W))
      have YE := hid (fun (W : World) (X : Below W2.heap.size W2 W) (h : within (op j) (lo j) (up j) (q j)) => (⟨fun i hi => by
        rcases Nat.lt_or_ge i j with h1 | h1
        · exact OK.out i h1
        · obtain rfl : i = j := by omega
          exact h, X⟩ : (∀ i, i < j + 1 → within (op i) (lo i) (up i) (q i)) ∧ Below W2.heap.size W2 W))
      obtain ⟨s1, hs1⟩ : ∃ s, s = sgnQ (q j - (lo j : Rat)) := ⟨_, rfl⟩
      obtain ⟨s2, hs2⟩ : ∃ s, s = sgnQ (q j - (up j : Rat)) := ⟨_, rfl⟩
      have WI : within (op j) (lo j) (up j) (q j) ↔ (¬s1 < 0 ∧ ¬(op j = false ∧ 0 < s2)) := by rw [hs1, hs2]; exact Iff.rfl
      rw [← hs1] at CMa
      rw [← hs2] at CMb
      clear hz B1 KT HT hcell BZ HB OK hs1 hs2
      go_upto_region 5 with fail
      rw [← hW3]
      clear hW3 x0 x1 x2 x3 x4
      obtain ⟨c0, c1, c2, _, _⟩ := blk_five K0.out
      go_region_held3 (fun W => W.cell? ⟨wr.heap.size, 0, none⟩ = some (.int .i64 (lo j)))
        (repeat' (first | with_reducible assumption | with_reducible refine cell_dr ?_ | with_reducible refine cell_al ?_ | with_reducible refine cell_fr ?_ (by omega)))
        (first
          | (go_at_call 73; refine (CMa.out v2 ga Aa na ca Da ma da Ea2.out Ba pa ra Ca qa sa Ma.out).mono ?_; rintro e v3 ⟨rfl, b⟩; have Xa3 := hid (bx_call Xa2.out b); have Ka3 := hid (Ka2.out.keep b); have ha3 := cell_bx ha2 b; clear b)
          | (go_at_call 74; refine (FRa.out v1).mono ?_; rintro e v2 ⟨Ba, pa, ra, Ca, qa, sa, rfl, r, b⟩; have Xa2 := hid (bx_call Xa1.out b); have Ka2 := hid (Ka1.out.keep b); have Ea2 := hid (Ea1.out.keep b); have ha2 := cell_bx ha1 b; have Ma := hid r; clear b r)
          | (go_at_call 109; refine (AT.out _ (bx_call X0.out (bx_drew (bx_refl _))) j).mono ?_; rintro e v1 ⟨ga, Aa, na, ca, Da, ma, da, rfl, r, b⟩; have Xa1 := hid (bx_call X0.out (bx_call (bx_drew (bx_refl _)) b)); have Ka1 := hid (K0.out.keep (bx_call (bx_drew (bx_refl _)) b)); have ha1 := cell_bx (cell_dr c0) b; have Ea1 := hid r; clear b r))
      clear c0 c1 c2
      by_cases t : s1 < 0
      · have t1 : decide (s1 < 0) = true := decide_eq_true t
        have NN := hid (NO.out v3 Xa3.out (fun h => by have := (WI.1 h).1; omega))
        clear NO YE Xa3 Ka3 AT CMa CMb FRa FRb WI
        go_wp2_with fail
        go_ret
        exact NN.out
      · have t1 : decide (s1 < 0) = false := decide_eq_false t
        by_cases k1 : op j = true
        · obtain ⟨_, _, c2, _, _⟩ := blk_five Ka3.out
          rw [k1] at c2
          have YY := hid (fun nq : Nat => YE.out (v3.drewN nq) (bx_drewN Xa3.out nq) (WI.2 ⟨by omega, fun h => by rw [k1] at h; cases h.1⟩))
          clear NO YE Xa3 Ka3 AT CMa CMb FRa FRb WI
          go_wp2_with fail
          go_quiet (fail)
          go_wp2_with fail
          go_roundw
          case rel => exact ⟨j + 1, by omega, by go_num, hid (YY.out _)⟩
          case measure => simp [intOf]; omega
        · have k2 : op j = false := by simpa using k1
          obtain ⟨_, c1, c2, _, _⟩ := blk_five Ka3.out
          rw [k2] at c2
          go_wp2_with fail
          go_region_held3 (fun W => W.cell? ⟨wr.heap.size, 1, none⟩ = some (.int .i64 (up j)) ∧ W.cell? ⟨wr.heap.size, 2, none⟩ = some (.bool false))
            (refine ⟨?_, ?_⟩ <;> repeat' (first | with_reducible assumption | with_reducible refine cell_dr ?_ | with_reducible refine cell_al ?_ | with_reducible refine cell_fr ?_ (by omega)))
            (first
              | (go_at_call 73; refine (CMb.out v5 gb Ab nb cb Db mb db Eb2.out Bb pb rb Cb qb sb Mb.out).mono ?_; rintro e v6 ⟨rfl, b⟩; have Xb3 := hid (bx_call Xb2.out b); have hb3 := cell_bx hb2 b; have ib3 := cell_bx ib2 b; clear b)
              | (go_at_call 74; refine (FRb.out v4).mono ?_; rintro e v5 ⟨Bb, pb, rb, Cb, qb, sb, rfl, r, b⟩; have Xb2 := hid (bx_call Xb1.out b); have Eb2 := hid (Eb1.out.keep b); have hb2 := cell_bx hb1 b; have ib2 := cell_bx ib1 b; have Mb := hid r; clear b r)
              | (go_at_call 109; refine (AT.out _ (bx_call Xa3.out (bx_drew (bx_refl _))) j).mono ?_; rintro e v4 ⟨gb, Ab, nb, cb, Db, mb, db, rfl, r, b⟩; have Xb1 := hid (bx_call Xa3.out (bx_call (bx_drew (bx_refl _)) b)); have hb1 := cell_bx (cell_dr c1) b; have ib1 := cell_bx (cell_dr c2) b; have Eb1 := hid r; clear b r))
          by_cases u : 0 < s2
          · have u1 : decide (0 < s2) = true := decide_eq_true u
            have NN := hid (NO.out v6 Xb3.out (fun h => (WI.1 h).2 ⟨k2, u⟩))
            clear NO YE Xa3 Ka3 AT CMa CMb FRa FRb WI Xb3
            go_wp2_with fail
            go_ret
            exact NN.out
          · have u1 : decide (0 < s2) = false := decide_eq_false u
            have YY := hid (YE.out v6 Xb3.out (WI.2 ⟨by omega, fun h => u h.2⟩))
            clear NO YE Xa3 Ka3 AT CMa CMb FRa FRb WI Xb3
            go_wp2_with fail
            go_roundw
            case rel => exact ⟨j + 1, by omega, by go_num, YY⟩
            case measure => simp [intOf]; omega
    · obtain rfl : j = vn := by omega
      have YY := hid (show RetB w (insB j lo up op q) (.returned (.bool true)) wr from ⟨by rw [show insB j lo up op q = true from decide_eq_true hz.out.1], bx_call HB.out hz.out.2⟩)
      clear HT AT hz HB
      go_wp2_with fail
      go_ret
      exact YY.out
end Go.Proofs.YtdbccidlnhjfhaaGreatDoor
