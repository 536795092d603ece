/- Combine in the valid form. -/
import Derived.Test.YtdbccidlnhjfhaaGreatDoorLinC
import Derived.Test.YtdbccidlnhjfhaaGreatDoorLinL
import Derived.Deep.DeepCutAuto
import Derived.BigQuiet
namespace Go.Proofs.YtdbccidlnhjfhaaGreatDoor
open Go.RowKit
set_option maxRecDepth 100000
theorem FrW.up {w : World} {g : Bool} {A : Option Addr} {n c : Nat} {D : Option Addr} {m d j k : Nat} {q : Rat} (h : FrW w g A n c D m d j q) (hk : j ≤ k) : FrW w g A n c D m d k q := ⟨h.e, h.l.1, Nat.le_trans h.l.2.1 hk, h.l.2.2.1, Nat.le_trans h.l.2.2.2.1 hk, Nat.le_trans h.l.2.2.2.2 hk⟩
def QW (w : World) (b n k : Nat) (qs : Nat → Rat) : Prop := ∃ cs : List Value, Blk w b cs 41 ∧ cs.length = n * 3 ∧ ∀ i, i < n → ∃ g A n' c D m d, cs[i * 3]? = some (.bool g) ∧ cs[i * 3 + 1]? = some (.slice A n' c) ∧ cs[i * 3 + 2]? = some (.slice D m d) ∧ FrW w g A n' c D m d k (qs i)
theorem QW.keep {w w' : World} {b n k : Nat} {qs : Nat → Rat} (h : QW w b n k qs) (hb : Below w.heap.size w w') : QW w' b n k qs := by
  obtain ⟨cs, hB, hl, hc⟩ := h
  refine ⟨cs, hB.keep hb, hl, fun i hi => ?_⟩
  obtain ⟨g, A, n', c, D, m, d, h0, h1, h2, h3⟩ := hc i hi
  exact ⟨g, A, n', c, D, m, d, h0, h1, h2, h3.keep hb⟩
theorem QW.lt {w : World} {b n k : Nat} {qs : Nat → Rat} (h : QW w b n k qs) : b < w.heap.size := by
  obtain ⟨cs, hB, _⟩ := h
  exact hB.lt
theorem QW.free {w : World} {b n k : Nat} {qs : Nat → Rat} (h : QW w b n k qs) (i : Nat) : w.frozen? ⟨b, i, none⟩ = false := by
  obtain ⟨cs, hB, _⟩ := h
  exact hB.free i
theorem QW.congr {w : World} {b n k : Nat} {qs ps : Nat → Rat} (h : QW w b n k qs) (e : ∀ i, i < n → qs i = ps i) : QW w b n k ps := by
  obtain ⟨cs, hB, hl, hc⟩ := h
  refine ⟨cs, hB, hl, fun i hi => ?_⟩
  obtain ⟨g, A, n', c, D, m, d, h0, h1, h2, h3⟩ := hc i hi
  exact ⟨g, A, n', c, D, m, d, h0, h1, h2, by rw [← e i hi]; exact h3⟩
theorem QW.get {w : World} {b n k : Nat} {qs : Nat → Rat} (h : QW w b n k qs) {i : Nat} (hi : i < n) : ∃ g A n' c D m d, w.cell? ⟨b, i * 3, none⟩ = some (.bool g) ∧ w.cell? ⟨b, i * 3 + 1, none⟩ = some (.slice A n' c) ∧ w.cell? ⟨b, i * 3 + 2, none⟩ = some (.slice D m d) ∧ FrW w g A n' c D m d k (qs i) := by
  obtain ⟨cs, hB, hl, hc⟩ := h
  obtain ⟨g, A, n', c, D, m, d, h0, h1, h2, h3⟩ := hc i hi
  exact ⟨g, A, n', c, D, m, d, by rw [hB.cell]; exact h0, by rw [hB.cell]; exact h1, by rw [hB.cell]; exact h2, h3⟩
theorem QW.set {w : World} {b n k : Nat} {qs : Nat → Rat} (h : QW w b n k qs) {i : Nat} (hi : i < n) {g : Bool} {A : Option Addr} {n' c : Nat} {D : Option Addr} {m d : Nat} {q : Rat} (f : FrW w g A n' c D m d k q) :
    QW (((w.setCell ⟨b, i * 3, none⟩ (.bool g)).setCell ⟨b, i * 3 + 1, none⟩ (.slice A n' c)).setCell ⟨b, i * 3 + 2, none⟩ (.slice D m d)) b n k (fun j => if j = i then q else qs j) := by
  obtain ⟨cs, hB, hl, hc⟩ := h
  have hp : ∀ i, i < n → ∃ (g : Bool) (A : Option Addr) (n' c : Nat) (D : Option Addr) (m d : Nat), cs[i * 3]? = some (.bool g) ∧ cs[i * 3 + 1]? = some (.slice A n' c) ∧ cs[i * 3 + 2]? = some (.slice D m d) := fun i hi => by
    obtain ⟨g, A, n', c, D, m, d, h0, h1, h2, _⟩ := hc i hi
    exact ⟨g, A, n', c, D, m, d, h0, h1, h2⟩
  have keep3 : ∀ {g1 : Bool} {A1 : Option Addr} {n1 c1 : Nat} {D1 : Option Addr} {m1 d1 : Nat} {q1 : Rat}, FrW w g1 A1 n1 c1 D1 m1 d1 k q1 → FrW (((w.setCell ⟨b, i * 3, none⟩ (.bool g)).setCell ⟨b, i * 3 + 1, none⟩ (.slice A n' c)).setCell ⟨b, i * 3 + 2, none⟩ (.slice D m d)) g1 A1 n1 c1 D1 m1 d1 k q1 := fun {g1 A1 n1 c1 D1 m1 d1 q1} f1 => by
    obtain ⟨he, f1, f2, f3, f4, f5⟩ := f1
    have far : ∀ {B : Option Addr} {x y : Nat} {zs : List Nat}, Rd w B x y zs → Rd (((w.setCell ⟨b, i * 3, none⟩ (.bool g)).setCell ⟨b, i * 3 + 1, none⟩ (.slice A n' c)).setCell ⟨b, i * 3 + 2, none⟩ (.slice D m d)) B x y zs := fun {B x y zs} r => by
      obtain ⟨r1, r2, r3, r4, r5⟩ := r
      refine ⟨r1, r2, r3, r4, fun hn => ?_⟩
      obtain ⟨e, o, hA, hlt, hcc⟩ := r5 hn
      have hne : e ≠ b := by
        rintro rfl
        have h6 := hcc 0 hn
        rw [Blk.cell hB (o + 0)] at h6
        exact qb_plain hl hp _ _ h6
      refine ⟨e, o, hA, by rw [World.size_setCell, World.size_setCell, World.size_setCell]; exact hlt, fun j hj => ?_⟩
      rw [← hcc j hj]
      exact ((World.cell?_of_block (Below.heap_setCell _ ⟨b, i * 3 + 2, none⟩ _ e hne)).trans (World.cell?_of_block (Below.heap_setCell _ ⟨b, i * 3 + 1, none⟩ _ e hne))).trans (World.cell?_of_block (Below.heap_setCell w ⟨b, i * 3, none⟩ _ e hne))
    exact ⟨he, far f1, f2, far f3, f4, f5⟩
  refine ⟨((cs.set (i * 3) (.bool g)).set (i * 3 + 1) (.slice A n' c)).set (i * 3 + 2) (.slice D m d), ((hB.set_ _ _).set_ _ _).set_ _ _, by simp only [List.length_set]; exact hl, fun j hj => ?_⟩
  by_cases hji : j = i
  · subst hji
    refine ⟨g, A, n', c, D, m, d, ?_, ?_, ?_, by show FrW _ _ _ _ _ _ _ _ _ (if j = j then q else qs j); rw [if_pos rfl]; exact keep3 f⟩
    · rw [List.getElem?_set_ne (by omega), List.getElem?_set_ne (by omega), List.getElem?_set_self (by omega)]
    · rw [List.getElem?_set_ne (by omega), List.getElem?_set_self (by rw [List.length_set]; omega)]
    · rw [List.getElem?_set_self (by rw [List.length_set, List.length_set]; omega)]
  · obtain ⟨g1, A1, n1, c1, D1, m1, d1, h0, h1, h2, h3⟩ := hc j hj
    refine ⟨g1, A1, n1, c1, D1, m1, d1, ?_, ?_, ?_, by show FrW _ _ _ _ _ _ _ _ _ (if j = i then q else qs j); rw [if_neg hji]; exact keep3 h3⟩
    · rw [List.getElem?_set_ne (by omega), List.getElem?_set_ne (by omega), List.getElem?_set_ne (by omega)]; exact h0
    · rw [List.getElem?_set_ne (by omega), List.getElem?_set_ne (by omega), List.getElem?_set_ne (by omega)]; exact h1
    · rw [List.getElem?_set_ne (by omega), List.getElem?_set_ne (by omega), List.getElem?_set_ne (by omega)]; exact h2
theorem QW.start (w : World) (n : Nat) {k : Nat} (hk : 1 ≤ k) : QW (w.alloc (.cells (qzs n).toArray 41)) w.heap.size n k (fun _ => 0) :=
  ⟨qzs n, Blk.new w (qzs n) _, qzs_len n, fun _ hi => ⟨false, none, 0, 0, none, 0, 0, (qzs_get hi).1, (qzs_get hi).2.1, (qzs_get hi).2.2, FrW.zero _ hk⟩⟩
theorem QW.far3 {w : World} {b n k g : Nat} {qs : Nat → Rat} {b0 : Bool} {A0 D0 : Option Addr} {n0 c0 m0 d0 : Nat} (h : QW w b n k qs) (K : Blk w g [.bool b0, .slice A0 n0 c0, .slice D0 m0 d0] 41) (hne : b ≠ g) (u v x : Value) : QW (((w.setCell ⟨g, 0, none⟩ u).setCell ⟨g, 1, none⟩ v).setCell ⟨g, 2, none⟩ x) b n k qs := by
  obtain ⟨cs, hB, hl, hc⟩ := h
  refine ⟨cs, ((hB.far hne _).far hne _).far hne _, hl, fun i hi => ?_⟩
  obtain ⟨g1, A, n', c, D, m, d, h0, h1, h2, h3⟩ := hc i hi
  exact ⟨g1, A, n', c, D, m, d, h0, h1, h2, frw_far3 h3 K _ _ _⟩
def RetCw (w : World) (vn k : Nat) (f : Nat → Rat) (q : Rat) (e : Ending) (w' : World) : Prop := ∃ Cb g A n c D m d, e = .returned (.tuple #[.slice (some ⟨Cb, 0, none⟩) vn vn, .agg #[.bool g, .slice A n c, .slice D m d]]) ∧ QW w' Cb vn k f ∧ FrW w' g A n c D m d k q ∧ w.heap.size ≤ Cb ∧ Below w.heap.size w w'
structure CmW (w : World) (cs : List Value) (rb bn bl Cb B vn K mm : Nat) (A : Option Addr) (n c : Nat) (L : Nat → List (Int × Int)) (f : Nat → Rat) (W : World) : Prop where
  bel : Below w.heap.size w W
  box : Blk W w.heap.size cs 25
  res : Blk W rb [.bool false, .slice none 0 0, .slice none 0 0] 41
  kn : Blk W bn [.int .i64 mm] 3
  kl : Blk W bl [.slice A n c] 32
  cols : ColsP W B vn 94 33 L
  qb : QW W Cb vn K f
section
variable {w W W' : World} {cs : List Value} {rb bn bl Cb B vn K mm : Nat} {A : Option Addr} {n c : Nat} {L : Nat → List (Int × Int)} {f : Nat → Rat}
theorem CmW.keep (h : CmW w cs rb bn bl Cb B vn K mm A n c L f W) (b : Below W.heap.size W W') : CmW w cs rb bn bl Cb B vn K mm A n c L f W' :=
  ⟨bx_call h.bel b, h.box.keep b, h.res.keep b, h.kn.keep b, h.kl.keep b, h.cols.keep b, h.qb.keep b⟩
theorem CmW.store (h : CmW w cs rb bn bl Cb B vn K mm A n c L f W) (h1 : w.heap.size < Cb) (h2 : rb < Cb) (h3 : bn < Cb) (h4 : bl < Cb) (h5 : Cb < B) {i : Nat} (hi : i < vn) {g : Bool} {A1 : Option Addr} {n1 c1 : Nat} {D1 : Option Addr} {m1 d1 : Nat} {q : Rat} (r : FrW W g A1 n1 c1 D1 m1 d1 K q) :
    CmW w cs rb bn bl Cb B vn K mm A n c L (fun j => if j = i then q else f j) (((W.setCell ⟨Cb, i * 3, none⟩ (.bool g)).setCell ⟨Cb, i * 3 + 1, none⟩ (.slice A1 n1 c1)).setCell ⟨Cb, i * 3 + 2, none⟩ (.slice D1 m1 d1)) :=
  ⟨bx_set (bx_set (bx_set h.bel (by omega)) (by omega)) (by omega), ((h.box.far (by omega) _).far (by omega) _).far (by omega) _, ((h.res.far (by omega) _).far (by omega) _).far (by omega) _, ((h.kn.far (by omega) _).far (by omega) _).far (by omega) _, ((h.kl.far (by omega) _).far (by omega) _).far (by omega) _, ((h.cols.far h5 _).far h5 _).far h5 _, h.qb.set hi r⟩
theorem CmW.congr (h : CmW w cs rb bn bl Cb B vn K mm A n c L f W) {f' : Nat → Rat} (e : ∀ j, j < vn → f j = f' j) : CmW w cs rb bn bl Cb B vn K mm A n c L f' W := ⟨h.bel, h.box, h.res, h.kn, h.kl, h.cols, h.qb.congr e⟩
end
set_option maxHeartbeats 8000000 in
theorem vcombineL (V0 : Option Addr) (vn vc : Nat) (R0 : Option Addr) (rn rc : Nat) (nm : Nat → ByteArray) (gr ki bo : Nat → Int) (TA : Nat → Option Addr) (tn tc : Nat → Nat) (v cf : Nat → Nat → Int) (A : Option Addr) (n c k : Nat) (qs : Nat → Rat) (w : World) (hvn : vn ≤ 1000000) (hR : Rs w R0 rn rc nm gr ki bo TA tn tc v cf) (m : Nat) (htn : ∀ i, i < rn → tn i ≤ m) (hm : rn * m + m ≤ 900000000) (hrn : rn ≤ 1000000) (hQ : Qs w A n c k qs) (K : Nat) (hK : (rn * m + rn) * (k + 3) + 1 ≤ K) (hK2 : K + (k + 2) ≤ 274877906943) :
    Calls Tryz.prog 30 #[.agg #[.slice V0 vn vc, .slice R0 rn rc], .slice A n c] w (RetCw w vn K (cmbA rn tn v cf (fun i : Nat => atQ n qs (i : Int))) (cmbB rn bo (fun i : Nat => atQ n qs (i : Int)))) := by
  have hd := hR.1
  have hd2 := hR.2.1
  have hqn : n ≤ 9223372036854775807 := Nat.le_trans hQ.1 hQ.2.1
  have hk1 := hQ.2.2.1
  obtain ⟨mm, hmm⟩ : ∃ mm, mm = min rn n := ⟨_, rfl⟩
  have hmn : mm ≤ n := by omega
  have HY := hid (fun i (hi : i < rn) => (show atQ mm qs (i : Int) = atQ n qs (i : Int) by rw [hmm]; exact atQ_min rn n qs hi))
  obtain ⟨W0, hW⟩ : ∃ W, W = (w.alloc (.cells #[.slice V0 vn vc, .slice R0 rn rc] 25)).alloc (.cells #[.bool false, .slice none 0 0, .slice none 0 0] 41) := ⟨_, rfl⟩
  have B0 := bx_alloc (bx_alloc (bx_refl w) (.cells #[.slice V0 vn vc, .slice R0 rn rc] 25)) (.cells #[.bool false, .slice none 0 0, .slice none 0 0] 41)
  have K0 := (Blk.new w [.slice V0 vn vc, .slice R0 rn rc] 25).alloc (.cells #[.bool false, .slice none 0 0, .slice none 0 0] 41)
  have K1 := blk_new1 w (.cells #[.slice V0 vn vc, .slice R0 rn rc] 25) [.bool false, .slice none 0 0, .slice none 0 0] 41
  have hz : W0.heap.size = w.heap.size + 2 := by rw [hW]; simp
  change Blk ((w.alloc (.cells #[.slice V0 vn vc, .slice R0 rn rc] 25)).alloc (.cells #[.bool false, .slice none 0 0, .slice none 0 0] 41)) _ _ _ at K0 K1
  rw [← hW] at B0 K0 K1
  obtain ⟨z0, z1⟩ := blk_two K0
  have EL := hid (velem A n c rn mm W0 hqn hmm)
  have HR := hid hR
  have HT := hid htn
  have HQ := hid hQ
  have BB := hid B0
  have KK := hid K0
  have KR := hid K1
  have HZ := hid hz
  have hmk := run_make_rats vn hvn
  obtain ⟨F, hF⟩ : ∃ F : Nat → Rat, F = cmbA rn tn v cf (fun i : Nat => atQ n qs (i : Int)) := ⟨_, rfl⟩
  obtain ⟨G, hG⟩ : ∃ G : Rat, G = cmbB rn bo (fun i : Nat => atQ n qs (i : Int)) := ⟨_, rfl⟩
  rw [← hF, ← hG]
  have HF := hid hF
  have HG := hid hG
  clear hR htn hQ B0 K0 K1 hz hmm hF hG
  go_enter Tryz.func30, Tryz.ntmps30
  go_upto_region 1 with fail
  rw [← hW]
  clear hW
  go_wp2_with fail
  refine (EL.out).mono ?_
  rintro e W1 ⟨bn, bl, rfl, kn, kl, hbn, hbl, b⟩
  have B1 := bx_call BB.out b
  have K1 := KK.out.keep b
  have R1 := KR.out.keep b
  have hbn2 := kn.lt
  have hbl2 := kl.lt
  have hs1 := b.size
  have B2 := bx_alloc B1 (.cells (qzs vn).toArray 41)
  have HC := hid (vcolumns V0 vn vc R0 rn rc nm gr ki bo TA tn tc v cf (W1.alloc (.cells (qzs vn).toArray 41)) hvn (HR.out.keep B2) m HT.out hm)
  have hk1' : 1 ≤ K := by omega
  have QQ := QW.start W1 vn hk1'
  obtain ⟨y0, y1⟩ := blk_two K1
  obtain ⟨y2, y3⟩ := blk_two (K1.alloc (.cells (qzs vn).toArray 41))
  have P2 := hid (fun (B : Nat) (W : World) (hb : Below (W1.alloc (.cells (qzs vn).toArray 41)).heap.size (W1.alloc (.cells (qzs vn).toArray 41)) W) (hc : ColsP W B vn 94 33 (fun j => colC tn v cf j rn)) => (⟨bx_call B2 hb, (K1.alloc _).keep hb, (R1.alloc _).keep hb, (kn.alloc _).keep hb, (kl.alloc _).keep hb, hc, QQ.keep hb⟩ : CmW w [.slice V0 vn vc, .slice R0 rn rc] (w.heap.size + 1) bn bl W1.heap.size B vn K mm A n c (fun j => colC tn v cf j rn) (fun _ => 0) W))
  have hzz := HZ.out
  clear B1 K1 R1 kn kl b BB KK KR EL B2 QQ HZ z0 z1
  unfold El
  go_wp2_with (with_reducible rw [hmk])
  refine (HC.out).mono ?_
  rintro e W2 ⟨B, rfl, hcol, hBB, b⟩
  have P := hid (P2.out B W2 b hcol)
  have hB : W1.heap.size < B := by simp at hBB; omega
  have hs2 : w.heap.size < W1.heap.size := by omega
  have hs3 : w.heap.size + 1 < W1.heap.size := by omega
  obtain ⟨z0, z1⟩ := blk_two P.out.box
  clear HC P2 hcol hBB b hbn hbl hs1 hzz y0 y1 y2 y3 hmk
  have hlk : ∀ l, l ≤ rn * m → l * (k + 3) + 1 ≤ K := fun l hl => Nat.le_trans (Nat.add_le_add_right (Nat.mul_le_mul_right _ (Nat.le_trans hl (Nat.le_add_right _ _))) 1) hK
  have hrk : rn * (k + 3) + 1 ≤ K := Nat.le_trans (Nat.add_le_add_right (Nat.mul_le_mul_right _ (Nat.le_add_left _ _)) 1) hK
  have SMC := hid (fun (j : Nat) (hj : j < vn) (W : World) (h : CmW w [.slice V0 vn vc, .slice R0 rn rc] (w.heap.size + 1) bn bl W1.heap.size B vn K mm A n c (fun j => colC tn v cf j rn) (fun i => if i < j then F i else 0) W) => (show ∃ A1 n1 c1, W.cell? ⟨B, j, none⟩ = some (.slice A1 n1 c1) ∧ Calls Tryz.prog 66 #[.slice A1 n1 c1, El bn bl] W (RetW W (F j) K) by
    have hb9 : ∀ p, p ∈ colC tn v cf j rn → (-9223372036854775808 ≤ p.1 ∧ p.1 ≤ 9223372036854775807) ∧ -9223372036854775808 ≤ p.2 ∧ p.2 ≤ 9223372036854775807 := fun p hp => by
      obtain ⟨i, s, h1, h2, h3, h4⟩ := colC_mem hp
      have hT := (HR.out.2.2.1 i h1).2.2.2
      rw [h3, h4]
      exact ⟨⟨by omega, by omega⟩, (hT.2.2.1 s h2).2.1, (hT.2.2.1 s h2).2.2⟩
    obtain ⟨A1, c1, h1, h2⟩ := ColsP.get h.cols hj hb9
    refine ⟨A1, _, c1, h1, ?_⟩
    have hl : (colC tn v cf j rn).length ≤ rn * m := colC_len HT.out
    have := vsumL A1 (colC tn v cf j rn).length c1 _ _ A n c k mm bn bl qs W h2 (HQ.out.keep h.bel) h.kn h.kl hmn (by have := hlk _ hl; omega)
    have e : sumN (fun t => (((colC tn v cf j rn).getD t (0, 0)).2 : Rat) * atQ mm qs ((colC tn v cf j rn).getD t (0, 0)).1) (colC tn v cf j rn).length = F j := by
      have := colC_sum tn v cf j rn (fun z => atQ mm qs z)
      rw [HF.out, ← cmbA_congr HY.out j]
      exact this
    rw [e] at this
    exact this.mono fun _ _ r => by
      obtain ⟨g, A, n, c, D, m, d, h1, h2, h3⟩ := r
      exact ⟨g, A, n, c, D, m, d, h1, h2.up (hlk _ hl), h3⟩))
  have ST := hid (P.out.congr (f' := fun i => if i < 0 then F i else 0) fun i _ => rfl)
  have SMB := hid (fun (W : World) (h : CmW w [.slice V0 vn vc, .slice R0 rn rc] (w.heap.size + 1) bn bl W1.heap.size B vn K mm A n c (fun j => colC tn v cf j rn) F W) (W' : World) (hb : Below W.heap.size W W') (tb : Nat) (ts : Ts W' (some ⟨tb, 0, none⟩) rn rn (fun i => (i : Int)) bo) => (show Calls Tryz.prog 66 #[.slice (some ⟨tb, 0, none⟩) rn rn, El bn bl] W' (RetW W' G K) by
    have := vsumL (some ⟨tb, 0, none⟩) rn rn _ _ A n c k mm bn bl qs W' ts (HQ.out.keep (h.keep hb).bel) (h.keep hb).kn (h.keep hb).kl hmn (by omega)
    have e : sumN (fun j => (bo j : Rat) * atQ mm qs ((j : Nat) : Int)) rn = G := by
      rw [HG.out, ← cmbB_congr HY.out]
      rfl
    rw [e] at this
    exact this.mono fun _ _ r => by
      obtain ⟨g, A, n, c, D, m, d, h1, h2, h3⟩ := r
      exact ⟨g, A, n, c, D, m, d, h1, h2.up hrk, h3⟩))
  have LSB := hid (fun (W : World) (h : CmW w [.slice V0 vn vc, .slice R0 rn rc] (w.heap.size + 1) bn bl W1.heap.size B vn K mm A n c (fun j => colC tn v cf j rn) F W) => vlisted rn 80 #[.pointer (some ⟨w.heap.size, 0, none⟩)] bo W (by omega) (fun i hi => (HR.out.2.2.1 i hi).2.1) cmb1_cf (fun X i hi hX => vcmb1 w.heap.size V0 vn vc R0 rn rc nm gr ki bo TA tn tc v cf i X hi (HR.out.keep (h.keep hX).bel) (h.keep hX).box))
  clear P HR HT HQ HY HF HG hlk hrk
  unfold El at SMC SMB
  go_wp2_with fail
  clear z0 z1
  go_loopw [23] (fun i wr => ∃ j : Nat, j ≤ vn ∧ i = .int .i64 j ∧ Hid (CmW w [.slice V0 vn vc, .slice R0 rn rc] (w.heap.size + 1) bn bl W1.heap.size B vn K mm A n c (fun j => colC tn v cf j rn) (fun i => if i < j then F i else 0) wr)) (fun i _ => vn - (intOf i).toNat)
  case atStart => exact ⟨0, Nat.zero_le _, rfl, ST⟩
  case round =>
    clear ST
    obtain ⟨j, hj, rfl, hz⟩ := hrel
    rcases Nat.lt_or_ge j vn with hlt | hge
    · obtain ⟨A1, n1, c1, x0, CA⟩ := SMC.out j hlt wr hz.out
      have CC := hid CA
      clear CA SMC SMB LSB
      go_wp2_with fail
      refine (CC.out).mono ?_
      rintro e w1 ⟨g2, A2, n2, c2, D2, m2, d2, rfl, r, b1⟩
      have Z1 := hz.out.keep b1
      have ZZ := hid ((Z1.store hs2 hs3 hbn2 hbl2 hB hlt r).congr (f' := fun i => if i < j + 1 then F i else 0) fun i hi => by
        by_cases h : i = j
        · rw [if_pos h, if_pos (by omega), h]
        · rw [if_neg h]
          by_cases h2 : i < j
          · rw [if_pos h2, if_pos (by omega)]
          · rw [if_neg h2, if_neg (by omega)])
      obtain ⟨g3, A3, n3, c3, D3, m3, d3, y0, y1, y2, _⟩ := Z1.qb.get hlt
      have f0 := Z1.qb.free (j * 3)
      have f1 := Z1.qb.free (j * 3 + 1)
      have f2 := Z1.qb.free (j * 3 + 2)
      clear r b1 CC hz Z1 x0
      go_wp2_with fail
      go_roundw
      case rel => exact ⟨j + 1, by omega, by go_num, ZZ⟩
      case measure => simp [intOf]; omega
    · obtain rfl : j = vn := by omega
      have Z1 := hz.out.congr (f' := F) fun i hi => by rw [if_pos hi]
      have LC := hid (LSB.out wr Z1)
      have ZH := hid Z1
      have SC := hid (SMB.out wr Z1)
      obtain ⟨z0, z1⟩ := blk_two Z1.box
      clear hz SMC SMB LSB Z1
      go_wp2_with fail
      refine (LC.out).mono ?_
      rintro e w1 ⟨tb, rfl, ts, _, b1⟩
      have S2 := hid (SC.out w1 b1 tb ts)
      have Z2 := hid (ZH.out.keep b1)
      clear LC ZH SC ts b1 z0 z1
      go_wp2_with fail
      refine (S2.out).mono ?_
      rintro e w2 ⟨g2, A2, n2, c2, D2, m2, d2, rfl, r, b2⟩
      have Z3 := Z2.out.keep b2
      have EE : RetCw w j K F G (.returned (.tuple #[.slice (some ⟨W1.heap.size, 0, none⟩) j j, .agg #[.bool g2, .slice A2 n2 c2, .slice D2 m2 d2]])) (((w2.setCell ⟨w.heap.size + 1, 0, none⟩ (.bool g2)).setCell ⟨w.heap.size + 1, 1, none⟩ (.slice A2 n2 c2)).setCell ⟨w.heap.size + 1, 2, none⟩ (.slice D2 m2 d2)) :=
        ⟨_, _, _, _, _, _, _, _, rfl, Z3.qb.far3 Z3.res (by omega) _ _ _, frw_far3 r Z3.res _ _ _, by omega, bx_set (bx_set (bx_set Z3.bel (by omega)) (by omega)) (by omega)⟩
      have EH := hid EE
      obtain ⟨y0, y1, y2⟩ := blk_three Z3.res
      have f0 := Blk.free Z3.res 0
      have f1 := Blk.free Z3.res 1
      have f2 := Blk.free Z3.res 2
      clear r b2 S2 Z2 Z3 EE
      go_wp2_with fail
      exact bodyPost_ret (v := .tuple #[.slice (some ⟨W1.heap.size, 0, none⟩) j j, .agg #[.bool g2, .slice A2 n2 c2, .slice D2 m2 d2]]) (by simp [results, Tryz.results30, go_sem, y0, y1, y2]) rfl EH.out
end Go.Proofs.YtdbccidlnhjfhaaGreatDoor
