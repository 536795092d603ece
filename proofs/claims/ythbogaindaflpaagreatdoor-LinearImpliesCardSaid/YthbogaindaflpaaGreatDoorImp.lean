/- The law LinearImplies. -/
import Derived.Test.YthbogaindaflpaaGreatDoorAk4
import Derived.Test.YthbogaindaflpaaGreatDoorDrf
import Derived.Deep.DeepCutAuto
import Derived.BigQuiet
namespace Go.Proofs.YthbogaindaflpaaGreatDoor
open Go.RowKit

/-- What the loop reads. -/
structure Im (w : World) (Cb vn : Nat) (cm : Nat → Rat) (bb : Nat) (gb : Bool) (Ab : Option Addr) (nb cb : Nat) (Db : Option Addr) (mb db : Nat) (qb : Rat) (W : World) : Prop where
  bel : Below w.heap.size w W
  qa : QB W Cb vn 1100000 cm
  bk : Blk W bb [.bool gb, .slice Ab nb cb, .slice Db mb db] 41
  bf : FrV W gb Ab nb cb Db mb db 1100000 qb
section
variable {w W W' : World} {Cb vn : Nat} {cm : Nat → Rat} {bb : Nat} {gb : Bool} {Ab : Option Addr} {nb cb : Nat} {Db : Option Addr} {mb db : Nat} {qb : Rat}
theorem Im.keep (h : Im w Cb vn cm bb gb Ab nb cb Db mb db qb W) (b : Below W.heap.size W W') : Im w Cb vn cm bb gb Ab nb cb Db mb db qb W' := ⟨bx_call h.bel b, h.qa.keep b, h.bk.keep b, h.bf.keep b⟩
/-- And the sum so far. -/
structure ImS (w : World) (Cb vn : Nat) (cm : Nat → Rat) (bb : Nat) (gb : Bool) (Ab : Option Addr) (nb cb : Nat) (Db : Option Addr) (mb db : Nat) (qb : Rat) (sb : Nat) (S : Rat) (W : World) : Prop where
  im : Im w Cb vn cm bb gb Ab nb cb Db mb db qb W
  ex : ∃ g A n c D m d, Blk W sb [.bool g, .slice A n c, .slice D m d] 41 ∧ FrV W g A n c D m d 14000000 S
theorem ImS.next {sb : Nat} {b0 : Bool} {A0 D0 : Option Addr} {n0 c0 m0 d0 : Nat} {g : Bool} {A D : Option Addr} {n c m d : Nat} {q : Rat} (h : Im w Cb vn cm bb gb Ab nb cb Db mb db qb W) (K : Blk W sb [.bool b0, .slice A0 n0 c0, .slice D0 m0 d0] 41) (f : FrV W g A n c D m d 14000000 q) (hs : w.heap.size ≤ sb) (h1 : Cb ≠ sb) (h2 : bb ≠ sb) : ImS w Cb vn cm bb gb Ab nb cb Db mb db qb sb q (((W.setCell ⟨sb, 0, none⟩ (.bool g)).setCell ⟨sb, 1, none⟩ (.slice A n c)).setCell ⟨sb, 2, none⟩ (.slice D m d)) :=
  ⟨⟨bx_set (bx_set (bx_set h.bel hs) hs) hs, h.qa.far3 K h1 _ _ _, ((h.bk.far h2 _).far h2 _).far h2 _, frv_far3 h.bf K _ _ _⟩, g, A, n, c, D, m, d, ((K.set_ 0 _).set_ 1 _).set_ 2 _, frv_far3 f K _ _ _⟩
end
theorem few68 {vn rn : Nat} {nm : Nat → ByteArray} {tn : Nat → Nat} (h : fewP vn rn nm tn 6 6 = true) : fewP vn rn nm tn 6 8 = true ∧ vn ≤ 6 := by
  unfold fewP at h ⊢
  simp only [Bool.and_eq_true, decide_eq_true_eq] at h ⊢
  exact ⟨⟨h.1, h.2.1, by omega⟩, h.2.1⟩
theorem short_few {most n : Nat} {N M : Nat → Nat} (h : shortB most n N M = true) : fewQ n N M = true ∧ n ≤ most := by
  unfold shortB at h
  simp only [Bool.and_eq_true, decide_eq_true_eq] at h
  exact ⟨h.2, h.1⟩
theorem imp_math {p : PD} {x y : Nat → Rat} (hs : sgdB p.rn p.ki y = true) (hv : vio (p.rowB x) p.rn = []) : 0 ≤ sgnQ (sumN (fun j => cmbA p.rn p.tn p.v p.cf y j * x j) p.vn - cmbB p.rn p.bo y) := by
  have h1 : ∀ i, i < p.rn → suits (p.ki i) (y i) := of_decide_eq_true hs
  have h2 := vio_nil.1 hv
  have h3 := cmb_weak (vn := p.vn) (x := x) (bo := p.bo) (v := p.v) (cf := p.cf) h1 h2
  have h4 : ¬sgnQ (sumN (fun j => cmbA p.rn p.tn p.v p.cf y j * x j) p.vn - cmbB p.rn p.bo y) < 0 := by
    rw [sgnQ_neg']
    grind
  omega

set_option maxRecDepth 100000 in
set_option maxHeartbeats 8000000 in
theorem linearImplies_any (p : PD) (X Y : LD) (w : World) (h : Pw w p) (hx : X.ok w) (hy : Y.ok w) (ht : Tab w) :
    Calls Tryz.prog 6 #[.agg #[.slice p.V0 p.vn p.vc, .slice p.R0 p.rn p.rc], .slice X.A X.n X.c, .slice Y.A Y.n Y.c] w (RetB w true) := by
  have TB := hid ht
  have CF := hid (fun (W : World) (B : Below w.heap.size w W) => (show Calls Tryz.prog 11 #[.agg #[.slice p.V0 p.vn p.vc, .slice p.R0 p.rn p.rc], .int .i64 6, .int .i64 6] W (RetB W (fewP p.vn p.rn p.nm p.tn 6 6)) from rfewp p.V0 p.vn p.vc p.R0 p.rn p.rc p.nm p.gr p.ki p.bo p.TA p.tn p.tc p.v p.cf 6 6 W (Nat.le_trans h.vs.1 h.vs.2.1) (h.rs.keep B) h.nms (by omega) (by omega)))
  have CX := hid (fun (W : World) (B : Below w.heap.size w W) => (show Calls Tryz.prog 17 #[.slice X.A X.n X.c, .int .i64 8] W (RetB W (shortB 8 X.n X.N X.M)) from rshort X.A X.n X.c 8 X.N X.M X.qs W (hx.keep B) (by omega)))
  have CY := hid (fun (W : World) (B : Below w.heap.size w W) => (show Calls Tryz.prog 17 #[.slice Y.A Y.n Y.c, .int .i64 8] W (RetB W (shortB 8 Y.n Y.N Y.M)) from rshort Y.A Y.n Y.c 8 Y.N Y.M Y.qs W (hy.keep B) (by omega)))
  have C1 := hid (fun (e1 : fewP p.vn p.rn p.nm p.tn 6 6 = true) (e3 : shortB 8 Y.n Y.N Y.M = true) (W : World) (B : Below w.heap.size w W) => d_signed (h := (h.keep B).pg (few68 e1).1) (hQ := Qw.qs (hy.keep B) (short_few e3).1) (hk := by omega))
  have C2 := hid (fun (e1 : fewP p.vn p.rn p.nm p.tn 6 6 = true) (e2 : shortB 8 X.n X.N X.M = true) (W : World) (B : Below w.heap.size w W) => d_violated (h := (h.keep B).pg (few68 e1).1) (hQ := Qw.qs (hx.keep B) (short_few e2).1) (hk := by omega))
  have C3 := hid (fun (e1 : fewP p.vn p.rn p.nm p.tn 6 6 = true) (e3 : shortB 8 Y.n Y.N Y.M = true) (W : World) (B : Below w.heap.size w W) => d_combine (h := (h.keep B).pg (few68 e1).1) (hQ := Qw.qs (hy.keep B) (short_few e3).1) (hk := by omega))
  have QX := hid (fun (e2 : shortB 8 X.n X.N X.M = true) (W : World) (B : Below w.heap.size w W) => Qw.qs (hx.keep B) (short_few e2).1)
  have VN := fun (e1 : fewP p.vn p.rn p.nm p.tn 6 6 = true) => (few68 e1).2
  have M1 := fun (a : sgdB p.rn p.ki (pt Y.n Y.qs) = true) (b : vio (p.rowB (pt X.n X.qs)) p.rn = []) => imp_math (p := p) (x := pt X.n X.qs) (y := pt Y.n Y.qs) a b
  obtain ⟨s1, hs1⟩ : ∃ s, s = fewP p.vn p.rn p.nm p.tn 6 6 := ⟨_, rfl⟩
  rw [← hs1] at CF C1 C2 C3 VN
  obtain ⟨s2, hs2⟩ : ∃ s, s = shortB 8 X.n X.N X.M := ⟨_, rfl⟩
  rw [← hs2] at CX C2 QX
  obtain ⟨s3, hs3⟩ : ∃ s, s = shortB 8 Y.n Y.N Y.M := ⟨_, rfl⟩
  rw [← hs3] at CY C1 C3
  obtain ⟨b1, hb1⟩ : ∃ s, s = sgdB p.rn p.ki (pt Y.n Y.qs) := ⟨_, rfl⟩
  rw [← hb1] at C1 M1
  obtain ⟨l, hl⟩ : ∃ s, s = vio (p.rowB (pt X.n X.qs)) p.rn := ⟨_, rfl⟩
  rw [← hl] at C2 M1
  obtain ⟨cm, hcm⟩ : ∃ s, s = cmbA p.rn p.tn p.v p.cf (pt Y.n Y.qs) := ⟨_, rfl⟩
  rw [← hcm] at C3 M1
  obtain ⟨qb, hqb⟩ : ∃ s, s = cmbB p.rn p.bo (pt Y.n Y.qs) := ⟨_, rfl⟩
  rw [← hqb] at C3 M1
  have H1 := hid (show b1 = true → l = [] → 0 ≤ sgnQ (sumN (fun j => cm j * atQ X.n X.qs (j : Int)) p.vn - qb) from M1)
  have HN := hid VN
  have hvl := h.vs.1
  have hvl2 := h.vs.2.1
  clear hx hy hs1 hs2 hs3 hb1 hl hcm hqb M1 VN h ht
  obtain ⟨V0, vn, vc, lo, up, op, it, co, R0, rn, rc, nm, gr, ki, bo, TA, tn, tc, v, cf⟩ := p
  obtain ⟨XA, Xn, Xc, XN, XM, xs⟩ := X
  obtain ⟨YA, Yn, Yc, YN, YM, ys⟩ := Y
  dsimp only at CF CX CY C1 C2 C3 QX H1 HN hvl hvl2 ⊢
  obtain ⟨W0, hW⟩ : ∃ W, W = w.alloc (.cells #[.slice V0 vn vc, .slice R0 rn rc] 25) := ⟨_, rfl⟩
  have B0 := bx_alloc (bx_refl w) (.cells #[.slice V0 vn vc, .slice R0 rn rc] 25)
  have K0 := Blk.new w [.slice V0 vn vc, .slice R0 rn rc] 25
  change Blk (w.alloc (.cells #[.slice V0 vn vc, .slice R0 rn rc] 25)) _ _ _ at K0
  rw [← hW] at B0 K0
  have P0 := hid (show Kp w V0 vn vc R0 rn rc W0 from ⟨B0, K0⟩)
  clear B0 K0
  go_enter Tryz.func6, Tryz.ntmps6
  go_upto_region 1 with fail
  rw [← hW]
  clear hW
  go_wp2_with fail
  refine (awk4 W0 (TB.out.keep P0.out.bel)).mono ?_
  rintro e W1 ⟨rfl, b⟩
  have P1 := hid (P0.out.keep b)
  clear P0 b
  obtain ⟨z0, z1⟩ := blk_two P1.out.box
  go_wp2_with fail
  refine (CF.out _ P1.out.bel).mono ?_
  rintro e W2 ⟨rfl, b⟩
  have P2 := hid (P1.out.keep b)
  clear P1 b z0 z1 CF
  cases s1
  · clear CX CY C1 C2 C3 QX H1 HN
    go_wp2_with fail
    refine (awk4 W2 (TB.out.keep P2.out.bel)).mono ?_
    rintro e W3 ⟨rfl, b⟩
    have P4 := hid (P2.out.keep b)
    clear P2 b
    go_wp2_with fail
    go_ret
    exact vld_yes rfl P4.out.bel
  replace C1 := hid (C1.out rfl)
  replace C2 := hid (C2.out rfl)
  replace C3 := hid (C3.out rfl)
  replace HN := hid (HN.out rfl)
  go_wp2_with fail
  refine (CX.out _ P2.out.bel).mono ?_
  rintro e W3 ⟨rfl, b⟩
  have P3 := hid (P2.out.keep b)
  clear P2 b CX
  cases s2
  · clear CY C1 C2 C3 QX H1 HN
    go_wp2_with fail
    refine (awk4 W3 (TB.out.keep P3.out.bel)).mono ?_
    rintro e W4 ⟨rfl, b⟩
    have P4 := hid (P3.out.keep b)
    clear P3 b
    go_wp2_with fail
    go_ret
    exact vld_yes rfl P4.out.bel
  replace C2 := hid (C2.out rfl)
  replace QX := hid (QX.out rfl)
  go_wp2_with fail
  refine (CY.out _ P3.out.bel).mono ?_
  rintro e W4 ⟨rfl, b⟩
  have P4 := hid (P3.out.keep b)
  clear P3 b CY
  cases s3
  · clear C1 C2 C3 QX H1 HN
    go_wp2_with fail
    refine (awk4 W4 (TB.out.keep P4.out.bel)).mono ?_
    rintro e W5 ⟨rfl, b⟩
    have P5 := hid (P4.out.keep b)
    clear P4 b
    go_wp2_with fail
    go_ret
    exact vld_yes rfl P5.out.bel
  replace C1 := hid (C1.out rfl)
  replace C3 := hid (C3.out rfl)
  clear TB
  obtain ⟨z0, z1⟩ := blk_two P4.out.box
  go_wp2_with fail
  refine (C1.out _ P4.out.bel).mono ?_
  rintro e W5 ⟨rfl, b⟩
  have P5 := hid (P4.out.keep b)
  clear P4 b z0 z1 C1
  obtain ⟨z0, z1⟩ := blk_two P5.out.box
  cases b1
  · have HP := hid (vld_yes rfl P5.out.bel : RetB w true (.returned (.bool true)) W5)
    clear C2 C3 QX H1 HN P5
    go_wp2_with fail
    go_ret
    exact HP.out
  go_wp2_with fail
  refine (C2.out _ P5.out.bel).mono ?_
  rintro e W6 ⟨LA, Lc, rfl, _, b⟩
  have P6 := hid (P5.out.keep b)
  clear P5 b C2 z0 z1
  obtain ⟨z0, z1⟩ := blk_two P6.out.box
  cases l with
  | cons l0 l =>
    have HP := hid (vld_yes rfl P6.out.bel : RetB w true (.returned (.bool true)) W6)
    have hlen : (l0 :: l).length = l.length + 1 := rfl
    rw [hlen]
    obtain ⟨L, hL⟩ : ∃ L, L = l.length := ⟨_, rfl⟩
    rw [← hL]
    have t1 : decide ((0 : Int) < ((L + 1 : Nat) : Int)) = true := decide_eq_true (by omega)
    have t2 : decide (0 < L + 1) = true := decide_eq_true (by omega)
    have t3 : decide ((0 : Int) < (L : Int) + 1) = true := decide_eq_true (by omega)
    clear C3 QX H1 HN P6 hlen hL
    go_wp2_with fail
    go_ret
    exact HP.out
  | nil =>
  replace H1 := hid (H1.out (by simp) (by simp))
  have hlen : ([] : List Nat).length = 0 := rfl
  rw [hlen]
  go_wp2_with fail
  refine (C3.out _ P6.out.bel).mono ?_
  rintro e W7 ⟨Cb, gb, Ab, nb, cb, Db, mb, db, rfl, qa, rb, hCb, b⟩
  have P7 := hid (P6.out.keep b)
  clear P6 b C3 z0 z1 hlen
  go_upto_region 6 with fail
  obtain ⟨W8, bb, hW, hp, b, kk⟩ := mk_cells W7 [.bool gb, .slice Ab nb cb, .slice Db mb db] 41
  simp only [List.toArray] at hW
  rw [← hW, ← hp]
  have hbb : w.heap.size ≤ bb := by rw [hp]; exact P7.out.bel.size
  have hCbb : Cb ≠ bb := by have := qa.lt; omega
  have hblt := kk.lt
  have P8 := hid (P7.out.keep b)
  have I8 := hid (show Im w Cb vn cm bb gb Ab nb cb Db mb db qb W8 from ⟨P8.out.bel, qa.keep b, kk, rb.keep b⟩)
  have hCl := (I8.out.qa).lt
  clear hW hp b kk P7 qa rb
  obtain ⟨z0, z1⟩ := blk_two P8.out.box
  have t1 : ((vn : Int) != (vn : Int)) = false := by simp
  go_wp2_with fail
  clear t1
  go_upto_region 9 with fail
  obtain ⟨W9, sb, hW, hp, b, kk⟩ := mk_cells W8 [.bool false, .slice none 0 0, .slice none 0 0] 41
  simp only [List.toArray] at hW
  rw [← hW, ← hp]
  have hsb : w.heap.size ≤ sb := by rw [hp]; exact I8.out.bel.size
  have hs1 : Cb ≠ sb := by rw [hp]; omega
  have hs2 : bb ≠ sb := by rw [hp]; omega
  have ST := hid (show ImS w Cb vn cm bb gb Ab nb cb Db mb db qb sb (sumN (fun j => cm j * atQ Xn xs (j : Int)) 0) W9 from ⟨I8.out.keep b, false, none, 0, 0, none, 0, 0, kk, FrV.zero _ (by omega)⟩)
  clear hW hp b kk P8 I8 z0 z1 hCl hblt hCbb
  obtain ⟨hf, hhf⟩ : ∃ f : Nat → Rat, f = fun j => cm j * atQ Xn xs (j : Int) := ⟨_, rfl⟩
  rw [← hhf] at ST H1
  have HH := hid hhf
  clear hhf
  go_wp2_with fail
  go_loopw [55] (fun i wr => ∃ j : Nat, j ≤ vn ∧ i = .int .i64 j ∧ Hid (ImS w Cb vn cm bb gb Ab nb cb Db mb db qb sb (sumN hf j) wr)) (fun i _ => vn - (intOf i).toNat)
  case atStart => exact ⟨0, Nat.zero_le _, rfl, ST⟩
  case round =>
    clear ST
    obtain ⟨j, hj, rfl, hz⟩ := hrel
    have I0 := hid hz.out.im
    obtain ⟨gs, As, ns, cs, Ds, ms, ds, KS, FS⟩ := hz.out.ex
    have y0 := Blk.cell KS 0
    have y1 := Blk.cell KS 1
    have y2 := Blk.cell KS 2
    rcases Nat.lt_or_ge j vn with hlt | hge
    · obtain ⟨ga, Aa, na, ca, Da, ma, da, q0, q1, q2, FA⟩ := I0.out.qa.get hlt
      have LA : ∀ i, i < vn → LQ 1100000 (cm i) := fun i hi => by
        obtain ⟨_, _, _, _, _, _, _, _, _, _, Fi⟩ := I0.out.qa.get hi
        exact Fi.lq
      have LX : ∀ i : Nat, LQ 4 (atQ Xn xs (i : Int)) := fun i => atQ_lq (QX.out w (bx_refl w)) (i : Int)
      have LH : LQ 14000000 (sumN hf (j + 1)) := (sumN_lq (f := hf) (k := 1100000 + 4) (n := j + 1) (fun i hi => by rw [HH.out]; exact LQ_mul (LA i (by omega)) (LX i))).up (by have := HN.out; omega)
      have AT := hid (fun (W : World) (B : Below w.heap.size w W) => qat XA Xn Xc 4 xs (j : Int) W (QX.out W B))
      have EH : sumN hf (j + 1) = sumN hf j + cm j * atQ Xn xs (j : Int) := by
        show sumN hf j + hf j = _
        rw [HH.out]
      rw [EH] at LH
      have LV : LQ (1100000 + 4) (cm j * atQ Xn xs (j : Int)) := LQ_mul (LA j hlt) (LX j)
      obtain ⟨xj, hxj⟩ : ∃ q, q = atQ Xn xs (j : Int) := ⟨_, rfl⟩
      obtain ⟨cj, hcj⟩ : ∃ q, q = cm j := ⟨_, rfl⟩
      obtain ⟨S, hS⟩ : ∃ q, q = sumN hf j := ⟨_, rfl⟩
      rw [← hxj] at AT EH LH LV
      rw [← hcj] at FA EH LH LV
      rw [← hS] at FS EH LH
      obtain ⟨V, hV⟩ : ∃ q, q = cj * xj := ⟨_, rfl⟩
      have VM := hid (fun (W : World) (L : FrV W ga Aa na ca Da ma da 1100000 cj) (g1 : Bool) (A1 : Option Addr) (n1 c1 : Nat) (D1 : Option Addr) (m1 d1 : Nat) (M : FrV W g1 A1 n1 c1 D1 m1 d1 4 xj) => (vrmul ga Aa na ca Da ma da g1 A1 n1 c1 D1 m1 d1 1100000 cj xj W L (M.up (by omega)) (by omega)).mono fun _ _ r => r.fit LV)
      rw [← hV] at VM EH LH
      have AD := hid (fun (W : World) (L : FrV W gs As ns cs Ds ms ds 14000000 S) (A2 : Option Addr) (n2 c2 : Nat) (D2 : Option Addr) (m2 d2 : Nat) (M : FrL W A2 n2 c2 D2 m2 d2 (1100000 + 4) V) => (vradd gs As ns cs Ds ms ds (sg V.num) A2 n2 c2 D2 m2 d2 14000000 S V W L (M.v.up (by omega)) (by omega)).mono fun _ _ r => r.fit LH)
      obtain ⟨U, hU⟩ : ∃ q, q = S + V := ⟨_, rfl⟩
      rw [← hU] at AD EH
      have NXT := hid (fun (W : World) (I : Im w Cb vn cm bb gb Ab nb cb Db mb db qb W) (K : Blk W sb [.bool gs, .slice As ns cs, .slice Ds ms ds] 41) (g : Bool) (A : Option Addr) (n c : Nat) (D : Option Addr) (m d : Nat) (f : FrV W g A n c D m d 14000000 U) => (show ImS w Cb vn cm bb gb Ab nb cb Db mb db qb sb (sumN hf (j + 1)) _ by rw [EH]; exact ImS.next I K f hsb hs1 hs2))
      have FS0 := hid FS
      have FA0 := hid FA
      have KS0 := hid KS
      clear hz LA LX LH EH LV hxj hcj hS hV hU FS FA KS H1 QX HH HN
      go_upto_region 12 with fail
      (try simp only [List.append_eq, List.cons_append, List.nil_append])
      refine wp_region_noPanic ?_
      refine wp_region_held_drew (S := (fun W => W.cell? ⟨Cb, j * 3, none⟩ = some (.bool ga) ∧ W.cell? ⟨Cb, j * 3 + 1, none⟩ = some (.slice Aa na ca) ∧ W.cell? ⟨Cb, j * 3 + 2, none⟩ = some (.slice Da ma da))) (by kernel_rfl) ?_ (fun hH => ?_)
      · exact ⟨cell_dr q0, cell_dr q1, cell_dr q2⟩
      refine tk 1 hH ?_
      (try simp only [Act.put, gy0, gy1, gy2])
      refine tk 2 hH ?_
      (try simp only [Act.put, gy0, gy1, gy2])
      refine tk 3 hH ?_
      (try simp only [Act.put, gy0, gy1, gy2])
      refine tk 4 hH ?_
      (try simp only [Act.put, gy0, gy1, gy2])
      refine tk 5 hH ?_
      (try simp only [Act.put, gy0, gy1, gy2])
      refine tk 6 hH ?_
      (try simp only [Act.put, gy0, gy1, gy2])
      refine wpAnyH_ready (rs := [0, 7]) (by kernel_rfl) (by simp) ?_
      refine rdy (fun K hK => ?_) ?_
      go_simp
      refine hK.out _ _ hH (fun hH2 => ?_)
      clear hK K hH
      have hH := hH2
      clear hH2
      (try simp only [Act.put, gy0, gy1, gy2])
      refine wpAnyH_ready (rs := [7]) (by kernel_rfl) (by simp) ?_
      refine rdy (fun K hK => ?_) ?_
      go_simp
      refine (AT.out _ (bx_call I0.out.bel (bx_drew (bx_refl _)))).mono ?_
      rintro e w1 ⟨gx, Ax, nx, cx, Dx, mx, dx, rfl, r, b⟩
      have y0_1 := cell_bx (cell_dr y0) b
      have y1_1 := cell_bx (cell_dr y1) b
      have y2_1 := cell_bx (cell_dr y2) b
      have q0_1 := cell_bx (cell_dr q0) b
      have q1_1 := cell_bx (cell_dr q1) b
      have q2_1 := cell_bx (cell_dr q2) b
      have I1 := hid (I0.out.keep (bx_call (bx_drew (bx_refl _)) b))
      have FS1 := hid (FS0.out.keep (bx_call (bx_drew (bx_refl _)) b))
      have FA1 := hid (FA0.out.keep (bx_call (bx_drew (bx_refl _)) b))
      have KS1 := hid (KS0.out.keep (bx_call (bx_drew (bx_refl _)) b))
      have R1 := hid r
      clear r b hH
      (try go_wp2_with fail)
      refine hK.out _ _ ?_ (fun hH => ?_)
      · exact ⟨q0_1, q1_1, q2_1⟩
      clear hK K
      (try simp only [Act.put, gy0, gy1, gy2])
      refine wpAnyH_ready (rs := [8]) (by kernel_rfl) (by simp) ?_
      refine rdy (fun K hK => ?_) ?_
      go_simp
      refine (VM.out _ FA1.out gx Ax nx cx Dx mx dx R1.out).mono ?_
      rintro e w2 ⟨Av, nv, cv, Dv, mv, dv, rfl, r, b⟩
      have y0_2 := cell_bx y0_1 b
      have y1_2 := cell_bx y1_1 b
      have y2_2 := cell_bx y2_1 b
      have q0_2 := cell_bx q0_1 b
      have q1_2 := cell_bx q1_1 b
      have q2_2 := cell_bx q2_1 b
      have I2 := hid (I1.out.keep b)
      have FS2 := hid (FS1.out.keep b)
      have FA2 := hid (FA1.out.keep b)
      have KS2 := hid (KS1.out.keep b)
      have R2 := hid r
      clear r b hH
      (try go_wp2_with fail)
      refine hK.out _ _ ?_ (fun hH => ?_)
      · exact ⟨q0_2, q1_2, q2_2⟩
      clear hK K
      (try simp only [Act.put, gy0, gy1, gy2])
      refine wpAnyH_ready (rs := [9]) (by kernel_rfl) (by simp) ?_
      refine rdy (fun K hK => ?_) ?_
      go_simp
      refine (AD.out _ FS2.out Av nv cv Dv mv dv R2.out).mono ?_
      rintro e w3 ⟨Ac, nc, cc, Dc, mc, dc, rfl, r, b⟩
      have y0_3 := cell_bx y0_2 b
      have y1_3 := cell_bx y1_2 b
      have y2_3 := cell_bx y2_2 b
      have q0_3 := cell_bx q0_2 b
      have q1_3 := cell_bx q1_2 b
      have q2_3 := cell_bx q2_2 b
      have I3 := hid (I2.out.keep b)
      have FS3 := hid (FS2.out.keep b)
      have FA3 := hid (FA2.out.keep b)
      have KS3 := hid (KS2.out.keep b)
      have NN := hid (NXT.out _ I3.out KS3.out _ _ _ _ _ _ _ r.v)
      have f0 := Blk.free KS3.out 0
      have f1 := Blk.free KS3.out 1
      have f2 := Blk.free KS3.out 2
      clear r b hH
      (try go_wp2_with fail)
      refine hK.out _ _ ?_ (fun hH => ?_)
      · exact ⟨q0_3, q1_3, q2_3⟩
      clear hK K
      (try simp only [Act.put, gy0, gy1, gy2])
      refine wpAnyH_ready (rs := [10]) (by kernel_rfl) (by simp) ?_
      refine rdy (fun K hK => ?_) ?_
      go_simp
      clear hH
      refine hK.out _ _ ?_ (fun hH => ?_)
      · exact ⟨cell_fr (cell_fr (cell_fr q0_3 hs1) hs1) hs1, cell_fr (cell_fr (cell_fr q1_3 hs1) hs1) hs1, cell_fr (cell_fr (cell_fr q2_3 hs1) hs1) hs1⟩
      clear hK K
      (try simp only [Act.put, gy0, gy1, gy2])
      refine wpAnyH_done (by kernel_rfl) ?_ _
      refine NoPanic.normal ?_
      clear hH
      rotate_left
      exact AllReadyH.nil
      exact AllReadyH.nil
      exact AllReadyH.nil
      exact AllReadyH.nil
      refine rdy (fun K hK => ?_) ?_
      go_simp
      refine (AT.out _ (bx_call I0.out.bel (bx_drew (bx_refl _)))).mono ?_
      rintro e w1 ⟨gx, Ax, nx, cx, Dx, mx, dx, rfl, r, b⟩
      have y0_1 := cell_bx (cell_dr y0) b
      have y1_1 := cell_bx (cell_dr y1) b
      have y2_1 := cell_bx (cell_dr y2) b
      have q0_1 := cell_bx (cell_dr q0) b
      have q1_1 := cell_bx (cell_dr q1) b
      have q2_1 := cell_bx (cell_dr q2) b
      have I1 := hid (I0.out.keep (bx_call (bx_drew (bx_refl _)) b))
      have FS1 := hid (FS0.out.keep (bx_call (bx_drew (bx_refl _)) b))
      have FA1 := hid (FA0.out.keep (bx_call (bx_drew (bx_refl _)) b))
      have KS1 := hid (KS0.out.keep (bx_call (bx_drew (bx_refl _)) b))
      have R1 := hid r
      clear r b hH
      (try go_wp2_with fail)
      refine hK.out _ _ ?_ (fun hH => ?_)
      · exact ⟨q0_1, q1_1, q2_1⟩
      clear hK K
      (try simp only [Act.put, gy0, gy1, gy2])
      refine wpAnyH_ready (rs := [0, 8]) (by kernel_rfl) (by simp) ?_
      refine rdy (fun K hK => ?_) ?_
      go_simp
      refine hK.out _ _ hH (fun hH2 => ?_)
      clear hK K hH
      have hH := hH2
      clear hH2
      (try simp only [Act.put, gy0, gy1, gy2])
      refine wpAnyH_ready (rs := [8]) (by kernel_rfl) (by simp) ?_
      refine rdy (fun K hK => ?_) ?_
      go_simp
      refine (VM.out _ FA1.out gx Ax nx cx Dx mx dx R1.out).mono ?_
      rintro e w2 ⟨Av, nv, cv, Dv, mv, dv, rfl, r, b⟩
      have y0_2 := cell_bx y0_1 b
      have y1_2 := cell_bx y1_1 b
      have y2_2 := cell_bx y2_1 b
      have q0_2 := cell_bx q0_1 b
      have q1_2 := cell_bx q1_1 b
      have q2_2 := cell_bx q2_1 b
      have I2 := hid (I1.out.keep b)
      have FS2 := hid (FS1.out.keep b)
      have FA2 := hid (FA1.out.keep b)
      have KS2 := hid (KS1.out.keep b)
      have R2 := hid r
      clear r b hH
      (try go_wp2_with fail)
      refine hK.out _ _ ?_ (fun hH => ?_)
      · exact ⟨q0_2, q1_2, q2_2⟩
      clear hK K
      (try simp only [Act.put, gy0, gy1, gy2])
      refine wpAnyH_ready (rs := [9]) (by kernel_rfl) (by simp) ?_
      refine rdy (fun K hK => ?_) ?_
      go_simp
      refine (AD.out _ FS2.out Av nv cv Dv mv dv R2.out).mono ?_
      rintro e w3 ⟨Ac, nc, cc, Dc, mc, dc, rfl, r, b⟩
      have y0_3 := cell_bx y0_2 b
      have y1_3 := cell_bx y1_2 b
      have y2_3 := cell_bx y2_2 b
      have q0_3 := cell_bx q0_2 b
      have q1_3 := cell_bx q1_2 b
      have q2_3 := cell_bx q2_2 b
      have I3 := hid (I2.out.keep b)
      have FS3 := hid (FS2.out.keep b)
      have FA3 := hid (FA2.out.keep b)
      have KS3 := hid (KS2.out.keep b)
      have NN := hid (NXT.out _ I3.out KS3.out _ _ _ _ _ _ _ r.v)
      have f0 := Blk.free KS3.out 0
      have f1 := Blk.free KS3.out 1
      have f2 := Blk.free KS3.out 2
      clear r b hH
      (try go_wp2_with fail)
      refine hK.out _ _ ?_ (fun hH => ?_)
      · exact ⟨q0_3, q1_3, q2_3⟩
      clear hK K
      (try simp only [Act.put, gy0, gy1, gy2])
      refine wpAnyH_ready (rs := [10]) (by kernel_rfl) (by simp) ?_
      refine rdy (fun K hK => ?_) ?_
      go_simp
      clear hH
      refine hK.out _ _ ?_ (fun hH => ?_)
      · exact ⟨cell_fr (cell_fr (cell_fr q0_3 hs1) hs1) hs1, cell_fr (cell_fr (cell_fr q1_3 hs1) hs1) hs1, cell_fr (cell_fr (cell_fr q2_3 hs1) hs1) hs1⟩
      clear hK K
      (try simp only [Act.put, gy0, gy1, gy2])
      refine wpAnyH_done (by kernel_rfl) ?_ _
      refine NoPanic.normal ?_
      clear hH
      rotate_left
      exact AllReadyH.nil
      exact AllReadyH.nil
      exact AllReadyH.nil
      refine rdy (fun K hK => ?_) ?_
      go_simp
      refine (VM.out _ FA1.out gx Ax nx cx Dx mx dx R1.out).mono ?_
      rintro e w2 ⟨Av, nv, cv, Dv, mv, dv, rfl, r, b⟩
      have y0_2 := cell_bx y0_1 b
      have y1_2 := cell_bx y1_1 b
      have y2_2 := cell_bx y2_1 b
      have q0_2 := cell_bx q0_1 b
      have q1_2 := cell_bx q1_1 b
      have q2_2 := cell_bx q2_1 b
      have I2 := hid (I1.out.keep b)
      have FS2 := hid (FS1.out.keep b)
      have FA2 := hid (FA1.out.keep b)
      have KS2 := hid (KS1.out.keep b)
      have R2 := hid r
      clear r b hH
      (try go_wp2_with fail)
      refine hK.out _ _ ?_ (fun hH => ?_)
      · exact ⟨q0_2, q1_2, q2_2⟩
      clear hK K
      (try simp only [Act.put, gy0, gy1, gy2])
      refine wpAnyH_ready (rs := [0]) (by kernel_rfl) (by simp) ?_
      refine rdy (fun K hK => ?_) ?_
      go_simp
      refine hK.out _ _ hH (fun hH2 => ?_)
      clear hK K hH
      have hH := hH2
      clear hH2
      (try simp only [Act.put, gy0, gy1, gy2])
      refine wpAnyH_ready (rs := [9]) (by kernel_rfl) (by simp) ?_
      refine rdy (fun K hK => ?_) ?_
      go_simp
      refine (AD.out _ FS2.out Av nv cv Dv mv dv R2.out).mono ?_
      rintro e w3 ⟨Ac, nc, cc, Dc, mc, dc, rfl, r, b⟩
      have y0_3 := cell_bx y0_2 b
      have y1_3 := cell_bx y1_2 b
      have y2_3 := cell_bx y2_2 b
      have q0_3 := cell_bx q0_2 b
      have q1_3 := cell_bx q1_2 b
      have q2_3 := cell_bx q2_2 b
      have I3 := hid (I2.out.keep b)
      have FS3 := hid (FS2.out.keep b)
      have FA3 := hid (FA2.out.keep b)
      have KS3 := hid (KS2.out.keep b)
      have NN := hid (NXT.out _ I3.out KS3.out _ _ _ _ _ _ _ r.v)
      have f0 := Blk.free KS3.out 0
      have f1 := Blk.free KS3.out 1
      have f2 := Blk.free KS3.out 2
      clear r b hH
      (try go_wp2_with fail)
      refine hK.out _ _ ?_ (fun hH => ?_)
      · exact ⟨q0_3, q1_3, q2_3⟩
      clear hK K
      (try simp only [Act.put, gy0, gy1, gy2])
      refine wpAnyH_ready (rs := [10]) (by kernel_rfl) (by simp) ?_
      refine rdy (fun K hK => ?_) ?_
      go_simp
      clear hH
      refine hK.out _ _ ?_ (fun hH => ?_)
      · exact ⟨cell_fr (cell_fr (cell_fr q0_3 hs1) hs1) hs1, cell_fr (cell_fr (cell_fr q1_3 hs1) hs1) hs1, cell_fr (cell_fr (cell_fr q2_3 hs1) hs1) hs1⟩
      clear hK K
      (try simp only [Act.put, gy0, gy1, gy2])
      refine wpAnyH_done (by kernel_rfl) ?_ _
      refine NoPanic.normal ?_
      clear hH
      rotate_left
      exact AllReadyH.nil
      exact AllReadyH.nil
      exact AllReadyH.nil
      exact AllReadyH.nil
      exact AllReadyH.nil
      all_goals
        go_wp2_with fail
        go_roundw
        case rel => exact ⟨j + 1, by omega, by go_num, NN⟩
        case measure => simp [intOf]; omega
    · obtain rfl : j = vn := by omega
      have e0 := Blk.cell I0.out.bk 0
      have e1 := Blk.cell I0.out.bk 1
      have e2 := Blk.cell I0.out.bk 2
      have CM := hid (vrcmp gs As ns cs Ds ms ds gb Ab nb cb Db mb db 14000000 (sumN hf j) qb wr FS (I0.out.bf.up (by omega)) (by omega))
      obtain ⟨z, hz9⟩ : ∃ z, z = sgnQ (sumN hf j - qb) := ⟨_, rfl⟩
      rw [← hz9] at CM H1
      have t1 : decide (z ≥ 0) = true := decide_eq_true H1.out
      have t2 : decide (0 ≤ z) = true := decide_eq_true H1.out
      have BB := hid I0.out.bel
      clear hz KS FS H1 QX HH HN I0 hz9
      go_wp2_with fail
      refine (CM.out).mono ?_
      rintro e w1 ⟨rfl, b⟩
      have BC := hid (bx_call BB.out b)
      clear CM BB b
      go_wp2_with fail
      go_ret
      exact vld_yes rfl BC.out


end Go.Proofs.YthbogaindaflpaaGreatDoor
