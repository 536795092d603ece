/- Combine of the specification in the valid form. -/
import Derived.Test.YtdbccidlnhjfhaaGreatDoorLinN
import Derived.Test.YtdbccidlnhjfhaaGreatDoorR5a
import Derived.Deep.DeepCutAuto
import Derived.BigQuiet
namespace Go.Proofs.YtdbccidlnhjfhaaGreatDoor
open Go.RowKit
set_option maxRecDepth 100000
theorem QW.other {w : World} {b n k : Nat} {qs : Nat → Rat} (h : QW w b n k qs) {i j l : Nat} (u v x : Value) {g1 : Bool} {A1 : Option Addr} {n1 c1 : Nat} {D1 : Option Addr} {m1 d1 k1 : Nat} {q1 : Rat} (f : FrW w g1 A1 n1 c1 D1 m1 d1 k1 q1) : FrW (((w.setCell ⟨b, i, none⟩ u).setCell ⟨b, j, none⟩ v).setCell ⟨b, l, none⟩ x) g1 A1 n1 c1 D1 m1 d1 k1 q1 := by
  obtain ⟨cs, hB, hl, hc⟩ := h
  have hp : ∀ i, i < n → ∃ (g : Bool) (A : Option Addr) (n' c : Nat) (D : Option Addr) (m d : Nat), cs[i * 3]? = some (.bool g) ∧ cs[i * 3 + 1]? = some (.slice A n' c) ∧ cs[i * 3 + 2]? = some (.slice D m d) := fun i hi => by
    obtain ⟨g, A, n', c, D, m, d, h0, h1, h2, _⟩ := hc i hi
    exact ⟨g, A, n', c, D, m, d, h0, h1, h2⟩
  have far : ∀ {B : Option Addr} {y z : Nat} {zs : List Nat}, Rd w B y z zs → Rd (((w.setCell ⟨b, i, none⟩ u).setCell ⟨b, j, none⟩ v).setCell ⟨b, l, none⟩ x) B y z zs := fun {B y z zs} r => by
    obtain ⟨r1, r2, r3, r4, r5⟩ := r
    refine ⟨r1, r2, r3, r4, fun hn => ?_⟩
    obtain ⟨e, o, hA, hlt, hcc⟩ := r5 hn
    have hne : e ≠ b := by
      rintro rfl
      have h6 := hcc 0 hn
      rw [Blk.cell hB (o + 0)] at h6
      exact qb_plain hl hp _ _ h6
    refine ⟨e, o, hA, by rw [World.size_setCell, World.size_setCell, World.size_setCell]; exact hlt, fun t ht => ?_⟩
    rw [← hcc t ht]
    exact ((World.cell?_of_block (Below.heap_setCell _ ⟨b, l, none⟩ _ e hne)).trans (World.cell?_of_block (Below.heap_setCell _ ⟨b, j, none⟩ _ e hne))).trans (World.cell?_of_block (Below.heap_setCell w ⟨b, i, none⟩ _ e hne))
  obtain ⟨he, f1, f2, f3, f4, f5⟩ := f
  exact ⟨he, far f1, f2, far f3, f4, f5⟩
structure BoW (w : World) (cs : List Value) (rb bb Cb vn : Nat) (g : Bool) (A : Option Addr) (n c : Nat) (D : Option Addr) (m d : Nat) (b : Rat) (f : Nat → Rat) (W : World) : Prop where
  bel : Below w.heap.size w W
  box : Blk W w.heap.size cs 25
  res : Blk W rb [.bool false, .slice none 0 0, .slice none 0 0] 41
  bnd : Blk W bb [.bool g, .slice A n c, .slice D m d] 41
  fr : FrW W g A n c D m d 1100000 b
  qb : QW W Cb vn 1100003 f
section
variable {w W W' : World} {cs : List Value} {rb bb Cb vn : Nat} {g : Bool} {A : Option Addr} {n c : Nat} {D : Option Addr} {m d : Nat} {b : Rat} {f : Nat → Rat}
theorem BoW.keep (h : BoW w cs rb bb Cb vn g A n c D m d b f W) (hb : Below W.heap.size W W') : BoW w cs rb bb Cb vn g A n c D m d b f W' := ⟨bx_call h.bel hb, h.box.keep hb, h.res.keep hb, h.bnd.keep hb, h.fr.keep hb, h.qb.keep hb⟩
theorem BoW.store (h : BoW w cs rb bb Cb vn g A n c D m d b f W) (h1 : w.heap.size < Cb) (h2 : rb ≠ Cb) (h3 : bb ≠ Cb) {i : Nat} (hi : i < vn) {g1 : Bool} {A1 : Option Addr} {n1 c1 : Nat} {D1 : Option Addr} {m1 d1 : Nat} {q : Rat} (r : FrW W g1 A1 n1 c1 D1 m1 d1 1100003 q) :
    BoW w cs rb bb Cb vn g A n c D m d b (fun j => if j = i then q else f j) (((W.setCell ⟨Cb, i * 3, none⟩ (.bool g1)).setCell ⟨Cb, i * 3 + 1, none⟩ (.slice A1 n1 c1)).setCell ⟨Cb, i * 3 + 2, none⟩ (.slice D1 m1 d1)) :=
  ⟨bx_set (bx_set (bx_set h.bel (by omega)) (by omega)) (by omega), ((h.box.far (by omega) _).far (by omega) _).far (by omega) _, ((h.res.far h2 _).far h2 _).far h2 _, ((h.bnd.far h3 _).far h3 _).far h3 _, h.qb.other _ _ _ h.fr, h.qb.set hi r⟩
theorem BoW.congr (h : BoW w cs rb bb Cb vn g A n c D m d b f W) {f' : Nat → Rat} (e : ∀ j, j < vn → f j = f' j) : BoW w cs rb bb Cb vn g A n c D m d b f' W := ⟨h.bel, h.box, h.res, h.bnd, h.fr, h.qb.congr e⟩
theorem BoW.sum (h : BoW w cs rb bb Cb vn g A n c D m d b f W) (h1 : w.heap.size < bb) (h2 : rb ≠ bb) (h3 : Cb ≠ bb) {g1 : Bool} {A1 : Option Addr} {n1 c1 : Nat} {D1 : Option Addr} {m1 d1 : Nat} {q : Rat} (r : FrW W g1 A1 n1 c1 D1 m1 d1 1100000 q) :
    BoW w cs rb bb Cb vn g1 A1 n1 c1 D1 m1 d1 q f (((W.setCell ⟨bb, 0, none⟩ (.bool g1)).setCell ⟨bb, 1, none⟩ (.slice A1 n1 c1)).setCell ⟨bb, 2, none⟩ (.slice D1 m1 d1)) :=
  ⟨bx_set (bx_set (bx_set h.bel (by omega)) (by omega)) (by omega), ((h.box.far (by omega) _).far (by omega) _).far (by omega) _, ((h.res.far h2 _).far h2 _).far h2 _, ((h.bnd.set_ 0 _).set_ 1 _).set_ 2 _, frw_far3 r h.bnd _ _ _, h.qb.far3 h.bnd h3 _ _ _⟩
end
theorem retcw_drew {w w' : World} {vn k : Nat} {f : Nat → Rat} {q : Rat} {e : Ending} (h : RetCw w vn k f q e w') : RetCw w vn k f q e w'.drew := by
  obtain ⟨Cb, g, A, n, c, D, m, d, h1, h2, h3, h4, h5⟩ := h
  exact ⟨Cb, g, A, n, c, D, m, d, h1, h2.keep (bx_drew (bx_refl _)), h3.keep (bx_drew (bx_refl _)), h4, bx_call h5 (bx_drew (bx_refl _))⟩
set_option maxHeartbeats 16000000 in
theorem rcombineL (V0 : Option Addr) (vn vc : Nat) (R0 : Option Addr) (rn rc : Nat) (nm : Nat → ByteArray) (gr ki bo : Nat → Int) (TA : Nat → Option Addr) (tn tc : Nat → Nat) (v cf : Nat → Nat → Int) (A : Option Addr) (n c k : Nat) (qs : Nat → Rat) (w : World) (hvn : vn ≤ 1000) (hrn : rn ≤ 100) (hR : Rs w R0 rn rc nm gr ki bo TA tn tc v cf) (htn : ∀ i, i < rn → tn i ≤ 100) (hQ : Qs w A n c k qs) (hk : k ≤ 100) :
    Calls Tryz.prog 31 #[.agg #[.slice V0 vn vc, .slice R0 rn rc], .slice A n c] w (RetCw w vn 1100003 (cmbA rn tn v cf (fun i : Nat => atQ n qs (i : Int))) (cmbB rn bo (fun i : Nat => atQ n qs (i : Int)))) := by
  have hd := hR.1
  have hd2 := hR.2.1
  have hk1 := hQ.2.2.1
  obtain ⟨y, hy⟩ : ∃ y : Nat → Rat, y = fun i : Nat => atQ n qs (i : Int) := ⟨_, rfl⟩
  rw [← hy]
  have LY : ∀ i, LQ k (y i) := fun i => by rw [hy]; exact atQ_lq hQ i
  have cb : ∀ i, i < rn → ∀ s, s < tn i → -9223372036854775808 ≤ cf i s ∧ cf i s ≤ 9223372036854775807 := fun i hi s hs => ((hR.2.2.1 i hi).2.2.2.2.2.1 s hs).2
  have LI := hid (fun (i t j : Nat) (hi : i < rn) (ht : t ≤ tn i) => (show LQ 1100003 (cmbI tn v cf y i t j) by
    have h1 := cmbA_lq (rn := i) (m := 100) (v := v) (cf := cf) (tn := tn) j LY hk1 (fun a ha => htn a (by omega)) (fun a ha => cb a (by omega))
    have h2 := part_lq (v := v i) (t := t) j (LY i) hk1 (fun s hs => cb i hi s (by omega))
    have h3 := htn i hi
    have e1 : i * (100 * (k + 3) + 1 + 1) ≤ 100 * (100 * 103 + 2) := Nat.mul_le_mul (by omega) (by omega)
    have e2 : t * (k + 3) ≤ 100 * 103 := Nat.mul_le_mul (by omega) (by omega)
    exact (LQ_add h1 h2).up (by omega)))
  have LB := hid (fun (i : Nat) (hi : i ≤ rn) => (show LQ 1100000 (cmbB i bo y) by
    have := sumN_lq (f := fun i => (bo i : Rat) * y i) (k := 2 + k) (n := i) (fun a ha => LQ_mul (LQ_int (hR.2.2.1 a (by omega)).2.1.1 (hR.2.2.1 a (by omega)).2.1.2) (LY a))
    have e1 : i * (2 + k + 1) ≤ 100 * 103 := Nat.mul_le_mul (by omega) (by omega)
    exact LQ.up this (by omega)))
  have AT0 := hid (fun (W : World) (b : Below w.heap.size w W) (i : Nat) => (show Calls Tryz.prog 39 #[.slice A n c, .int .i64 (i : Int)] W (RetV W (y i) k) by rw [hy]; exact qat A n c k qs (i : Int) W (hQ.keep b)))
  have TM0 := hid (fun (W : World) (z : Int) (h1 : -9223372036854775808 ≤ z) (h2 : z ≤ 9223372036854775807) (q : Rat) (g1 : Bool) (A1 : Option Addr) (n1 c1 : Nat) (D1 : Option Addr) (m1 d1 : Nat) (L : FrV W g1 A1 n1 c1 D1 m1 d1 k q) => vtimes z g1 A1 n1 c1 D1 m1 d1 k q W h1 h2 L (by omega))
  have AD0 := hid (fun (W : World) (K : Nat) (hK : K ≤ 1100003) (hKk : k + 2 ≤ K) (p q : Rat) (hl : LQ K (p + q)) (g1 : Bool) (A1 : Option Addr) (n1 c1 : Nat) (D1 : Option Addr) (m1 d1 : Nat) (L : FrW W g1 A1 n1 c1 D1 m1 d1 K p) (A2 : Option Addr) (n2 c2 : Nat) (D2 : Option Addr) (m2 d2 : Nat) (M : FrL W A2 n2 c2 D2 m2 d2 (2 + k) q) => (vradd g1 A1 n1 c1 D1 m1 d1 (sg q.num) A2 n2 c2 D2 m2 d2 K p q W L.v (M.v.up (by omega)) (by omega)).mono fun _ _ r => RetQ.fit r hl)
  obtain ⟨W0, hW⟩ : ∃ W, W = (w.alloc (.cells #[.slice V0 vn vc, .slice R0 rn rc] 25)).alloc (.cells #[.bool false, .slice none 0 0, .slice none 0 0] 41) := ⟨_, rfl⟩
  have B0 := bx_alloc (bx_alloc (bx_refl w) (.cells #[.slice V0 vn vc, .slice R0 rn rc] 25)) (.cells #[.bool false, .slice none 0 0, .slice none 0 0] 41)
  have K0 := (Blk.new w [.slice V0 vn vc, .slice R0 rn rc] 25).alloc (.cells #[.bool false, .slice none 0 0, .slice none 0 0] 41)
  have K1 := blk_new1 w (.cells #[.slice V0 vn vc, .slice R0 rn rc] 25) [.bool false, .slice none 0 0, .slice none 0 0] 41
  have hz : W0.heap.size = w.heap.size + 2 := by rw [hW]; simp
  change Blk ((w.alloc (.cells #[.slice V0 vn vc, .slice R0 rn rc] 25)).alloc (.cells #[.bool false, .slice none 0 0, .slice none 0 0] 41)) _ _ _ at K0 K1
  rw [← hW] at B0 K0 K1
  obtain ⟨z0, z1⟩ := blk_two K0
  have hmk := run_make_rats vn (by omega)
  obtain ⟨WB, hWB⟩ : ∃ W, W = (W0.alloc (.cells (qzs vn).toArray 41)).alloc (.cells #[.bool false, .slice none 0 0, .slice none 0 0] 41) := ⟨_, rfl⟩
  have QQ := (QW.start W0 vn (k := 1100003) (by omega)).keep (bx_alloc (bx_refl _) (.cells #[.bool false, .slice none 0 0, .slice none 0 0] 41))
  have KS := blk_new1 W0 (.cells (qzs vn).toArray 41) [.bool false, .slice none 0 0, .slice none 0 0] 41
  have BA := bx_alloc (bx_alloc (bx_refl W0) (.cells (qzs vn).toArray 41)) (.cells #[.bool false, .slice none 0 0, .slice none 0 0] 41)
  change Blk ((W0.alloc (.cells (qzs vn).toArray 41)).alloc (.cells #[.bool false, .slice none 0 0, .slice none 0 0] 41)) _ _ _ at KS
  rw [← hWB] at QQ KS BA
  have ST := hid (show BoW w [.slice V0 vn vc, .slice R0 rn rc] (w.heap.size + 1) (W0.heap.size + 1) W0.heap.size vn false none 0 0 none 0 0 (cmbB 0 bo y) (fun j => cmbA 0 tn v cf y j) WB from ⟨bx_call B0 BA, K0.keep BA, K1.keep BA, KS, FrW.zero _ (by omega), QQ⟩)
  have HR := hid hR
  have HT := hid htn
  have hs1 : w.heap.size < W0.heap.size := by omega
  have hs2 : w.heap.size + 1 ≠ W0.heap.size := by omega
  have hs3 : W0.heap.size + 1 ≠ W0.heap.size := by omega
  have hs4 : w.heap.size < W0.heap.size + 1 := by omega
  have hs5 : w.heap.size + 1 ≠ W0.heap.size + 1 := by omega
  have hs6 : W0.heap.size ≠ W0.heap.size + 1 := by omega
  clear hR htn hQ B0 K0 K1 KS BA QQ hy LY cb hz
  go_enter Tryz.func31, Tryz.ntmps31
  go_upto_region 1 with fail
  rw [← hW]
  clear hW
  go_upto_region 3 with (with_reducible rw [hmk])
  rw [← hWB]
  clear hWB z0 z1 hmk
  obtain ⟨Cb, hCb⟩ : ∃ x, x = W0.heap.size := ⟨_, rfl⟩
  rw [← hCb] at ST hs1 hs2 hs3 hs4 hs5 hs6 ⊢
  clear hCb
  go_wp2_with fail
  go_loopw [8] (fun i wr => ∃ j : Nat, j ≤ rn ∧ i = .int .i64 j ∧ Hid (∃ g1 A1 n1 c1 D1 m1 d1, BoW w [.slice V0 vn vc, .slice R0 rn rc] (w.heap.size + 1) (Cb + 1) Cb vn g1 A1 n1 c1 D1 m1 d1 (cmbB j bo y) (fun x => cmbA j tn v cf y x) wr)) (fun i _ => rn - (intOf i).toNat)
  case atStart => exact ⟨0, Nat.zero_le _, rfl, hid ⟨_, _, _, _, _, _, _, ST.out⟩⟩
  case round =>
    clear ST
    obtain ⟨i, hi, rfl, hz2⟩ := hrel
    obtain ⟨g1, A1, n1, c1, D1, m1, d1, Z0⟩ := hz2.out
    obtain ⟨z0, z1⟩ := blk_two Z0.box
    rcases Nat.lt_or_ge i rn with hlt | hge
    · obtain ⟨b, o, rfl, hb, hcell⟩ := HR.out.2.2.2 (by omega)
      obtain ⟨_, ⟨o1, o2⟩, _, hTs⟩ := HR.out.2.2.1 i hlt
      have x0 := cell_bx (hcell i hlt).1 Z0.bel
      have x1 := cell_bx (hcell i hlt).2.1 Z0.bel
      have x2 := cell_bx (hcell i hlt).2.2.1 Z0.bel
      have x3 := cell_bx (hcell i hlt).2.2.2.1 Z0.bel
      have x4 := cell_bx (hcell i hlt).2.2.2.2 Z0.bel
      have TS := hid hTs
      have ht1 := hTs.1
      have ht2 := hTs.2.1
      obtain ⟨W3, hW3⟩ : ∃ W, W = wr.alloc (.cells #[.string (nm i), .int .i64 (gr i), .int .i64 (ki i), .slice (TA i) (tn i) (tc i), .int .i64 (bo i)] 77) := ⟨_, rfl⟩
      have B1 := bx_alloc (bx_refl wr) (.cells #[.string (nm i), .int .i64 (gr i), .int .i64 (ki i), .slice (TA i) (tn i) (tc i), .int .i64 (bo i)] 77)
      have KT := Blk.new wr [.string (nm i), .int .i64 (gr i), .int .i64 (ki i), .slice (TA i) (tn i) (tc i), .int .i64 (bo i)] 77
      change Blk (wr.alloc (.cells #[.string (nm i), .int .i64 (gr i), .int .i64 (ki i), .slice (TA i) (tn i) (tc i), .int .i64 (bo i)] 77)) _ _ _ at KT
      rw [← hW3] at B1 KT
      have hrb1 : Cb ≠ wr.heap.size := by have := Z0.qb.lt; omega
      have hrb2 : Cb + 1 ≠ wr.heap.size := by have := Z0.bnd.lt; omega
      have hrb3 : w.heap.size < wr.heap.size := Z0.box.lt
      obtain ⟨rb, hrb⟩ : ∃ x, x = wr.heap.size := ⟨_, rfl⟩
      rw [← hrb] at KT hrb1 hrb2 hrb3
      have SI := hid (show BoW w [.slice V0 vn vc, .slice (some ⟨b, o, none⟩) rn rc] (w.heap.size + 1) (Cb + 1) Cb vn g1 A1 n1 c1 D1 m1 d1 (cmbB i bo y) (fun x => cmbI tn v cf y i 0 x) W3 ∧ Blk W3 rb [.string (nm i), .int .i64 (gr i), .int .i64 (ki i), .slice (TA i) (tn i) (tc i), .int .i64 (bo i)] 77 from ⟨(Z0.keep B1).congr fun j _ => (cmbI_zero tn v cf y i j).symm, KT⟩)
      clear hz2 Z0 hcell hTs B1 KT
      go_upto_region 7 with fail
      rw [← hW3, ← hrb]
      clear hW3 hrb x0 x1 x2 x3 x4 z0 z1
      go_wp2_with fail
      obtain ⟨wo, rfl⟩ : ∃ wo : World, wo = wr := ⟨_, rfl⟩
      go_loopw [10] (fun u wr => ∃ t : Nat, t ≤ tn i ∧ u = .int .i64 t ∧ Hid (BoW w [.slice V0 vn vc, .slice (some ⟨b, o, none⟩) rn rc] (w.heap.size + 1) (Cb + 1) Cb vn g1 A1 n1 c1 D1 m1 d1 (cmbB i bo y) (fun x => cmbI tn v cf y i t x) wr ∧ Blk wr rb [.string (nm i), .int .i64 (gr i), .int .i64 (ki i), .slice (TA i) (tn i) (tc i), .int .i64 (bo i)] 77)) (fun u _ => tn i - (intOf u).toNat)
      case atStart => exact ⟨0, Nat.zero_le _, rfl, SI⟩
      case round =>
        clear SI
        obtain ⟨t, ht, rfl, hz3⟩ := hrel
        obtain ⟨r0, r1, r2, r3, r4⟩ := blk_five hz3.out.2
        rcases Nat.lt_or_ge t (tn i) with hlt2 | hge2
        · obtain ⟨bt, ot, hTA, hbt, hct⟩ := TS.out.2.2.2 (by omega)
          obtain ⟨⟨l1, l2⟩, l3, l4⟩ := TS.out.2.2.1 t hlt2
          have s0 := cell_bx (hct t hlt2).1 hz3.out.1.bel
          have s1 := cell_bx (hct t hlt2).2 hz3.out.1.bel
          have hbC : bt ≠ Cb := by omega
          have EQ := hid (fun (j : Nat) (h : v i t = (j : Int)) => cmbI_in tn v cf y i t j h)
          have EN := hid (fun (j : Nat) (h : v i t ≠ (j : Int)) => cmbI_out tn v cf y i t j h)
          have LI1 := hid (fun j => LI.out i (t + 1) j hlt (by omega))
          obtain ⟨V, hV⟩ : ∃ V, V = v i t := ⟨_, rfl⟩
          obtain ⟨C, hC⟩ : ∃ C, C = cf i t := ⟨_, rfl⟩
          rw [← hV] at s0 l1 l2 EQ EN
          rw [← hC] at s1 l3 l4 EQ
          rw [hTA] at r3
          have AT := hid (fun W b => AT0.out W b i)
          have TM := hid (fun W q g1 A1 n1 c1 D1 m1 d1 L => TM0.out W C l3 l4 q g1 A1 n1 c1 D1 m1 d1 L)
          have NXN := hid (fun (h : ∀ j, j < vn → V ≠ (j : Int)) => (show BoW w [.slice V0 vn vc, .slice (some ⟨b, o, none⟩) rn rc] (w.heap.size + 1) (Cb + 1) Cb vn g1 A1 n1 c1 D1 m1 d1 (cmbB i bo y) (fun x => cmbI tn v cf y i (t + 1) x) wr ∧ Blk wr rb [.string (nm i), .int .i64 (gr i), .int .i64 (ki i), .slice (TA i) (tn i) (tc i), .int .i64 (bo i)] 77 from ⟨hz3.out.1.congr fun j hj => (EN.out j (h j hj)).symm, hz3.out.2⟩))
          by_cases v1 : 0 ≤ V
          case neg =>
            have t1 : decide (0 ≤ V) = false := decide_eq_false v1
            have ZZ := hid (NXN.out (fun j _ => by omega))
            clear NXN hz3 EQ EN LI1 AT TM hV hC hTA hct TS
            go_wp2_with fail
            go_roundw
            case rel => exact ⟨t + 1, by omega, by go_num, ZZ⟩
            case measure => simp [intOf]; omega
          by_cases v2 : V < (vn : Int)
          case neg =>
            have t1 : decide (0 ≤ V) = true := decide_eq_true v1
            have t2 : decide (V < (vn : Int)) = false := decide_eq_false v2
            have ZZ := hid (NXN.out (fun j _ => by omega))
            clear NXN hz3 EQ EN LI1 AT TM hV hC hTA hct TS
            go_wp2_with fail
            go_roundw
            case rel => exact ⟨t + 1, by omega, by go_num, ZZ⟩
            case measure => simp [intOf]; omega
          obtain ⟨jv, hjv⟩ : ∃ jv : Nat, V = (jv : Int) := ⟨V.toNat, by omega⟩
          have hjn : jv < vn := by omega
          have t1 : decide ((0 : Int) ≤ (jv : Int)) = true := decide_eq_true (by omega)
          have t2 : decide ((jv : Int) < (vn : Int)) = true := decide_eq_true (by omega)
          have EJ := hid (EQ.out jv hjv)
          have NXT := hid (fun (W : World) (Z : BoW w [.slice V0 vn vc, .slice (some ⟨b, o, none⟩) rn rc] (w.heap.size + 1) (Cb + 1) Cb vn g1 A1 n1 c1 D1 m1 d1 (cmbB i bo y) (fun x => cmbI tn v cf y i t x) W) (KR : Blk W rb [.string (nm i), .int .i64 (gr i), .int .i64 (ki i), .slice (TA i) (tn i) (tc i), .int .i64 (bo i)] 77) (g2 : Bool) (A2 : Option Addr) (n2 c2 : Nat) (D2 : Option Addr) (m2 d2 : Nat) (r : FrW W g2 A2 n2 c2 D2 m2 d2 1100003 (cmbI tn v cf y i (t + 1) jv)) => (show BoW w [.slice V0 vn vc, .slice (some ⟨b, o, none⟩) rn rc] (w.heap.size + 1) (Cb + 1) Cb vn g1 A1 n1 c1 D1 m1 d1 (cmbB i bo y) (fun x => cmbI tn v cf y i (t + 1) x) (((W.setCell ⟨Cb, jv * 3, none⟩ (.bool g2)).setCell ⟨Cb, jv * 3 + 1, none⟩ (.slice A2 n2 c2)).setCell ⟨Cb, jv * 3 + 2, none⟩ (.slice D2 m2 d2)) ∧ Blk (((W.setCell ⟨Cb, jv * 3, none⟩ (.bool g2)).setCell ⟨Cb, jv * 3 + 1, none⟩ (.slice A2 n2 c2)).setCell ⟨Cb, jv * 3 + 2, none⟩ (.slice D2 m2 d2)) rb [.string (nm i), .int .i64 (gr i), .int .i64 (ki i), .slice (TA i) (tn i) (tc i), .int .i64 (bo i)] 77 from
            ⟨(Z.store hs1 hs2 hs3 hjn r).congr fun x _ => by
              by_cases e : x = jv
              · rw [if_pos e, e]
              · rw [if_neg e]
                exact (EN.out x (by omega)).symm, ((KR.far (Ne.symm hrb1) _).far (Ne.symm hrb1) _).far (Ne.symm hrb1) _⟩))
          have Z1 := hid hz3.out
          obtain ⟨gj, Aj, nj, cj, Dj, mj, dj, y0, y1, y2, FJ⟩ := hz3.out.1.qb.get hjn
          subst hjv
          obtain ⟨fj, hfj⟩ : ∃ q, q = cmbI tn v cf y i t jv := ⟨_, rfl⟩
          obtain ⟨fk, hfk⟩ : ∃ q, q = cmbI tn v cf y i (t + 1) jv := ⟨_, rfl⟩
          obtain ⟨yi, hyi⟩ : ∃ q, q = y i := ⟨_, rfl⟩
          have LK := hid (LI1.out jv)
          have FF := hid (show FrW wr gj Aj nj cj Dj mj dj 1100003 (cmbI tn v cf y i t jv) from FJ)
          rw [← hfk] at NXT LK EJ
          rw [← hfj] at FF EJ
          rw [← hyi] at AT EJ
          have AD := hid (fun (W : World) (L : FrW W gj Aj nj cj Dj mj dj 1100003 fj) (A2 : Option Addr) (n2 c2 : Nat) (D2 : Option Addr) (m2 d2 : Nat) (M : FrL W A2 n2 c2 D2 m2 d2 (2 + k) ((C : Rat) * yi)) => (show Calls Tryz.prog 37 #[.agg #[.bool gj, .slice Aj nj cj, .slice Dj mj dj], .agg #[.bool (sg ((C : Rat) * yi).num), .slice A2 n2 c2, .slice D2 m2 d2]] W (RetQ W fk 1100003) by
            rw [EJ.out]
            exact AD0.out W 1100003 (by omega) (by omega) fj ((C : Rat) * yi) (by rw [← EJ.out]; exact LK.out) gj Aj nj cj Dj mj dj L A2 n2 c2 D2 m2 d2 M))
          obtain ⟨cq, hcq⟩ : ∃ q, q = (C : Rat) * yi := ⟨_, rfl⟩
          have TM1 := hid (fun W g1 A1 n1 c1 D1 m1 d1 L => TM.out W yi g1 A1 n1 c1 D1 m1 d1 L)
          rw [← hcq] at AD TM1
          clear hz3 EQ EN LI1 TM hV hC hct TS NXN hfj hfk hyi LK EJ FJ hcq
          go_upto_region 12 with fail
          (try simp only [List.append_eq, List.cons_append, List.nil_append])
          refine wp_region_noPanic ?_
          refine wp_region_held_drew (S := (fun W => W.cell? ⟨rb, 3, none⟩ = some (.slice (some ⟨bt, ot, none⟩) (tn i) (tc i)) ∧ W.cell? ⟨bt, ot + t * 2 + 1, none⟩ = some (.int .i64 C))) (by kernel_rfl) ?_ (fun hH => ?_)
          · exact ⟨cell_dr r3, cell_dr s1⟩
          refine tk 0 hH ?_
          (try simp only [Act.put, gy0, gy1, gy2])
          refine tk 1 hH ?_
          (try simp only [Act.put, gy0, gy1, gy2])
          refine tk 2 hH ?_
          (try simp only [Act.put, gy0, gy1, gy2])
          refine tk 3 hH ?_
          (try simp only [Act.put, gy0, gy1, gy2])
          refine tk 4 hH ?_
          (try simp only [Act.put, gy0, gy1, gy2])
          refine tk 6 hH ?_
          (try simp only [Act.put, gy0, gy1, gy2])
          refine tk 7 hH ?_
          (try simp only [Act.put, gy0, gy1, gy2])
          refine tk 8 hH ?_
          (try simp only [Act.put, gy0, gy1, gy2])
          refine tk 9 hH ?_
          (try simp only [Act.put, gy0, gy1, gy2])
          refine tk 10 hH ?_
          (try simp only [Act.put, gy0, gy1, gy2])
          refine tk 11 hH ?_
          (try simp only [Act.put, gy0, gy1, gy2])
          refine tk 12 hH ?_
          (try simp only [Act.put, gy0, gy1, gy2])
          refine tk 13 hH ?_
          (try simp only [Act.put, gy0, gy1, gy2])
          refine wpAnyH_ready (rs := [5, 14]) (by kernel_rfl) (by simp) ?_
          refine rdy (fun K hK => ?_) ?_
          go_simp
          refine hK.out _ _ hH (fun hH2 => ?_)
          clear hK K hH
          have hH := hH2
          clear hH2
          (try simp only [Act.put, gy0, gy1, gy2])
          refine wpAnyH_ready (rs := [14]) (by kernel_rfl) (by simp) ?_
          refine rdy (fun K hK => ?_) ?_
          go_simp
          refine (AT.out _ (bx_call Z1.out.1.bel (bx_drew (bx_refl _)))).mono ?_
          rintro e w1 ⟨ga, Aa, na, ca, Da, ma, da, rfl, r, b⟩
          have y0_1 := cell_bx (cell_dr y0) b
          have y1_1 := cell_bx (cell_dr y1) b
          have y2_1 := cell_bx (cell_dr y2) b
          have r3_1 := cell_bx (cell_dr r3) b
          have s1_1 := cell_bx (cell_dr s1) b
          have Z_1 := hid (And.intro (Z1.out.1.keep (bx_call (bx_drew (bx_refl _)) b)) (Z1.out.2.keep (bx_call (bx_drew (bx_refl _)) b)))
          have F_1 := hid (FF.out.keep (bx_call (bx_drew (bx_refl _)) b))
          have R1 := hid r
          clear r b hH
          (try go_wp2_with fail)
          refine hK.out _ _ ?_ (fun hH => ?_)
          · exact ⟨r3_1, s1_1⟩
          clear hK K
          (try simp only [Act.put, gy0, gy1, gy2])
          refine wpAnyH_ready (rs := [15]) (by kernel_rfl) (by simp) ?_
          refine rdy (fun K hK => ?_) ?_
          go_simp
          refine (TM1.out _ ga Aa na ca Da ma da R1.out).mono ?_
          rintro e w2 ⟨Ab, nb, cb, Db, mb, db, rfl, r, b⟩
          have y0_2 := cell_bx y0_1 b
          have y1_2 := cell_bx y1_1 b
          have y2_2 := cell_bx y2_1 b
          have r3_2 := cell_bx r3_1 b
          have s1_2 := cell_bx s1_1 b
          have Z_2 := hid (And.intro (Z_1.out.1.keep b) (Z_1.out.2.keep b))
          have F_2 := hid (F_1.out.keep b)
          have R2 := hid r
          clear r b hH
          (try go_wp2_with fail)
          refine hK.out _ _ ?_ (fun hH => ?_)
          · exact ⟨r3_2, s1_2⟩
          clear hK K
          (try simp only [Act.put, gy0, gy1, gy2])
          refine wpAnyH_ready (rs := [16]) (by kernel_rfl) (by simp) ?_
          refine rdy (fun K hK => ?_) ?_
          go_simp
          refine (AD.out _ F_2.out Ab nb cb Db mb db R2.out).mono ?_
          rintro e w3 ⟨Ac, nc, cc, Dc, mc, dc, rfl, r, b⟩
          have y0_3 := cell_bx y0_2 b
          have y1_3 := cell_bx y1_2 b
          have y2_3 := cell_bx y2_2 b
          have r3_3 := cell_bx r3_2 b
          have s1_3 := cell_bx s1_2 b
          have Z_3 := hid (And.intro (Z_2.out.1.keep b) (Z_2.out.2.keep b))
          have F_3 := hid (F_2.out.keep b)
          have NN := hid (NXT.out _ Z_3.out.1 Z_3.out.2 _ _ _ _ _ _ _ (FrW.of r))
          have f0 := Z_3.out.1.qb.free (jv * 3)
          have f1 := Z_3.out.1.qb.free (jv * 3 + 1)
          have f2 := Z_3.out.1.qb.free (jv * 3 + 2)
          clear r b hH
          (try go_wp2_with fail)
          refine hK.out _ _ ?_ (fun hH => ?_)
          · exact ⟨r3_3, s1_3⟩
          clear hK K
          (try simp only [Act.put, gy0, gy1, gy2])
          refine tk 17 hH ?_
          (try simp only [Act.put, gy0, gy1, gy2])
          refine wpAnyH_ready (rs := [18]) (by kernel_rfl) (by simp) ?_
          refine rdy (fun K hK => ?_) ?_
          go_simp
          clear hH
          refine hK.out _ _ ?_ (fun hH => ?_)
          · exact ⟨cell_fr (cell_fr (cell_fr r3_3 (Ne.symm hrb1)) (Ne.symm hrb1)) (Ne.symm hrb1), cell_fr (cell_fr (cell_fr s1_3 hbC) hbC) hbC⟩
          clear hK K
          (try simp only [Act.put, gy0, gy1, gy2])
          refine wpAnyH_done (by kernel_rfl) ?_ _
          refine NoPanic.normal ?_
          clear hH
          rotate_left
          exact AllReadyH.nil
          exact AllReadyH.nil
          exact AllReadyH.nil
          exact AllReadyH.nil
          refine rdy (fun K hK => ?_) ?_
          go_simp
          refine (AT.out _ (bx_call Z1.out.1.bel (bx_drew (bx_refl _)))).mono ?_
          rintro e w1 ⟨ga, Aa, na, ca, Da, ma, da, rfl, r, b⟩
          have y0_1 := cell_bx (cell_dr y0) b
          have y1_1 := cell_bx (cell_dr y1) b
          have y2_1 := cell_bx (cell_dr y2) b
          have r3_1 := cell_bx (cell_dr r3) b
          have s1_1 := cell_bx (cell_dr s1) b
          have Z_1 := hid (And.intro (Z1.out.1.keep (bx_call (bx_drew (bx_refl _)) b)) (Z1.out.2.keep (bx_call (bx_drew (bx_refl _)) b)))
          have F_1 := hid (FF.out.keep (bx_call (bx_drew (bx_refl _)) b))
          have R1 := hid r
          clear r b hH
          (try go_wp2_with fail)
          refine hK.out _ _ ?_ (fun hH => ?_)
          · exact ⟨r3_1, s1_1⟩
          clear hK K
          (try simp only [Act.put, gy0, gy1, gy2])
          refine wpAnyH_ready (rs := [5, 15]) (by kernel_rfl) (by simp) ?_
          refine rdy (fun K hK => ?_) ?_
          go_simp
          refine hK.out _ _ hH (fun hH2 => ?_)
          clear hK K hH
          have hH := hH2
          clear hH2
          (try simp only [Act.put, gy0, gy1, gy2])
          refine wpAnyH_ready (rs := [15]) (by kernel_rfl) (by simp) ?_
          refine rdy (fun K hK => ?_) ?_
          go_simp
          refine (TM1.out _ ga Aa na ca Da ma da R1.out).mono ?_
          rintro e w2 ⟨Ab, nb, cb, Db, mb, db, rfl, r, b⟩
          have y0_2 := cell_bx y0_1 b
          have y1_2 := cell_bx y1_1 b
          have y2_2 := cell_bx y2_1 b
          have r3_2 := cell_bx r3_1 b
          have s1_2 := cell_bx s1_1 b
          have Z_2 := hid (And.intro (Z_1.out.1.keep b) (Z_1.out.2.keep b))
          have F_2 := hid (F_1.out.keep b)
          have R2 := hid r
          clear r b hH
          (try go_wp2_with fail)
          refine hK.out _ _ ?_ (fun hH => ?_)
          · exact ⟨r3_2, s1_2⟩
          clear hK K
          (try simp only [Act.put, gy0, gy1, gy2])
          refine wpAnyH_ready (rs := [16]) (by kernel_rfl) (by simp) ?_
          refine rdy (fun K hK => ?_) ?_
          go_simp
          refine (AD.out _ F_2.out Ab nb cb Db mb db R2.out).mono ?_
          rintro e w3 ⟨Ac, nc, cc, Dc, mc, dc, rfl, r, b⟩
          have y0_3 := cell_bx y0_2 b
          have y1_3 := cell_bx y1_2 b
          have y2_3 := cell_bx y2_2 b
          have r3_3 := cell_bx r3_2 b
          have s1_3 := cell_bx s1_2 b
          have Z_3 := hid (And.intro (Z_2.out.1.keep b) (Z_2.out.2.keep b))
          have F_3 := hid (F_2.out.keep b)
          have NN := hid (NXT.out _ Z_3.out.1 Z_3.out.2 _ _ _ _ _ _ _ (FrW.of r))
          have f0 := Z_3.out.1.qb.free (jv * 3)
          have f1 := Z_3.out.1.qb.free (jv * 3 + 1)
          have f2 := Z_3.out.1.qb.free (jv * 3 + 2)
          clear r b hH
          (try go_wp2_with fail)
          refine hK.out _ _ ?_ (fun hH => ?_)
          · exact ⟨r3_3, s1_3⟩
          clear hK K
          (try simp only [Act.put, gy0, gy1, gy2])
          refine tk 17 hH ?_
          (try simp only [Act.put, gy0, gy1, gy2])
          refine wpAnyH_ready (rs := [18]) (by kernel_rfl) (by simp) ?_
          refine rdy (fun K hK => ?_) ?_
          go_simp
          clear hH
          refine hK.out _ _ ?_ (fun hH => ?_)
          · exact ⟨cell_fr (cell_fr (cell_fr r3_3 (Ne.symm hrb1)) (Ne.symm hrb1)) (Ne.symm hrb1), cell_fr (cell_fr (cell_fr s1_3 hbC) hbC) hbC⟩
          clear hK K
          (try simp only [Act.put, gy0, gy1, gy2])
          refine wpAnyH_done (by kernel_rfl) ?_ _
          refine NoPanic.normal ?_
          clear hH
          rotate_left
          exact AllReadyH.nil
          exact AllReadyH.nil
          exact AllReadyH.nil
          refine rdy (fun K hK => ?_) ?_
          go_simp
          refine (TM1.out _ ga Aa na ca Da ma da R1.out).mono ?_
          rintro e w2 ⟨Ab, nb, cb, Db, mb, db, rfl, r, b⟩
          have y0_2 := cell_bx y0_1 b
          have y1_2 := cell_bx y1_1 b
          have y2_2 := cell_bx y2_1 b
          have r3_2 := cell_bx r3_1 b
          have s1_2 := cell_bx s1_1 b
          have Z_2 := hid (And.intro (Z_1.out.1.keep b) (Z_1.out.2.keep b))
          have F_2 := hid (F_1.out.keep b)
          have R2 := hid r
          clear r b hH
          (try go_wp2_with fail)
          refine hK.out _ _ ?_ (fun hH => ?_)
          · exact ⟨r3_2, s1_2⟩
          clear hK K
          (try simp only [Act.put, gy0, gy1, gy2])
          refine wpAnyH_ready (rs := [5]) (by kernel_rfl) (by simp) ?_
          refine rdy (fun K hK => ?_) ?_
          go_simp
          refine hK.out _ _ hH (fun hH2 => ?_)
          clear hK K hH
          have hH := hH2
          clear hH2
          (try simp only [Act.put, gy0, gy1, gy2])
          refine wpAnyH_ready (rs := [16]) (by kernel_rfl) (by simp) ?_
          refine rdy (fun K hK => ?_) ?_
          go_simp
          refine (AD.out _ F_2.out Ab nb cb Db mb db R2.out).mono ?_
          rintro e w3 ⟨Ac, nc, cc, Dc, mc, dc, rfl, r, b⟩
          have y0_3 := cell_bx y0_2 b
          have y1_3 := cell_bx y1_2 b
          have y2_3 := cell_bx y2_2 b
          have r3_3 := cell_bx r3_2 b
          have s1_3 := cell_bx s1_2 b
          have Z_3 := hid (And.intro (Z_2.out.1.keep b) (Z_2.out.2.keep b))
          have F_3 := hid (F_2.out.keep b)
          have NN := hid (NXT.out _ Z_3.out.1 Z_3.out.2 _ _ _ _ _ _ _ (FrW.of r))
          have f0 := Z_3.out.1.qb.free (jv * 3)
          have f1 := Z_3.out.1.qb.free (jv * 3 + 1)
          have f2 := Z_3.out.1.qb.free (jv * 3 + 2)
          clear r b hH
          (try go_wp2_with fail)
          refine hK.out _ _ ?_ (fun hH => ?_)
          · exact ⟨r3_3, s1_3⟩
          clear hK K
          (try simp only [Act.put, gy0, gy1, gy2])
          refine tk 17 hH ?_
          (try simp only [Act.put, gy0, gy1, gy2])
          refine wpAnyH_ready (rs := [18]) (by kernel_rfl) (by simp) ?_
          refine rdy (fun K hK => ?_) ?_
          go_simp
          clear hH
          refine hK.out _ _ ?_ (fun hH => ?_)
          · exact ⟨cell_fr (cell_fr (cell_fr r3_3 (Ne.symm hrb1)) (Ne.symm hrb1)) (Ne.symm hrb1), cell_fr (cell_fr (cell_fr s1_3 hbC) hbC) hbC⟩
          clear hK K
          (try simp only [Act.put, gy0, gy1, gy2])
          refine wpAnyH_done (by kernel_rfl) ?_ _
          refine NoPanic.normal ?_
          clear hH
          rotate_left
          exact AllReadyH.nil
          exact AllReadyH.nil
          exact AllReadyH.nil
          exact AllReadyH.nil
          exact AllReadyH.nil
          all_goals
            rw [← hTA] at *
            clear y0 y1 y2 r3 s1 y0_1 y1_1 y2_1 r3_1 s1_1 y0_2 y1_2 y2_2 r3_2 s1_2 y0_3 y1_3 y2_3 r3_3 s1_3 f0 f1 f2
            go_wp2_with fail
            go_roundw
            case rel => exact ⟨t + 1, by omega, by go_num, NN⟩
            case measure => simp [intOf]; omega
        · obtain rfl : t = tn i := by omega
          have Z1 := hid (show BoW w [.slice V0 vn vc, .slice (some ⟨b, o, none⟩) rn rc] (w.heap.size + 1) (Cb + 1) Cb vn g1 A1 n1 c1 D1 m1 d1 (cmbB i bo y) (fun x => cmbA (i + 1) tn v cf y x) wr from hz3.out.1)
          have NXT := hid (fun (W : World) (Z : BoW w [.slice V0 vn vc, .slice (some ⟨b, o, none⟩) rn rc] (w.heap.size + 1) (Cb + 1) Cb vn g1 A1 n1 c1 D1 m1 d1 (cmbB i bo y) (fun x => cmbA (i + 1) tn v cf y x) W) (g2 : Bool) (A2 : Option Addr) (n2 c2 : Nat) (D2 : Option Addr) (m2 d2 : Nat) (r : FrW W g2 A2 n2 c2 D2 m2 d2 1100000 (cmbB (i + 1) bo y)) => Z.sum hs4 hs5 hs6 r)
          have FF := hid hz3.out.1.fr
          have LK := hid (LB.out (i + 1) (by omega))
          have EJ := hid (show cmbB (i + 1) bo y = cmbB i bo y + (bo i : Rat) * y i from rfl)
          obtain ⟨y0, y1, y2⟩ := blk_three hz3.out.1.bnd
          have AT := hid (fun W b => AT0.out W b i)
          obtain ⟨fj, hfj⟩ : ∃ q, q = cmbB i bo y := ⟨_, rfl⟩
          obtain ⟨fk, hfk⟩ : ∃ q, q = cmbB (i + 1) bo y := ⟨_, rfl⟩
          obtain ⟨yi, hyi⟩ : ∃ q, q = y i := ⟨_, rfl⟩
          have HK := hid hfk
          rw [← hfk] at LK EJ NXT
          rw [← hfj] at FF EJ NXT Z1
          rw [← hyi] at AT EJ
          obtain ⟨C, hC⟩ : ∃ C, C = bo i := ⟨_, rfl⟩
          have TM := hid (fun W g1 A1 n1 c1 D1 m1 d1 L => TM0.out W (bo i) o1 o2 yi g1 A1 n1 c1 D1 m1 d1 L)
          rw [← hC] at r4 TM EJ
          have AD := hid (fun (W : World) (L : FrW W g1 A1 n1 c1 D1 m1 d1 1100000 fj) (A2 : Option Addr) (n2 c2 : Nat) (D2 : Option Addr) (m2 d2 : Nat) (M : FrL W A2 n2 c2 D2 m2 d2 (2 + k) ((C : Rat) * yi)) => (show Calls Tryz.prog 37 #[.agg #[.bool g1, .slice A1 n1 c1, .slice D1 m1 d1], .agg #[.bool (sg ((C : Rat) * yi).num), .slice A2 n2 c2, .slice D2 m2 d2]] W (RetQ W fk 1100000) by
            rw [EJ.out]
            exact AD0.out W 1100000 (by omega) (by omega) fj ((C : Rat) * yi) (by rw [← EJ.out]; exact LK.out) g1 A1 n1 c1 D1 m1 d1 L A2 n2 c2 D2 m2 d2 M))
          obtain ⟨cq, hcq⟩ : ∃ q, q = (C : Rat) * yi := ⟨_, rfl⟩
          rw [← hcq] at AD TM
          clear hz3 TS hfj hfk hyi LK EJ hC hcq
          go_upto_region 13 with fail
          (try simp only [List.append_eq, List.cons_append, List.nil_append])
          refine wp_region_noPanic ?_
          refine wp_region_held_drew (S := (fun W => W.cell? ⟨rb, 4, none⟩ = some (.int .i64 C))) (by kernel_rfl) ?_ (fun hH => ?_)
          · exact (cell_dr r4)
          refine tk 1 hH ?_
          (try simp only [Act.put, gy0, gy1, gy2])
          refine tk 2 hH ?_
          (try simp only [Act.put, gy0, gy1, gy2])
          refine tk 3 hH ?_
          (try simp only [Act.put, gy0, gy1, gy2])
          refine tk 4 hH ?_
          (try simp only [Act.put, gy0, gy1, gy2])
          refine wpAnyH_ready (rs := [0, 5]) (by kernel_rfl) (by simp) ?_
          refine rdy (fun K hK => ?_) ?_
          go_simp
          refine hK.out _ _ hH (fun hH2 => ?_)
          clear hK K hH
          have hH := hH2
          clear hH2
          (try simp only [Act.put, gy0, gy1, gy2])
          refine wpAnyH_ready (rs := [5]) (by kernel_rfl) (by simp) ?_
          refine rdy (fun K hK => ?_) ?_
          go_simp
          refine (AT.out _ (bx_call Z1.out.bel (bx_drew (bx_refl _)))).mono ?_
          rintro e w1 ⟨ga, Aa, na, ca, Da, ma, da, rfl, r, b⟩
          have y0_1 := cell_bx (cell_dr y0) b
          have y1_1 := cell_bx (cell_dr y1) b
          have y2_1 := cell_bx (cell_dr y2) b
          have r4_1 := cell_bx (cell_dr r4) b
          have Z_1 := hid (Z1.out.keep (bx_call (bx_drew (bx_refl _)) b))
          have F_1 := hid (FF.out.keep (bx_call (bx_drew (bx_refl _)) b))
          have R1 := hid r
          clear r b hH
          (try go_wp2_with fail)
          refine hK.out _ _ ?_ (fun hH => ?_)
          · exact r4_1
          clear hK K
          (try simp only [Act.put, gy0, gy1, gy2])
          refine wpAnyH_ready (rs := [6]) (by kernel_rfl) (by simp) ?_
          refine rdy (fun K hK => ?_) ?_
          go_simp
          refine (TM.out _ ga Aa na ca Da ma da R1.out).mono ?_
          rintro e w2 ⟨Ab, nb, cb, Db, mb, db, rfl, r, b⟩
          have y0_2 := cell_bx y0_1 b
          have y1_2 := cell_bx y1_1 b
          have y2_2 := cell_bx y2_1 b
          have r4_2 := cell_bx r4_1 b
          have Z_2 := hid (Z_1.out.keep b)
          have F_2 := hid (F_1.out.keep b)
          have R2 := hid r
          clear r b hH
          (try go_wp2_with fail)
          refine hK.out _ _ ?_ (fun hH => ?_)
          · exact r4_2
          clear hK K
          (try simp only [Act.put, gy0, gy1, gy2])
          refine wpAnyH_ready (rs := [7]) (by kernel_rfl) (by simp) ?_
          refine rdy (fun K hK => ?_) ?_
          go_simp
          refine (AD.out _ F_2.out Ab nb cb Db mb db R2.out).mono ?_
          rintro e w3 ⟨Ac, nc, cc, Dc, mc, dc, rfl, r, b⟩
          have y0_3 := cell_bx y0_2 b
          have y1_3 := cell_bx y1_2 b
          have y2_3 := cell_bx y2_2 b
          have r4_3 := cell_bx r4_2 b
          have Z_3 := hid (Z_2.out.keep b)
          have F_3 := hid (F_2.out.keep b)
          have NN := hid (NXT.out _ Z_3.out _ _ _ _ _ _ _ (FrW.of r))
          have f0 := Z_3.out.bnd.free 0
          have f1 := Z_3.out.bnd.free 1
          have f2 := Z_3.out.bnd.free 2
          clear r b hH
          (try go_wp2_with fail)
          refine hK.out _ _ ?_ (fun hH => ?_)
          · exact r4_3
          clear hK K
          (try simp only [Act.put, gy0, gy1, gy2])
          refine wpAnyH_ready (rs := [8]) (by kernel_rfl) (by simp) ?_
          refine rdy (fun K hK => ?_) ?_
          go_simp
          clear hH
          refine hK.out _ _ ?_ (fun hH => ?_)
          · exact (cell_fr (cell_fr (cell_fr r4_3 (Ne.symm hrb2)) (Ne.symm hrb2)) (Ne.symm hrb2))
          clear hK K
          (try simp only [Act.put, gy0, gy1, gy2])
          refine wpAnyH_done (by kernel_rfl) ?_ _
          refine NoPanic.normal ?_
          clear hH
          rotate_left
          exact AllReadyH.nil
          exact AllReadyH.nil
          exact AllReadyH.nil
          exact AllReadyH.nil
          refine rdy (fun K hK => ?_) ?_
          go_simp
          refine (AT.out _ (bx_call Z1.out.bel (bx_drew (bx_refl _)))).mono ?_
          rintro e w1 ⟨ga, Aa, na, ca, Da, ma, da, rfl, r, b⟩
          have y0_1 := cell_bx (cell_dr y0) b
          have y1_1 := cell_bx (cell_dr y1) b
          have y2_1 := cell_bx (cell_dr y2) b
          have r4_1 := cell_bx (cell_dr r4) b
          have Z_1 := hid (Z1.out.keep (bx_call (bx_drew (bx_refl _)) b))
          have F_1 := hid (FF.out.keep (bx_call (bx_drew (bx_refl _)) b))
          have R1 := hid r
          clear r b hH
          (try go_wp2_with fail)
          refine hK.out _ _ ?_ (fun hH => ?_)
          · exact r4_1
          clear hK K
          (try simp only [Act.put, gy0, gy1, gy2])
          refine wpAnyH_ready (rs := [0, 6]) (by kernel_rfl) (by simp) ?_
          refine rdy (fun K hK => ?_) ?_
          go_simp
          refine hK.out _ _ hH (fun hH2 => ?_)
          clear hK K hH
          have hH := hH2
          clear hH2
          (try simp only [Act.put, gy0, gy1, gy2])
          refine wpAnyH_ready (rs := [6]) (by kernel_rfl) (by simp) ?_
          refine rdy (fun K hK => ?_) ?_
          go_simp
          refine (TM.out _ ga Aa na ca Da ma da R1.out).mono ?_
          rintro e w2 ⟨Ab, nb, cb, Db, mb, db, rfl, r, b⟩
          have y0_2 := cell_bx y0_1 b
          have y1_2 := cell_bx y1_1 b
          have y2_2 := cell_bx y2_1 b
          have r4_2 := cell_bx r4_1 b
          have Z_2 := hid (Z_1.out.keep b)
          have F_2 := hid (F_1.out.keep b)
          have R2 := hid r
          clear r b hH
          (try go_wp2_with fail)
          refine hK.out _ _ ?_ (fun hH => ?_)
          · exact r4_2
          clear hK K
          (try simp only [Act.put, gy0, gy1, gy2])
          refine wpAnyH_ready (rs := [7]) (by kernel_rfl) (by simp) ?_
          refine rdy (fun K hK => ?_) ?_
          go_simp
          refine (AD.out _ F_2.out Ab nb cb Db mb db R2.out).mono ?_
          rintro e w3 ⟨Ac, nc, cc, Dc, mc, dc, rfl, r, b⟩
          have y0_3 := cell_bx y0_2 b
          have y1_3 := cell_bx y1_2 b
          have y2_3 := cell_bx y2_2 b
          have r4_3 := cell_bx r4_2 b
          have Z_3 := hid (Z_2.out.keep b)
          have F_3 := hid (F_2.out.keep b)
          have NN := hid (NXT.out _ Z_3.out _ _ _ _ _ _ _ (FrW.of r))
          have f0 := Z_3.out.bnd.free 0
          have f1 := Z_3.out.bnd.free 1
          have f2 := Z_3.out.bnd.free 2
          clear r b hH
          (try go_wp2_with fail)
          refine hK.out _ _ ?_ (fun hH => ?_)
          · exact r4_3
          clear hK K
          (try simp only [Act.put, gy0, gy1, gy2])
          refine wpAnyH_ready (rs := [8]) (by kernel_rfl) (by simp) ?_
          refine rdy (fun K hK => ?_) ?_
          go_simp
          clear hH
          refine hK.out _ _ ?_ (fun hH => ?_)
          · exact (cell_fr (cell_fr (cell_fr r4_3 (Ne.symm hrb2)) (Ne.symm hrb2)) (Ne.symm hrb2))
          clear hK K
          (try simp only [Act.put, gy0, gy1, gy2])
          refine wpAnyH_done (by kernel_rfl) ?_ _
          refine NoPanic.normal ?_
          clear hH
          rotate_left
          exact AllReadyH.nil
          exact AllReadyH.nil
          exact AllReadyH.nil
          refine rdy (fun K hK => ?_) ?_
          go_simp
          refine (TM.out _ ga Aa na ca Da ma da R1.out).mono ?_
          rintro e w2 ⟨Ab, nb, cb, Db, mb, db, rfl, r, b⟩
          have y0_2 := cell_bx y0_1 b
          have y1_2 := cell_bx y1_1 b
          have y2_2 := cell_bx y2_1 b
          have r4_2 := cell_bx r4_1 b
          have Z_2 := hid (Z_1.out.keep b)
          have F_2 := hid (F_1.out.keep b)
          have R2 := hid r
          clear r b hH
          (try go_wp2_with fail)
          refine hK.out _ _ ?_ (fun hH => ?_)
          · exact r4_2
          clear hK K
          (try simp only [Act.put, gy0, gy1, gy2])
          refine wpAnyH_ready (rs := [0]) (by kernel_rfl) (by simp) ?_
          refine rdy (fun K hK => ?_) ?_
          go_simp
          refine hK.out _ _ hH (fun hH2 => ?_)
          clear hK K hH
          have hH := hH2
          clear hH2
          (try simp only [Act.put, gy0, gy1, gy2])
          refine wpAnyH_ready (rs := [7]) (by kernel_rfl) (by simp) ?_
          refine rdy (fun K hK => ?_) ?_
          go_simp
          refine (AD.out _ F_2.out Ab nb cb Db mb db R2.out).mono ?_
          rintro e w3 ⟨Ac, nc, cc, Dc, mc, dc, rfl, r, b⟩
          have y0_3 := cell_bx y0_2 b
          have y1_3 := cell_bx y1_2 b
          have y2_3 := cell_bx y2_2 b
          have r4_3 := cell_bx r4_2 b
          have Z_3 := hid (Z_2.out.keep b)
          have F_3 := hid (F_2.out.keep b)
          have NN := hid (NXT.out _ Z_3.out _ _ _ _ _ _ _ (FrW.of r))
          have f0 := Z_3.out.bnd.free 0
          have f1 := Z_3.out.bnd.free 1
          have f2 := Z_3.out.bnd.free 2
          clear r b hH
          (try go_wp2_with fail)
          refine hK.out _ _ ?_ (fun hH => ?_)
          · exact r4_3
          clear hK K
          (try simp only [Act.put, gy0, gy1, gy2])
          refine wpAnyH_ready (rs := [8]) (by kernel_rfl) (by simp) ?_
          refine rdy (fun K hK => ?_) ?_
          go_simp
          clear hH
          refine hK.out _ _ ?_ (fun hH => ?_)
          · exact (cell_fr (cell_fr (cell_fr r4_3 (Ne.symm hrb2)) (Ne.symm hrb2)) (Ne.symm hrb2))
          clear hK K
          (try simp only [Act.put, gy0, gy1, gy2])
          refine wpAnyH_done (by kernel_rfl) ?_ _
          refine NoPanic.normal ?_
          clear hH
          rotate_left
          exact AllReadyH.nil
          exact AllReadyH.nil
          exact AllReadyH.nil
          exact AllReadyH.nil
          exact AllReadyH.nil
          all_goals
            clear y0 y1 y2 r4 y0_1 y1_1 y2_1 r4_1 y0_2 y1_2 y2_2 r4_2 y0_3 y1_3 y2_3 r4_3 f0 f1 f2
            go_wp2_with fail
            go_roundw
            case rel => exact ⟨i + 1, by omega, by go_num, hid ⟨_, _, _, _, _, _, _, by rw [← HK.out]; exact NN.out⟩⟩
            case measure => simp [intOf]; omega
    · obtain rfl : i = rn := by omega
      have Z1 := hid Z0
      obtain ⟨y0, y1, y2⟩ := blk_three Z0.bnd
      obtain ⟨w0, w1, w2⟩ := blk_three Z0.res
      have f0 := Z0.res.free 0
      have f1 := Z0.res.free 1
      have f2 := Z0.res.free 2
      have EE := hid (show RetCw w vn 1100003 (fun x => cmbA i tn v cf y x) (cmbB i bo y) (.returned (.tuple #[.slice (some ⟨Cb, 0, none⟩) vn vn, .agg #[.bool g1, .slice A1 n1 c1, .slice D1 m1 d1]])) (((wr.setCell ⟨w.heap.size + 1, 0, none⟩ (.bool g1)).setCell ⟨w.heap.size + 1, 1, none⟩ (.slice A1 n1 c1)).setCell ⟨w.heap.size + 1, 2, none⟩ (.slice D1 m1 d1)) from
        ⟨_, _, _, _, _, _, _, _, rfl, Z0.qb.far3 Z0.res (Ne.symm hs2) _ _ _, (frw_far3 Z0.fr Z0.res _ _ _).up (by omega), by omega, bx_set (bx_set (bx_set Z0.bel (by omega)) (by omega)) (by omega)⟩)
      clear hz2 Z0 Z1 HR HT LI LB AT0 TM0 AD0
      go_upto_region 14 with fail
      go_region
      all_goals
        go_wp2_with fail
        exact bodyPost_ret (v := .tuple #[.slice (some ⟨Cb, 0, none⟩) vn vn, .agg #[.bool g1, .slice A1 n1 c1, .slice D1 m1 d1]]) (by simp [results, Tryz.results31, go_sem, w0, w1, w2]) rfl (retcw_drew EE.out)
end Go.Proofs.YtdbccidlnhjfhaaGreatDoor
