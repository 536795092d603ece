/- DuaA: Dua1, Dua2, Dua3, Dua4, Dua5 in one text. -/
import Derived.Test.YthbogaindaflpaaGreatLinC
import Derived.Test.YthbogaindaflpaaGreatLinB
import Derived.Deep.DeepCutAuto
import Derived.BigQuiet
import Derived.Deep.DeepMust
namespace Go.Proofs.YthbogaindaflpaaGreat
open Go.RowKit
set_option maxRecDepth 100000
structure PD where
  V0 : Option Addr
  vn : Nat
  vc : Nat
  lo : Nat → Int
  up : Nat → Int
  op : Nat → Bool
  it : Nat → Bool
  co : Nat → Int
  R0 : Option Addr
  rn : Nat
  rc : Nat
  nm : Nat → ByteArray
  gr : Nat → Int
  ki : Nat → Int
  bo : Nat → Int
  TA : Nat → Option Addr
  tn : Nat → Nat
  tc : Nat → Nat
  v : Nat → Nat → Int
  cf : Nat → Nat → Int
structure Pg (w : World) (p : PD) : Prop where
  vs : Vs w p.V0 p.vn p.vc p.lo p.up p.op p.it p.co
  rs : Rs w p.R0 p.rn p.rc p.nm p.gr p.ki p.bo p.TA p.tn p.tc p.v p.cf
  nms : ∀ j, j < p.rn → (p.nm j).size ≤ 9223372036854775807
  vl : p.vn ≤ 100
  rl : p.rn ≤ 100
  tl : ∀ i, i < p.rn → p.tn i ≤ 100
theorem Pg.keep {w w' : World} {p : PD} (h : Pg w p) (b : Below w.heap.size w w') : Pg w' p := ⟨h.vs.keep b, h.rs.keep b, h.nms, h.vl, h.rl, h.tl⟩
def PD.okB (p : PD) : Bool := vldB p.vn p.rn p.lo p.up p.op p.co p.nm p.gr p.ki p.bo p.tn p.v p.cf
def PD.inB (p : PD) (x : Nat → Rat) : Bool := insB p.vn p.lo p.up p.op x
def PD.rowB (p : PD) (x : Nat → Rat) (i : Nat) : Bool := holdB (p.ki i) (p.bo i) (rowV p.vn (p.tn i) (p.v i) (p.cf i) x)
def PD.feaB (p : PD) (x : Nat → Rat) : Bool := p.inB x && decide (∀ i, i < p.rn → p.rowB x i = true)
def PD.costV (p : PD) (x : Nat → Rat) : Rat := sumN (fun j => (p.co j : Rat) * x j) p.vn
def pt (n : Nat) (qs : Nat → Rat) (i : Nat) : Rat := atQ n qs (i : Int)
section
variable (p : PD) (A : Option Addr) (n c k : Nat) (qs : Nat → Rat) (w : World)
theorem d_valid (h : Pg w p) : Calls Tryz.prog 23 #[.agg #[.slice p.V0 p.vn p.vc, .slice p.R0 p.rn p.rc]] w (RetB w p.okB) :=
  vvalidp p.V0 p.vn p.vc p.R0 p.rn p.rc p.lo p.up p.op p.it p.co p.nm p.gr p.ki p.bo p.TA p.tn p.tc p.v p.cf w h.vs h.rs h.nms
theorem d_signed (h : Pg w p) (hQ : Qs w A n c k qs) (hk : k ≤ 100) : Calls Tryz.prog 29 #[.agg #[.slice p.V0 p.vn p.vc, .slice p.R0 p.rn p.rc], .slice A n c] w (RetB w (sgdB p.rn p.ki (pt n qs))) :=
  vsigned p.V0 p.vn p.vc p.R0 p.rn p.rc p.nm p.gr p.ki p.bo p.TA p.tn p.tc p.v p.cf A n c k qs w h.rs hQ (by omega)
theorem mul_le {a b c d : Nat} (h1 : a ≤ b) (h2 : c ≤ d) : a * c ≤ b * d := Nat.mul_le_mul h1 h2
theorem d_combine (h : Pg w p) (hQ : Qs w A n c k qs) (hk : k ≤ 100) : Calls Tryz.prog 33 #[.agg #[.slice p.V0 p.vn p.vc, .slice p.R0 p.rn p.rc], .slice A n c] w (RetCm w p.vn 1100000 (cmbA p.rn p.tn p.v p.cf (pt n qs)) (cmbB p.rn p.bo (pt n qs))) := by
  have h1 := h.vl
  have h2 := h.rl
  have h3 : (p.rn * 100 + p.rn) * (k + 3) ≤ (100 * 100 + 100) * 103 := mul_le (by omega) (by omega)
  exact vcombine p.V0 p.vn p.vc p.R0 p.rn p.rc p.nm p.gr p.ki p.bo p.TA p.tn p.tc p.v p.cf A n c k qs w (by omega) h.rs 100 h.tl (by omega) (by omega) hQ 1100000 (by omega) (by omega)
theorem d_violated (h : Pg w p) (hQ : Qs w A n c k qs) (hk : k ≤ 100) : Calls Tryz.prog 78 #[.agg #[.slice p.V0 p.vn p.vc, .slice p.R0 p.rn p.rc], .slice A n c] w (RetL w (vio (p.rowB (pt n qs)) p.rn)) := by
  have h1 := h.vl
  have h2 := h.rl
  exact vviolated p.V0 p.vn p.vc p.R0 p.rn p.rc p.nm p.gr p.ki p.bo p.TA p.tn p.tc p.v p.cf A n c k qs w (by omega) h.rs 100 h.tl (by omega) hQ (by omega)
theorem d_inside (h : Pg w p) (hQ : Qs w A n c k qs) (hk : k ≤ 100) : Calls Tryz.prog 77 #[.agg #[.slice p.V0 p.vn p.vc, .slice p.R0 p.rn p.rc], .slice A n c] w (RetB w (p.inB (pt n qs))) := by
  have := vinside p.V0 p.vn p.vc p.R0 p.rn p.rc p.lo p.up p.op p.it p.co A n c k qs w h.vs hQ (by omega)
  rw [insB_congr (q := pt n qs) (fun j hj => atQ_min p.vn n qs hj)] at this
  exact this
theorem d_cost (h : Pg w p) (hQ : Qs w A n c k qs) (hk : k ≤ 100) : Calls Tryz.prog 43 #[.agg #[.slice p.V0 p.vn p.vc, .slice p.R0 p.rn p.rc], .slice A n c] w (RetV w (p.costV (pt n qs)) 10301) := by
  have h1 := h.vl
  have h3 : p.vn * (k + 3) ≤ 100 * 103 := mul_le (by omega) (by omega)
  have := vcost p.V0 p.vn p.vc p.R0 p.rn p.rc p.lo p.up p.op p.it p.co A n c k qs w h.vs hQ (by omega) (by omega)
  exact this.mono fun _ _ r => by
    obtain ⟨g, A, n, c, D, m, d, e1, e2, e3⟩ := r
    exact ⟨g, A, n, c, D, m, d, e1, e2.up (by omega), e3⟩
theorem d_least (h : Pg w p) (hQ : Qs w A n c k qs) (hk : k ≤ 1100003) : Calls Tryz.prog 36 #[.agg #[.slice p.V0 p.vn p.vc, .slice p.R0 p.rn p.rc], .slice A n c] w (RetVB w (lstV p.vn p.lo p.up p.op (pt n qs)) 110000601 (lstB p.vn p.lo p.up p.op (pt n qs))) := by
  have h1 := h.vl
  have h3 : p.vn * (k + 3) ≤ 100 * 1100006 := mul_le (by omega) (by omega)
  have := vleast p.V0 p.vn p.vc p.R0 p.rn p.rc p.lo p.up p.op p.it p.co A n c k qs w h.vs hQ (by omega) (by omega)
  rw [lstV_congr (q := pt n qs) (fun j hj => atQ_min p.vn n qs hj), lstB_congr (q := pt n qs) (fun j hj => atQ_min p.vn n qs hj)] at this
  exact this.mono fun _ _ r => by
    obtain ⟨g, A, n, c, D, m, d, e1, e2, e3⟩ := r
    exact ⟨g, A, n, c, D, m, d, e1, e2.up (by omega), e3⟩
end
set_option maxHeartbeats 2000000 in
theorem d_empty (V0 : Option Addr) (vn vc : Nat) (lo up : Nat → Int) (op it : Nat → Bool) (co : Nat → Int) (w : World) (hT : Vs w V0 vn vc lo up op it co) :
    Calls Tryz.prog 30 #[.slice V0 vn vc] w (RetB w (empB vn lo up op)) := by
  have hc := hT.1
  have hc2 := hT.2.1
  have HT := hid hT
  clear hT
  obtain ⟨r, hr⟩ : ∃ r, r = empB vn lo up op := ⟨_, rfl⟩
  rw [← hr]
  have HE := hid hr
  clear hr
  go_enter Tryz.func30, Tryz.ntmps30
  go_wp2_with fail
  go_loopw [7] (fun i wr => ∃ j : Nat, j ≤ vn ∧ i = .int .i64 j ∧ Hid ((∀ i, i < j → room (op i) (lo i) (up i)) ∧ Below w.heap.size w wr)) (fun i _ => vn - (intOf i).toNat)
  case atStart => exact ⟨0, Nat.zero_le _, rfl, hid ⟨fun i hi => absurd hi (by omega), bx_refl w⟩⟩
  case round =>
    obtain ⟨j, hj, rfl, hz⟩ := hrel
    rcases Nat.lt_or_ge j vn with hlt | hge
    · obtain ⟨b, o, rfl, hb, hcell⟩ := HT.out.2.2.2 (by omega)
      obtain ⟨⟨l1, l2⟩, ⟨u1, u2⟩, _⟩ := HT.out.2.2.1 j hlt
      have x0 := cell_bx (hcell j hlt).1 hz.out.2
      have x1 := cell_bx (hcell j hlt).2.1 hz.out.2
      have x2 := cell_bx (hcell j hlt).2.2.1 hz.out.2
      have x3 := cell_bx (hcell j hlt).2.2.2.1 hz.out.2
      have x4 := cell_bx (hcell j hlt).2.2.2.2 hz.out.2
      have NO := hid (fun (W : World) (B : Below wr.heap.size wr W) (h : ¬room (op j) (lo j) (up j)) => vld_yes (by rw [HE.out]; unfold empB; rw [decide_eq_false fun g => h (g j hlt)]; rfl : r = true) (bx_call hz.out.2 B))
      have YE := hid (fun (W : World) (B : Below wr.heap.size wr W) (h : room (op j) (lo j) (up j)) => (⟨fun i hi => by
        rcases Nat.lt_or_ge i j with h1 | h1
        · exact hz.out.1 i h1
        · obtain rfl : i = j := by omega
          exact h, bx_call hz.out.2 B⟩ : (∀ i, i < j + 1 → room (op i) (lo i) (up i)) ∧ Below w.heap.size w W))
      obtain ⟨L, hL⟩ : ∃ L, L = lo j := ⟨_, rfl⟩
      obtain ⟨U, hU⟩ : ∃ U, U = up j := ⟨_, rfl⟩
      obtain ⟨O, hO⟩ : ∃ O, O = op j := ⟨_, rfl⟩
      obtain ⟨C, hC⟩ : ∃ C, C = co j := ⟨_, rfl⟩
      obtain ⟨I, hI⟩ : ∃ I, I = it j := ⟨_, rfl⟩
      rw [← hL, ← hU, ← hO] at NO
      have YE := hid (fun (W : World) (B : Below wr.heap.size wr W) (h : room O L U) => YE.out W B (by rw [← hL, ← hU, ← hO]; exact h))
      rw [← hL] at x0 l1 l2
      rw [← hU] at x1 u1 u2
      rw [← hO] at x2
      rw [← hI] at x3
      rw [← hC] at x4
      have BB := hid (bx_alloc (bx_refl wr) (.cells #[.int .i64 L, .int .i64 U, .bool O, .bool I, .int .i64 C] 50))
      clear hz HT hcell hL hU hO hC hI HE
      cases O
      · by_cases h1 : U < L
        · have t1 : decide (U < L) = true := decide_eq_true h1
          have NN := hid (NO.out _ BB.out (fun h => by rcases h with h | h; cases h; omega))
          clear NO YE BB
          go_wp2_with fail
          go_ret
          exact NN.out
        · have t1 : decide (U < L) = false := decide_eq_false h1
          have ZZ := hid (YE.out _ BB.out (.inr (by omega)))
          clear NO YE BB
          go_wp2_with fail
          go_roundw
          case rel => exact ⟨j + 1, by omega, by go_num, ZZ⟩
          case measure => simp [intOf]; omega
      · have ZZ := hid (YE.out _ BB.out (.inl rfl))
        clear NO YE BB
        go_wp2_with fail
        go_roundw
        case rel => exact ⟨j + 1, by omega, by go_num, ZZ⟩
        case measure => simp [intOf]; omega
    · obtain rfl : j = vn := by omega
      have YY := hid (vld_no (by rw [HE.out]; unfold empB; rw [decide_eq_true hz.out.1]; rfl : r = false) hz.out.2)
      clear HT hz HE
      go_wp2_with fail
      go_ret
      exact YY.out
theorem vio_dec {h : Nat → Bool} {n : Nat} : decide (vio h n = []) = decide (∀ i, i < n → h i = true) := decide_eq_decide.2 vio_nil
set_option maxHeartbeats 2000000 in
theorem d_feasible (p : PD) (A : Option Addr) (n c k : Nat) (qs : Nat → Rat) (w : World) (h : Pg w p) (hQ : Qs w A n c k qs) (hk : k ≤ 100) :
    Calls Tryz.prog 41 #[.agg #[.slice p.V0 p.vn p.vc, .slice p.R0 p.rn p.rc], .slice A n c] w (RetB w (p.feaB (pt n qs))) := by
  have ef : p.feaB (pt n qs) = (p.inB (pt n qs) && decide (vio (p.rowB (pt n qs)) p.rn = [])) := by unfold PD.feaB; rw [vio_dec]
  rw [ef]
  obtain ⟨W0, hW⟩ : ∃ W, W = w.alloc (.cells #[.slice p.V0 p.vn p.vc, .slice p.R0 p.rn p.rc] 25) := ⟨_, rfl⟩
  have B0 := bx_alloc (bx_refl w) (.cells #[.slice p.V0 p.vn p.vc, .slice p.R0 p.rn p.rc] 25)
  have K0 := Blk.new w [.slice p.V0 p.vn p.vc, .slice p.R0 p.rn p.rc] 25
  change Blk (w.alloc (.cells #[.slice p.V0 p.vn p.vc, .slice p.R0 p.rn p.rc] 25)) _ _ _ at K0
  rw [← hW] at B0 K0
  have IN := hid (d_inside p A n c k qs W0 (h.keep B0) (hQ.keep B0) hk)
  have VI := hid (fun (W : World) (b : Below W0.heap.size W0 W) => d_violated p A n c k qs W (h.keep (bx_call B0 b)) (hQ.keep (bx_call B0 b)) hk)
  have hlen : ∀ l : List Nat, decide (l = []) = decide (l.length = 0) := fun l => decide_eq_decide.2 List.length_eq_zero_iff.symm
  rw [hlen]
  obtain ⟨L, hL⟩ : ∃ L, L = vio (p.rowB (pt n qs)) p.rn := ⟨_, rfl⟩
  obtain ⟨b1, hb1⟩ : ∃ b, b = p.inB (pt n qs) := ⟨_, rfl⟩
  rw [← hL, ← hb1]
  rw [← hL] at VI
  rw [← hb1] at IN
  obtain ⟨f, hf⟩ : ∃ f, f = (b1 && decide (L.length = 0)) := ⟨_, rfl⟩
  rw [← hf]
  have HF := hid hf
  obtain ⟨V0, vn, vc, lo, up, op, it, co, R0, rn, rc, nm, gr, ki, bo, TA, tn, tc, v, cf⟩ := p
  dsimp only at IN VI hW K0 B0 ⊢
  have BB := hid B0
  have KK := hid K0
  obtain ⟨z0, z1⟩ := blk_two K0
  clear h hQ B0 K0 hL hb1 ef hlen hf
  go_enter Tryz.func41, Tryz.ntmps41
  go_upto_region 1 with fail
  rw [← hW]
  clear hW
  go_wp2_with fail
  refine (IN.out).mono ?_
  rintro e w1 ⟨rfl, b⟩
  have B1 := hid (bx_call BB.out b)
  have V1 := hid (VI.out w1 b)
  obtain ⟨z0, z1⟩ := blk_two (KK.out.keep b)
  clear IN VI b BB KK
  cases b1
  · clear V1
    have HG := hid (show f = false by rw [HF.out]; rfl)
    clear HF
    go_wp2_with fail
    go_ret
    exact vld_no HG.out B1.out
  · go_wp2_with fail
    refine (V1.out).mono ?_
    rintro e w2 ⟨A2, c2, rfl, _, b⟩
    have B2 := hid (bx_call B1.out b)
    obtain ⟨l, hl⟩ : ∃ l, l = L.length := ⟨_, rfl⟩
    have HG := hid (show f = decide (l = 0) by rw [HF.out, hl]; rfl)
    rw [← hl]
    clear V1 b B1 hl z0 z1 HF
    by_cases h0 : l = 0
    · subst h0
      go_wp2_with fail
      go_ret
      exact vld_yes HG.out B2.out
    · have t1 : ((l : Int) == 0) = false := beq_eq_false_iff_ne.2 (by omega)
      have t2 : decide ((l : Int) = 0) = false := decide_eq_false (by omega)
      have HI := hid (show f = false by rw [HG.out, decide_eq_false h0])
      clear h0 HG
      go_wp2_with fail
      go_ret
      exact vld_no HI.out B2.out
theorem QB.other {w : World} {b n k : Nat} {qs : Nat → Rat} (h : QB w b n k qs) {i j l : Nat} (u v x : Value) {g1 : Bool} {A1 : Option Addr} {n1 c1 : Nat} {D1 : Option Addr} {m1 d1 k1 : Nat} {q1 : Rat} (f : FrV w g1 A1 n1 c1 D1 m1 d1 k1 q1) : FrV (((w.setCell ⟨b, i, none⟩ u).setCell ⟨b, j, none⟩ v).setCell ⟨b, l, none⟩ x) g1 A1 n1 c1 D1 m1 d1 k1 q1 := by
  obtain ⟨cs, hB, hl, hc⟩ := h
  have hp : ∀ i, i < n → ∃ (g : Bool) (A : Option Addr) (n' c : Nat) (D : Option Addr) (m d : Nat), cs[i * 3]? = some (.bool g) ∧ cs[i * 3 + 1]? = some (.slice A n' c) ∧ cs[i * 3 + 2]? = some (.slice D m d) := fun i hi => by
    obtain ⟨g, A, n', c, D, m, d, h0, h1, h2, _⟩ := hc i hi
    exact ⟨g, A, n', c, D, m, d, h0, h1, h2⟩
  have far : ∀ {B : Option Addr} {y z : Nat} {zs : List Nat}, Rd w B y z zs → Rd (((w.setCell ⟨b, i, none⟩ u).setCell ⟨b, j, none⟩ v).setCell ⟨b, l, none⟩ x) B y z zs := fun {B y z zs} r => by
    obtain ⟨r1, r2, r3, r4, r5⟩ := r
    refine ⟨r1, r2, r3, r4, fun hn => ?_⟩
    obtain ⟨e, o, hA, hlt, hcc⟩ := r5 hn
    have hne : e ≠ b := by
      rintro rfl
      have h6 := hcc 0 hn
      rw [Blk.cell hB (o + 0)] at h6
      exact qb_plain hl hp _ _ h6
    refine ⟨e, o, hA, by rw [World.size_setCell, World.size_setCell, World.size_setCell]; exact hlt, fun t ht => ?_⟩
    rw [← hcc t ht]
    exact ((World.cell?_of_block (Below.heap_setCell _ ⟨b, l, none⟩ _ e hne)).trans (World.cell?_of_block (Below.heap_setCell _ ⟨b, j, none⟩ _ e hne))).trans (World.cell?_of_block (Below.heap_setCell w ⟨b, i, none⟩ _ e hne))
  obtain ⟨xs, ds, f1, f2, f3, f4, f5, f6⟩ := f
  exact ⟨xs, ds, far f1, f2, far f3, f4, f5, f6⟩
def PD.redV (p : PD) (y : Nat → Rat) (j : Nat) : Rat := (p.co j : Rat) - cmbA p.rn p.tn p.v p.cf y j
def PD.bndB (p : PD) (y : Nat → Rat) : Bool := (p.okB && sgdB p.rn p.ki y) && lstB p.vn p.lo p.up p.op (p.redV y)
def PD.bndV (p : PD) (y : Nat → Rat) : Rat := if p.bndB y = true then cmbB p.rn p.bo y + lstV p.vn p.lo p.up p.op (p.redV y) else 0
structure BoP (w : World) (cs : List Value) (rb bb Cb vn : Nat) (g : Bool) (A : Option Addr) (n c : Nat) (D : Option Addr) (m d : Nat) (b : Rat) (f : Nat → Rat) (W : World) : Prop where
  bel : Below w.heap.size w W
  box : Blk W w.heap.size cs 25
  res : Blk W rb [.bool false, .slice none 0 0, .slice none 0 0] 31
  bnd : Blk W bb [.bool g, .slice A n c, .slice D m d] 31
  fr : FrV W g A n c D m d 1100000 b
  qb : QB W Cb vn 1100003 f
section
variable {w W W' : World} {cs : List Value} {rb bb Cb vn : Nat} {g : Bool} {A : Option Addr} {n c : Nat} {D : Option Addr} {m d : Nat} {b : Rat} {f : Nat → Rat}
theorem BoP.keep (h : BoP w cs rb bb Cb vn g A n c D m d b f W) (hb : Below W.heap.size W W') : BoP w cs rb bb Cb vn g A n c D m d b f W' := ⟨bx_call h.bel hb, h.box.keep hb, h.res.keep hb, h.bnd.keep hb, h.fr.keep hb, h.qb.keep hb⟩
theorem BoP.store (h : BoP w cs rb bb Cb vn g A n c D m d b f W) (h1 : w.heap.size < Cb) (h2 : rb ≠ Cb) (h3 : bb ≠ Cb) {i : Nat} (hi : i < vn) {g1 : Bool} {A1 : Option Addr} {n1 c1 : Nat} {D1 : Option Addr} {m1 d1 : Nat} {q : Rat} (r : FrV W g1 A1 n1 c1 D1 m1 d1 1100003 q) :
    BoP w cs rb bb Cb vn g A n c D m d b (fun j => if j = i then q else f j) (((W.setCell ⟨Cb, i * 3, none⟩ (.bool g1)).setCell ⟨Cb, i * 3 + 1, none⟩ (.slice A1 n1 c1)).setCell ⟨Cb, i * 3 + 2, none⟩ (.slice D1 m1 d1)) :=
  ⟨bx_set (bx_set (bx_set h.bel (by omega)) (by omega)) (by omega), ((h.box.far (by omega) _).far (by omega) _).far (by omega) _, ((h.res.far h2 _).far h2 _).far h2 _, ((h.bnd.far h3 _).far h3 _).far h3 _, h.qb.other _ _ _ h.fr, h.qb.set hi r⟩
theorem BoP.congr (h : BoP w cs rb bb Cb vn g A n c D m d b f W) {f' : Nat → Rat} (e : ∀ j, j < vn → f j = f' j) : BoP w cs rb bb Cb vn g A n c D m d b f' W := ⟨h.bel, h.box, h.res, h.bnd, h.fr, h.qb.congr e⟩
end
def RetLB (w : World) (q : Rat) (k : Nat) (b : Bool) (e : Ending) (w' : World) : Prop := ∃ A n c D m d, e = .returned (.tuple #[.agg #[.bool (sg q.num), .slice A n c, .slice D m d], .bool b]) ∧ FrL w' A n c D m d k q ∧ Below w.heap.size w w'
theorem RetLB.v {w w' : World} {q : Rat} {k : Nat} {b : Bool} {e : Ending} (h : RetLB w q k b e w') : RetVB w q k b e w' := by
  obtain ⟨A, n, c, D, m, d, h1, h2, h3⟩ := h
  exact ⟨_, A, n, c, D, m, d, h1, h2.v, h3⟩
theorem retlb_end {w w2 : World} {q : Rat} {A A0 D D0 : Option Addr} {n c n0 c0 m d m0 d0 g k : Nat} {b0 b : Bool} (h : FrL w2 A n c D m d k q) (K : Blk w2 g [.bool b0, .slice A0 n0 c0, .slice D0 m0 d0] 31) (hb : Below w.heap.size w w2) (hg : w.heap.size ≤ g) :
    RetLB w q k b (.returned (.tuple #[.agg #[.bool (sg q.num), .slice A n c, .slice D m d], .bool b])) (((w2.setCell ⟨g, 0, none⟩ (.bool (sg q.num))).setCell ⟨g, 1, none⟩ (.slice A n c)).setCell ⟨g, 2, none⟩ (.slice D m d)) :=
  ⟨A, n, c, D, m, d, rfl, ⟨rd_cell_far3 h.1 K _ _ _, h.2.1, rd_cell_far3 h.2.2.1 K _ _ _, h.2.2.2⟩, bx_set (bx_set (bx_set hb hg) hg) hg⟩
theorem retlb_zero {w w2 : World} {A0 D0 : Option Addr} {n0 c0 m0 d0 g k : Nat} {b0 b : Bool} (hk : 1 ≤ k) (K : Blk w2 g [.bool b0, .slice A0 n0 c0, .slice D0 m0 d0] 31) (hb : Below w.heap.size w w2) (hg : w.heap.size ≤ g) :
    RetLB w 0 k b (.returned (.tuple #[.agg #[.bool false, .slice none 0 0, .slice none 0 0], .bool b])) (((w2.setCell ⟨g, 0, none⟩ (.bool false)).setCell ⟨g, 1, none⟩ (.slice none 0 0)).setCell ⟨g, 2, none⟩ (.slice none 0 0)) := retlb_end (frl_zero w2 hk) K hb hg
theorem retlb_as {w w' : World} {q q' : Rat} {k : Nat} {b b' : Bool} {e : Ending} (h : RetLB w q k b e w') (hq : q' = q) (hb : b' = b) : RetLB w q' k b' e w' := by subst hq; subst hb; exact h
set_option maxHeartbeats 8000000 in
theorem d_boundL (p : PD) (A : Option Addr) (n c k : Nat) (qs : Nat → Rat) (w : World) (h : Pg w p) (hQ : Qs w A n c k qs) (hk : k ≤ 100) :
    Calls Tryz.prog 16 #[.agg #[.slice p.V0 p.vn p.vc, .slice p.R0 p.rn p.rc], .slice A n c] w (RetLB w (p.bndV (pt n qs)) 112000000 (p.bndB (pt n qs))) := by
  obtain ⟨W0, hW⟩ : ∃ W, W = (w.alloc (.cells #[.slice p.V0 p.vn p.vc, .slice p.R0 p.rn p.rc] 25)).alloc (.cells #[.bool false, .slice none 0 0, .slice none 0 0] 31) := ⟨_, rfl⟩
  have B0 := bx_alloc (bx_alloc (bx_refl w) (.cells #[.slice p.V0 p.vn p.vc, .slice p.R0 p.rn p.rc] 25)) (.cells #[.bool false, .slice none 0 0, .slice none 0 0] 31)
  have K0 := (Blk.new w [.slice p.V0 p.vn p.vc, .slice p.R0 p.rn p.rc] 25).alloc (.cells #[.bool false, .slice none 0 0, .slice none 0 0] 31)
  have K1 := blk_new1 w (.cells #[.slice p.V0 p.vn p.vc, .slice p.R0 p.rn p.rc] 25) [.bool false, .slice none 0 0, .slice none 0 0] 31
  have hz : W0.heap.size = w.heap.size + 2 := by rw [hW]; simp
  change Blk ((w.alloc (.cells #[.slice p.V0 p.vn p.vc, .slice p.R0 p.rn p.rc] 25)).alloc (.cells #[.bool false, .slice none 0 0, .slice none 0 0] 31)) _ _ _ at K0 K1
  rw [← hW] at B0 K0 K1
  have VA := hid (d_valid p W0 (h.keep B0))
  have SG := hid (fun (W : World) (b : Below w.heap.size w W) => d_signed p A n c k qs W (h.keep b) (hQ.keep b) hk)
  have CM := hid (fun (W : World) (b : Below w.heap.size w W) => d_combine p A n c k qs W (h.keep b) (hQ.keep b) hk)
  have LE := hid (fun (W : World) (b : Below w.heap.size w W) (Cb : Nat) (f : Nat → Rat) (q : QB W Cb p.vn 1100003 f) => d_least p (some ⟨Cb, 0, none⟩) p.vn p.vn 1100003 f W (h.keep b) (q.qs (by have := h.vl; omega) (by omega)) (by omega))
  obtain ⟨r, hr⟩ : ∃ r, r = p.bndB (pt n qs) := ⟨_, rfl⟩
  obtain ⟨z, hz2⟩ : ∃ z, z = p.bndV (pt n qs) := ⟨_, rfl⟩
  rw [← hr, ← hz2]
  obtain ⟨b1, hb1⟩ : ∃ b, b = p.okB := ⟨_, rfl⟩
  obtain ⟨b2, hb2⟩ : ∃ b, b = sgdB p.rn p.ki (pt n qs) := ⟨_, rfl⟩
  obtain ⟨F, hF⟩ : ∃ F, F = cmbA p.rn p.tn p.v p.cf (pt n qs) := ⟨_, rfl⟩
  obtain ⟨G, hG⟩ : ∃ G, G = cmbB p.rn p.bo (pt n qs) := ⟨_, rfl⟩
  obtain ⟨R, hR⟩ : ∃ R : Nat → Rat, R = p.redV (pt n qs) := ⟨_, rfl⟩
  have RF := hid (show ∀ j, R j = (p.co j : Rat) - F j by intro j; rw [hR, hF]; rfl)
  have er := hid (show r = ((b1 && b2) && lstB p.vn p.lo p.up p.op R) by rw [hr, hb1, hb2, hR]; rfl)
  have ez := hid (show z = if r = true then G + lstV p.vn p.lo p.up p.op R else 0 by rw [hz2, hr, hG, hR]; rfl)
  rw [← hb1] at VA
  rw [← hb2] at SG
  rw [← hF, ← hG] at CM
  have LEC := hid (fun (W : World) (b : Below w.heap.size w W) (Cb : Nat) (q : QB W Cb p.vn 1100003 R) => (show Calls Tryz.prog 36 #[.agg #[.slice p.V0 p.vn p.vc, .slice p.R0 p.rn p.rc], .slice (some ⟨Cb, 0, none⟩) p.vn p.vn] W (RetVB W (lstV p.vn p.lo p.up p.op R) 110000601 (lstB p.vn p.lo p.up p.op R)) by
    have := LE.out W b Cb R q
    rw [lstV_congr (p := pt p.vn R) (q := R) (fun j hj => atQ_in hj), lstB_congr (p := pt p.vn R) (q := R) (fun j hj => atQ_in hj)] at this
    exact this))
  have HP := hid h
  have hvn := h.vl
  obtain ⟨LB, hLB⟩ : ∃ b, b = lstB p.vn p.lo p.up p.op R := ⟨_, rfl⟩
  obtain ⟨LV, hLV⟩ : ∃ q, q = lstV p.vn p.lo p.up p.op R := ⟨_, rfl⟩
  rw [← hLB] at LEC er
  rw [← hLV] at LEC ez
  obtain ⟨V0, vn, vc, lo, up, op, it, co, R0, rn, rc, nm, gr, ki, bo, TA, tn, tc, v, cf⟩ := p
  dsimp only at VA SG CM LEC RF HP hW K0 K1 B0 hvn ⊢
  have HV := hid HP.out.vs
  have hc := HV.out.1
  have hc2 := HV.out.2.1
  dsimp only at HV hc hc2
  have BB := hid B0
  have KK := hid K0
  have KR := hid K1
  have HZ := hid hz
  obtain ⟨z0, z1⟩ := blk_two K0
  obtain ⟨y0, y1, y2⟩ := blk_three K1
  have f0 := Blk.free K1 0
  have f1 := Blk.free K1 1
  have f2 := Blk.free K1 2
  clear h hQ B0 K0 K1 hz hr hz2 hb1 hb2 hF hG hR LE HP hLB hLV
  go_enter Tryz.func16, Tryz.ntmps16
  go_upto_region 1 with fail
  rw [← hW]
  clear hW
  go_wp2_with fail
  refine (VA.out).mono ?_
  rintro e w1 ⟨rfl, b⟩
  have B1 := hid (bx_call BB.out b)
  have K1 := hid (KK.out.keep b)
  have R1 := hid (KR.out.keep b)
  have S1 := hid (SG.out w1 B1.out)
  have hs1 := b.size
  clear VA SG b BB KK KR z0 z1 y0 y1 y2 f0 f1 f2
  obtain ⟨z0, z1⟩ := blk_two K1.out
  obtain ⟨y0, y1, y2⟩ := blk_three R1.out
  have f0 := Blk.free R1.out 0
  have f1 := Blk.free R1.out 1
  have f2 := Blk.free R1.out 2
  cases b1
  · have hr0 : r = false := by rw [er.out]; rfl
    have EE := hid (retlb_as (retlb_zero (b := false) (w2 := w1) (k := 112000000) (by omega) R1.out B1.out (by omega)) (by rw [ez.out, hr0]; rfl : z = 0) hr0)
    clear er ez S1 CM LEC RF HV K1 R1 B1 HZ hr0
    go_wp2_with fail
    exact bodyPost_ret (v := .tuple #[.agg #[.bool false, .slice none 0 0, .slice none 0 0], .bool false]) (by simp [results, Tryz.results16, go_sem, y0, y1, y2]) rfl EE.out
  go_wp2_with fail
  refine (S1.out).mono ?_
  rintro e w2 ⟨rfl, b⟩
  have B2 := hid (bx_call B1.out b)
  have K2 := hid (K1.out.keep b)
  have R2 := hid (R1.out.keep b)
  have C2 := hid (CM.out w2 B2.out)
  have hs2 := b.size
  clear S1 CM b B1 K1 R1 z0 z1 y0 y1 y2 f0 f1 f2
  obtain ⟨z0, z1⟩ := blk_two K2.out
  obtain ⟨y0, y1, y2⟩ := blk_three R2.out
  have f0 := Blk.free R2.out 0
  have f1 := Blk.free R2.out 1
  have f2 := Blk.free R2.out 2
  cases b2
  · have hr0 : r = false := by rw [er.out]; rfl
    have EE := hid (retlb_as (retlb_zero (b := false) (w2 := w2) (k := 112000000) (by omega) R2.out B2.out (by omega)) (by rw [ez.out, hr0]; rfl : z = 0) hr0)
    clear er ez C2 LEC RF HV K2 R2 B2 HZ hr0
    go_wp2_with fail
    exact bodyPost_ret (v := .tuple #[.agg #[.bool false, .slice none 0 0, .slice none 0 0], .bool false]) (by simp [results, Tryz.results16, go_sem, y0, y1, y2]) rfl EE.out
  have er2 := hid (show r = LB by rw [er.out]; rfl)
  clear er
  go_wp2_with fail
  refine (C2.out).mono ?_
  rintro e w3 ⟨Cb, gb, Ab, nb, cb, Db, mb, db, rfl, q, fb, hCb, b⟩
  have hzz := HZ.out
  have hq := q.lt
  have B3 := bx_call B2.out b
  have K3 := K2.out.keep b
  have R3 := R2.out.keep b
  have ST := hid (show BoP w [.slice V0 vn vc, .slice R0 rn rc] (w.heap.size + 1) w3.heap.size Cb vn gb Ab nb cb Db mb db G (fun i => if i < 0 then R i else F i) (w3.alloc (.cells #[.bool gb, .slice Ab nb cb, .slice Db mb db] 31)) from
    ⟨bx_alloc B3 _, K3.alloc _, R3.alloc _, Blk.new w3 [.bool gb, .slice Ab nb cb, .slice Db mb db] 31, fb.keep (bx_alloc (bx_refl w3) _), ((q.up (by omega)).keep (bx_alloc (bx_refl w3) _)).congr fun i _ => rfl⟩)
  have hs3 := b.size
  have n1 : w.heap.size < Cb := by omega
  have n2 : w.heap.size + 1 ≠ Cb := by omega
  have n3 : w3.heap.size ≠ Cb := by omega
  have FQ := hid (fun j (hj : j < vn) => (show LQ 1100003 (R j) by
    obtain ⟨g, A, n, c, D, m, d, _, _, _, f⟩ := q.get hj
    rw [RF.out j]
    have h1 := HV.out.2.2.1 j hj
    have := LQ_add (LQ_int h1.2.2.1 h1.2.2.2) (LQ_neg f.lq)
    rw [← Rat.sub_eq_add_neg] at this
    exact this.up (by omega)))
  have FA := hid (fun j (hj : j < vn) => (show LQ 1100000 (F j) by
    obtain ⟨g, A, n, c, D, m, d, _, _, _, f⟩ := q.get hj
    exact f.lq))
  clear z0 z1 y0 y1 y2 f0 f1 f2
  obtain ⟨z0, z1⟩ := blk_two ST.out.box
  clear C2 b K2 R2 B2 B3 K3 R3 q fb hzz HZ hs1 hs2
  go_wp2_with fail
  go_loopw [31] (fun i wr => ∃ j : Nat, j ≤ vn ∧ i = .int .i64 j ∧ Hid (BoP w [.slice V0 vn vc, .slice R0 rn rc] (w.heap.size + 1) w3.heap.size Cb vn gb Ab nb cb Db mb db G (fun i => if i < j then R i else F i) wr)) (fun i _ => vn - (intOf i).toNat)
  case atStart => exact ⟨0, Nat.zero_le _, rfl, ST⟩
  case round =>
    clear ST z0 z1
    obtain ⟨j, hj, rfl, hz⟩ := hrel
    rcases Nat.lt_or_ge j vn with hlt | hge
    · obtain ⟨bb, o, rfl, hb, hcell⟩ := HV.out.2.2.2 (by omega)
      obtain ⟨⟨l1, l2⟩, ⟨u1, u2⟩, i1, i2⟩ := HV.out.2.2.1 j hlt
      have x0 := cell_bx (hcell j hlt).1 hz.out.bel
      have x1 := cell_bx (hcell j hlt).2.1 hz.out.bel
      have x2 := cell_bx (hcell j hlt).2.2.1 hz.out.bel
      have x3 := cell_bx (hcell j hlt).2.2.2.1 hz.out.bel
      have x4 := cell_bx (hcell j hlt).2.2.2.2 hz.out.bel
      have B5 := bx_alloc (bx_refl wr) (.cells #[.int .i64 (lo j), .int .i64 (up j), .bool (op j), .bool (it j), .int .i64 (co j)] 50)
      have K5 := Blk.new wr [.int .i64 (lo j), .int .i64 (up j), .bool (op j), .bool (it j), .int .i64 (co j)] 50
      obtain ⟨W5, hW5⟩ : ∃ W, W = wr.alloc (.cells #[.int .i64 (lo j), .int .i64 (up j), .bool (op j), .bool (it j), .int .i64 (co j)] 50) := ⟨_, rfl⟩
      change Blk (wr.alloc (.cells #[.int .i64 (lo j), .int .i64 (up j), .bool (op j), .bool (it j), .int .i64 (co j)] 50)) _ _ _ at K5
      have hCw := hz.out.qb.lt
      rw [← hW5] at B5 K5
      have Z5 := hz.out.keep B5
      obtain ⟨g3, A3, n3', c3, D3, m3, d3, c0, c1, c2, ff⟩ := Z5.qb.get hlt
      have ff : FrV W5 g3 A3 n3' c3 D3 m3 d3 1100003 (F j) := by
        have := ff
        rwa [if_neg (Nat.lt_irrefl j)] at this
      have PB := hid Z5
      have FF := hid ff
      obtain ⟨_, _, _, _, s4⟩ := blk_five K5
      have FR := hid (fun W => vfrom (co j) W i1 i2)
      have SB := hid (fun (W : World) (A1 : Option Addr) (na1 c1 : Nat) (D1 : Option Addr) (m1 d1 : Nat) (L : FrL W A1 na1 c1 D1 m1 d1 2 (co j : Rat)) (M : FrV W g3 A3 n3' c3 D3 m3 d3 1100003 (F j)) => (show Calls Tryz.prog 34 #[.agg #[.bool (sg (co j : Rat).num), .slice A1 na1 c1, .slice D1 m1 d1], .agg #[.bool g3, .slice A3 n3' c3, .slice D3 m3 d3]] W (RetQ W (R j) 1100003) by
        have := vsub (sg (co j : Rat).num) A1 na1 c1 D1 m1 d1 g3 A3 n3' c3 D3 m3 d3 1100003 (co j : Rat) (F j) W (L.v.up (by omega)) M (by omega)
        rw [← RF.out j] at this
        exact this.mono fun _ _ r => r.fit (FQ.out j hlt)))
      have CG := hid (fun i (_ : i < vn) => (show (if i = j then R j else if i < j then R i else F i) = if i < j + 1 then R i else F i by
        by_cases h : i = j
        · rw [if_pos h, if_pos (by omega), h]
        · rw [if_neg h]
          by_cases h2 : i < j
          · rw [if_pos h2, if_pos (by omega)]
          · rw [if_neg h2, if_neg (by omega)]))
      clear hz HV hcell B5 K5 Z5 ff RF FQ FA LEC er2 ez
      go_upto_region 7 with fail
      rw [← hW5]
      clear hW5 x0 x1 x2 x3 x4
      refine wp_region_noPanic ?_
      refine wp_region_held_drew (S := (fun W => W.cell? ⟨wr.heap.size, 4, none⟩ = some (.int .i64 (co j)))) (by kernel_rfl) ?_ (fun hH => ?_)
      · (try dsimp only); (repeat' (first | with_reducible assumption | with_reducible refine cell_dr ?_ | with_reducible refine cell_fr ?_ (by omega)))
      refine tk 0 hH ?_
      (try simp only [Act.put, gy0, gy1, gy2])
      refine tk 1 hH ?_
      (try simp only [Act.put, gy0, gy1, gy2])
      refine tk 2 hH ?_
      (try simp only [Act.put, gy0, gy1, gy2])
      refine tk 3 hH ?_
      (try simp only [Act.put, gy0, gy1, gy2])
      refine tk 5 hH ?_
      (try simp only [Act.put, gy0, gy1, gy2])
      refine tk 6 hH ?_
      (try simp only [Act.put, gy0, gy1, gy2])
      refine tk 7 hH ?_
      (try simp only [Act.put, gy0, gy1, gy2])
      refine wpAnyH_ready (rs := [4, 8]) (by kernel_rfl) (by simp) ?_
      refine rdy (fun K hK => ?_) ?_
      go_simp
      (first | (go_at_call 34; refine (SB.out v1 A1 na1 ca1 D1 m1 d1 R1.out F1.out).mono ?_; rintro e v2 ⟨A2, na2, ca2, D2, m2, d2, rfl, r, b⟩; have c0_2 := cell_bx c0_1 b; have c1_2 := cell_bx c1_1 b; have c2_2 := cell_bx c2_1 b; have s4_2 := cell_bx s4_1 b; have P2 := P1.out.keep b; have NN := hid ((P2.store n1 n2 n3 hlt r.v).congr CG.out); have f0 := P2.qb.free (j * 3); have f1 := P2.qb.free (j * 3 + 1); have f2 := P2.qb.free (j * 3 + 2); clear b r P2) | (go_at_call 35; refine (FR.out _).mono ?_; rintro e v1 ⟨A1, na1, ca1, D1, m1, d1, rfl, r, b⟩; have c0_1 := cell_bx (cell_dr c0) b; have c1_1 := cell_bx (cell_dr c1) b; have c2_1 := cell_bx (cell_dr c2) b; have s4_1 := cell_bx (cell_dr s4) b; have P1 := hid (PB.out.keep (bx_call (bx_drew (bx_refl _)) b)); have F1 := hid (FF.out.keep (bx_call (bx_drew (bx_refl _)) b)); have R1 := hid r; clear b r))
      (try go_wp2_with fail)
      refine hK.out _ _ ?_ (fun hH2 => ?_)
      · (try dsimp only); (repeat' (first | with_reducible assumption | with_reducible refine cell_dr ?_ | with_reducible refine cell_fr ?_ (by omega)))
      clear hK K hH
      have hH := hH2
      clear hH2
      (try simp only [Act.put, gy0, gy1, gy2])
      refine wpAnyH_ready (rs := [8]) (by kernel_rfl) (by simp) ?_
      refine rdy (fun K hK => ?_) ?_
      go_simp
      refine hK.out _ _ ?_ (fun hH2 => ?_)
      · (try dsimp only); (repeat' (first | with_reducible assumption | with_reducible refine cell_dr ?_ | with_reducible refine cell_fr ?_ (by omega)))
      clear hK K hH
      have hH := hH2
      clear hH2
      (try simp only [Act.put, gy0, gy1, gy2])
      refine wpAnyH_ready (rs := [9]) (by kernel_rfl) (by simp) ?_
      refine rdy (fun K hK => ?_) ?_
      go_simp
      (first | (go_at_call 34; refine (SB.out v1 A1 na1 ca1 D1 m1 d1 R1.out F1.out).mono ?_; rintro e v2 ⟨A2, na2, ca2, D2, m2, d2, rfl, r, b⟩; have c0_2 := cell_bx c0_1 b; have c1_2 := cell_bx c1_1 b; have c2_2 := cell_bx c2_1 b; have s4_2 := cell_bx s4_1 b; have P2 := P1.out.keep b; have NN := hid ((P2.store n1 n2 n3 hlt r.v).congr CG.out); have f0 := P2.qb.free (j * 3); have f1 := P2.qb.free (j * 3 + 1); have f2 := P2.qb.free (j * 3 + 2); clear b r P2) | (go_at_call 35; refine (FR.out _).mono ?_; rintro e v1 ⟨A1, na1, ca1, D1, m1, d1, rfl, r, b⟩; have c0_1 := cell_bx (cell_dr c0) b; have c1_1 := cell_bx (cell_dr c1) b; have c2_1 := cell_bx (cell_dr c2) b; have s4_1 := cell_bx (cell_dr s4) b; have P1 := hid (PB.out.keep (bx_call (bx_drew (bx_refl _)) b)); have F1 := hid (FF.out.keep (bx_call (bx_drew (bx_refl _)) b)); have R1 := hid r; clear b r))
      (try go_wp2_with fail)
      refine hK.out _ _ ?_ (fun hH2 => ?_)
      · (try dsimp only); (repeat' (first | with_reducible assumption | with_reducible refine cell_dr ?_ | with_reducible refine cell_fr ?_ (by omega)))
      clear hK K hH
      have hH := hH2
      clear hH2
      (try simp only [Act.put, gy0, gy1, gy2])
      refine tk 10 hH ?_
      (try simp only [Act.put, gy0, gy1, gy2])
      refine wpAnyH_ready (rs := [11]) (by kernel_rfl) (by simp) ?_
      refine rdy (fun K hK => ?_) ?_
      go_simp
      refine hK.out _ _ ?_ (fun hH2 => ?_)
      · (try dsimp only); (repeat' (first | with_reducible assumption | with_reducible refine cell_dr ?_ | with_reducible refine cell_fr ?_ (by omega)))
      clear hK K hH
      have hH := hH2
      clear hH2
      (try simp only [Act.put, gy0, gy1, gy2])
      refine wpAnyH_done (by kernel_rfl) ?_ _
      refine NoPanic.normal ?_
      clear hH
      rotate_left
      exact AllReadyH.nil
      exact AllReadyH.nil
      exact AllReadyH.nil
      refine rdy (fun K hK => ?_) ?_
      go_simp
      refine hK.out _ _ ?_ (fun hH2 => ?_)
      · (try dsimp only); (repeat' (first | with_reducible assumption | with_reducible refine cell_dr ?_ | with_reducible refine cell_fr ?_ (by omega)))
      clear hK K hH
      have hH := hH2
      clear hH2
      (try simp only [Act.put, gy0, gy1, gy2])
      refine wpAnyH_ready (rs := [4]) (by kernel_rfl) (by simp) ?_
      refine rdy (fun K hK => ?_) ?_
      go_simp
      (first | (go_at_call 34; refine (SB.out v1 A1 na1 ca1 D1 m1 d1 R1.out F1.out).mono ?_; rintro e v2 ⟨A2, na2, ca2, D2, m2, d2, rfl, r, b⟩; have c0_2 := cell_bx c0_1 b; have c1_2 := cell_bx c1_1 b; have c2_2 := cell_bx c2_1 b; have s4_2 := cell_bx s4_1 b; have P2 := P1.out.keep b; have NN := hid ((P2.store n1 n2 n3 hlt r.v).congr CG.out); have f0 := P2.qb.free (j * 3); have f1 := P2.qb.free (j * 3 + 1); have f2 := P2.qb.free (j * 3 + 2); clear b r P2) | (go_at_call 35; refine (FR.out _).mono ?_; rintro e v1 ⟨A1, na1, ca1, D1, m1, d1, rfl, r, b⟩; have c0_1 := cell_bx (cell_dr c0) b; have c1_1 := cell_bx (cell_dr c1) b; have c2_1 := cell_bx (cell_dr c2) b; have s4_1 := cell_bx (cell_dr s4) b; have P1 := hid (PB.out.keep (bx_call (bx_drew (bx_refl _)) b)); have F1 := hid (FF.out.keep (bx_call (bx_drew (bx_refl _)) b)); have R1 := hid r; clear b r))
      (try go_wp2_with fail)
      refine hK.out _ _ ?_ (fun hH2 => ?_)
      · (try dsimp only); (repeat' (first | with_reducible assumption | with_reducible refine cell_dr ?_ | with_reducible refine cell_fr ?_ (by omega)))
      clear hK K hH
      have hH := hH2
      clear hH2
      (try simp only [Act.put, gy0, gy1, gy2])
      refine wpAnyH_ready (rs := [9]) (by kernel_rfl) (by simp) ?_
      refine rdy (fun K hK => ?_) ?_
      go_simp
      (first | (go_at_call 34; refine (SB.out v1 A1 na1 ca1 D1 m1 d1 R1.out F1.out).mono ?_; rintro e v2 ⟨A2, na2, ca2, D2, m2, d2, rfl, r, b⟩; have c0_2 := cell_bx c0_1 b; have c1_2 := cell_bx c1_1 b; have c2_2 := cell_bx c2_1 b; have s4_2 := cell_bx s4_1 b; have P2 := P1.out.keep b; have NN := hid ((P2.store n1 n2 n3 hlt r.v).congr CG.out); have f0 := P2.qb.free (j * 3); have f1 := P2.qb.free (j * 3 + 1); have f2 := P2.qb.free (j * 3 + 2); clear b r P2) | (go_at_call 35; refine (FR.out _).mono ?_; rintro e v1 ⟨A1, na1, ca1, D1, m1, d1, rfl, r, b⟩; have c0_1 := cell_bx (cell_dr c0) b; have c1_1 := cell_bx (cell_dr c1) b; have c2_1 := cell_bx (cell_dr c2) b; have s4_1 := cell_bx (cell_dr s4) b; have P1 := hid (PB.out.keep (bx_call (bx_drew (bx_refl _)) b)); have F1 := hid (FF.out.keep (bx_call (bx_drew (bx_refl _)) b)); have R1 := hid r; clear b r))
      (try go_wp2_with fail)
      refine hK.out _ _ ?_ (fun hH2 => ?_)
      · (try dsimp only); (repeat' (first | with_reducible assumption | with_reducible refine cell_dr ?_ | with_reducible refine cell_fr ?_ (by omega)))
      clear hK K hH
      have hH := hH2
      clear hH2
      (try simp only [Act.put, gy0, gy1, gy2])
      refine tk 10 hH ?_
      (try simp only [Act.put, gy0, gy1, gy2])
      refine wpAnyH_ready (rs := [11]) (by kernel_rfl) (by simp) ?_
      refine rdy (fun K hK => ?_) ?_
      go_simp
      refine hK.out _ _ ?_ (fun hH2 => ?_)
      · (try dsimp only); (repeat' (first | with_reducible assumption | with_reducible refine cell_dr ?_ | with_reducible refine cell_fr ?_ (by omega)))
      clear hK K hH
      have hH := hH2
      clear hH2
      (try simp only [Act.put, gy0, gy1, gy2])
      refine wpAnyH_done (by kernel_rfl) ?_ _
      refine NoPanic.normal ?_
      clear hH
      rotate_left
      exact AllReadyH.nil
      exact AllReadyH.nil
      exact AllReadyH.nil
      exact AllReadyH.nil
      all_goals
        clear P1 F1 R1 PB FF FR SB CG c0 c1 c2 s4 c0_1 c1_1 c2_1 s4_1 c0_2 c1_2 c2_2 s4_2
        go_wp2_with fail
        go_roundw
        case rel => exact ⟨j + 1, by omega, by go_num, NN⟩
        case measure => simp [intOf]; omega
    · obtain rfl : j = vn := by omega
      have Z1 := hz.out.congr (f' := R) fun i hi => by rw [if_pos hi]
      have LC := hid (LEC.out wr Z1.bel Cb Z1.qb)
      have ZH := hid Z1
      obtain ⟨z0, z1⟩ := blk_two Z1.box
      clear hz HV RF FQ FA LEC Z1
      go_wp2_with fail
      refine (LC.out).mono ?_
      rintro e w5 ⟨g4, A4, n4, c4, D4, m4, d4, rfl, r4, b⟩
      have Z5 := ZH.out.keep b
      have B6 := bx_alloc (bx_refl w5) (.cells #[.bool g4, .slice A4 n4 c4, .slice D4 m4 d4] 31)
      have K6 := Blk.new w5 [.bool g4, .slice A4 n4 c4, .slice D4 m4 d4] 31
      obtain ⟨W6, hW6⟩ : ∃ W, W = w5.alloc (.cells #[.bool g4, .slice A4 n4 c4, .slice D4 m4 d4] 31) := ⟨_, rfl⟩
      change Blk (w5.alloc (.cells #[.bool g4, .slice A4 n4 c4, .slice D4 m4 d4] 31)) _ _ _ at K6
      rw [← hW6] at B6 K6
      have Z6 := Z5.keep B6
      have r6 := r4.keep B6
      obtain ⟨y0, y1, y2⟩ := blk_three Z6.res
      have f0 := Blk.free Z6.res 0
      have f1 := Blk.free Z6.res 1
      have f2 := Blk.free Z6.res 2
      obtain ⟨e0, e1, e2⟩ := blk_three Z6.bnd
      obtain ⟨k0, k1, k2⟩ := blk_three K6
      have AD := hid (vadd gb Ab nb cb Db mb db g4 A4 n4 c4 D4 m4 d4 110000601 G LV W6 (Z6.fr.up (by omega)) r6 (by omega))
      have LQA := hid ((LQ_add Z6.fr.lq r6.lq).up (show 1100000 + 110000601 + 1 ≤ 112000000 by omega))
      have ZZ := hid Z6
      cases LB
      · have hr0 : r = false := er2.out
        have EE := hid (retlb_as (retlb_zero (b := false) (w2 := W6) (k := 112000000) (by omega) Z6.res Z6.bel (by omega)) (by rw [ez.out, hr0]; rfl : z = 0) hr0)
        clear LC ZH b Z5 B6 K6 Z6 r6 r4 AD LQA ZZ er2 ez hr0
        go_upto_region 10 with fail
        rw [← hW6]
        clear hW6
        go_wp2_with fail
        exact bodyPost_ret (v := .tuple #[.agg #[.bool false, .slice none 0 0, .slice none 0 0], .bool false]) (by simp [results, Tryz.results16, go_sem, y0, y1, y2]) rfl EE.out
      · have hr1 : r = true := er2.out
        have hzv := hid (show z = G + LV by rw [ez.out, hr1]; rfl)
        have HR1 := hid hr1
        clear LC ZH b Z5 B6 K6 Z6 r6 r4 er2 ez hr1
        go_upto_region 10 with fail
        rw [← hW6]
        clear hW6
        go_wp2_with fail
        refine (AD.out).mono ?_
        rintro e w7 ret
        obtain ⟨A7, n7, c7, D7, m7, d7, rfl, r7, b⟩ := ret.fit LQA.out
        have Z7 := ZZ.out.keep b
        have EE := hid (retlb_as (retlb_end (b := true) r7 Z7.res Z7.bel (by omega)) hzv.out HR1.out)
        clear y0 y1 y2 f0 f1 f2 e0 e1 e2 k0 k1 k2
        obtain ⟨y0, y1, y2⟩ := blk_three Z7.res
        have f0 := Blk.free Z7.res 0
        have f1 := Blk.free Z7.res 1
        have f2 := Blk.free Z7.res 2
        clear AD LQA ZZ hzv HR1 ret r7 b Z7
        go_wp2_with fail
        exact bodyPost_ret (v := .tuple #[.agg #[.bool (sg (G + LV).num), .slice A7 n7 c7, .slice D7 m7 d7], .bool true]) (by simp [results, Tryz.results16, go_sem, y0, y1, y2]) rfl EE.out
theorem d_bound (p : PD) (A : Option Addr) (n c k : Nat) (qs : Nat → Rat) (w : World) (h : Pg w p) (hQ : Qs w A n c k qs) (hk : k ≤ 100) :
    Calls Tryz.prog 16 #[.agg #[.slice p.V0 p.vn p.vc, .slice p.R0 p.rn p.rc], .slice A n c] w (RetVB w (p.bndV (pt n qs)) 112000000 (p.bndB (pt n qs))) := (d_boundL p A n c k qs w h hQ hk).mono fun _ _ r => r.v
def PD.negV (p : PD) (y : Nat → Rat) (j : Nat) : Rat := -cmbA p.rn p.tn p.v p.cf y j
def PD.excB (p : PD) (y : Nat → Rat) : Bool := lstB p.vn p.lo p.up p.op (p.negV y) && decide (0 < sgnQ (lstV p.vn p.lo p.up p.op (p.negV y) - -cmbB p.rn p.bo y))
def PD.infB (p : PD) (y : Nat → Rat) : Bool := (p.okB && sgdB p.rn p.ki y) && (empB p.vn p.lo p.up p.op || p.excB y)
structure ExP (w : World) (cs : List Value) (bb Cb vn : Nat) (g : Bool) (A : Option Addr) (n c : Nat) (D : Option Addr) (m d : Nat) (b : Rat) (f : Nat → Rat) (W : World) : Prop where
  bel : Below w.heap.size w W
  box : Blk W w.heap.size cs 25
  bnd : Blk W bb [.bool g, .slice A n c, .slice D m d] 31
  fr : FrV W g A n c D m d 1100000 b
  qb : QB W Cb vn 1100000 f
section
variable {w W W' : World} {cs : List Value} {bb Cb vn : Nat} {g : Bool} {A : Option Addr} {n c : Nat} {D : Option Addr} {m d : Nat} {b : Rat} {f : Nat → Rat}
theorem ExP.keep (h : ExP w cs bb Cb vn g A n c D m d b f W) (hb : Below W.heap.size W W') : ExP w cs bb Cb vn g A n c D m d b f W' := ⟨bx_call h.bel hb, h.box.keep hb, h.bnd.keep hb, h.fr.keep hb, h.qb.keep hb⟩
theorem ExP.store (h : ExP w cs bb Cb vn g A n c D m d b f W) (h1 : w.heap.size < Cb) (h3 : bb ≠ Cb) {i : Nat} (hi : i < vn) {g1 : Bool} {A1 : Option Addr} {n1 c1 : Nat} {D1 : Option Addr} {m1 d1 : Nat} {q : Rat} (r : FrV W g1 A1 n1 c1 D1 m1 d1 1100000 q) :
    ExP w cs bb Cb vn g A n c D m d b (fun j => if j = i then q else f j) (((W.setCell ⟨Cb, i * 3, none⟩ (.bool g1)).setCell ⟨Cb, i * 3 + 1, none⟩ (.slice A1 n1 c1)).setCell ⟨Cb, i * 3 + 2, none⟩ (.slice D1 m1 d1)) :=
  ⟨bx_set (bx_set (bx_set h.bel (by omega)) (by omega)) (by omega), ((h.box.far (by omega) _).far (by omega) _).far (by omega) _, ((h.bnd.far h3 _).far h3 _).far h3 _, h.qb.other _ _ _ h.fr, h.qb.set hi r⟩
theorem ExP.congr (h : ExP w cs bb Cb vn g A n c D m d b f W) {f' : Nat → Rat} (e : ∀ j, j < vn → f j = f' j) : ExP w cs bb Cb vn g A n c D m d b f' W := ⟨h.bel, h.box, h.bnd, h.fr, h.qb.congr e⟩
end
set_option maxHeartbeats 8000000 in
theorem d_excludes (p : PD) (A : Option Addr) (n c k : Nat) (qs : Nat → Rat) (w : World) (h : Pg w p) (hQ : Qs w A n c k qs) (hk : k ≤ 100) :
    Calls Tryz.prog 31 #[.agg #[.slice p.V0 p.vn p.vc, .slice p.R0 p.rn p.rc], .slice A n c] w (RetB w (p.excB (pt n qs))) := by
  obtain ⟨W0, hW⟩ : ∃ W, W = w.alloc (.cells #[.slice p.V0 p.vn p.vc, .slice p.R0 p.rn p.rc] 25) := ⟨_, rfl⟩
  have B0 := bx_alloc (bx_refl w) (.cells #[.slice p.V0 p.vn p.vc, .slice p.R0 p.rn p.rc] 25)
  have K0 := Blk.new w [.slice p.V0 p.vn p.vc, .slice p.R0 p.rn p.rc] 25
  have hz : w.heap.size < W0.heap.size := by rw [hW]; simp
  change Blk (w.alloc (.cells #[.slice p.V0 p.vn p.vc, .slice p.R0 p.rn p.rc] 25)) _ _ _ at K0
  rw [← hW] at B0 K0
  have CM := hid (d_combine p A n c k qs W0 (h.keep B0) (hQ.keep B0) hk)
  obtain ⟨F, hF⟩ : ∃ F, F = cmbA p.rn p.tn p.v p.cf (pt n qs) := ⟨_, rfl⟩
  obtain ⟨G, hG⟩ : ∃ G, G = cmbB p.rn p.bo (pt n qs) := ⟨_, rfl⟩
  obtain ⟨R, hR⟩ : ∃ R : Nat → Rat, R = p.negV (pt n qs) := ⟨_, rfl⟩
  obtain ⟨r, hr⟩ : ∃ r, r = p.excB (pt n qs) := ⟨_, rfl⟩
  rw [← hr]
  have RF := hid (show ∀ j, R j = -F j by intro j; rw [hR, hF]; rfl)
  have er := hid (show r = (lstB p.vn p.lo p.up p.op R && decide (0 < sgnQ (lstV p.vn p.lo p.up p.op R - -G))) by rw [hr, hR, hG]; rfl)
  rw [← hF, ← hG] at CM
  have LEC := hid (fun (W : World) (b : Below w.heap.size w W) (Cb : Nat) (q : QB W Cb p.vn 1100000 R) => (show Calls Tryz.prog 36 #[.agg #[.slice p.V0 p.vn p.vc, .slice p.R0 p.rn p.rc], .slice (some ⟨Cb, 0, none⟩) p.vn p.vn] W (RetVB W (lstV p.vn p.lo p.up p.op R) 110000601 (lstB p.vn p.lo p.up p.op R)) by
    have := d_least p (some ⟨Cb, 0, none⟩) p.vn p.vn 1100000 R W (h.keep b) (q.qs (by have := h.vl; omega) (by omega)) (by omega)
    rw [lstV_congr (p := pt p.vn R) (q := R) (fun j hj => atQ_in hj), lstB_congr (p := pt p.vn R) (q := R) (fun j hj => atQ_in hj)] at this
    exact this))
  have hvn := h.vl
  obtain ⟨LB, hLB⟩ : ∃ b, b = lstB p.vn p.lo p.up p.op R := ⟨_, rfl⟩
  obtain ⟨LV, hLV⟩ : ∃ q, q = lstV p.vn p.lo p.up p.op R := ⟨_, rfl⟩
  rw [← hLB] at LEC er
  rw [← hLV] at LEC er
  obtain ⟨V0, vn, vc, lo, up, op, it, co, R0, rn, rc, nm, gr, ki, bo, TA, tn, tc, v, cf⟩ := p
  dsimp only at CM LEC hW K0 B0 hvn ⊢
  have BB := hid B0
  have KK := hid K0
  obtain ⟨z0, z1⟩ := blk_two K0
  clear h hQ B0 K0 hr hF hG hR hLB hLV
  go_enter Tryz.func31, Tryz.ntmps31
  go_upto_region 1 with fail
  rw [← hW]
  clear hW
  go_wp2_with fail
  refine (CM.out).mono ?_
  rintro e w3 ⟨Cb, gb, Ab, nb, cb, Db, mb, db, rfl, q, fb, hCb, b⟩
  have hq := q.lt
  have B3 := bx_call BB.out b
  have K3 := KK.out.keep b
  have ST := hid (show ExP w [.slice V0 vn vc, .slice R0 rn rc] w3.heap.size Cb vn gb Ab nb cb Db mb db G (fun i => if i < 0 then R i else F i) (w3.alloc (.cells #[.bool gb, .slice Ab nb cb, .slice Db mb db] 31)) from
    ⟨bx_alloc B3 _, K3.alloc _, Blk.new w3 [.bool gb, .slice Ab nb cb, .slice Db mb db] 31, fb.keep (bx_alloc (bx_refl w3) _), (q.keep (bx_alloc (bx_refl w3) _)).congr fun i _ => rfl⟩)
  have n1 : w.heap.size < Cb := by omega
  have n3 : w3.heap.size ≠ Cb := by omega
  clear z0 z1 CM b BB KK B3 K3 q fb
  go_wp2_with fail
  go_loopw [19] (fun i wr => ∃ j : Nat, j ≤ vn ∧ i = .int .i64 j ∧ Hid (ExP w [.slice V0 vn vc, .slice R0 rn rc] w3.heap.size Cb vn gb Ab nb cb Db mb db G (fun i => if i < j then R i else F i) wr)) (fun i _ => vn - (intOf i).toNat)
  case atStart => exact ⟨0, Nat.zero_le _, rfl, ST⟩
  case round =>
    clear ST
    obtain ⟨j, hj, rfl, hz⟩ := hrel
    rcases Nat.lt_or_ge j vn with hlt | hge
    · have hCw := hz.out.qb.lt
      obtain ⟨g3, A3, n3', c3, D3, m3, d3, c0, c1, c2, ff⟩ := hz.out.qb.get hlt
      have ff : FrV wr g3 A3 n3' c3 D3 m3 d3 1100000 (F j) := by
        have := ff
        rwa [if_neg (Nat.lt_irrefl j)] at this
      have B5 := bx_alloc (bx_refl wr) (.cells #[.bool g3, .slice A3 n3' c3, .slice D3 m3 d3] 31)
      have K5 := Blk.new wr [.bool g3, .slice A3 n3' c3, .slice D3 m3 d3] 31
      have NG := hid (vneg g3 A3 n3' c3 D3 m3 d3 1100000 (F j) _ (ff.keep B5) (by omega))
      have Z5 := hid (hz.out.keep B5)
      rw [← RF.out j] at NG
      have CG := hid (fun i (_ : i < vn) => (show (if i = j then R j else if i < j then R i else F i) = if i < j + 1 then R i else F i by
        by_cases h : i = j
        · rw [if_pos h, if_pos (by omega), h]
        · rw [if_neg h]
          by_cases h2 : i < j
          · rw [if_pos h2, if_pos (by omega)]
          · rw [if_neg h2, if_neg (by omega)]))
      clear hz ff B5 K5 RF er LEC
      go_wp2_with fail
      refine (NG.out).mono ?_
      rintro e w5 ⟨A2, na2, ca2, D2, m2, d2, rfl, r2, b⟩
      have P2 := Z5.out.keep b
      have NN := hid ((P2.store n1 n3 hlt r2.v).congr CG.out)
      obtain ⟨g6, A6, n6, c6, D6, m6, d6, q0, q1, q2, _⟩ := P2.qb.get hlt
      have f0 := P2.qb.free (j * 3)
      have f1 := P2.qb.free (j * 3 + 1)
      have f2 := P2.qb.free (j * 3 + 2)
      clear c0 c1 c2 NG Z5 CG b P2 r2
      go_wp2_with fail
      go_roundw
      case rel => exact ⟨j + 1, by omega, by go_num, NN⟩
      case measure => simp [intOf]; omega
    · obtain rfl : j = vn := by omega
      have Z1 := hz.out.congr (f' := R) fun i hi => by rw [if_pos hi]
      have LC := hid (LEC.out wr Z1.bel Cb Z1.qb)
      have ZH := hid Z1
      obtain ⟨z0, z1⟩ := blk_two Z1.box
      clear hz RF LEC Z1
      go_wp2_with fail
      refine (LC.out).mono ?_
      rintro e w5 ⟨g4, A4, n4, c4, D4, m4, d4, rfl, r4, b⟩
      have Z5 := ZH.out.keep b
      have B6 := bx_alloc (bx_refl w5) (.cells #[.bool g4, .slice A4 n4 c4, .slice D4 m4 d4] 31)
      have K6 := Blk.new w5 [.bool g4, .slice A4 n4 c4, .slice D4 m4 d4] 31
      obtain ⟨W6, hW6⟩ : ∃ W, W = w5.alloc (.cells #[.bool g4, .slice A4 n4 c4, .slice D4 m4 d4] 31) := ⟨_, rfl⟩
      change Blk (w5.alloc (.cells #[.bool g4, .slice A4 n4 c4, .slice D4 m4 d4] 31)) _ _ _ at K6
      rw [← hW6] at B6 K6
      have Z6 := Z5.keep B6
      have r6 := r4.keep B6
      obtain ⟨e0, e1, e2⟩ := blk_three Z6.bnd
      obtain ⟨k0, k1, k2⟩ := blk_three K6
      have BW := hid Z6.bel
      cases LB
      · have hr0 := hid (show r = false by rw [er.out]; rfl)
        have QQ := hid (fun nq : Nat => vld_no hr0.out (bx_drewN BW.out nq))
        clear LC ZH b Z5 B6 K6 Z6 r6 r4 er hr0 BW
        go_upto_region 8 with fail
        rw [← hW6]
        clear hW6
        go_quiet (fail)
        go_wp2_with fail
        go_ret
        exact QQ.out _
      · have er2 := hid (show r = decide (0 < sgnQ (LV - -G)) by rw [er.out]; rfl)
        have NG := hid (fun (W : World) (b : Below W6.heap.size W6 W) => vneg gb Ab nb cb Db mb db 1100000 G W (Z6.fr.keep b) (by omega))
        have CP := hid (fun (W : World) (b : Below W6.heap.size W6 W) (A1 : Option Addr) (n1 c1 : Nat) (D1 : Option Addr) (m1 d1 : Nat) (M : FrL W A1 n1 c1 D1 m1 d1 1100000 (-G)) => vcmp g4 A4 n4 c4 D4 m4 d4 (sg (-G).num) A1 n1 c1 D1 m1 d1 110000601 LV (-G) W (r6.keep b) (M.v.up (by omega)) (by omega))
        obtain ⟨s, hs⟩ : ∃ s, s = sgnQ (LV - -G) := ⟨_, rfl⟩
        rw [← hs] at CP er2
        clear LC ZH b Z5 B6 K6 Z6 r6 r4 er hs
        go_upto_region 8 with fail
        rw [← hW6]
        clear hW6
        go_region_held3 (fun W => (W.cell? ⟨w3.heap.size, 0, none⟩ = some (.bool gb) ∧ W.cell? ⟨w3.heap.size, 1, none⟩ = some (.slice Ab nb cb) ∧ W.cell? ⟨w3.heap.size, 2, none⟩ = some (.slice Db mb db)) ∧ (W.cell? ⟨w5.heap.size, 0, none⟩ = some (.bool g4) ∧ W.cell? ⟨w5.heap.size, 1, none⟩ = some (.slice A4 n4 c4) ∧ W.cell? ⟨w5.heap.size, 2, none⟩ = some (.slice D4 m4 d4)))
          (refine ⟨⟨?_, ?_, ?_⟩, ?_, ?_, ?_⟩ <;> repeat' (first | with_reducible assumption | with_reducible refine cell_dr ?_))
          (first
            | (go_at_call 42; refine (CP.out v1 X1.out A1 na1 c1 D1 m1 d1 R1.out).mono ?_; rintro e v2 ⟨rfl, b⟩; have e0_2 := cell_bx e0_1 b; have e1_2 := cell_bx e1_1 b; have e2_2 := cell_bx e2_1 b; have k0_2 := cell_bx k0_1 b; have k1_2 := cell_bx k1_1 b; have k2_2 := cell_bx k2_1 b; have X2 := hid (bx_call X1.out b); clear b)
            | (go_at_call 62; refine (NG.out _ (bx_drew (bx_refl _))).mono ?_; rintro e v1 ⟨A1, na1, c1, D1, m1, d1, rfl, r, b⟩; have e0_1 := cell_bx (cell_dr e0) b; have e1_1 := cell_bx (cell_dr e1) b; have e2_1 := cell_bx (cell_dr e2) b; have k0_1 := cell_bx (cell_dr k0) b; have k1_1 := cell_bx (cell_dr k1) b; have k2_1 := cell_bx (cell_dr k2) b; have R1 := hid r; have X1 := hid (bx_call (bx_drew (bx_refl _)) b); clear b r))
        have B9 := hid (bx_call BW.out X2.out)
        clear NG CP
        go_wp2_with fail
        go_ret
        exact (show RetB w r (.returned (.bool (decide (0 < s)))) v2 from ⟨by rw [er2.out], B9.out⟩)
set_option maxHeartbeats 4000000 in
theorem d_infeasible (p : PD) (A : Option Addr) (n c k : Nat) (qs : Nat → Rat) (w : World) (h : Pg w p) (hQ : Qs w A n c k qs) (hk : k ≤ 100) :
    Calls Tryz.prog 11 #[.agg #[.slice p.V0 p.vn p.vc, .slice p.R0 p.rn p.rc], .slice A n c] w (RetB w (p.infB (pt n qs))) := by
  obtain ⟨W0, hW⟩ : ∃ W, W = w.alloc (.cells #[.slice p.V0 p.vn p.vc, .slice p.R0 p.rn p.rc] 25) := ⟨_, rfl⟩
  have B0 := bx_alloc (bx_refl w) (.cells #[.slice p.V0 p.vn p.vc, .slice p.R0 p.rn p.rc] 25)
  have K0 := Blk.new w [.slice p.V0 p.vn p.vc, .slice p.R0 p.rn p.rc] 25
  change Blk (w.alloc (.cells #[.slice p.V0 p.vn p.vc, .slice p.R0 p.rn p.rc] 25)) _ _ _ at K0
  rw [← hW] at B0 K0
  have VA := hid (d_valid p W0 (h.keep B0))
  have SG := hid (fun (W : World) (b : Below w.heap.size w W) => d_signed p A n c k qs W (h.keep b) (hQ.keep b) hk)
  have EM := hid (fun (W : World) (b : Below w.heap.size w W) => d_empty p.V0 p.vn p.vc p.lo p.up p.op p.it p.co W (h.keep b).vs)
  have EX := hid (fun (W : World) (b : Below w.heap.size w W) => d_excludes p A n c k qs W (h.keep b) (hQ.keep b) hk)
  obtain ⟨r, hr⟩ : ∃ r, r = p.infB (pt n qs) := ⟨_, rfl⟩
  rw [← hr]
  obtain ⟨b1, hb1⟩ : ∃ b, b = p.okB := ⟨_, rfl⟩
  obtain ⟨b2, hb2⟩ : ∃ b, b = sgdB p.rn p.ki (pt n qs) := ⟨_, rfl⟩
  obtain ⟨b3, hb3⟩ : ∃ b, b = empB p.vn p.lo p.up p.op := ⟨_, rfl⟩
  obtain ⟨b4, hb4⟩ : ∃ b, b = p.excB (pt n qs) := ⟨_, rfl⟩
  have er := hid (show r = ((b1 && b2) && (b3 || b4)) by rw [hr, hb1, hb2, hb3, hb4]; rfl)
  rw [← hb1] at VA
  rw [← hb2] at SG
  rw [← hb3] at EM
  rw [← hb4] at EX
  obtain ⟨V0, vn, vc, lo, up, op, it, co, R0, rn, rc, nm, gr, ki, bo, TA, tn, tc, v, cf⟩ := p
  dsimp only at VA SG EM EX hW K0 B0 ⊢
  have BB := hid B0
  have KK := hid K0
  obtain ⟨z0, z1⟩ := blk_two K0
  clear h hQ B0 K0 hr hb1 hb2 hb3 hb4
  go_enter Tryz.func11, Tryz.ntmps11
  go_upto_region 1 with fail
  rw [← hW]
  clear hW
  go_wp2_with fail
  refine (VA.out).mono ?_
  rintro e w1 ⟨rfl, b⟩
  have B1 := hid (bx_call BB.out b)
  have K1 := hid (KK.out.keep b)
  have S1 := hid (SG.out w1 B1.out)
  clear VA SG b BB KK z0 z1
  obtain ⟨z0, z1⟩ := blk_two K1.out
  cases b1
  · have HH := hid (show r = false by rw [er.out]; rfl)
    clear S1 EM EX K1 er
    go_wp2_with fail
    go_ret
    exact vld_no HH.out B1.out
  go_wp2_with fail
  refine (S1.out).mono ?_
  rintro e w2 ⟨rfl, b⟩
  have B2 := hid (bx_call B1.out b)
  have K2 := hid (K1.out.keep b)
  have E2 := hid (EM.out w2 B2.out)
  clear S1 EM b B1 K1 z0 z1
  obtain ⟨z0, z1⟩ := blk_two K2.out
  cases b2
  · have HH := hid (show r = false by rw [er.out]; rfl)
    clear E2 EX K2 er
    go_wp2_with fail
    go_ret
    exact vld_no HH.out B2.out
  go_wp2_with fail
  refine (E2.out).mono ?_
  rintro e w3 ⟨rfl, b⟩
  have B3 := hid (bx_call B2.out b)
  have K3 := hid (K2.out.keep b)
  have X3 := hid (EX.out w3 B3.out)
  clear E2 EX b B2 K2 z0 z1
  obtain ⟨z0, z1⟩ := blk_two K3.out
  cases b3
  · have er4 := hid (show r = b4 by rw [er.out]; rfl)
    go_wp2_with fail
    refine (X3.out).mono ?_
    rintro e w4 ⟨rfl, b⟩
    have B4 := hid (bx_call B3.out b)
    clear X3 b B3 K3 er
    go_wp2_with fail
    go_ret
    exact (show RetB w r (.returned (.bool b4)) w4 from ⟨by rw [er4.out], B4.out⟩)
  · have HH := hid (show r = true by rw [er.out]; rfl)
    clear X3 K3 er
    go_wp2_with fail
    go_ret
    exact vld_yes HH.out B3.out
def PD.optB (p : PD) (x y : Nat → Rat) : Bool := (p.okB && p.feaB x) && (p.bndB y && decide (sgnQ (p.bndV y - p.costV x) = 0))
set_option maxHeartbeats 4000000 in
theorem d_optimal (p : PD) (A : Option Addr) (n c k : Nat) (qs : Nat → Rat) (A' : Option Addr) (n' c' k' : Nat) (qs' : Nat → Rat) (w : World) (h : Pg w p) (hQ : Qs w A n c k qs) (hk : k ≤ 100) (hQ' : Qs w A' n' c' k' qs') (hk' : k' ≤ 100) :
    Calls Tryz.prog 19 #[.agg #[.slice p.V0 p.vn p.vc, .slice p.R0 p.rn p.rc], .slice A n c, .slice A' n' c'] w (RetB w (p.optB (pt n qs) (pt n' qs'))) := by
  obtain ⟨W0, hW⟩ : ∃ W, W = w.alloc (.cells #[.slice p.V0 p.vn p.vc, .slice p.R0 p.rn p.rc] 25) := ⟨_, rfl⟩
  have B0 := bx_alloc (bx_refl w) (.cells #[.slice p.V0 p.vn p.vc, .slice p.R0 p.rn p.rc] 25)
  have K0 := Blk.new w [.slice p.V0 p.vn p.vc, .slice p.R0 p.rn p.rc] 25
  change Blk (w.alloc (.cells #[.slice p.V0 p.vn p.vc, .slice p.R0 p.rn p.rc] 25)) _ _ _ at K0
  rw [← hW] at B0 K0
  have VA := hid (d_valid p W0 (h.keep B0))
  have FE := hid (fun (W : World) (b : Below w.heap.size w W) => d_feasible p A n c k qs W (h.keep b) (hQ.keep b) hk)
  have BO := hid (fun (W : World) (b : Below w.heap.size w W) => d_bound p A' n' c' k' qs' W (h.keep b) (hQ'.keep b) hk')
  have CO := hid (fun (W : World) (b : Below w.heap.size w W) => d_cost p A n c k qs W (h.keep b) (hQ.keep b) hk)
  obtain ⟨r, hr⟩ : ∃ r, r = p.optB (pt n qs) (pt n' qs') := ⟨_, rfl⟩
  rw [← hr]
  obtain ⟨b1, hb1⟩ : ∃ b, b = p.okB := ⟨_, rfl⟩
  obtain ⟨b2, hb2⟩ : ∃ b, b = p.feaB (pt n qs) := ⟨_, rfl⟩
  obtain ⟨b3, hb3⟩ : ∃ b, b = p.bndB (pt n' qs') := ⟨_, rfl⟩
  obtain ⟨V, hV⟩ : ∃ b, b = p.bndV (pt n' qs') := ⟨_, rfl⟩
  obtain ⟨C, hC⟩ : ∃ b, b = p.costV (pt n qs) := ⟨_, rfl⟩
  have er := hid (show r = ((b1 && b2) && (b3 && decide (sgnQ (V - C) = 0))) by rw [hr, hb1, hb2, hb3, hV, hC]; rfl)
  rw [← hb1] at VA
  rw [← hb2] at FE
  rw [← hb3, ← hV] at BO
  rw [← hC] at CO
  obtain ⟨V0, vn, vc, lo, up, op, it, co, R0, rn, rc, nm, gr, ki, bo, TA, tn, tc, v, cf⟩ := p
  dsimp only at VA FE BO CO hW K0 B0 ⊢
  have BB := hid B0
  have KK := hid K0
  obtain ⟨z0, z1⟩ := blk_two K0
  clear h hQ hQ' B0 K0 hr hb1 hb2 hb3 hV hC
  go_enter Tryz.func19, Tryz.ntmps19
  go_upto_region 1 with fail
  rw [← hW]
  clear hW
  go_wp2_with fail
  refine (VA.out).mono ?_
  rintro e w1 ⟨rfl, b⟩
  have B1 := hid (bx_call BB.out b)
  have K1 := hid (KK.out.keep b)
  have S1 := hid (FE.out w1 B1.out)
  clear VA FE b BB KK z0 z1
  obtain ⟨z0, z1⟩ := blk_two K1.out
  cases b1
  · have HH := hid (show r = false by rw [er.out]; rfl)
    clear S1 BO CO K1 er
    go_wp2_with fail
    go_ret
    exact vld_no HH.out B1.out
  go_wp2_with fail
  refine (S1.out).mono ?_
  rintro e w2 ⟨rfl, b⟩
  have B2 := hid (bx_call B1.out b)
  have K2 := hid (K1.out.keep b)
  have E2 := hid (BO.out w2 B2.out)
  clear S1 BO b B1 K1 z0 z1
  obtain ⟨z0, z1⟩ := blk_two K2.out
  cases b2
  · have HH := hid (show r = false by rw [er.out]; rfl)
    clear E2 CO K2 er
    go_wp2_with fail
    go_ret
    exact vld_no HH.out B2.out
  go_wp2_with fail
  refine (E2.out).mono ?_
  rintro e w3 ⟨g3, A3, n3, c3, D3, m3, d3, rfl, r3, b⟩
  have B4 := bx_alloc (bx_refl w3) (.cells #[.bool g3, .slice A3 n3 c3, .slice D3 m3 d3] 31)
  have K4 := Blk.new w3 [.bool g3, .slice A3 n3 c3, .slice D3 m3 d3] 31
  obtain ⟨W4, hW4⟩ : ∃ W, W = w3.alloc (.cells #[.bool g3, .slice A3 n3 c3, .slice D3 m3 d3] 31) := ⟨_, rfl⟩
  change Blk (w3.alloc (.cells #[.bool g3, .slice A3 n3 c3, .slice D3 m3 d3] 31)) _ _ _ at K4
  rw [← hW4] at B4 K4
  have BW := hid (bx_call (bx_call B2.out b) B4)
  have P4 := hid ((K2.out.keep b).keep B4)
  have R4 := hid (r3.keep B4)
  obtain ⟨e0, e1, e2⟩ := blk_three K4
  obtain ⟨p0, p1⟩ := blk_two P4.out
  clear E2 b B2 K2 z0 z1 r3 B4 K4
  cases b3
  · have HH := hid (show r = false by rw [er.out]; rfl)
    have QQ := hid (fun nq : Nat => vld_no HH.out (bx_drewN BW.out nq))
    clear CO er P4 R4
    go_upto_region 4 with fail
    rw [← hW4]
    clear hW4 HH
    go_quiet (fail)
    go_wp2_with fail
    go_ret
    exact QQ.out _
  · have er2 := hid (show r = decide (sgnQ (V - C) = 0) by rw [er.out]; rfl)
    have CC := hid (fun (W : World) (b : Below W4.heap.size W4 W) => CO.out W (bx_call BW.out b))
    have CP := hid (fun (W : World) (b : Below W4.heap.size W4 W) (g1 : Bool) (A1 : Option Addr) (n1 c1 : Nat) (D1 : Option Addr) (m1 d1 : Nat) (M : FrV W g1 A1 n1 c1 D1 m1 d1 10301 C) => vcmp g3 A3 n3 c3 D3 m3 d3 g1 A1 n1 c1 D1 m1 d1 112000000 V C W (R4.out.keep b) (M.up (by omega)) (by omega))
    obtain ⟨s, hs⟩ : ∃ s, s = sgnQ (V - C) := ⟨_, rfl⟩
    rw [← hs] at CP er2
    clear CO er R4 hs
    go_upto_region 4 with fail
    rw [← hW4]
    clear hW4
    go_region_held3 (fun W => (W.cell? ⟨w3.heap.size, 0, none⟩ = some (.bool g3) ∧ W.cell? ⟨w3.heap.size, 1, none⟩ = some (.slice A3 n3 c3) ∧ W.cell? ⟨w3.heap.size, 2, none⟩ = some (.slice D3 m3 d3)) ∧ W.cell? ⟨w.heap.size, 0, none⟩ = some (.slice V0 vn vc) ∧ W.cell? ⟨w.heap.size, 1, none⟩ = some (.slice R0 rn rc))
      (refine ⟨⟨?_, ?_, ?_⟩, ?_, ?_⟩ <;> repeat' (first | with_reducible assumption | with_reducible refine cell_dr ?_))
      (first
        | (go_at_call 42; refine (CP.out v1 X1.out g1 A1 na1 c1 D1 m1 d1 R1.out).mono ?_; rintro e v2 ⟨rfl, b⟩; have e0_2 := cell_bx e0_1 b; have e1_2 := cell_bx e1_1 b; have e2_2 := cell_bx e2_1 b; have p0_2 := cell_bx p0_1 b; have p1_2 := cell_bx p1_1 b; have X2 := hid (bx_call X1.out b); clear b)
        | (go_at_call 43; refine (CC.out _ (bx_drew (bx_refl _))).mono ?_; rintro e v1 ⟨g1, A1, na1, c1, D1, m1, d1, rfl, r, b⟩; have e0_1 := cell_bx (cell_dr e0) b; have e1_1 := cell_bx (cell_dr e1) b; have e2_1 := cell_bx (cell_dr e2) b; have p0_1 := cell_bx (cell_dr p0) b; have p1_1 := cell_bx (cell_dr p1) b; have R1 := hid r; have X1 := hid (bx_call (bx_drew (bx_refl _)) b); clear b r))
    have B9 := hid (bx_call BW.out X2.out)
    clear CC CP
    have er3 := hid (show r = (s == 0) by rw [er2.out]; rfl)
    clear er2
    go_wp2_with fail
    go_ret
    exact (show RetB w r (.returned (.bool (s == 0))) v2 from ⟨by rw [er3.out], B9.out⟩)
end Go.Proofs.YthbogaindaflpaaGreat
