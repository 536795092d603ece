/- DuaA: Dua1, Dua2, Dua3, Dua4, Dua5 in one text. -/
import Derived.Test.YthbogaindaflpaaGreatDoorLinC
import Derived.Test.YthbogaindaflpaaGreatDoorLinB
import Derived.Deep.DeepCutAuto
import Derived.BigQuiet
import Derived.Deep.DeepMust

namespace Go.Proofs.YthbogaindaflpaaGreatDoor
open Go.RowKit

/-- A program's data, as they lie in memory. -/
structure PD where
  V0 : Option Addr
  vn : Nat
  vc : Nat
  lo : Nat → Int
  up : Nat → Int
  op : Nat → Bool
  it : Nat → Bool
  co : Nat → Int
  R0 : Option Addr
  rn : Nat
  rc : Nat
  nm : Nat → ByteArray
  gr : Nat → Int
  ki : Nat → Int
  bo : Nat → Int
  TA : Nat → Option Addr
  tn : Nat → Nat
  tc : Nat → Nat
  v : Nat → Nat → Int
  cf : Nat → Nat → Int
/-- The program lies in memory, and is of moderate size. -/
structure Pg (w : World) (p : PD) : Prop where
  vs : Vs w p.V0 p.vn p.vc p.lo p.up p.op p.it p.co
  rs : Rs w p.R0 p.rn p.rc p.nm p.gr p.ki p.bo p.TA p.tn p.tc p.v p.cf
  nms : ∀ j, j < p.rn → (p.nm j).size ≤ 9223372036854775807
  vl : p.vn ≤ 100
  rl : p.rn ≤ 100
  tl : ∀ i, i < p.rn → p.tn i ≤ 100
theorem Pg.keep {w w' : World} {p : PD} (h : Pg w p) (b : Below w.heap.size w w') : Pg w' p := ⟨h.vs.keep b, h.rs.keep b, h.nms, h.vl, h.rl, h.tl⟩
def PD.okB (p : PD) : Bool := vldB p.vn p.rn p.lo p.up p.op p.co p.nm p.gr p.ki p.bo p.tn p.v p.cf
/-- A point is within the bounds. -/
def PD.inB (p : PD) (x : Nat → Rat) : Bool := insB p.vn p.lo p.up p.op x
/-- A row holds at a point. -/
def PD.rowB (p : PD) (x : Nat → Rat) (i : Nat) : Bool := holdB (p.ki i) (p.bo i) (rowV p.vn (p.tn i) (p.v i) (p.cf i) x)
/-- A point is feasible. -/
def PD.feaB (p : PD) (x : Nat → Rat) : Bool := p.inB x && decide (∀ i, i < p.rn → p.rowB x i = true)
def PD.costV (p : PD) (x : Nat → Rat) : Rat := sumN (fun j => (p.co j : Rat) * x j) p.vn
/-- What a list of fractions stands for. -/
def pt (n : Nat) (qs : Nat → Rat) (i : Nat) : Rat := atQ n qs (i : Int)
section
variable (p : PD) (A : Option Addr) (n c k : Nat) (qs : Nat → Rat) (w : World)
theorem d_valid (h : Pg w p) : Calls Tryz.prog 12 #[.agg #[.slice p.V0 p.vn p.vc, .slice p.R0 p.rn p.rc]] w (RetB w p.okB) :=
  vvalidp p.V0 p.vn p.vc p.R0 p.rn p.rc p.lo p.up p.op p.it p.co p.nm p.gr p.ki p.bo p.TA p.tn p.tc p.v p.cf w h.vs h.rs h.nms
theorem d_signed (h : Pg w p) (hQ : Qs w A n c k qs) (hk : k ≤ 100) : Calls Tryz.prog 34 #[.agg #[.slice p.V0 p.vn p.vc, .slice p.R0 p.rn p.rc], .slice A n c] w (RetB w (sgdB p.rn p.ki (pt n qs))) :=
  vsigned p.V0 p.vn p.vc p.R0 p.rn p.rc p.nm p.gr p.ki p.bo p.TA p.tn p.tc p.v p.cf A n c k qs w h.rs hQ (by omega)
theorem mul_le {a b c d : Nat} (h1 : a ≤ b) (h2 : c ≤ d) : a * c ≤ b * d := Nat.mul_le_mul h1 h2
theorem d_combine (h : Pg w p) (hQ : Qs w A n c k qs) (hk : k ≤ 100) : Calls Tryz.prog 30 #[.agg #[.slice p.V0 p.vn p.vc, .slice p.R0 p.rn p.rc], .slice A n c] w (RetCm w p.vn 1100000 (cmbA p.rn p.tn p.v p.cf (pt n qs)) (cmbB p.rn p.bo (pt n qs))) := by
  have h1 := h.vl
  have h2 := h.rl
  have h3 : (p.rn * 100 + p.rn) * (k + 3) ≤ (100 * 100 + 100) * 103 := mul_le (by omega) (by omega)
  exact vcombine p.V0 p.vn p.vc p.R0 p.rn p.rc p.nm p.gr p.ki p.bo p.TA p.tn p.tc p.v p.cf A n c k qs w (by omega) h.rs 100 h.tl (by omega) (by omega) hQ 1100000 (by omega) (by omega)
theorem d_violated (h : Pg w p) (hQ : Qs w A n c k qs) (hk : k ≤ 100) : Calls Tryz.prog 24 #[.agg #[.slice p.V0 p.vn p.vc, .slice p.R0 p.rn p.rc], .slice A n c] w (RetL w (vio (p.rowB (pt n qs)) p.rn)) := by
  have h1 := h.vl
  have h2 := h.rl
  exact vviolated p.V0 p.vn p.vc p.R0 p.rn p.rc p.nm p.gr p.ki p.bo p.TA p.tn p.tc p.v p.cf A n c k qs w (by omega) h.rs 100 h.tl (by omega) hQ (by omega)
theorem d_inside (h : Pg w p) (hQ : Qs w A n c k qs) (hk : k ≤ 100) : Calls Tryz.prog 26 #[.agg #[.slice p.V0 p.vn p.vc, .slice p.R0 p.rn p.rc], .slice A n c] w (RetB w (p.inB (pt n qs))) := by
  have := vinside p.V0 p.vn p.vc p.R0 p.rn p.rc p.lo p.up p.op p.it p.co A n c k qs w h.vs hQ (by omega)
  rw [insB_congr (q := pt n qs) (fun j hj => atQ_min p.vn n qs hj)] at this
  exact this
theorem d_cost (h : Pg w p) (hQ : Qs w A n c k qs) (hk : k ≤ 100) : Calls Tryz.prog 21 #[.agg #[.slice p.V0 p.vn p.vc, .slice p.R0 p.rn p.rc], .slice A n c] w (RetV w (p.costV (pt n qs)) 10301) := by
  have h1 := h.vl
  have h3 : p.vn * (k + 3) ≤ 100 * 103 := mul_le (by omega) (by omega)
  have := vcost p.V0 p.vn p.vc p.R0 p.rn p.rc p.lo p.up p.op p.it p.co A n c k qs w h.vs hQ (by omega) (by omega)
  exact this.mono fun _ _ r => by
    obtain ⟨g, A, n, c, D, m, d, e1, e2, e3⟩ := r
    exact ⟨g, A, n, c, D, m, d, e1, e2.up (by omega), e3⟩
theorem d_least (h : Pg w p) (hQ : Qs w A n c k qs) (hk : k ≤ 1100003) : Calls Tryz.prog 32 #[.agg #[.slice p.V0 p.vn p.vc, .slice p.R0 p.rn p.rc], .slice A n c] w (RetVB w (lstV p.vn p.lo p.up p.op (pt n qs)) 110000601 (lstB p.vn p.lo p.up p.op (pt n qs))) := by
  have h1 := h.vl
  have h3 : p.vn * (k + 3) ≤ 100 * 1100006 := mul_le (by omega) (by omega)
  have := vleast p.V0 p.vn p.vc p.R0 p.rn p.rc p.lo p.up p.op p.it p.co A n c k qs w h.vs hQ (by omega) (by omega)
  rw [lstV_congr (q := pt n qs) (fun j hj => atQ_min p.vn n qs hj), lstB_congr (q := pt n qs) (fun j hj => atQ_min p.vn n qs hj)] at this
  exact this.mono fun _ _ r => by
    obtain ⟨g, A, n, c, D, m, d, e1, e2, e3⟩ := r
    exact ⟨g, A, n, c, D, m, d, e1, e2.up (by omega), e3⟩
end

theorem vio_dec {h : Nat → Bool} {n : Nat} : decide (vio h n = []) = decide (∀ i, i < n → h i = true) := decide_eq_decide.2 vio_nil
end Go.Proofs.YthbogaindaflpaaGreatDoor

namespace Go.Proofs.YthbogaindaflpaaGreatDoor
open Go.RowKit

/-- A fraction elsewhere stays while one of the block's is written. -/
theorem QB.other {w : World} {b n k : Nat} {qs : Nat → Rat} (h : QB w b n k qs) {i j l : Nat} (u v x : Value) {g1 : Bool} {A1 : Option Addr} {n1 c1 : Nat} {D1 : Option Addr} {m1 d1 k1 : Nat} {q1 : Rat} (f : FrV w g1 A1 n1 c1 D1 m1 d1 k1 q1) : FrV (((w.setCell ⟨b, i, none⟩ u).setCell ⟨b, j, none⟩ v).setCell ⟨b, l, none⟩ x) g1 A1 n1 c1 D1 m1 d1 k1 q1 := by
  obtain ⟨cs, hB, hl, hc⟩ := h
  have hp : ∀ i, i < n → ∃ (g : Bool) (A : Option Addr) (n' c : Nat) (D : Option Addr) (m d : Nat), cs[i * 3]? = some (.bool g) ∧ cs[i * 3 + 1]? = some (.slice A n' c) ∧ cs[i * 3 + 2]? = some (.slice D m d) := fun i hi => by
    obtain ⟨g, A, n', c, D, m, d, h0, h1, h2, _⟩ := hc i hi
    exact ⟨g, A, n', c, D, m, d, h0, h1, h2⟩
  have far : ∀ {B : Option Addr} {y z : Nat} {zs : List Nat}, Rd w B y z zs → Rd (((w.setCell ⟨b, i, none⟩ u).setCell ⟨b, j, none⟩ v).setCell ⟨b, l, none⟩ x) B y z zs := fun {B y z zs} r => by
    obtain ⟨r1, r2, r3, r4, r5⟩ := r
    refine ⟨r1, r2, r3, r4, fun hn => ?_⟩
    obtain ⟨e, o, hA, hlt, hcc⟩ := r5 hn
    have hne : e ≠ b := by
      rintro rfl
      have h6 := hcc 0 hn
      rw [Blk.cell hB (o + 0)] at h6
      exact qb_plain hl hp _ _ h6
    refine ⟨e, o, hA, by rw [World.size_setCell, World.size_setCell, World.size_setCell]; exact hlt, fun t ht => ?_⟩
    rw [← hcc t ht]
    exact ((World.cell?_of_block (Below.heap_setCell _ ⟨b, l, none⟩ _ e hne)).trans (World.cell?_of_block (Below.heap_setCell _ ⟨b, j, none⟩ _ e hne))).trans (World.cell?_of_block (Below.heap_setCell w ⟨b, i, none⟩ _ e hne))
  obtain ⟨xs, ds, f1, f2, f3, f4, f5, f6⟩ := f
  exact ⟨xs, ds, far f1, f2, far f3, f4, f5, f6⟩
theorem lq_fit {w : World} {g : Bool} {A : Option Addr} {n c : Nat} {D : Option Addr} {m d k : Nat} {q : Rat} (h : FrV w g A n c D m d k q) : LQ k q := h.lq
/-- The reduced cost of a variable. -/
def PD.redV (p : PD) (y : Nat → Rat) (j : Nat) : Rat := (p.co j : Rat) - cmbA p.rn p.tn p.v p.cf y j
/-- Multipliers prove a bound. -/
def PD.bndB (p : PD) (y : Nat → Rat) : Bool := (p.okB && sgdB p.rn p.ki y) && lstB p.vn p.lo p.up p.op (p.redV y)
def PD.bndV (p : PD) (y : Nat → Rat) : Rat := if p.bndB y = true then cmbB p.rn p.bo y + lstV p.vn p.lo p.up p.op (p.redV y) else 0
/-- What the loop over the variables has made so far: coefficients and the bound of the combination stay in boxes. -/
structure BoP (w : World) (cs : List Value) (rb bb Cb vn : Nat) (g : Bool) (A : Option Addr) (n c : Nat) (D : Option Addr) (m d : Nat) (b : Rat) (f : Nat → Rat) (W : World) : Prop where
  bel : Below w.heap.size w W
  box : Blk W w.heap.size cs 25
  res : Blk W rb [.bool false, .slice none 0 0, .slice none 0 0] 41
  bnd : Blk W bb [.bool g, .slice A n c, .slice D m d] 41
  fr : FrV W g A n c D m d 1100000 b
  qb : QB W Cb vn 1100003 f
section
variable {w W W' : World} {cs : List Value} {rb bb Cb vn : Nat} {g : Bool} {A : Option Addr} {n c : Nat} {D : Option Addr} {m d : Nat} {b : Rat} {f : Nat → Rat}
theorem BoP.keep (h : BoP w cs rb bb Cb vn g A n c D m d b f W) (hb : Below W.heap.size W W') : BoP w cs rb bb Cb vn g A n c D m d b f W' := ⟨bx_call h.bel hb, h.box.keep hb, h.res.keep hb, h.bnd.keep hb, h.fr.keep hb, h.qb.keep hb⟩
theorem BoP.store (h : BoP w cs rb bb Cb vn g A n c D m d b f W) (h1 : w.heap.size < Cb) (h2 : rb ≠ Cb) (h3 : bb ≠ Cb) {i : Nat} (hi : i < vn) {g1 : Bool} {A1 : Option Addr} {n1 c1 : Nat} {D1 : Option Addr} {m1 d1 : Nat} {q : Rat} (r : FrV W g1 A1 n1 c1 D1 m1 d1 1100003 q) :
    BoP w cs rb bb Cb vn g A n c D m d b (fun j => if j = i then q else f j) (((W.setCell ⟨Cb, i * 3, none⟩ (.bool g1)).setCell ⟨Cb, i * 3 + 1, none⟩ (.slice A1 n1 c1)).setCell ⟨Cb, i * 3 + 2, none⟩ (.slice D1 m1 d1)) :=
  ⟨bx_set (bx_set (bx_set h.bel (by omega)) (by omega)) (by omega), ((h.box.far (by omega) _).far (by omega) _).far (by omega) _, ((h.res.far h2 _).far h2 _).far h2 _, ((h.bnd.far h3 _).far h3 _).far h3 _, h.qb.other _ _ _ h.fr, h.qb.set hi r⟩
theorem BoP.congr (h : BoP w cs rb bb Cb vn g A n c D m d b f W) {f' : Nat → Rat} (e : ∀ j, j < vn → f j = f' j) : BoP w cs rb bb Cb vn g A n c D m d b f' W := ⟨h.bel, h.box, h.res, h.bnd, h.fr, h.qb.congr e⟩
end

/-- The call returns a valid fraction and a bool. -/
def RetLB (w : World) (q : Rat) (k : Nat) (b : Bool) (e : Ending) (w' : World) : Prop := ∃ A n c D m d, e = .returned (.tuple #[.agg #[.bool (sg q.num), .slice A n c, .slice D m d], .bool b]) ∧ FrL w' A n c D m d k q ∧ Below w.heap.size w w'
theorem RetLB.v {w w' : World} {q : Rat} {k : Nat} {b : Bool} {e : Ending} (h : RetLB w q k b e w') : RetVB w q k b e w' := by
  obtain ⟨A, n, c, D, m, d, h1, h2, h3⟩ := h
  exact ⟨_, A, n, c, D, m, d, h1, h2.v, h3⟩
theorem retlb_end {w w2 : World} {q : Rat} {A A0 D D0 : Option Addr} {n c n0 c0 m d m0 d0 g k : Nat} {b0 b : Bool} (h : FrL w2 A n c D m d k q) (K : Blk w2 g [.bool b0, .slice A0 n0 c0, .slice D0 m0 d0] 41) (hb : Below w.heap.size w w2) (hg : w.heap.size ≤ g) :
    RetLB w q k b (.returned (.tuple #[.agg #[.bool (sg q.num), .slice A n c, .slice D m d], .bool b])) (((w2.setCell ⟨g, 0, none⟩ (.bool (sg q.num))).setCell ⟨g, 1, none⟩ (.slice A n c)).setCell ⟨g, 2, none⟩ (.slice D m d)) :=
  ⟨A, n, c, D, m, d, rfl, ⟨rd_cell_far3 h.1 K _ _ _, h.2.1, rd_cell_far3 h.2.2.1 K _ _ _, h.2.2.2⟩, bx_set (bx_set (bx_set hb hg) hg) hg⟩
theorem retlb_zero {w w2 : World} {A0 D0 : Option Addr} {n0 c0 m0 d0 g k : Nat} {b0 b : Bool} (hk : 1 ≤ k) (K : Blk w2 g [.bool b0, .slice A0 n0 c0, .slice D0 m0 d0] 41) (hb : Below w.heap.size w w2) (hg : w.heap.size ≤ g) :
    RetLB w 0 k b (.returned (.tuple #[.agg #[.bool false, .slice none 0 0, .slice none 0 0], .bool b])) (((w2.setCell ⟨g, 0, none⟩ (.bool false)).setCell ⟨g, 1, none⟩ (.slice none 0 0)).setCell ⟨g, 2, none⟩ (.slice none 0 0)) := retlb_end (frl_zero w2 hk) K hb hg
theorem retlb_as {w w' : World} {q q' : Rat} {k : Nat} {b b' : Bool} {e : Ending} (h : RetLB w q k b e w') (hq : q' = q) (hb : b' = b) : RetLB w q' k b' e w' := by subst hq; subst hb; exact h
end Go.Proofs.YthbogaindaflpaaGreatDoor

namespace Go.Proofs.YthbogaindaflpaaGreatDoor
open Go.RowKit

/-- The negated coefficient of a variable. -/
def PD.negV (p : PD) (y : Nat → Rat) (j : Nat) : Rat := -cmbA p.rn p.tn p.v p.cf y j
/-- The combination is beyond every point within the bounds. -/
def PD.excB (p : PD) (y : Nat → Rat) : Bool := lstB p.vn p.lo p.up p.op (p.negV y) && decide (0 < sgnQ (lstV p.vn p.lo p.up p.op (p.negV y) - -cmbB p.rn p.bo y))
/-- Multipliers prove infeasibility. -/
def PD.infB (p : PD) (y : Nat → Rat) : Bool := (p.okB && sgdB p.rn p.ki y) && (empB p.vn p.lo p.up p.op || p.excB y)
structure ExP (w : World) (cs : List Value) (bb Cb vn : Nat) (g : Bool) (A : Option Addr) (n c : Nat) (D : Option Addr) (m d : Nat) (b : Rat) (f : Nat → Rat) (W : World) : Prop where
  bel : Below w.heap.size w W
  box : Blk W w.heap.size cs 25
  bnd : Blk W bb [.bool g, .slice A n c, .slice D m d] 41
  fr : FrV W g A n c D m d 1100000 b
  qb : QB W Cb vn 1100000 f
section
variable {w W W' : World} {cs : List Value} {bb Cb vn : Nat} {g : Bool} {A : Option Addr} {n c : Nat} {D : Option Addr} {m d : Nat} {b : Rat} {f : Nat → Rat}
theorem ExP.keep (h : ExP w cs bb Cb vn g A n c D m d b f W) (hb : Below W.heap.size W W') : ExP w cs bb Cb vn g A n c D m d b f W' := ⟨bx_call h.bel hb, h.box.keep hb, h.bnd.keep hb, h.fr.keep hb, h.qb.keep hb⟩
theorem ExP.store (h : ExP w cs bb Cb vn g A n c D m d b f W) (h1 : w.heap.size < Cb) (h3 : bb ≠ Cb) {i : Nat} (hi : i < vn) {g1 : Bool} {A1 : Option Addr} {n1 c1 : Nat} {D1 : Option Addr} {m1 d1 : Nat} {q : Rat} (r : FrV W g1 A1 n1 c1 D1 m1 d1 1100000 q) :
    ExP w cs bb Cb vn g A n c D m d b (fun j => if j = i then q else f j) (((W.setCell ⟨Cb, i * 3, none⟩ (.bool g1)).setCell ⟨Cb, i * 3 + 1, none⟩ (.slice A1 n1 c1)).setCell ⟨Cb, i * 3 + 2, none⟩ (.slice D1 m1 d1)) :=
  ⟨bx_set (bx_set (bx_set h.bel (by omega)) (by omega)) (by omega), ((h.box.far (by omega) _).far (by omega) _).far (by omega) _, ((h.bnd.far h3 _).far h3 _).far h3 _, h.qb.other _ _ _ h.fr, h.qb.set hi r⟩
theorem ExP.congr (h : ExP w cs bb Cb vn g A n c D m d b f W) {f' : Nat → Rat} (e : ∀ j, j < vn → f j = f' j) : ExP w cs bb Cb vn g A n c D m d b f' W := ⟨h.bel, h.box, h.bnd, h.fr, h.qb.congr e⟩
end

end Go.Proofs.YthbogaindaflpaaGreatDoor

namespace Go.Proofs.YthbogaindaflpaaGreatDoor
open Go.RowKit

theorem Tryz.infoVar : (Tryz.prog.info? 60).map (fun i => (i.zero, i.size, i.bytes)) = some (some (.agg #[.int .i64 0, .int .i64 0, .bool false, .bool false, .int .i64 0]), 5, 32) := by kernel_rfl
theorem Tryz.infoRow : (Tryz.prog.info? 77).map (fun i => (i.zero, i.size, i.bytes)) = some (some (.agg #[.string ⟨#[]⟩, .int .i64 0, .int .i64 0, .slice none 0 0, .int .i64 0]), 5, 64) := by kernel_rfl
/-- append of one struct of five cells. -/
theorem wpList_append_five {w : World} {ops : Array Oper} {rest : List Oper} {o : Oper} {a : Act} {Q : Exit → Act → World → Prop} (hgd : o.guard = none) (s x : Operand) (t e by_ : Nat) (z : Value) (hinfo : (Tryz.prog.info? e).map (fun i => (i.zero, i.size, i.bytes)) = some (some z, 5, by_)) (hzs : z.cells.size = 5) (hby : by_ ≤ 64) (hu : Tryz.prog.underlying t = some (.slice e)) (ho : o.op = .call { callee := .builtin .append, args := #[s, x], argTypes := #[t, t] })
    (base : Nat) (v : Value) (n : Nat) (xs news : List Value) (hs : a.eval s = v) (hown : w.ownsRow base e 5 v n xs) (g : Nat) (hx : a.eval x = .slice (some ⟨g, 0, none⟩) 1 1) (hg : Blk w g news e) (hn : news.length = 5) (h1 : ∀ u ∈ news, u.oneCell' = true) (hl : n ≤ 1000000) (hbase : base ≤ w.heap.size)
    (h : ∀ v' w', w'.ownsRow base e 5 v' (n + 1) (xs ++ news) → w.grownBy w' v.ownBlock → wpList Tryz.prog ops Q rest (a.put o.dst v') w') : wpList Tryz.prog ops Q (o :: rest) a w := by
  obtain ⟨i, hi, hzz⟩ := Option.map_eq_some_iff.1 hinfo
  simp only [Prod.mk.injEq] at hzz
  obtain ⟨hz, hsz, hb⟩ := hzz
  have hmul : (n + 1) * by_ ≤ 1000001 * 64 := Nat.mul_le_mul (by omega) hby
  exact wpList_append_own w hgd s x t ho base e i z 5 by_ hu hi hz hsz hb hzs (by decide) v n xs hs hown ⟨g, 0, none⟩ 1 1 news hx (by rw [hn]) (fun k u hk => by rw [addr_add, hg.cell]; exact hk) h1 (by unfold maxLen; omega) (by omega) hbase (fun v' w' h2 h3 _ => h v' w' h2 h3)
def dvar (op : Nat → Bool) (j : Nat) : List Value := [.int .i64 0, .int .i64 0, .bool (op j), .bool false, .int .i64 0]
def drow (ki : Nat → Int) (TA : Nat → Option Addr) (tn tc : Nat → Nat) (j : Nat) : List Value := [.string ⟨#[]⟩, .int .i64 0, .int .i64 (ki j), .slice (TA j) (tn j) (tc j), .int .i64 0]
theorem dvar_one (op : Nat → Bool) (j : Nat) : ∀ u ∈ dvar op j, u.oneCell' = true := by
  intro u hu
  simp only [dvar, List.mem_cons, List.not_mem_nil, or_false] at hu
  rcases hu with rfl | rfl | rfl | rfl | rfl <;> rfl
theorem drow_one (ki : Nat → Int) (TA : Nat → Option Addr) (tn tc : Nat → Nat) (j : Nat) : ∀ u ∈ drow ki TA tn tc j, u.oneCell' = true := by
  intro u hu
  simp only [drow, List.mem_cons, List.not_mem_nil, or_false] at hu
  rcases hu with rfl | rfl | rfl | rfl | rfl <;> rfl
def fives (f : Nat → List Value) : Nat → List Value
  | 0 => []
  | j + 1 => fives f j ++ f j
theorem fives_len {f : Nat → List Value} (h : ∀ j, (f j).length = 5) (n : Nat) : (fives f n).length = n * 5 := by
  induction n with
  | zero => rfl
  | succ n ih => show (fives f n ++ f n).length = _; rw [List.length_append, ih, h n]; omega
theorem fives_get {f : Nat → List Value} (h : ∀ j, (f j).length = 5) {n j i : Nat} (hj : j < n) (hi : i < 5) : (fives f n)[j * 5 + i]? = (f j)[i]? := by
  induction n with
  | zero => omega
  | succ n ih =>
    show (fives f n ++ f n)[j * 5 + i]? = _
    rcases Nat.lt_or_ge j n with h1 | h1
    · rw [List.getElem?_append_left (by rw [fives_len h]; omega)]
      exact ih h1
    · obtain rfl : j = n := by omega
      rw [List.getElem?_append_right (by rw [fives_len h]; omega), fives_len h, Nat.add_sub_cancel_left]
theorem own_fives {w : World} {base : Nat} {e : TypeId} {v : Value} {n : Nat} {f : Nat → List Value} (hf : ∀ j, (f j).length = 5) (h : w.ownsRow base e 5 v n (fives f n)) : ∃ A c, v = .slice A n c ∧ n ≤ c ∧ c ≤ 9223372036854775807 ∧ (0 < n → ∃ b o, A = some ⟨b, o, none⟩ ∧ b < w.heap.size ∧ base ≤ b ∧ ∀ j, j < n → ∀ i u, i < 5 → (f j)[i]? = some u → w.cell? ⟨b, o + j * 5 + i, none⟩ = some u) := by
  rcases h.2 with ⟨rfl, h0⟩ | ⟨g, cap, cur, rfl, hb, hg, hn, hc, hcs, hcur⟩
  · exact ⟨none, 0, by rw [h0], by omega, by omega, fun hk => absurd hk (by omega)⟩
  · refine ⟨some ⟨g, 0, none⟩, cap, rfl, hn, by unfold maxLen at hc; exact hc, fun _ => ⟨g, 0, rfl, (Array.getElem?_eq_some_iff.1 hg).1, hb, fun j hj i u hi hu => ?_⟩⟩
    have := h.cells (g := g) rfl (j * 5 + i) u (by rw [fives_get hf hj hi]; exact hu)
    rw [addr_add] at this
    rw [Nat.zero_add]; exact this
/-- The program whose feasible points are the directions. -/
def PD.dir (p : PD) (V : Option Addr) (vc : Nat) (R : Option Addr) (rc : Nat) : PD := { p with V0 := V, vc := vc, lo := fun _ => 0, up := fun _ => 0, it := fun _ => false, co := fun _ => 0, R0 := R, rc := rc, nm := fun _ => ⟨#[]⟩, gr := fun _ => 0, bo := fun _ => 0 }
def RetDi (w : World) (p : PD) (e : Ending) (w' : World) : Prop := ∃ V vc R rc, e = .returned (.agg #[.slice V p.vn vc, .slice R p.rn rc]) ∧ Pg w' (p.dir V vc R rc) ∧ Below w.heap.size w w'
/-- What the loop over the variables has made so far. -/
structure Di1 (w : World) (cs : List Value) (op : Nat → Bool) (j : Nat) (vv : Value) (W : World) : Prop where
  bel : Below w.heap.size w W
  box : Blk W w.heap.size cs 25
  res : Blk W (w.heap.size + 1) [.slice none 0 0, .slice none 0 0] 25
  new : Blk W (w.heap.size + 1 + 1) [vv, .slice none 0 0] 25
  own : W.ownsRow (w.heap.size + 3) 60 5 vv j (fives (dvar op) j)
theorem Di1.keep {w W W' : World} {cs : List Value} {op : Nat → Bool} {j : Nat} {vv : Value} (h : Di1 w cs op j vv W) (b : Below W.heap.size W W') : Di1 w cs op j vv W' := ⟨bx_call h.bel b, h.box.keep b, h.res.keep b, h.new.keep b, own_keep h.own b⟩
theorem grown_bel {w W W' : World} {v : Value} {B : Nat} (h : Below w.heap.size w W) (hB : w.heap.size ≤ B) (hlt : ∀ k, v.ownBlock = some k → B ≤ k ∧ k < W.heap.size) (hg : W.grownBy W' v.ownBlock) : Below w.heap.size w W' := by
  refine ⟨hg.os.trans h.os, hg.tape.trans h.tape, hg.output.trans h.output, Nat.le_trans h.size hg.size, fun k hk => ?_⟩
  rw [hg.block k (by have := h.size; omega) (fun e => by have := (hlt k e.symm).1; omega)]
  exact h.block k hk
theorem grown_blk {W W' : World} {v : Value} {B b t : Nat} {cs : List Value} (h : Blk W b cs t) (hb : b < B) (hlt : ∀ k, v.ownBlock = some k → B ≤ k ∧ k < W.heap.size) (hg : W.grownBy W' v.ownBlock) : Blk W' b cs t :=
  (hg.block b h.lt (fun e => by have := (hlt b e.symm).1; omega)).trans h
theorem Di1.next {w W W' : World} {cs : List Value} {op : Nat → Bool} {j : Nat} {vv v' : Value} (h : Di1 w cs op j vv W) (ho : W'.ownsRow (w.heap.size + 3) 60 5 v' (j + 1) (fives (dvar op) j ++ dvar op j)) (hg : W.grownBy W' vv.ownBlock) :
    Di1 w cs op (j + 1) v' (W'.setCell ⟨w.heap.size + 1 + 1, 0, none⟩ v') ∧ W'.cell? ⟨w.heap.size + 1 + 1, 0, none⟩ = some vv ∧ W'.frozen? ⟨w.heap.size + 1 + 1, 0, none⟩ = false := by
  have hlt := h.own.lt
  have k1 := grown_blk h.new (by omega : w.heap.size + 1 + 1 < w.heap.size + 3) hlt hg
  exact ⟨⟨bx_set (grown_bel h.bel (by omega) hlt hg) (by omega), (grown_blk h.box (by omega : w.heap.size < w.heap.size + 3) hlt hg).far (by omega) _, (grown_blk h.res (by omega : w.heap.size + 1 < w.heap.size + 3) hlt hg).far (by omega) _, k1.set_ 0 v', ownsRow_far ho (by show w.heap.size + 1 + 1 < w.heap.size + 3; omega) v'⟩, Blk.cell k1 0, k1.free 0⟩
/-- What the loop over the rows has made so far. -/
structure Di2 (w : World) (cs : List Value) (op : Nat → Bool) (vn : Nat) (ki : Nat → Int) (TA : Nat → Option Addr) (tn tc : Nat → Nat) (B j : Nat) (vv uu : Value) (W : World) : Prop where
  bel : Below w.heap.size w W
  box : Blk W w.heap.size cs 25
  res : Blk W (w.heap.size + 1) [.slice none 0 0, .slice none 0 0] 25
  new : Blk W (w.heap.size + 1 + 1) [vv, uu] 25
  own : W.ownsRow (w.heap.size + 3) 60 5 vv vn (fives (dvar op) vn)
  lt : ∀ k, vv.ownBlock = some k → k < B
  le : w.heap.size + 3 ≤ B
  ow2 : W.ownsRow B 77 5 uu j (fives (drow ki TA tn tc) j)
  sz : B ≤ W.heap.size
theorem Di2.keep {w W W' : World} {cs : List Value} {op : Nat → Bool} {vn : Nat} {ki : Nat → Int} {TA : Nat → Option Addr} {tn tc : Nat → Nat} {B j : Nat} {vv uu : Value} (h : Di2 w cs op vn ki TA tn tc B j vv uu W) (b : Below W.heap.size W W') : Di2 w cs op vn ki TA tn tc B j vv uu W' := ⟨bx_call h.bel b, h.box.keep b, h.res.keep b, h.new.keep b, own_keep h.own b, h.lt, h.le, own_keep h.ow2 b, Nat.le_trans h.sz b.size⟩
theorem Di2.next {w W W' : World} {cs : List Value} {op : Nat → Bool} {vn : Nat} {ki : Nat → Int} {TA : Nat → Option Addr} {tn tc : Nat → Nat} {B j : Nat} {vv uu v' : Value} (h : Di2 w cs op vn ki TA tn tc B j vv uu W) (ho : W'.ownsRow B 77 5 v' (j + 1) (fives (drow ki TA tn tc) j ++ drow ki TA tn tc j)) (hg : W.grownBy W' uu.ownBlock) :
    Di2 w cs op vn ki TA tn tc B (j + 1) vv v' (W'.setCell ⟨w.heap.size + 1 + 1, 1, none⟩ v') ∧ W'.cell? ⟨w.heap.size + 1 + 1, 1, none⟩ = some uu ∧ W'.frozen? ⟨w.heap.size + 1 + 1, 1, none⟩ = false := by
  have hlt := h.ow2.lt
  have hle := h.le
  have k1 := grown_blk h.new (by omega : w.heap.size + 1 + 1 < B) hlt hg
  have ko : W'.ownsRow (w.heap.size + 3) 60 5 vv vn (fives (dvar op) vn) := h.own.kept hg (by
    cases hv : vv.ownBlock with
    | none => exact .inl rfl
    | some k => exact .inr fun e => by have h1 := h.lt k hv; have h2 := (hlt k e.symm).1; omega)
  exact ⟨⟨bx_set (grown_bel h.bel (by omega) hlt hg) (by omega), (grown_blk h.box (by omega : w.heap.size < B) hlt hg).far (by omega) _, (grown_blk h.res (by omega : w.heap.size + 1 < B) hlt hg).far (by omega) _, k1.set_ 1 v', ownsRow_far ko (by show w.heap.size + 1 + 1 < w.heap.size + 3; omega) v', h.lt, h.le, ownsRow_far ho (by show w.heap.size + 1 + 1 < B; omega) v', by rw [World.size_setCell]; exact Nat.le_trans h.sz hg.size⟩, Blk.cell k1 1, k1.free 1⟩

end Go.Proofs.YthbogaindaflpaaGreatDoor

namespace Go.Proofs.YthbogaindaflpaaGreatDoor
open Go.RowKit

/-- A point and multipliers prove each other optimal. -/
def PD.optB (p : PD) (x y : Nat → Rat) : Bool := (p.okB && p.feaB x) && (p.bndB y && decide (sgnQ (p.bndV y - p.costV x) = 0))
/-- A direction in which one can go on for ever. -/
def PD.dirB (p : PD) (x : Nat → Rat) : Bool := (p.dir none 0 none 0).feaB x
/-- A point and a ray prove that the cost has no bound. -/
def PD.unbB (p : PD) (x ray : Nat → Rat) : Bool := (p.okB && p.feaB x) && (p.dirB ray && decide (sgnQ (p.costV ray) < 0))

end Go.Proofs.YthbogaindaflpaaGreatDoor
