/- Stl1: Sty, Stx, Stl in one text. -/
import Derived.Test.YthbogaindaflpaaGreatDmat
import Derived.Test.YthbogaindaflpaaGreatStr1
import Derived.Test.YthbogaindaflpaaGreatR5a
import Derived.Test.YthbogaindaflpaaGreatAwk6
import Derived.Deep.DeepCutAuto
import Derived.BigQuiet
namespace Go.Proofs.YthbogaindaflpaaGreat
open Go.RowKit
set_option maxRecDepth 100000
theorem sumN_more {f : Nat → Rat} {a b : Nat} (h : a ≤ b) (hz : ∀ j, a ≤ j → f j = 0) : sumN f b = sumN f a := by
  obtain ⟨k, rfl⟩ := Nat.exists_eq_add_of_le h
  have e : sumN (fun j => f (a + j)) k = 0 := by rw [sumN_congr (f := fun j => f (a + j)) (g := fun _ => 0) (fun j _ => hz _ (Nat.le_add_right a j)), sumN_zero]
  rw [sumN_split, e, Rat.add_zero]
theorem PD.stays {p q : PD} {y : Nat → Rat} (hrn : p.rn ≤ q.rn) (hvn : q.vn = p.vn) (hup : q.up = p.up) (hop : q.op = p.op) (hlo : ∀ j, j < p.vn → p.lo j ≤ q.lo j) (hz : ∀ i, p.rn ≤ i → y i = 0) (hrow : ∀ i, i < p.rn → y i ≠ 0 → q.ki i = p.ki i ∧ q.bo i = p.bo i ∧ q.tn i = p.tn i ∧ q.v i = p.v i ∧ q.cf i = p.cf i) (hok : q.okB = true) (h : p.infB y = true) : q.infB y = true := by
  unfold PD.infB at h ⊢
  rw [Bool.and_eq_true, Bool.and_eq_true, Bool.or_eq_true] at h
  obtain ⟨⟨_, h1⟩, h2⟩ := h
  have hA : ∀ j, cmbA q.rn q.tn q.v q.cf y j = cmbA p.rn p.tn p.v p.cf y j := fun j => by
    unfold cmbA
    rw [sumN_more hrn (fun i hi => by
      rw [sumN_congr (g := fun _ => 0) (fun t _ => by rw [hz i hi, Rat.mul_zero, ite_self]), sumN_zero])]
    refine sumN_congr fun i hi => ?_
    by_cases e : y i = 0
    · rw [e]
      simp only [Rat.mul_zero, ite_self, sumN_zero]
    · obtain ⟨_, _, e1, e2, e3⟩ := hrow i hi e
      rw [e1, e2, e3]
  have hB : cmbB q.rn q.bo y = cmbB p.rn p.bo y := by
    unfold cmbB
    rw [sumN_more hrn (fun i hi => by rw [hz i hi, Rat.mul_zero])]
    refine sumN_congr fun i hi => ?_
    by_cases e : y i = 0
    · rw [e, Rat.mul_zero, Rat.mul_zero]
    · rw [(hrow i hi e).2.1]
  have hN : q.negV y = p.negV y := by
    funext j
    unfold PD.negV
    rw [hA]
  have hS : sgdB q.rn q.ki y = true := by
    unfold sgdB at h1 ⊢
    refine decide_eq_true fun i hi => ?_
    by_cases e : y i = 0
    · unfold suits
      rw [e, show sgnQ 0 = 0 from sgnQ_zero.2 rfl]
      exact ⟨fun x => absurd x.2 (by decide), fun x => absurd x.2 (by decide)⟩
    · have hlt : i < p.rn := Nat.lt_of_not_le fun hle => e (hz i hle)
      rw [(hrow i hlt e).1]
      exact of_decide_eq_true h1 i hlt
  rw [hok, hS, Bool.true_and, Bool.true_and]
  cases hE : empB q.vn q.lo q.up q.op
  case true => rfl
  rw [Bool.false_or]
  have rq : ∀ j, j < q.vn → room (q.op j) (q.lo j) (q.up j) := by
    unfold empB at hE
    rw [Bool.not_eq_false'] at hE
    exact of_decide_eq_true hE
  have hp : empB p.vn p.lo p.up p.op = false := by
    unfold empB
    rw [Bool.not_eq_false']
    refine decide_eq_true fun j hj => ?_
    rcases rq j (by rw [hvn]; exact hj) with h | h
    · exact .inl (by rw [← hop]; exact h)
    · exact .inr (by rw [hup] at h; exact Int.le_trans (hlo j hj) h)
  have h3 : p.excB y = true := by
    rcases h2 with h2 | h2
    · rw [hp] at h2
      cases h2
    · exact h2
  unfold PD.excB at h3 ⊢
  rw [hN, hB]
  rw [Bool.and_eq_true] at h3 ⊢
  obtain ⟨h4, h5⟩ := h3
  have hl : lstB q.vn q.lo q.up q.op (p.negV y) = true := by
    have h4' := h4
    unfold lstB at h4' ⊢
    rw [hE, hvn, hop]
    rw [hp] at h4'
    exact h4'
  refine ⟨hl, decide_eq_true ?_⟩
  have h6 := sgnQ_pos'.1 (of_decide_eq_true h5)
  rw [sgnQ_pos']
  have h7 : lstV p.vn p.lo p.up p.op (p.negV y) ≤ lstV q.vn q.lo q.up q.op (p.negV y) := by
    unfold lstV
    rw [if_pos hl, if_pos h4, hvn]
    refine sumN_le fun j hj => ?_
    unfold endZ
    rw [hup]
    by_cases e : sgnQ (p.negV y j) < 0
    · rw [if_pos e, if_pos e]
      exact Rat.le_refl
    · rw [if_neg e, if_neg e]
      rw [sgnQ_neg'] at e
      have h8 : ((p.lo j : Int) : Rat) ≤ ((q.lo j : Int) : Rat) := Rat.intCast_le_intCast.2 (hlo j hj)
      exact Rat.mul_le_mul_of_nonneg_right h8 (Rat.not_lt.1 e)
  grind
structure RW where
  nm : ByteArray
  gr : Int
  ki : Int
  bo : Int
  TA : Option Addr
  tn : Nat
  tc : Nat
  v : Nat → Int
  cf : Nat → Int
def RW.cells (r : RW) : List Value := [.string r.nm, .int .i64 r.gr, .int .i64 r.ki, .slice r.TA r.tn r.tc, .int .i64 r.bo]
structure Rg (w : World) (r : RW) : Prop where
  ts : Ts w r.TA r.tn r.tc r.v r.cf
  ki : -9223372036854775808 ≤ r.ki ∧ r.ki ≤ 9223372036854775807
  bo : -9223372036854775808 ≤ r.bo ∧ r.bo ≤ 9223372036854775807
  gr : -9223372036854775808 ≤ r.gr ∧ r.gr ≤ 9223372036854775807
  nm : r.nm.size ≤ 9223372036854775807
theorem Rg.keep {w w' : World} {r : RW} (h : Rg w r) (b : Below w.heap.size w w') : Rg w' r := ⟨h.ts.keep b, h.ki, h.bo, h.gr, h.nm⟩
def PD.mix (p : PD) (r : RW) (c : Nat → Bool) (lo : Nat → Int) (V0 : Option Addr) (vc : Nat) (R0 : Option Addr) (rc : Nat) : PD :=
  { p with V0 := V0, vc := vc, lo := lo, R0 := R0, rn := p.rn + 1, rc := rc, nm := fun i => if c i = true then r.nm else p.nm i, gr := fun i => if c i = true then r.gr else p.gr i, ki := fun i => if c i = true then r.ki else p.ki i, bo := fun i => if c i = true then r.bo else p.bo i, TA := fun i => if c i = true then r.TA else p.TA i, tn := fun i => if c i = true then r.tn else p.tn i, tc := fun i => if c i = true then r.tc else p.tc i, v := fun i => if c i = true then r.v else p.v i, cf := fun i => if c i = true then r.cf else p.cf i }
def PD.mcell (p : PD) (r : RW) (c : Nat → Bool) : Nat → Value := rcell (fun i => if c i = true then r.nm else p.nm i) (fun i => if c i = true then r.gr else p.gr i) (fun i => if c i = true then r.ki else p.ki i) (fun i => if c i = true then r.bo else p.bo i) (fun i => if c i = true then r.TA else p.TA i) (fun i => if c i = true then r.tn else p.tn i) (fun i => if c i = true then r.tc else p.tc i)
theorem mcell_yes {p : PD} {r : RW} {c : Nat → Bool} {j : Nat} (h : c j = true) : p.mcell r c (j * 5) = .string r.nm ∧ p.mcell r c (j * 5 + 1) = .int .i64 r.gr ∧ p.mcell r c (j * 5 + 2) = .int .i64 r.ki ∧ p.mcell r c (j * 5 + 3) = .slice r.TA r.tn r.tc ∧ p.mcell r c (j * 5 + 4) = .int .i64 r.bo := by
  obtain ⟨e0, e1, e2, e3, e4⟩ := rcell_at (nm := fun i => if c i = true then r.nm else p.nm i) (gr := fun i => if c i = true then r.gr else p.gr i) (ki := fun i => if c i = true then r.ki else p.ki i) (bo := fun i => if c i = true then r.bo else p.bo i) (TA := fun i => if c i = true then r.TA else p.TA i) (tn := fun i => if c i = true then r.tn else p.tn i) (tc := fun i => if c i = true then r.tc else p.tc i) j
  rw [if_pos h] at e0 e1 e2 e4
  rw [if_pos h, if_pos h, if_pos h] at e3
  exact ⟨e0, e1, e2, e3, e4⟩
theorem mcell_same {p : PD} {r : RW} {c c' : Nat → Bool} {j : Nat} (h : c j = c' j) (k : Nat) (hk : k < 5) : p.mcell r c (j * 5 + k) = p.mcell r c' (j * 5 + k) := by
  have h0 := mod5 j k hk
  unfold PD.mcell rcell
  rw [h0.2]
  dsimp only
  rw [h]
theorem mcell_old {p : PD} {r : RW} {c : Nat → Bool} {j : Nat} (h : c j = false) (k : Nat) (hk : k < 5) : p.mcell r c (j * 5 + k) = rcell p.nm p.gr p.ki p.bo p.TA p.tn p.tc (j * 5 + k) := by
  have h0 := mod5 j k hk
  unfold PD.mcell rcell
  rw [h0.2]
  dsimp only
  rw [h]
  rfl
theorem mix_snoc (p : PD) (r : RW) (c : Nat → Bool) (h0 : ∀ i, i < p.rn → c i = false) (h1 : c p.rn = true) : cellsOf5 (rcell p.nm p.gr p.ki p.bo p.TA p.tn p.tc) p.rn ++ r.cells = cellsOf5 (p.mcell r c) (p.rn + 1) := by
  obtain ⟨e0, e1, e2, e3, e4⟩ := mcell_yes (p := p) (r := r) h1
  rw [cells5_snoc, e0, e1, e2, e3, e4]
  refine congrArg (· ++ r.cells) (cells5_congr fun i hi => ?_)
  obtain ⟨j, k, rfl, hk⟩ := place5 i
  exact (mcell_old (h0 j (by omega)) k hk).symm
theorem mix_set (p : PD) (r : RW) (c c' : Nat → Bool) (n k : Nat) (h1 : c' k = true) (h2 : ∀ j, j ≠ k → c' j = c j) :
    (((((cellsOf5 (p.mcell r c) n).set (k * 5) (.string r.nm)).set (k * 5 + 1) (.int .i64 r.gr)).set (k * 5 + 2) (.int .i64 r.ki)).set (k * 5 + 3) (.slice r.TA r.tn r.tc)).set (k * 5 + 4) (.int .i64 r.bo) = cellsOf5 (p.mcell r c') n := by
  obtain ⟨e0, e1, e2, e3, e4⟩ := mcell_yes (p := p) (r := r) h1
  simp only [cells5_set]
  refine cells5_congr fun i _ => ?_
  obtain ⟨j, e, rfl, he⟩ := place5 i
  by_cases hj : j = k
  · subst hj
    have : e = 0 ∨ e = 1 ∨ e = 2 ∨ e = 3 ∨ e = 4 := by omega
    rcases this with rfl | rfl | rfl | rfl | rfl
    · simp [e0]
    · simp [e1]
    · simp [e2]
    · simp [e3]
    · simp [e4]
  · rw [if_neg (by omega), if_neg (by omega), if_neg (by omega), if_neg (by omega), if_neg (by omega)]
    exact mcell_same (h2 j hj).symm e he
theorem lo_set (lo up : Nat → Int) (op it : Nat → Bool) (co : Nat → Int) (n k : Nat) (z : Int) : (cellsOf5 (vcell lo up op it co) n).set (k * 5) (.int .i64 z) = cellsOf5 (vcell (fun j => if j = k then z else lo j) up op it co) n := by
  rw [cells5_set]
  refine cells5_congr fun i _ => ?_
  obtain ⟨j, e, rfl, he⟩ := place5 i
  have h0 := mod5 j e he
  unfold vcell
  rw [h0.1, h0.2]
  by_cases hj : j = k
  · subst hj
    rcases Nat.eq_zero_or_pos e with rfl | hpos
    · simp
    · have e5 : ¬j * 5 + e = j * 5 := by omega
      have e6 : ¬e = 0 := by omega
      rw [if_neg e5, if_neg e6, if_neg e6]
  · have e5 : ¬j * 5 + e = k * 5 := by omega
    dsimp only
    rw [if_neg e5, if_neg hj]
theorem mix_ok {p : PD} {r : RW} {c : Nat → Bool} {lo : Nat → Int} {V0 : Option Addr} {vc : Nat} {R0 : Option Addr} {rc : Nat} (h : p.okB = true) (hr : rowB p.vn r.nm r.gr r.ki r.bo r.tn r.v r.cf = true) (hrn : p.rn ≤ 3999) (hc : ∀ i, p.rn ≤ i → c i = true) (hlo : ∀ j, j < p.vn → inR (lo j)) : (p.mix r c lo V0 vc R0 rc).okB = true := by
  unfold PD.okB vldB at h ⊢
  rw [Bool.and_eq_true, Bool.and_eq_true] at h ⊢
  obtain ⟨⟨h1, h2⟩, h3⟩ := h
  have h1 := of_decide_eq_true h1
  have h2 := of_decide_eq_true h2
  have h3 := of_decide_eq_true h3
  refine ⟨⟨decide_eq_true ⟨h1.1, show p.rn + 1 ≤ 4000 by omega⟩, decide_eq_true fun j hj => ⟨⟨hlo j hj, (h2 j hj).1.2⟩, (h2 j hj).2⟩⟩, decide_eq_true fun j hj => ?_⟩
  show rowB p.vn (if c j = true then r.nm else p.nm j) (if c j = true then r.gr else p.gr j) (if c j = true then r.ki else p.ki j) (if c j = true then r.bo else p.bo j) (if c j = true then r.tn else p.tn j) (if c j = true then r.v else p.v j) (if c j = true then r.cf else p.cf j) = true
  by_cases e : c j = true
  · rw [if_pos e, if_pos e, if_pos e, if_pos e, if_pos e, if_pos e, if_pos e]
    exact hr
  · rw [if_neg e, if_neg e, if_neg e, if_neg e, if_neg e, if_neg e, if_neg e]
    exact h3 j (Nat.lt_of_not_le fun hle => e (hc j hle))
theorem mix_stays {p : PD} {r : RW} {c : Nat → Bool} {lo : Nat → Int} {V0 : Option Addr} {vc : Nat} {R0 : Option Addr} {rc : Nat} {y : Nat → Rat} (h : p.infB y = true) (hr : rowB p.vn r.nm r.gr r.ki r.bo r.tn r.v r.cf = true) (hrn : p.rn ≤ 3999) (hc : ∀ i, p.rn ≤ i → c i = true) (hlo : ∀ j, j < p.vn → inR (lo j)) (hle : ∀ j, j < p.vn → p.lo j ≤ lo j) (hy : ∀ i, c i = true → y i = 0) : (p.mix r c lo V0 vc R0 rc).infB y = true := by
  have hok : p.okB = true := by
    unfold PD.infB at h
    rw [Bool.and_eq_true, Bool.and_eq_true] at h
    exact h.1.1
  refine PD.stays (p := p) (show p.rn ≤ p.rn + 1 by omega) rfl rfl rfl hle (fun i hi => hy i (hc i hi)) (fun i hi hne => ?_) (mix_ok hok hr hrn hc hlo) h
  have e : ¬c i = true := fun e => hne (hy i e)
  exact ⟨if_neg e, if_neg e, if_neg e, if_neg e, if_neg e⟩
theorem mix_pg {w W : World} {p : PD} {r : RW} {c : Nat → Bool} {lo : Nat → Int} {base : Nat} {A1 A2 : Option Addr} {c1 c2 : Nat} (hp : Pg w p) (hr : Rg w r) (b : Below w.heap.size w W) (hrn : p.rn ≤ 99) (htn : r.tn ≤ 100) (hc : ∀ i, p.rn ≤ i → c i = true) (hlo : ∀ j, j < p.vn → -9223372036854775808 ≤ lo j ∧ lo j ≤ 9223372036854775807)
    (oV : W.ownsRow base 50 5 (.slice A1 p.vn c1) p.vn (cellsOf5 (vcell lo p.up p.op p.it p.co) p.vn)) (oR : W.ownsRow base 43 5 (.slice A2 (p.rn + 1) c2) (p.rn + 1) (cellsOf5 (p.mcell r c) (p.rn + 1))) : Pg W (p.mix r c lo A1 c1 A2 c2) := by
  obtain ⟨A, d, e1, hV⟩ := own_vs oV (fun j hj => ⟨hlo j hj, (hp.vs.2.2.1 j hj).2⟩)
  simp only [Value.slice.injEq, true_and] at e1
  obtain ⟨rfl, rfl⟩ := e1
  have old : ∀ j, ¬c j = true → j < p.rn := fun j e => Nat.lt_of_not_le fun hle => e (hc j hle)
  obtain ⟨A, d, e1, hR⟩ := own_rs (v := fun i => if c i = true then r.v else p.v i) (cf := fun i => if c i = true then r.cf else p.cf i) oR (fun j hj => by
    by_cases e : c j = true
    · rw [if_pos e, if_pos e, if_pos e, if_pos e, if_pos e, if_pos e, if_pos e, if_pos e]
      exact ⟨hr.ki, hr.bo, hr.gr, hr.ts.keep b⟩
    · rw [if_neg e, if_neg e, if_neg e, if_neg e, if_neg e, if_neg e, if_neg e, if_neg e]
      obtain ⟨k1, k2, k3, k4⟩ := hp.rs.2.2.1 j (old j e)
      exact ⟨k1, k2, k3, k4.keep b⟩)
  simp only [Value.slice.injEq, true_and] at e1
  obtain ⟨rfl, rfl⟩ := e1
  refine ⟨hV, hR, fun j hj => ?_, hp.vl, show p.rn + 1 ≤ 100 by omega, fun j hj => ?_⟩
  · show (if c j = true then r.nm else p.nm j).size ≤ _
    by_cases e : c j = true
    · rw [if_pos e]
      exact hr.nm
    · rw [if_neg e]
      exact hp.nms j (old j e)
  · show (if c j = true then r.tn else p.tn j) ≤ _
    by_cases e : c j = true
    · rw [if_pos e]
      exact htn
    · rw [if_neg e]
      exact hp.tl j (old j e)
structure Kr (w : World) (V0 : Option Addr) (vn vc : Nat) (R0 : Option Addr) (rn rc : Nat) (cs : List Value) (W : World) : Prop where
  bel : Below w.heap.size w W
  box : Blk W w.heap.size [.slice V0 vn vc, .slice R0 rn rc] 25
  row : Blk W (w.heap.size + 1) cs 43
theorem Kr.keep {w : World} {V0 : Option Addr} {vn vc : Nat} {R0 : Option Addr} {rn rc : Nat} {cs : List Value} {W W' : World} (h : Kr w V0 vn vc R0 rn rc cs W) (b : Below W.heap.size W W') : Kr w V0 vn vc R0 rn rc cs W' := ⟨bx_call h.bel b, h.box.keep b, h.row.keep b⟩
theorem own_later {w w' : World} {base e n : Nat} {x : Value} {xs : List Value} (h : w.ownsRow base e 5 x n xs) (b : Below w.heap.size w w') : w'.ownsRow base e 5 x n xs := by
  refine ⟨h.1, h.2.imp id ?_⟩
  rintro ⟨g, cap, cur, e1, e2, e3, e4⟩
  exact ⟨g, cap, cur, e1, e2, (b.block g (Array.getElem?_eq_some_iff.1 e3).1).trans e3, e4⟩
structure LS (w0 : World) (vn rn g : Nat) (A1 : Option Addr) (c1 g2 c2 : Nat) (VC RL : List Value) (W : World) : Prop where
  bel : Below w0.heap.size w0 W
  box : Blk W g [.slice A1 vn c1, .slice (some ⟨g2, 0, none⟩) (rn + 1) c2] 25
  vs : W.ownsRow w0.heap.size 50 5 (.slice A1 vn c1) vn VC
  rs : W.ownsRow w0.heap.size 43 5 (.slice (some ⟨g2, 0, none⟩) (rn + 1) c2) (rn + 1) RL
section
variable {w0 : World} {vn rn g : Nat} {A1 : Option Addr} {c1 g2 c2 : Nat} {VC RL : List Value} {W W' : World}
theorem LS.keep (h : LS w0 vn rn g A1 c1 g2 c2 VC RL W) (b : Below W.heap.size W W') : LS w0 vn rn g A1 c1 g2 c2 VC RL W' := ⟨bx_call h.bel b, h.box.keep b, own_later h.vs b, own_later h.rs b⟩
theorem LS.set1 (h : LS w0 vn rn g A1 c1 g2 c2 VC RL W) (i : Nat) (u : Value) : LS w0 vn rn g A1 c1 g2 c2 VC (RL.set i u) (W.setCell ⟨g2, i, none⟩ u) := by
  have hne : g ≠ g2 := fun e => own_ne h.rs h.box (by decide) (by rw [e]; rfl)
  have hv : (Value.slice A1 vn c1).ownBlock ≠ some g2 := by
    rcases own_own h.vs h.rs (by decide) with e | e
    · rw [e]
      exact fun x => by cases x
    · exact e
  exact ⟨bx_set h.bel (h.rs.lt g2 rfl).1, h.box.far hne u, ownsRow_setCell_other h.vs hv u, (h.rs.stored i u).1⟩
theorem LS.put (h : LS w0 vn rn g A1 c1 g2 c2 VC RL W) (k : Nat) (u0 u1 u2 u3 u4 : Value) : LS w0 vn rn g A1 c1 g2 c2 VC (((((RL.set (k * 5) u0).set (k * 5 + 1) u1).set (k * 5 + 2) u2).set (k * 5 + 3) u3).set (k * 5 + 4) u4) (((((W.setCell ⟨g2, k * 5, none⟩ u0).setCell ⟨g2, k * 5 + 1, none⟩ u1).setCell ⟨g2, k * 5 + 2, none⟩ u2).setCell ⟨g2, k * 5 + 3, none⟩ u3).setCell ⟨g2, k * 5 + 4, none⟩ u4) :=
  ((((h.set1 _ u0).set1 _ u1).set1 _ u2).set1 _ u3).set1 _ u4
theorem LS.lo1 {g1 : Nat} (h : LS w0 vn rn g (some ⟨g1, 0, none⟩) c1 g2 c2 VC RL W) (i : Nat) (u : Value) : LS w0 vn rn g (some ⟨g1, 0, none⟩) c1 g2 c2 (VC.set i u) RL (W.setCell ⟨g1, i, none⟩ u) := by
  have hne : g ≠ g1 := fun e => own_ne h.vs h.box (by decide) (by rw [e]; rfl)
  have hv : (Value.slice (some ⟨g2, 0, none⟩) (rn + 1) c2).ownBlock ≠ some g1 := by
    rcases own_own h.rs h.vs (by decide) with e | e
    · cases e
    · exact e
  exact ⟨bx_set h.bel (h.vs.lt g1 rfl).1, h.box.far hne u, (h.vs.stored i u).1, ownsRow_setCell_other h.rs hv u⟩
theorem LS.frozen (h : LS w0 vn rn g A1 c1 g2 c2 VC RL W) (i : Nat) : W.frozen? ⟨g2, i, none⟩ = false := h.rs.frozenAt i
theorem LS.cell (h : LS w0 vn rn g A1 c1 g2 c2 VC RL W) (i : Nat) (hi : i < (rn + 1) * 5) : W.cell? ⟨g2, i, none⟩ = RL[i]? := h.rs.cellAt i hi
end
set_option maxHeartbeats 16000000 in
theorem dualityStays_any (p : PD) (Y : LD) (r : RW) (iN bN : Nat) (w : World) (h : Pw w p) (hy : Y.ok w) (hr : Rg w r) (hi : iN ≤ 255) (hb : bN ≤ 255) :
    Calls Tryz.prog 4 #[.agg #[.slice p.V0 p.vn p.vc, .slice p.R0 p.rn p.rc], .slice Y.A Y.n Y.c, .agg #[.string r.nm, .int .i64 r.gr, .int .i64 r.ki, .slice r.TA r.tn r.tc, .int .i64 r.bo], .int .u8 (iN : Int), .int .u8 (bN : Int)] w (RetB w true) := by
  have SM := hid (fun (W : World) (b : Nat) (B : Below w.heap.size w W) (K : Blk W b ([Y].map LD.v) 32) => l_smL p b [Y] 32 W (h.keep B) K (by show (1 : Nat) ≤ _; omega) (fun l hl => by
    simp only [List.mem_cons, List.not_mem_nil, or_false] at hl
    subst hl
    exact hy.keep B))
  have ss : smL p [Y] = true → fewP p.vn p.rn p.nm p.tn 6 8 = true ∧ Y.sm = true := fun e => by
    unfold smL at e
    rw [Bool.and_eq_true] at e
    exact ⟨e.2, of_decide_eq_true e.1 _ (by simp)⟩
  have sz : fewP p.vn p.rn p.nm p.tn 6 8 = true → p.vn ≤ 6 ∧ p.rn ≤ 8 := fun e => by
    unfold fewP at e
    rw [Bool.and_eq_true, Bool.and_eq_true] at e
    exact ⟨of_decide_eq_true e.2.1, of_decide_eq_true e.2.2⟩
  have VR := hid (fun (W : World) (B : Below w.heap.size w W) => rvalidrow r.nm r.gr r.ki r.bo r.TA r.tn r.tc p.vn r.v r.cf W (hr.keep B).ts hr.ki hr.bo hr.gr hr.nm (by have := h.vs.1; have := h.vs.2.1; omega))
  obtain ⟨br, hbr⟩ : ∃ b, b = rowB p.vn r.nm r.gr r.ki r.bo r.tn r.v r.cf := ⟨_, rfl⟩
  rw [← hbr] at VR
  have C1 := hid (fun (e : smL p [Y] = true) (W : World) (B : Below w.heap.size w W) => d_infeasible p Y.A Y.n Y.c 4 Y.qs W ((h.keep B).pg (ss e).1) ((hy.keep B).q (ss e).2) (by omega))
  obtain ⟨bi, hbi⟩ : ∃ b, b = p.infB (pt Y.n Y.qs) := ⟨_, rfl⟩
  rw [← hbi] at C1
  have CI := hid (fun (e : smL p [Y] = true) (t1 : br = true) (t2 : bi = true) (t3 : r.tn ≤ 6) (t4 : Y.n ≤ p.rn) (W : World) (B : Below w.heap.size w W) (base : Nat) (c : Nat → Bool) (lo : Nat → Int) (A1 A2 : Option Addr) (c1 c2 : Nat) (hc : ∀ i, p.rn ≤ i → c i = true) (hcy : ∀ i, i < p.rn → c i = true → pt Y.n Y.qs i = 0) (hlo : ∀ j, j < p.vn → inR (lo j)) (hle : ∀ j, j < p.vn → p.lo j ≤ lo j)
    (oV : W.ownsRow base 50 5 (.slice A1 p.vn c1) p.vn (cellsOf5 (vcell lo p.up p.op p.it p.co) p.vn)) (oR : W.ownsRow base 43 5 (.slice A2 (p.rn + 1) c2) (p.rn + 1) (cellsOf5 (p.mcell r c) (p.rn + 1))) =>
    (show Calls Tryz.prog 11 #[.agg #[.slice A1 p.vn c1, .slice A2 (p.rn + 1) c2], .slice Y.A Y.n Y.c] W (RetB W true) by
      have s8 := sz (ss e).1
      have P := mix_pg ((h.keep (bx_refl w)).pg (ss e).1) hr B (by omega) (by omega) hc (fun j hj => by have := hlo j hj; unfold inR at this; omega) oV oR
      have t := d_infeasible (p.mix r c lo A1 c1 A2 c2) Y.A Y.n Y.c 4 Y.qs W P ((hy.keep B).q (ss e).2) (by omega)
      rw [mix_stays (by rw [← hbi]; exact t2) (by rw [← hbr]; exact t1) (by omega) hc hlo hle (fun i hci => by
        rcases Nat.lt_or_ge i p.rn with hlt | hge
        · exact hcy i hlt hci
        · exact atQ_out (by omega))] at t
      exact t))
  have PL := hid (fun (t2 : bi = true) => (show ∀ j, j < p.vn → inR (p.lo j) from fun j hj => by
    rw [hbi] at t2
    unfold PD.infB at t2
    rw [Bool.and_eq_true, Bool.and_eq_true] at t2
    have t3 := t2.1.1
    unfold PD.okB vldB at t3
    rw [Bool.and_eq_true, Bool.and_eq_true] at t3
    exact (of_decide_eq_true t3.1.2 j hj).1.1))
  have CV := hid (fun (W : World) (B : Below w.heap.size w W) => vs_cells (h.keep B).vs)
  have CR := hid (fun (W : World) (B : Below w.heap.size w W) => rs_cells (h.keep B).rs)
  have AT := hid (fun (e : smL p [Y] = true) (W : World) (B : Below w.heap.size w W) (j : Nat) => (show Calls Tryz.prog 13 #[.slice Y.A Y.n Y.c, .int .i64 (j : Int)] W (RetV W (pt Y.n Y.qs j) 4) from qat Y.A Y.n Y.c 4 Y.qs (j : Int) W ((hy.keep B).q (ss e).2)))
  have SG := hid (fun (W : World) (q : Rat) (g1 : Bool) (A1 : Option Addr) (n1 c1 : Nat) (D1 : Option Addr) (m1 d1 : Nat) (L : FrV W g1 A1 n1 c1 D1 m1 d1 4 q) => vrsign g1 A1 n1 c1 D1 m1 d1 4 q W L (by omega))
  obtain ⟨MC, hMC⟩ : ∃ f, f = p.mcell r := ⟨_, rfl⟩
  have M0 := hid (fun (c : Nat → Bool) (h0 : ∀ i, i < p.rn → c i = false) (h1 : c p.rn = true) => mix_snoc p r c h0 h1)
  have M1 := hid (fun (c c' : Nat → Bool) (n k : Nat) (h1 : c' k = true) (h2 : ∀ j, j ≠ k → c' j = c j) => mix_set p r c c' n k h1 h2)
  have ML := hid (fun (c : Nat → Bool) (i : Nat) => (show ∃ u, p.mcell r c i = u from ⟨_, rfl⟩))
  rw [← hMC] at CI M0 M1 ML
  unfold RW.cells at M0
  obtain ⟨s, hs⟩ : ∃ s, s = smL p [Y] := ⟨_, rfl⟩
  have SZ := hid (fun (e : s = true) => sz (ss (by rw [← hs]; exact e)).1)
  rw [← hs] at SM C1 CI AT
  have hcc := hr.ts.1
  have hcd := hr.ts.2.1
  have hyc := hy.1
  have hyd := hy.2.1
  have hrc := h.rs.1
  have hrd := h.rs.2.1
  clear hy hr h ss sz hs hbr hbi hMC
  obtain ⟨V0, vn, vc, lo, up, op, it, co, R0, rn, rc, nm, gr, ki, bo, TA, tn, tc, v, cf⟩ := p
  obtain ⟨YA, Yn, Yc, YN, YM, ys⟩ := Y
  obtain ⟨nm0, gr0, ki0, bo0, TA0, tn0, tc0, v0, cf0⟩ := r
  dsimp only [List.map, LD.v, List.length] at SM VR C1 CI PL CV CR AT SZ M0 M1 hcc hcd hyc hyd hrc hrd ⊢
  obtain ⟨W0, hW⟩ : ∃ W, W = (w.alloc (.cells #[.slice V0 vn vc, .slice R0 rn rc] 25)).alloc (.cells #[.string nm0, .int .i64 gr0, .int .i64 ki0, .slice TA0 tn0 tc0, .int .i64 bo0] 43) := ⟨_, rfl⟩
  have B0 := bx_alloc (bx_alloc (bx_refl w) (.cells #[.slice V0 vn vc, .slice R0 rn rc] 25)) (.cells #[.string nm0, .int .i64 gr0, .int .i64 ki0, .slice TA0 tn0 tc0, .int .i64 bo0] 43)
  have K0 := (Blk.new w [.slice V0 vn vc, .slice R0 rn rc] 25).alloc (.cells #[.string nm0, .int .i64 gr0, .int .i64 ki0, .slice TA0 tn0 tc0, .int .i64 bo0] 43)
  have K1 := blk_new1 w (.cells #[.slice V0 vn vc, .slice R0 rn rc] 25) [.string nm0, .int .i64 gr0, .int .i64 ki0, .slice TA0 tn0 tc0, .int .i64 bo0] 43
  change Blk ((w.alloc (.cells #[.slice V0 vn vc, .slice R0 rn rc] 25)).alloc (.cells #[.string nm0, .int .i64 gr0, .int .i64 ki0, .slice TA0 tn0 tc0, .int .i64 bo0] 43)) _ _ _ at K0 K1
  rw [← hW] at B0 K0 K1
  have P0 := hid (show Kr w V0 vn vc R0 rn rc [.string nm0, .int .i64 gr0, .int .i64 ki0, .slice TA0 tn0 tc0, .int .i64 bo0] W0 from ⟨B0, K0, K1⟩)
  clear B0 K0 K1
  go_enter Tryz.func4, Tryz.ntmps4
  go_upto_region 1 with fail
  rw [← hW]
  clear hW
  go_wp2_with fail
  refine (awk6 W0).mono ?_
  rintro e W1 ⟨rfl, b⟩
  have P1 := hid (P0.out.keep b)
  clear P0 b
  obtain ⟨z0, z1⟩ := blk_two P1.out.box
  have ba := bx_alloc (bx_refl W1) (.cells #[.slice YA Yn Yc] 32)
  have kn := Blk.new W1 [.slice YA Yn Yc] 32
  change Below W1.heap.size W1 (W1.alloc (.cells #[.slice YA Yn Yc] 32)) at ba
  have SM2 := hid (SM.out _ _ (bx_call P1.out.bel ba) kn)
  have P2 := hid (P1.out.keep ba)
  clear kn ba SM P1
  go_wp2_with fail
  refine (SM2.out).mono ?_
  rintro e W2 ⟨rfl, b⟩
  have P3 := hid (P2.out.keep b)
  clear SM2 P2 b z0 z1
  obtain ⟨z0, z1⟩ := blk_two P3.out.box
  obtain ⟨y0, y1, y2, y3, y4⟩ := blk_five P3.out.row
  cases s
  case false =>
    clear VR C1 CI PL CV CR AT SG SZ
    go_wp2_with fail
    refine (awk6 W2).mono ?_
    rintro e W3 ⟨rfl, b⟩
    have P4 := hid (P3.out.keep b)
    clear P3 b z0 z1 y0 y1 y2 y3 y4
    go_wp2_with fail
    go_ret
    exact vld_yes rfl P4.out.bel
  by_cases h6 : 6 < tn0
  case pos =>
    have t1 : decide (6 < (tn0 : Int)) = true := decide_eq_true (by omega)
    clear VR C1 CI PL CV CR AT SG SZ
    go_wp2_with fail
    refine (awk6 W2).mono ?_
    rintro e W3 ⟨rfl, b⟩
    have P4 := hid (P3.out.keep b)
    clear P3 b z0 z1 y0 y1 y2 y3 y4
    go_wp2_with fail
    go_ret
    exact vld_yes rfl P4.out.bel
  have t1 : decide (6 < (tn0 : Int)) = false := decide_eq_false (by omega)
  go_wp2_with fail
  refine (VR.out _ P3.out.bel).mono ?_
  rintro e W3 ⟨rfl, b⟩
  have P4 := hid (P3.out.keep b)
  clear P3 b z0 z1 y0 y1 y2 y3 y4 VR t1
  obtain ⟨z0, z1⟩ := blk_two P4.out.box
  cases br
  case false =>
    clear C1 CI PL CV CR AT SG SZ
    go_wp2_with fail
    refine (awk6 W3).mono ?_
    rintro e W4 ⟨rfl, b⟩
    have P5 := hid (P4.out.keep b)
    clear P4 b z0 z1
    go_wp2_with fail
    go_ret
    exact vld_yes rfl P5.out.bel
  by_cases h7 : rn < Yn
  case pos =>
    have t1 : decide ((rn : Int) < (Yn : Int)) = true := decide_eq_true (by omega)
    clear C1 CI PL CV CR AT SG SZ
    go_wp2_with fail
    refine (awk6 W3).mono ?_
    rintro e W4 ⟨rfl, b⟩
    have P5 := hid (P4.out.keep b)
    clear P4 b z0 z1
    go_wp2_with fail
    go_ret
    exact vld_yes rfl P5.out.bel
  have t1 : decide ((rn : Int) < (Yn : Int)) = false := decide_eq_false (by omega)
  have D1 := hid (C1.out (by simp))
  clear C1
  go_wp2_with fail
  refine (D1.out _ P4.out.bel).mono ?_
  rintro e W4 ⟨rfl, b⟩
  have P5 := hid (P4.out.keep b)
  clear P4 b z0 z1 t1 D1
  cases bi
  case false =>
    clear CI PL CV CR AT SG SZ
    have HP := hid (vld_yes rfl P5.out.bel : RetB w true (.returned (.bool true)) _)
    clear P5
    go_wp2_with fail
    go_ret
    exact HP.out
  have I1 := hid (CI.out (by simp) (by simp) (by simp) (by omega) (by omega))
  have L1 := hid (PL.out (by simp))
  have A1' := hid (AT.out (by simp))
  obtain ⟨hv6, hr8⟩ := SZ.out (by simp)
  clear CI PL AT SZ
  go_upto_region 5 with fail
  (try simp only [List.append_eq, List.cons_append, List.nil_append])
  refine wp_region_noPanic ?_
  refine wp_region_held_drew (S := (fun W => (W.cell? ⟨w.heap.size, 0, none⟩ = some (.slice V0 vn vc) ∧ W.cell? ⟨w.heap.size, 1, none⟩ = some (.slice R0 rn rc)) ∧ (W.cell? ⟨w.heap.size + 1, 0, none⟩ = some (.string nm0) ∧ W.cell? ⟨w.heap.size + 1, 1, none⟩ = some (.int .i64 gr0) ∧ W.cell? ⟨w.heap.size + 1, 2, none⟩ = some (.int .i64 ki0) ∧ W.cell? ⟨w.heap.size + 1, 3, none⟩ = some (.slice TA0 tn0 tc0) ∧ W.cell? ⟨w.heap.size + 1, 4, none⟩ = some (.int .i64 bo0)))) (by kernel_rfl) ?_ (fun hH => ?_)
  exact And.intro (blk_two P5.out.box) (blk_five P5.out.row)
  have bd := bx_drew (bx_refl W4)
  obtain ⟨D0, hW0⟩ : ∃ W, W = W4.drew := ⟨_, rfl⟩
  rw [← hW0] at bd hH ⊢
  clear hW0
  have P6 := hid (P5.out.keep bd)
  clear bd P5
  refine tk 1 hH ?_
  (try simp only [Act.put, gy0, gy1, gy2])
  refine tk 2 hH ?_
  (try simp only [Act.put, gy0, gy1, gy2])
  refine tk 5 hH ?_
  (try simp only [Act.put, gy0, gy1, gy2])
  refine tk 6 hH ?_
  (try simp only [Act.put, gy0, gy1, gy2])
  refine tk 8 hH ?_
  (try simp only [Act.put, gy0, gy1, gy2])
  clear hH
  refine act_letter (fun a0 ha0 => ?_)
  have hs : 62 ≤ a0.tmps.size := by rw [ha0]; simp
  have e52 : a0.eval (.tmp 52) = .slice V0 vn vc := by rw [ha0]; rfl
  have e56 : a0.eval (.tmp 56) = .slice R0 rn rc := by rw [ha0]; rfl
  have e58 : a0.eval (.tmp 58) = .agg #[.string nm0, .int .i64 gr0, .int .i64 ki0, .slice TA0 tn0 tc0, .int .i64 bo0] := by rw [ha0]; rfl
  refine made5 (w0 := D0) (VC := cellsOf5 (vcell lo up op it co) vn) (RC := cellsOf5 (rcell nm gr ki bo TA tn tc) rn) (vc := vc) (rc := rc) hs e52 e56 e58 ⟨cells5_len _ _, cells5_one _ _ vcell_one⟩ ⟨cells5_len _ _, cells5_one _ _ rcell_one⟩ (by simp [Value.oneCell']) (by omega) (by omega)
    (fun W B hn => by
      obtain ⟨b, o, e1, _, e2⟩ := CV.out W (bx_call P6.out.bel B) hn
      exact ⟨b, o, e1, e2⟩)
    (fun W B hn => by
      obtain ⟨b, o, e1, _, e2⟩ := CR.out W (bx_call P6.out.bel B) hn
      exact ⟨b, o, e1, e2⟩)
    (fun W B => And.intro (blk_two (P6.out.keep B).box) (blk_five (P6.out.keep B).row)) ?_ (by rfl)
    (by simp only [gx0, gx2]; rfl) (by simp only [gx0, gx1, gx2]; rfl) (by simp only [gx0, gx1, gx2]; rfl) (by simp only [gx0, gx1, gx2]; rfl) (by simp only [gx0, gx1, gx2]; rfl) (by simp only [gx0, gx1, gx2]; rfl) (by simp only [gx0, gx1, gx2]; rfl) (by simp only [gx0, gx1, gx2]; rfl) (by simp only [gx0, gx1, gx2]; rfl)
    (by rfl) (by rfl) (by rfl) (by rfl) (by rfl) (by rfl) (by rfl) (by rfl) (by rfl) (by rfl) (by rfl) (by rfl) (by rfl) (by rfl) (by rfl) (by rfl) (by rfl) (by rfl) (by rfl) (by rfl) (by rfl) (by rfl) (by rfl) (by rfl) (by rfl) (by rfl) (by rfl)
    (by kernel_rfl) (by kernel_rfl) (by kernel_rfl) (by kernel_rfl) (by kernel_rfl) (by kernel_rfl) (by kernel_rfl) (by kernel_rfl) (by kernel_rfl) (by kernel_rfl) (by decide +kernel)
  intro W5 x50 x53 x54 x57 x59 x60 x61 x11 MD
  refine NoPanic.normal ?_
  clear hs e52 e56 e58 CV CR
  subst ha0
  unfold act5
  (try simp only [gy0, gy1, gy2])
  obtain ⟨g, rfl, gb, gB⟩ := MD.at_
  have oV := MD.vs
  have oR := MD.rs
  have mb := MD.bel
  clear MD gb
  obtain ⟨A1, c1, rfl, _⟩ := own_form oV
  obtain ⟨A2, c2, rfl, _, _, hA2⟩ := own_form oR
  obtain ⟨g2, rfl, _, _, _⟩ := hA2 (by omega)
  clear hA2
  rw [M0.out (fun i => decide (rn ≤ i)) (fun i hi => decide_eq_false (by omega)) (decide_eq_true (Nat.le_refl _))] at oR
  have CALL := hid (I1.out W5 (bx_call P6.out.bel mb) D0.heap.size (fun i => decide (rn ≤ i)) lo A1 (some ⟨g2, 0, none⟩) c1 c2 (fun i hi => decide_eq_true hi) (fun i hi e => absurd (of_decide_eq_true e) (by omega)) L1.out (fun j _ => Int.le_refl _) oV oR)
  have S0 := hid (show LS D0 vn rn g A1 c1 g2 c2 (cellsOf5 (vcell lo up op it co) vn) (cellsOf5 (MC (fun i => decide (rn ≤ i))) (rn + 1)) W5 from ⟨mb, gB, oV, oR⟩)
  obtain ⟨z0, z1⟩ := blk_two S0.out.box
  clear M0 oV oR mb gB
  go_wp2_with fail
  refine (CALL.out).mono ?_
  rintro e W6 ⟨rfl, b⟩
  have S1 := hid (S0.out.keep b)
  clear CALL b z0 z1 S0
  obtain ⟨z0, z1⟩ := blk_two (P6.out.keep S1.out.bel).box
  obtain ⟨cj, hcj⟩ : ∃ f : Nat → Nat → Bool, f = fun j i => decide (rn ≤ i) || (decide (i < j) && decide (sgnQ (pt Yn ys i) = 0)) := ⟨_, rfl⟩
  have ST := hid (show LS D0 vn rn g A1 c1 g2 c2 (cellsOf5 (vcell lo up op it co) vn) (cellsOf5 (MC (cj 0)) (rn + 1)) W6 by
    have e : cj 0 = fun i => decide (rn ≤ i) := by
      rw [hcj]
      funext i
      simp
    rw [e]
    exact S1.out)
  have HCJ := hid hcj
  clear S1 hcj
  go_wp2_with fail
  clear z0 z1
  go_loopw [69] (fun i wr => ∃ j : Nat, j ≤ rn ∧ i = .int .i64 j ∧ Hid (LS D0 vn rn g A1 c1 g2 c2 (cellsOf5 (vcell lo up op it co) vn) (cellsOf5 (MC (cj j)) (rn + 1)) wr)) (fun i _ => rn - (intOf i).toNat)
  case atStart => exact ⟨0, Nat.zero_le _, rfl, ST⟩
  case round =>
    clear ST
    obtain ⟨j, hj, rfl, hz⟩ := hrel
    rcases Nat.lt_or_ge j rn with hlt | hge
    · have ATJ := hid (A1'.out wr (bx_call P6.out.bel hz.out.bel) j)
      obtain ⟨qj, hqj⟩ : ∃ q, q = pt Yn ys j := ⟨_, rfl⟩
      obtain ⟨sj, hsj⟩ : ∃ s, s = sgnQ qj := ⟨_, rfl⟩
      have SGJ := hid (fun W => SG.out W qj)
      have HJ := hid (show ∀ i, cj (j + 1) i = (cj j i || (decide (i = j) && decide (sj = 0))) from fun i => by
        rw [HCJ.out, hsj, hqj]
        dsimp only
        by_cases e : i = j
        · subst e
          rw [decide_eq_true (show i < i + 1 by omega), decide_eq_false (show ¬i < i by omega), decide_eq_true rfl]
          cases decide (rn ≤ i) <;> rfl
        · rw [decide_eq_false e, show decide (i < j + 1) = decide (i < j) from decide_eq_decide.2 (by omega)]
          cases decide (rn ≤ i) <;> simp)
      rw [← hqj] at ATJ
      rw [← hsj] at SGJ
      clear HCJ hqj hsj I1 L1
      go_wp2_with fail
      refine (ATJ.out).mono ?_
      rintro e w1 ⟨gq, Aq, nq, cq, Dq, mq, dq, rfl, fq, b1⟩
      have hz1 := hid (hz.out.keep b1)
      have FQ := hid fq
      clear ATJ hz b1 fq
      go_wp2_with fail
      refine (SGJ.out w1 gq Aq nq cq Dq mq dq FQ.out).mono ?_
      rintro e w2 ⟨rfl, b2⟩
      have hz2 := hid (hz1.out.keep b2)
      clear SGJ hz1 b2 FQ
      by_cases s0 : sj = 0
      · have NX := hid (show LS D0 vn rn g A1 c1 g2 c2 (cellsOf5 (vcell lo up op it co) vn) (cellsOf5 (MC (cj (j + 1))) (rn + 1)) _ by
          have t := hz2.out.put j (.string nm0) (.int .i64 gr0) (.int .i64 ki0) (.slice TA0 tn0 tc0) (.int .i64 bo0)
          rw [M1.out (cj j) (cj (j + 1)) (rn + 1) j (by rw [HJ.out, decide_eq_true rfl, decide_eq_true s0]; simp) (fun i hne => by rw [HJ.out, decide_eq_false hne]; simp)] at t
          exact t)
        obtain ⟨z0, z1⟩ := blk_two hz2.out.box
        obtain ⟨y0, y1, y2, y3, y4⟩ := blk_five (P6.out.keep hz2.out.bel).row
        have u0 := (hz2.out.cell (j * 5) (by omega)).trans (by rw [cells5_get, if_pos (by omega)])
        have u1 := (hz2.out.cell (j * 5 + 1) (by omega)).trans (by rw [cells5_get, if_pos (by omega)])
        have u2 := (hz2.out.cell (j * 5 + 2) (by omega)).trans (by rw [cells5_get, if_pos (by omega)])
        have u3 := (hz2.out.cell (j * 5 + 3) (by omega)).trans (by rw [cells5_get, if_pos (by omega)])
        have u4 := (hz2.out.cell (j * 5 + 4) (by omega)).trans (by rw [cells5_get, if_pos (by omega)])
        have f0 := hz2.out.frozen (j * 5)
        have f1 := hz2.out.frozen (j * 5 + 1)
        have f2 := hz2.out.frozen (j * 5 + 2)
        have f3 := hz2.out.frozen (j * 5 + 3)
        have f4 := hz2.out.frozen (j * 5 + 4)
        subst s0
        clear hz2 M1 HJ
        go_wp2_with fail
        go_roundw
        case rel => exact ⟨j + 1, by omega, by go_num, NX⟩
        case measure => simp [intOf]; omega
      · have NX := hid (show LS D0 vn rn g A1 c1 g2 c2 (cellsOf5 (vcell lo up op it co) vn) (cellsOf5 (MC (cj (j + 1))) (rn + 1)) w2 by
          have e : cj (j + 1) = cj j := funext fun i => by rw [HJ.out, decide_eq_false s0]; simp
          rw [e]
          exact hz2.out)
        have t1 : (sj == 0) = false := beq_eq_false_iff_ne.2 s0
        have t2 : decide (sj = 0) = false := decide_eq_false s0
        have X := hid s0
        clear hz2 M1 HJ s0
        go_wp2_with fail
        go_roundw
        case rel => exact ⟨j + 1, by omega, by go_num, NX⟩
        case measure => simp [intOf]; omega
    · obtain rfl : rn = j := by omega
      have S0 := hid hz.out
      clear hz M1 A1' SG hge hj
      have HC := hid (show ∀ i, rn ≤ i → cj rn i = true from fun i hi => by rw [HCJ.out]; simp [hi])
      have HY := hid (show ∀ i, i < rn → cj rn i = true → pt Yn ys i = 0 from fun i hi e => by
        rw [HCJ.out] at e
        dsimp only at e
        rw [decide_eq_false (show ¬rn ≤ i by omega), Bool.false_or, Bool.and_eq_true] at e
        exact sgnQ_zero.1 (of_decide_eq_true e.2))
      clear HCJ
      rcases Nat.eq_zero_or_pos vn with h0 | hpos
      · subst h0
        have CALL := hid (I1.out wr (bx_call P6.out.bel S0.out.bel) D0.heap.size (cj rn) lo A1 (some ⟨g2, 0, none⟩) c1 c2 HC.out HY.out L1.out (fun j _ => Int.le_refl _) S0.out.vs S0.out.rs)
        obtain ⟨z0, z1⟩ := blk_two S0.out.box
        clear I1 L1 HC HY
        go_wp2_with fail
        refine (CALL.out).mono ?_
        rintro e W7 ⟨rfl, b⟩
        have HP := hid (vld_yes rfl (bx_call (bx_call P6.out.bel S0.out.bel) b) : RetB w true (.returned (.bool true)) _)
        clear CALL b z0 z1 S0 P6
        go_wp2_with fail
        go_ret
        exact HP.out
      obtain ⟨Ax, cx, ex, _, _, hAx⟩ := own_form S0.out.vs
      simp only [Value.slice.injEq, true_and] at ex
      obtain ⟨rfl, rfl⟩ := ex
      obtain ⟨g1, rfl, _, _, hc1⟩ := hAx hpos
      clear hAx hc1
      have t1 : decide (0 < (vn : Int)) = true := decide_eq_true (by omega)
      have t2 : ((vn : Int) == 0) = false := beq_eq_false_iff_ne.2 (by omega)
      obtain ⟨z0, z1⟩ := blk_two S0.out.box
      go_upto_region 15 with fail
      clear z0 z1 t1
      have t3 : ¬vn = 0 := by omega
      obtain ⟨jj, hjj⟩ : ∃ j, j = iN % vn := ⟨_, rfl⟩
      have hj2 : jj < vn := by rw [hjj]; exact Nat.mod_lt _ hpos
      have wi : IntKind.i64.wrap (iN : Int) = iN := IntWalk.i64_in _ (by omega)
      have t4 : (iN : Int).tmod (vn : Int) = (jj : Int) := by rw [hjj]; rfl
      clear hjj
      (try simp only [List.append_eq, List.cons_append, List.nil_append])
      refine wp_region_noPanic ?_
      refine wp_region_held_drew (S := (fun W => W.cell? ⟨g, 0, none⟩ = some (.slice (some ⟨g1, 0, none⟩) vn c1) ∧ W.cell? ⟨g, 1, none⟩ = some (.slice (some ⟨g2, 0, none⟩) (rn + 1) c2))) (by kernel_rfl) ?_ (fun hH => ?_)
      exact (blk_two S0.out.box)
      have bd := bx_drew (bx_refl wr)
      obtain ⟨E0, hW0⟩ : ∃ W, W = wr.drew := ⟨_, rfl⟩
      rw [← hW0] at bd hH ⊢
      clear hW0
      have S1 := hid (S0.out.keep bd)
      clear bd S0
      refine tk 0 hH ?_
      (try simp only [Act.put, gy0, gy1, gy2])
      refine tk 1 hH ?_
      (try simp only [Act.put, gy0, gy1, gy2])
      refine tk 2 hH ?_
      (try simp only [Act.put, gy0, gy1, gy2])
      refine tk 3 hH ?_
      (try simp only [Act.put, gy0, gy1, gy2])
      refine tk 4 hH ?_
      (try simp only [Act.put, gy0, gy1, gy2])
      refine tk 5 hH ?_
      (try simp only [Act.put, gy0, gy1, gy2])
      refine tk 6 hH ?_
      (try simp only [Act.put, gy0, gy1, gy2])
      refine tk 7 hH ?_
      (try simp only [Act.put, gy0, gy1, gy2])
      refine tk 8 hH ?_
      (try simp only [Act.put, gy0, gy1, gy2])
      refine tk 9 hH ?_
      (try simp only [Act.put, gy0, gy1, gy2])
      refine wpAnyH_done (by kernel_rfl) ?_ _
      refine NoPanic.normal ?_
      clear hH
      have SS := hid S1.out
      clear S1 wi t4 t2 t3
      have u0 : E0.cell? ⟨g1, jj * 5, none⟩ = some (.int .i64 (lo jj)) := by
        rw [SS.out.vs.cellAt (jj * 5) (by omega), cells5_get, if_pos (by omega), (vcell_at jj).1]
      have hin := L1.out jj hj2
      unfold inR at hin
      by_cases hlow : lo jj < 1099511627476
      case neg =>
        have t1 : decide (lo jj < 1099511627476) = false := decide_eq_false hlow
        have CALL := hid (I1.out E0 (bx_call P6.out.bel SS.out.bel) D0.heap.size (cj rn) lo (some ⟨g1, 0, none⟩) (some ⟨g2, 0, none⟩) c1 c2 HC.out HY.out L1.out (fun j _ => Int.le_refl _) SS.out.vs SS.out.rs)
        obtain ⟨z0, z1⟩ := blk_two SS.out.box
        have X := hid hlow
        have X2 := hid hin
        clear I1 L1 HC HY hlow hin
        go_wp2_with fail
        refine (CALL.out).mono ?_
        rintro e W7 ⟨rfl, b⟩
        have HP := hid (vld_yes rfl (bx_call (bx_call P6.out.bel SS.out.bel) b) : RetB w true (.returned (.bool true)) _)
        clear CALL b z0 z1 SS P6 t1 u0
        go_wp2_with fail
        go_ret
        exact HP.out
      have t1 : decide (lo jj < 1099511627476) = true := decide_eq_true hlow
      have f0 := SS.out.vs.frozenAt (jj * 5)
      have wb : IntKind.i64.wrap (bN : Int) = bN := IntWalk.i64_in _ (by omega)
      obtain ⟨lj, hlj⟩ : ∃ x, x = lo jj := ⟨_, rfl⟩
      rw [← hlj] at u0 t1 hin hlow
      obtain ⟨z, hz9⟩ : ∃ z, z = lj + (bN : Int) := ⟨_, rfl⟩
      have wz : wrap64 (lj + (bN : Int)) = z := by rw [hz9]; simp only [wrap64]; omega
      have S2 := hid (show LS D0 vn rn g (some ⟨g1, 0, none⟩) c1 g2 c2 (cellsOf5 (vcell (fun j => if j = jj then z else lo j) up op it co) vn) (cellsOf5 (MC (cj rn)) (rn + 1)) (E0.setCell ⟨g1, jj * 5, none⟩ (.int .i64 z)) by
        rw [← lo_set]
        exact SS.out.lo1 (jj * 5) (.int .i64 z))
      have CALL := hid (I1.out _ (bx_call P6.out.bel S2.out.bel) D0.heap.size (cj rn) (fun j => if j = jj then z else lo j) (some ⟨g1, 0, none⟩) (some ⟨g2, 0, none⟩) c1 c2 HC.out HY.out (fun j hj => by
        by_cases e : j = jj
        · rw [if_pos e]
          unfold inR
          omega
        · rw [if_neg e]
          exact L1.out j hj) (fun j _ => by
        by_cases e : j = jj
        · rw [if_pos e, e, ← hlj]
          omega
        · rw [if_neg e]
          exact Int.le_refl _) S2.out.vs S2.out.rs)
      have X := hid hlow
      have X2 := hid hin
      have X3 := hid hlj
      have X4 := hid hz9
      obtain ⟨z0, z1⟩ := blk_two S2.out.box
      obtain ⟨W8, hW8⟩ : ∃ W, W = E0.setCell ⟨g1, jj * 5, none⟩ (.int .i64 z) := ⟨_, rfl⟩
      rw [← hW8] at CALL S2 z0 z1
      have SB := hid (fun (W : World) (b : Below W8.heap.size W8 W) => (vld_yes rfl (bx_call (bx_call P6.out.bel S2.out.bel) b) : RetB w true (.returned (.bool true)) W))
      clear I1 L1 HC HY hlow hin hlj hz9 SS S2 P6
      go_upto_region 18 with fail
      rw [← hW8]
      clear hW8 t1 f0 wb wz u0
      go_wp2_with fail
      refine (CALL.out).mono ?_
      rintro e W7 ⟨rfl, b⟩
      have HP := hid (SB.out _ b)
      clear CALL b z0 z1 SB
      go_wp2_with fail
      go_ret
      exact HP.out
end Go.Proofs.YthbogaindaflpaaGreat
