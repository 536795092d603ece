/- LinA: Lin1, Lin2, Lin3, Lin4, Lin5, Lin6, Lin7, Lin8, Lin9 in one text. -/
import Derived.Test.YtdbccidlnhjfhaaGreatDoorRatX
import Derived.Test.YtdbccidlnhjfhaaGreatDoorQsgn
import Derived.Deep.DeepCutAuto
namespace Go.Proofs.YtdbccidlnhjfhaaGreatDoor
open Go.RowKit
set_option maxRecDepth 100000
section
variable {P : Program} {md : Region.Mode} {ops : Array Oper} {Q : Exit → Act → World → Prop} {S : World → Prop}
theorem tk (i : Nat) {oi : Oper} {v : Value} {fuel : Nat} {listed : Array Bool} {a : Act} {w : World} (hS : S w) (h : wpAnyH P md ops Q S fuel (listed.setIfInBounds i true) (a.put oi.dst v) w)
    (hi : ops[i]? = some oi := by (simp only [gx0, gx1, gx2]; rfl)) (hs : Region.noSelect ops = true := by kernel_rfl) (hf : Region.free md ops listed i = true := by kernel_rfl) (hr : (Region.ready md ops listed).contains i = true := by kernel_rfl)
    (hQ : ∀ c a w, Q (.panic c) (a.put oi.dst v) w → Q (.panic c) a w := by exact fun _ _ _ h => h) (hw : Region.wanted oi (yielded ops a.tmps) = true := by rfl)
    (hy : ∀ w, S w → (execOp a.eval oi).run P w = .ok (.value v) w := by (intro w hSw; (try dsimp only at hSw); first | (go_simp; done) | (go_simp; with_reducible rfl) | (go_simp; decide))) : wpAnyH P md ops Q S (fuel + 1) listed a w := wpAnyH_take hi hs hf hr hQ (.inl ⟨hw, hy⟩) hS h
theorem rdy {fuel : Nat} {listed : Array Bool} {a : Act} {w : World} {i : Nat} {o : Oper} {rs : List Nat}
    (h : ∀ K' : Act → World → Prop, Shut (∀ a w, S w → (S w → wpAnyH P md ops Q S fuel (listed.setIfInBounds i true) a w) → K' a w) → if Region.wanted o (yielded ops a.tmps) = true then Oper.wp P o a w K' Q else K' (a.put o.dst undef) w)
    (hs : AllReadyH P md ops Q S fuel listed a w rs) (ho : ops[i]? = some o := by (simp only [gx0, gx1, gx2]; rfl)) : AllReadyH P md ops Q S fuel listed a w (i :: rs) := AllReadyH.cons ho h hs
end
def LQ (k : Nat) (q : Rat) : Prop := (dg q.num.natAbs).length ≤ k ∧ (dg q.den).length ≤ k
theorem dg_mul2 {x y a b : Nat} (hx : (dg x).length ≤ a) (hy : (dg y).length ≤ b) : (dg (x * y)).length ≤ a + b := by
  have h1 := dg_len_lt x
  have h2 := dg_len_lt y
  have h3 := Nat.lt_of_lt_of_le h1 (Nat.pow_le_pow_right (n := 4294967296) (by decide) hx)
  have h4 := Nat.lt_of_lt_of_le h2 (Nat.pow_le_pow_right (n := 4294967296) (by decide) hy)
  refine dg_len_le ?_
  rw [Nat.pow_add]
  exact Nat.mul_lt_mul'' h3 h4
theorem dg_add2 {x y k : Nat} (hx : (dg x).length ≤ k) (hy : (dg y).length ≤ k) : (dg (x + y)).length ≤ k + 1 := by
  have h1 := dg_len_lt x
  have h2 := dg_len_lt y
  have h3 := Nat.lt_of_lt_of_le h1 (Nat.pow_le_pow_right (n := 4294967296) (by decide) hx)
  have h4 := Nat.lt_of_lt_of_le h2 (Nat.pow_le_pow_right (n := 4294967296) (by decide) hy)
  refine dg_len_le ?_
  rw [Nat.pow_succ]
  omega
theorem LQ.up {a b : Nat} {q : Rat} (h : LQ a q) (hb : a ≤ b) : LQ b q := ⟨Nat.le_trans h.1 hb, Nat.le_trans h.2 hb⟩
theorem LQ.one {a : Nat} {q : Rat} (h : LQ a q) : 1 ≤ a := Nat.le_trans (dg_len_pos q.den_pos) h.2
theorem LQ_mk {x : Int} {y k : Nat} (hy : 0 < y) (h1 : (dg x.natAbs).length ≤ k) (h2 : (dg y).length ≤ k) : LQ k (mkRat x y) :=
  ⟨Nat.le_trans (dg_len_mono (num_mkRat_le x hy)) h1, Nat.le_trans (dg_len_mono (den_mkRat_le x hy)) h2⟩
theorem LQ_add {a b : Nat} {p q : Rat} (hp : LQ a p) (hq : LQ b q) : LQ (a + b + 1) (p + q) := by
  have e : p + q = mkRat (p.num * q.den + q.num * p.den) (p.den * q.den) := by
    rw [mkRat_add p.den_pos q.den_pos, Rat.mkRat_self, Rat.mkRat_self]
  rw [e]
  refine LQ_mk (Nat.mul_pos p.den_pos q.den_pos) ?_ (Nat.le_trans (dg_mul2 hp.2 hq.2) (by omega))
  have h1 : (dg (p.num * q.den).natAbs).length ≤ a + b := by
    rw [Int.natAbs_mul, Int.natAbs_natCast]
    exact dg_mul2 hp.1 hq.2
  have h2 : (dg (q.num * p.den).natAbs).length ≤ a + b := by
    rw [Int.natAbs_mul, Int.natAbs_natCast, Nat.add_comm]
    exact dg_mul2 hq.1 hp.2
  exact Nat.le_trans (dg_len_mono (Int.natAbs_add_le _ _)) (dg_add2 h1 h2)
theorem LQ_mul {a b : Nat} {p q : Rat} (hp : LQ a p) (hq : LQ b q) : LQ (a + b) (p * q) := by
  have e : p * q = mkRat (p.num * q.num) (p.den * q.den) := by
    rw [mkRat_mul, Rat.mkRat_self, Rat.mkRat_self]
  rw [e]
  refine LQ_mk (Nat.mul_pos p.den_pos q.den_pos) ?_ (dg_mul2 hp.2 hq.2)
  rw [Int.natAbs_mul]
  exact dg_mul2 hp.1 hq.1
theorem LQ_int {z : Int} (h1 : -9223372036854775808 ≤ z) (h2 : z ≤ 9223372036854775807) : LQ 2 (z : Rat) :=
  ⟨len_i64 h1 h2, show (dg 1).length ≤ 2 by rw [dg_one]; decide⟩
theorem LQ_zero : LQ 1 0 := ⟨show (dg 0).length ≤ 1 by rw [dg_zero]; decide, show (dg 1).length ≤ 1 by rw [dg_one]; decide⟩
theorem FrV.lq {w : World} {g : Bool} {A : Option Addr} {n c : Nat} {D : Option Addr} {m d k : Nat} {q : Rat} (h : FrV w g A n c D m d k q) : LQ k q := by
  obtain ⟨xs, ds, h1, h2, h3, h4, h5, h6⟩ := h
  rw [← h6]
  exact LQ_mk (dv1_pos ds) (iv_ln (g := g) h1 h2) (dv1_len h3 h4 h5)
theorem FrL.fit {w : World} {A : Option Addr} {n c : Nat} {D : Option Addr} {m d k j : Nat} {q : Rat} (h : FrL w A n c D m d k q) (hj : LQ j q) : FrL w A n c D m d j q :=
  ⟨h.1, by rw [← h.1.1]; exact hj.1, h.2.2.1, by rw [← h.2.2.1.1]; exact Nat.le_trans (dn_len_le _) hj.2, hj.one⟩
theorem RetQ.fit {w w' : World} {q : Rat} {j k : Nat} {e : Ending} (h : RetQ w q k e w') (hj : LQ j q) : RetQ w q j e w' := by
  obtain ⟨A, n, c, D, m, d, he, hf, b⟩ := h
  exact ⟨A, n, c, D, m, d, he, hf.fit hj, b⟩
def RetV (w : World) (q : Rat) (k : Nat) (e : Ending) (w' : World) : Prop := ∃ g A n c D m d, e = .returned (.agg #[.bool g, .slice A n c, .slice D m d]) ∧ FrV w' g A n c D m d k q ∧ Below w.heap.size w w'
theorem FrV.zero (w : World) {k : Nat} (hk : 1 ≤ k) : FrV w false none 0 0 none 0 0 k 0 := ⟨[], [], Rd.nil w none, Nat.zero_le _, Rd.nil w none, Nat.zero_le _, hk, by rfl⟩
theorem retv_end {w w2 : World} {q : Rat} {g1 : Bool} {A A0 D D0 : Option Addr} {n c n0 c0 m d m0 d0 g k : Nat} {b0 : Bool} (h : FrV w2 g1 A n c D m d k q) (K : Blk w2 g [.bool b0, .slice A0 n0 c0, .slice D0 m0 d0] 41) (hb : Below w.heap.size w w2) (hg : w.heap.size ≤ g) :
    RetV w q k (.returned (.agg #[.bool g1, .slice A n c, .slice D m d])) (((w2.setCell ⟨g, 0, none⟩ (.bool g1)).setCell ⟨g, 1, none⟩ (.slice A n c)).setCell ⟨g, 2, none⟩ (.slice D m d)) := by
  obtain ⟨xs, ds, h1, h2, h3, h4, h5, h6⟩ := h
  exact ⟨g1, A, n, c, D, m, d, rfl, ⟨xs, ds, rd_cell_far3 h1 K _ _ _, h2, rd_cell_far3 h3 K _ _ _, h4, h5, h6⟩, bx_set (bx_set (bx_set hb hg) hg) hg⟩
def Qs (w : World) (A : Option Addr) (n c k : Nat) (qs : Nat → Rat) : Prop := n ≤ c ∧ c ≤ 9223372036854775807 ∧ 1 ≤ k ∧ (0 < n → ∃ b o, A = some ⟨b, o, none⟩ ∧ b < w.heap.size ∧ ∀ j, j < n → ∃ g A' n' c' D' m' d', w.cell? ⟨b, o + j * 3, none⟩ = some (.bool g) ∧ w.cell? ⟨b, o + j * 3 + 1, none⟩ = some (.slice A' n' c') ∧ w.cell? ⟨b, o + j * 3 + 2, none⟩ = some (.slice D' m' d') ∧ FrV w g A' n' c' D' m' d' k (qs j))
theorem Qs.keep {w w' : World} {A : Option Addr} {n c k : Nat} {qs : Nat → Rat} (h : Qs w A n c k qs) (b : Below w.heap.size w w') : Qs w' A n c k qs := by
  refine ⟨h.1, h.2.1, h.2.2.1, fun hn => ?_⟩
  obtain ⟨bb, o, hA, hlt, hc⟩ := h.2.2.2 hn
  refine ⟨bb, o, hA, Nat.lt_of_lt_of_le hlt b.size, fun j hj => ?_⟩
  obtain ⟨g, A', n', c', D', m', d', h0, h1, h2, h3⟩ := hc j hj
  exact ⟨g, A', n', c', D', m', d', cell_bx h0 b, cell_bx h1 b, cell_bx h2 b, h3.keep b⟩
def atQ (n : Nat) (qs : Nat → Rat) (i : Int) : Rat := if 0 ≤ i ∧ i < n then qs i.toNat else 0
theorem atQ_out {n : Nat} {qs : Nat → Rat} {i : Int} (h : ¬(0 ≤ i ∧ i < n)) : atQ n qs i = 0 := if_neg h
theorem atQ_in {n : Nat} {qs : Nat → Rat} {j : Nat} (h : j < n) : atQ n qs (j : Int) = qs j := by
  unfold atQ
  rw [if_pos ⟨by omega, by omega⟩, Int.toNat_natCast]
def Ts (w : World) (A : Option Addr) (n c : Nat) (v cf : Nat → Int) : Prop := n ≤ c ∧ c ≤ 9223372036854775807 ∧ (∀ j, j < n → (-9223372036854775808 ≤ v j ∧ v j ≤ 9223372036854775807) ∧ -9223372036854775808 ≤ cf j ∧ cf j ≤ 9223372036854775807) ∧ (0 < n → ∃ b o, A = some ⟨b, o, none⟩ ∧ b < w.heap.size ∧ ∀ j, j < n → w.cell? ⟨b, o + j * 2, none⟩ = some (.int .i64 (v j)) ∧ w.cell? ⟨b, o + j * 2 + 1, none⟩ = some (.int .i64 (cf j)))
theorem Ts.keep {w w' : World} {A : Option Addr} {n c : Nat} {v cf : Nat → Int} (h : Ts w A n c v cf) (b : Below w.heap.size w w') : Ts w' A n c v cf := by
  refine ⟨h.1, h.2.1, h.2.2.1, fun hn => ?_⟩
  obtain ⟨bb, o, hA, hlt, hc⟩ := h.2.2.2 hn
  exact ⟨bb, o, hA, Nat.lt_of_lt_of_le hlt b.size, fun j hj => ⟨cell_bx (hc j hj).1 b, cell_bx (hc j hj).2 b⟩⟩
def sumN (f : Nat → Rat) : Nat → Rat
  | 0 => 0
  | n + 1 => sumN f n + f n
theorem sumN_lq {f : Nat → Rat} {k n : Nat} (h : ∀ j, j < n → LQ k (f j)) : LQ (n * (k + 1) + 1) (sumN f n) := by
  induction n with
  | zero => exact LQ_zero.up (by omega)
  | succ n ih =>
    have h1 := ih fun j hj => h j (by omega)
    have h2 := LQ_add h1 (h n (by omega))
    refine h2.up ?_
    rw [Nat.succ_mul]
    omega
theorem sumN_congr {f g : Nat → Rat} {n : Nat} (h : ∀ j, j < n → f j = g j) : sumN f n = sumN g n := by
  induction n with
  | zero => rfl
  | succ n ih =>
    show sumN f n + f n = sumN g n + g n
    rw [ih fun j hj => h j (by omega), h n (by omega)]
def El (bn bl : Nat) : Value := .func (.func 109) #[] #[.pointer (some ⟨bn, 0, none⟩), .pointer (some ⟨bl, 0, none⟩)]
set_option maxHeartbeats 2000000 in
theorem velem1 (bn bl : Nat) (A : Option Addr) (n c k m : Nat) (qs : Nat → Rat) (i : Int) (w : World) (h : Qs w A n c k qs) (kn : Blk w bn [.int .i64 m] 3) (kl : Blk w bl [.slice A n c] 32) (hm : m ≤ n) :
    Calls Tryz.prog 109 #[.int .i64 i, .pointer (some ⟨bn, 0, none⟩), .pointer (some ⟨bl, 0, none⟩)] w (RetV w (atQ m qs i) k) := by
  have K := hid (Blk.new w [.bool false, .slice none 0 0, .slice none 0 0] 41)
  obtain ⟨W0, hW⟩ : ∃ W, W = w.alloc (.cells #[.bool false, .slice none 0 0, .slice none 0 0] 41) := ⟨_, rfl⟩
  have B0 := hid (bx_alloc (bx_refl w) (.cells #[.bool false, .slice none 0 0, .slice none 0 0] 41))
  rw [← hW] at K B0
  obtain ⟨x0, x1, x2⟩ := blk_three K.out
  have f0 := Blk.free K.out 0
  have f1 := Blk.free K.out 1
  have f2 := Blk.free K.out 2
  have u0 : W0.cell? ⟨bn, 0, none⟩ = some (.int .i64 m) := Blk.cell (kn.keep B0.out) 0
  have u1 : W0.cell? ⟨bl, 0, none⟩ = some (.slice A n c) := Blk.cell (kl.keep B0.out) 0
  have h1 := h.2.2.1
  clear kn kl
  by_cases hi : 0 ≤ i ∧ i < m
  · obtain ⟨j, rfl⟩ : ∃ j : Nat, i = j := ⟨i.toNat, by omega⟩
    have hj : j < m := by omega
    have hjn : j < n := by omega
    rw [atQ_in hj]
    obtain ⟨b, o, rfl, hlt, hc⟩ := h.2.2.2 (by omega)
    obtain ⟨g, A', n', c', D', m', d', y0, y1, y2, hv⟩ := hc j hjn
    have EE := hid (retv_end (hv.keep B0.out) K.out B0.out (Nat.le_refl _))
    have z0 := cell_bx y0 B0.out
    have z1 := cell_bx y1 B0.out
    have z2 := cell_bx y2 B0.out
    have t1 : decide ((m : Int) ≤ (j : Int)) = false := decide_eq_false (by omega)
    clear h hc hv y0 y1 y2 K B0 hlt
    go_enter Tryz.func109, Tryz.ntmps109
    go_upto_region 1 with fail
    rw [← hW]
    clear hW
    go_wp2_with fail
    exact bodyPost_ret (v := .agg #[.bool g, .slice A' n' c', .slice D' m' d']) (by simp [results, Tryz.results109, go_sem, x0, x1, x2]) rfl EE.out
  · rw [atQ_out hi]
    have EE := hid (retv_end (FrV.zero W0 h1) K.out B0.out (Nat.le_refl _))
    clear h K B0
    by_cases hz : i < 0
    · have t1 : decide (i < 0) = true := decide_eq_true hz
      go_enter Tryz.func109, Tryz.ntmps109
      go_upto_region 1 with fail
      rw [← hW]
      clear hW
      go_wp2_with fail
      exact bodyPost_ret (v := .agg #[.bool false, .slice none 0 0, .slice none 0 0]) (by simp [results, Tryz.results109, go_sem, x0, x1, x2]) rfl EE.out
    · have t0 : decide (i < 0) = false := decide_eq_false hz
      have t1 : decide ((m : Int) ≤ i) = true := decide_eq_true (by omega)
      go_enter Tryz.func109, Tryz.ntmps109
      go_upto_region 1 with fail
      rw [← hW]
      clear hW
      go_wp2_with fail
      exact bodyPost_ret (v := .agg #[.bool false, .slice none 0 0, .slice none 0 0]) (by simp [results, Tryz.results109, go_sem, x0, x1, x2]) rfl EE.out
def RetE (w : World) (A : Option Addr) (n c m : Nat) (e : Ending) (w' : World) : Prop := ∃ bn bl, e = .returned (El bn bl) ∧ Blk w' bn [.int .i64 m] 3 ∧ Blk w' bl [.slice A n c] 32 ∧ w.heap.size ≤ bn ∧ w.heap.size ≤ bl ∧ Below w.heap.size w w'
set_option maxHeartbeats 2000000 in
theorem velem (A : Option Addr) (n c m0 m : Nat) (w : World) (_hn : n ≤ 9223372036854775807) (hm : m = min m0 n) :
    Calls Tryz.prog 67 #[.slice A n c, .int .i64 m0] w (RetE w A n c m) := by
  have K1 := (Blk.new w [.slice A n c] 32).alloc (.cells #[.int .i64 m0] 3)
  have K2 := blk_new1 w (.cells #[.slice A n c] 32) [.int .i64 m0] 3
  have B0 := bx_alloc (bx_alloc (bx_refl w) (.cells #[.slice A n c] 32)) (.cells #[.int .i64 m0] 3)
  obtain ⟨W0, hW⟩ : ∃ W, W = (w.alloc (.cells #[.slice A n c] 32)).alloc (.cells #[.int .i64 m0] 3) := ⟨_, rfl⟩
  change Blk ((w.alloc (.cells #[.slice A n c] 32)).alloc (.cells #[.int .i64 m0] 3)) _ _ _ at K1 K2
  rw [← hW] at K1 K2 B0
  have EE : RetE w A n c m (.returned (El (w.heap.size + 1) w.heap.size)) (W0.setCell ⟨w.heap.size + 1, 0, none⟩ (.int .i64 m)) := by
    exact ⟨_, _, rfl, K2.set_ 0 _, K1.far (by omega) _, Nat.le_succ _, Nat.le_refl _, bx_set B0 (Nat.le_succ _)⟩
  have E1 := hid (fun (h : n < m0) => (show RetE w A n c m (.returned (El (w.heap.size + 1) w.heap.size)) (W0.setCell ⟨w.heap.size + 1, 0, none⟩ (.int .i64 n)) from by have := EE; rw [show m = n by omega] at this ⊢; exact this))
  have E2 := hid (fun (h : ¬n < m0) => (show RetE w A n c m (.returned (El (w.heap.size + 1) w.heap.size)) (W0.setCell ⟨w.heap.size + 1, 0, none⟩ (.int .i64 m0)) from by have := EE; rw [show m = m0 by omega] at this ⊢; exact this))
  have x0 : W0.cell? ⟨w.heap.size, 0, none⟩ = some (.slice A n c) := Blk.cell K1 0
  have x1 : W0.cell? ⟨w.heap.size + 1, 0, none⟩ = some (.int .i64 m0) := Blk.cell K2 0
  have f1 := Blk.free K2 0
  clear K1 K2 B0 EE hm
  go_enter Tryz.func67, Tryz.ntmps67
  go_upto_region 1 with fail
  rw [← hW]
  clear hW
  go_wp2_with fail
  all_goals first
    | exact bodyPost_ret (v := El (w.heap.size + 1) w.heap.size) (by simp [results, Tryz.results67, go_sem, El]) rfl (E1.out (by assumption))
    | exact bodyPost_ret (v := El (w.heap.size + 1) w.heap.size) (by simp [results, Tryz.results67, go_sem, El]) rfl (E2.out (by assumption))
theorem atQ_lq {w : World} {A : Option Addr} {n c k : Nat} {qs : Nat → Rat} (h : Qs w A n c k qs) (i : Int) : LQ k (atQ n qs i) := by
  unfold atQ
  split
  · obtain ⟨b, o, _, _, hc⟩ := h.2.2.2 (by omega)
    obtain ⟨g, A', n', c', D', m', d', _, _, _, hv⟩ := hc i.toNat (by omega)
    exact hv.lq
  · exact LQ_zero.up h.2.2.1
theorem atQ_lqm {w : World} {A : Option Addr} {n c k m : Nat} {qs : Nat → Rat} (h : Qs w A n c k qs) (hm : m ≤ n) (i : Int) : LQ k (atQ m qs i) := by
  by_cases hi : 0 ≤ i ∧ i < m
  · have h1 := atQ_lq h i
    unfold atQ at h1 ⊢
    rw [if_pos (by omega)] at h1
    rwa [if_pos hi]
  · rw [atQ_out hi]
    exact LQ_zero.up h.2.2.1
def AccP (w : World) (k : Nat) (q : Rat) (W : World) : Prop := Below w.heap.size w W ∧ Blk W w.heap.size [.bool false, .slice none 0 0, .slice none 0 0] 41 ∧ ∃ g A n c D m d, Blk W (w.heap.size + 1) [.bool g, .slice A n c, .slice D m d] 41 ∧ FrV W g A n c D m d k q
theorem AccP.start (w : World) {k : Nat} (hk : 1 ≤ k) : AccP w k 0 ((w.alloc (.cells #[.bool false, .slice none 0 0, .slice none 0 0] 41)).alloc (.cells #[.bool false, .slice none 0 0, .slice none 0 0] 41)) := 
  ⟨bx_alloc (bx_alloc (bx_refl w) _) _, (Blk.new w [.bool false, .slice none 0 0, .slice none 0 0] 41).alloc (.cells #[.bool false, .slice none 0 0, .slice none 0 0] 41), false, none, 0, 0, none, 0, 0, blk_new1 w (.cells #[.bool false, .slice none 0 0, .slice none 0 0] 41) [.bool false, .slice none 0 0, .slice none 0 0] 41, FrV.zero _ hk⟩
theorem frv_far3 {W : World} {g : Nat} {gg : Bool} {A D : Option Addr} {n c m d k : Nat} {q : Rat} {b0 : Bool} {A0 D0 : Option Addr} {n0 c0 m0 d0 : Nat} (h : FrV W gg A n c D m d k q) (K : Blk W g [.bool b0, .slice A0 n0 c0, .slice D0 m0 d0] 41) (u v x : Value) : FrV (((W.setCell ⟨g, 0, none⟩ u).setCell ⟨g, 1, none⟩ v).setCell ⟨g, 2, none⟩ x) gg A n c D m d k q := by
  obtain ⟨xs, ds, h1, h2, h3, h4, h5, h6⟩ := h
  exact ⟨xs, ds, rd_cell_far3 h1 K _ _ _, h2, rd_cell_far3 h3 K _ _ _, h4, h5, h6⟩
theorem AccP.keep {w W W' : World} {k : Nat} {q : Rat} (h : AccP w k q W) (b : Below W.heap.size W W') : AccP w k q W' := by
  obtain ⟨h1, h2, g, A, n, c, D, m, d, h3, h4⟩ := h
  exact ⟨bx_call h1 b, h2.keep b, g, A, n, c, D, m, d, h3.keep b, h4.keep b⟩
theorem AccP.next {w W : World} {k k' : Nat} {q q' : Rat} {g : Bool} {A D : Option Addr} {n c m d : Nat} (h : AccP w k q W) (f : FrV W g A n c D m d k' q') : AccP w k' q' (((W.setCell ⟨w.heap.size + 1, 0, none⟩ (.bool g)).setCell ⟨w.heap.size + 1, 1, none⟩ (.slice A n c)).setCell ⟨w.heap.size + 1, 2, none⟩ (.slice D m d)) := by
  obtain ⟨h1, h2, g0, A0, n0, c0, D0, m0, d0, h3, h4⟩ := h
  have hg : w.heap.size ≤ w.heap.size + 1 := Nat.le_succ _
  exact ⟨bx_set (bx_set (bx_set h1 hg) hg) hg, ((h2.far (by omega) _).far (by omega) _).far (by omega) _, g, A, n, c, D, m, d, ((h3.set_ 0 _).set_ 1 _).set_ 2 _, frv_far3 f h3 _ _ _⟩
theorem AccP.done {w W : World} {k : Nat} {q : Rat} {g : Bool} {A D : Option Addr} {n c m d : Nat} (h1 : Below w.heap.size w W) (h2 : Blk W w.heap.size [.bool false, .slice none 0 0, .slice none 0 0] 41) (f : FrV W g A n c D m d k q) : RetV w q k (.returned (.agg #[.bool g, .slice A n c, .slice D m d])) (((W.setCell ⟨w.heap.size, 0, none⟩ (.bool g)).setCell ⟨w.heap.size, 1, none⟩ (.slice A n c)).setCell ⟨w.heap.size, 2, none⟩ (.slice D m d)) :=
  retv_end f h2 h1 (Nat.le_refl _)
set_option maxHeartbeats 4000000 in
theorem vsum (Ta : Option Addr) (nt tc : Nat) (v cf : Nat → Int) (A : Option Addr) (n c k m bn bl : Nat) (qs : Nat → Rat) (w : World) (hT : Ts w Ta nt tc v cf) (hQ : Qs w A n c k qs) (kn : Blk w bn [.int .i64 m] 3) (kl : Blk w bl [.slice A n c] 32) (hm : m ≤ n) (hk : nt * (k + 3) + 1 + (k + 2) ≤ 274877906943) :
    Calls Tryz.prog 66 #[.slice Ta nt tc, El bn bl] w (RetV w (sumN (fun j => (cf j : Rat) * atQ m qs (v j)) nt) (nt * (k + 3) + 1)) := by
  unfold El
  have hc := hT.1
  have hc2 := hT.2.1
  obtain ⟨f, hf⟩ : ∃ f : Nat → Rat, f = fun j => (cf j : Rat) * atQ m qs (v j) := ⟨_, rfl⟩
  rw [← hf]
  obtain ⟨K, hK⟩ : ∃ K, K = nt * (k + 3) + 1 := ⟨_, rfl⟩
  rw [← hK] at hk ⊢
  have k1 := hQ.2.2.1
  have ST := hid (AccP.start w (k := K) (by omega))
  have AT := hid (fun (W : World) (b : Below w.heap.size w W) (j : Nat) => velem1 bn bl A n c k m qs (v j) W (hQ.keep b) (kn.keep b) (kl.keep b) hm)
  have HT := hid hT
  have AQ := hid (fun i => atQ_lqm hQ hm i)
  clear hT hQ kn kl hm
  go_enter Tryz.func66, Tryz.ntmps66
  go_wp2_with fail
  go_loopw [12] (fun i wr => ∃ j : Nat, j ≤ nt ∧ i = .int .i64 j ∧ Hid (AccP w K (sumN f j) wr)) (fun i _ => nt - (intOf i).toNat)
  case atStart => exact ⟨0, Nat.zero_le _, rfl, ST⟩
  case round =>
    obtain ⟨j, hj, rfl, hz⟩ := hrel
    have PR := hid hz.out
    obtain ⟨g0, A0, n0, c0, D0, m0, d0, KA, FA⟩ := hz.out.2.2
    have BR := hid hz.out.1
    have FR := hid FA
    rcases Nat.lt_or_ge j nt with hlt | hge
    · obtain ⟨⟨v1, v2⟩, cf1, cf2⟩ := HT.out.2.2.1 j hlt
      obtain ⟨b, o, rfl, hb, hcell⟩ := HT.out.2.2.2 (by omega)
      have z0 := cell_bx (hcell j hlt).1 hz.out.1
      have z1 := cell_bx (hcell j hlt).2 hz.out.1
      obtain ⟨S, hS⟩ : ∃ S, S = sumN f j := ⟨_, rfl⟩
      obtain ⟨F, hF⟩ : ∃ F, F = atQ m qs (v j) := ⟨_, rfl⟩
      obtain ⟨V, hV⟩ : ∃ V, V = (cf j : Rat) * F := ⟨_, rfl⟩
      have NX := hid (show sumN f (j + 1) = S + V by rw [hS, hV, hF]; show sumN f j + f j = _; rw [hf])
      have lf : LQ k F := by rw [hF]; exact AQ.out (v j)
      have lv : LQ (2 + k) V := by rw [hV]; exact LQ_mul (LQ_int cf1 cf2) lf
      have LS := hid (show LQ K (S + V) by
        have h1 := sumN_lq (f := f) (k := k + 2) (n := j + 1) (fun i hi => by rw [hf]; exact (LQ_mul (LQ_int (HT.out.2.2.1 i (by omega)).2.1 (HT.out.2.2.1 i (by omega)).2.2) (show LQ k (atQ m qs (v i)) from AQ.out (v i))).up (by omega))
        rw [NX.out] at h1
        refine h1.up ?_
        rw [hK]
        exact Nat.add_le_add_right (Nat.mul_le_mul_right _ (by omega)) 1)
      rw [← hS] at FR PR
      have lt1 := KA.lt
      have AJ := AT.out
      have B1 := bx_alloc (bx_refl wr) (.cells #[.int .i64 (v j), .int .i64 (cf j)] 94)
      have C1 := hid (AT.out _ (bx_call hz.out.1 B1) j)
      rw [← hF] at C1
      have kt := hid (Blk.new wr [.int .i64 (v j), .int .i64 (cf j)] 94)
      have P1 := hid (PR.out.keep B1)
      clear hz KA FA HT hcell ST hK AQ AT AJ hF B1 PR BR FR
      have VF := hid (fun (W : World) => vfrom (cf j) W cf1 cf2)
      have VT := hid (fun (W : World) (ga : Bool) (A1 : Option Addr) (n1 c1 : Nat) (D1 : Option Addr) (m1 d1 : Nat) (L : FrV W ga A1 n1 c1 D1 m1 d1 k F) (A2 : Option Addr) (n2 c2 : Nat) (D2 : Option Addr) (m2 d2 : Nat) (M : FrL W A2 n2 c2 D2 m2 d2 2 (cf j : Rat)) => (vmul (sg (cf j : Rat).num) A2 n2 c2 D2 m2 d2 ga A1 n1 c1 D1 m1 d1 (2 + k) (cf j : Rat) F W (M.v.up (by omega)) (L.up (by omega)) (by omega)).mono fun _ _ r => r.fit (hV ▸ lv))
      rw [← hV] at VT
      have AD := hid (fun (W : World) (g0 : Bool) (A0 : Option Addr) (n0 c0 : Nat) (D0 : Option Addr) (m0 d0 : Nat) (L : FrV W g0 A0 n0 c0 D0 m0 d0 K S) (A2 : Option Addr) (n2 c2 : Nat) (D2 : Option Addr) (m2 d2 : Nat) (M : FrL W A2 n2 c2 D2 m2 d2 (2 + k) V) => (vadd g0 A0 n0 c0 D0 m0 d0 (sg V.num) A2 n2 c2 D2 m2 d2 (K + (k + 2)) S V W (L.up (by omega)) (M.v.up (by omega)) hk).mono fun _ _ r => r.fit LS.out)
      have VZ := hid (show F = 0 → S + V = S by intro h; rw [hV, h]; grind)
      obtain ⟨U, hU⟩ : ∃ U, U = S + V := ⟨_, rfl⟩
      rw [← hU] at AD NX VZ
      clear LS hU hS hV lf lv
      go_wp2_with fail
      refine (C1.out).mono ?_
      rintro e w1 ⟨gf, Af, nf, cf', Df, mf, df, rfl, rf, b1⟩
      have kt1 := hid (kt.out.keep b1)
      have lt2 := kt1.out.lt
      have P2 := hid (P1.out.keep b1)
      obtain ⟨W2, hW2⟩ : ∃ W, W = w1.alloc (.cells #[.bool gf, .slice Af nf cf', .slice Df mf df] 41) := ⟨_, rfl⟩
      have B2 := bx_alloc (bx_refl w1) (.cells #[.bool gf, .slice Af nf cf', .slice Df mf df] 41)
      have K8 := Blk.new w1 [.bool gf, .slice Af nf cf', .slice Df mf df] 41
      change Blk (w1.alloc (.cells #[.bool gf, .slice Af nf cf', .slice Df mf df] 41)) _ _ _ at K8
      rw [← hW2] at B2 K8
      have kt2 := hid (kt1.out.keep B2)
      have P3 := hid (P2.out.keep B2)
      have KK8 := hid K8
      have FF8 := rf.keep B2
      have SG := hid (vsign gf Af nf cf' Df mf df k F W2 FF8)
      have GG := hid FF8
      clear rf b1 C1 kt kt1 P1 P2 B2 K8 FF8
      by_cases hF : F = 0
      · have s0 : sgnQ F = 0 := sgnQ_zero.2 hF
        have t0 : decide (sgnQ F = 0) = true := decide_eq_true s0
        have VE := VZ.out hF
        go_wp2_with fail
        rw [← hW2]
        clear hW2
        refine (SG.out).mono ?_
        rintro e w3 ⟨rfl, b3⟩
        have P4 := hid (P3.out.keep b3)
        clear b3 SG P3
        go_wp2_with fail
        go_roundw
        case rel => exact ⟨j + 1, by omega, by go_num, by rw [NX.out, VE]; exact P4⟩
        case measure => simp [intOf]; omega
      · have s0 : ¬sgnQ F = 0 := fun h => hF (sgnQ_zero.1 h)
        have t0 : decide (sgnQ F = 0) = false := decide_eq_false s0
        go_wp2_with fail
        rw [← hW2]
        clear hW2
        refine (SG.out).mono ?_
        rintro e w3 ⟨rfl, b3⟩
        have P5 := hid (P3.out.keep b3)
        have kt3 := kt2.out.keep b3
        have k83 := KK8.out.keep b3
        have G5 := hid (GG.out.keep b3)
        obtain ⟨g0, A0, n0, c0, D0, m0, d0, KA, FA⟩ := P5.out.2.2
        have F5 := hid FA
        obtain ⟨y0, y1, y2⟩ := blk_three KA
        have z1 := (blk_two kt3).2
        obtain ⟨q0, q1, q2⟩ := blk_three k83
        clear b3 SG P3 KA FA kt3 k83 GG KK8 kt2
        go_wp2_with fail
        refine wp_region_noPanic ?_
        refine wp_region_held_drew (S := (fun W => W.cell? ⟨wr.heap.size, 1, none⟩ = some (.int .i64 (cf j)) ∧ W.cell? ⟨w1.heap.size, 0, none⟩ = some (.bool gf) ∧ W.cell? ⟨w1.heap.size, 1, none⟩ = some (.slice Af nf cf') ∧ W.cell? ⟨w1.heap.size, 2, none⟩ = some (.slice Df mf df))) (by kernel_rfl) ?_ (fun hH => ?_)
        · (try dsimp only); (refine ⟨?_, ?_, ?_, ?_⟩ <;> repeat' (first | with_reducible assumption | with_reducible refine cell_dr ?_ | with_reducible refine cell_al ?_ | with_reducible refine cell_fr ?_ (by omega)))
        refine tk 1 hH ?_
        (try simp only [Act.put, gy0, gy1, gy2])
        refine tk 2 hH ?_
        (try simp only [Act.put, gy0, gy1, gy2])
        refine tk 4 hH ?_
        (try simp only [Act.put, gy0, gy1, gy2])
        refine wpAnyH_ready (rs := [0, 3]) (by kernel_rfl) (by simp) ?_
        refine rdy (fun K hK => ?_) ?_
        go_simp
        refine hK.out _ _ ?_ (fun hH2 => ?_)
        · (try dsimp only); (refine ⟨?_, ?_, ?_, ?_⟩ <;> repeat' (first | with_reducible assumption | with_reducible refine cell_dr ?_ | with_reducible refine cell_al ?_ | with_reducible refine cell_fr ?_ (by omega)))
        clear hK K hH
        have hH := hH2
        clear hH2
        (try simp only [Act.put, gy0, gy1, gy2])
        refine wpAnyH_ready (rs := [3]) (by kernel_rfl) (by simp) ?_
        refine rdy (fun K hK => ?_) ?_
        go_simp
        (first | (go_at_call 107; refine (AD.out w5 g0 A0 n0 c0 D0 m0 d0 F7.out A2 n2 c2 D2 m2 d2 R2.out).mono ?_; rintro e w6 ⟨A3, n3, c3, D3, m3, d3, rfl, r, b⟩; have y0_3 := cell_bx y0_2 b; have y1_3 := cell_bx y1_2 b; have y2_3 := cell_bx y2_2 b; have z1_3 := cell_bx z1_2 b; have q0_3 := cell_bx q0_2 b; have q1_3 := cell_bx q1_2 b; have q2_3 := cell_bx q2_2 b; have P8 := hid (P7.out.keep b); have F8 := hid (F7.out.keep b); have G8 := hid (G7.out.keep b); have NN := hid (P8.out.next r.v); obtain ⟨_, _, _, _, _, _, _, _, _, K3, _⟩ := P8.out; have f0 := Blk.free K3 0; have f1 := Blk.free K3 1; have f2 := Blk.free K3 2; clear b r K3) | (go_at_call 108; refine (VT.out w4 gf Af nf cf' Df mf df G6.out A1 n1 c1 D1 m1 d1 R1.out).mono ?_; rintro e w5 ⟨A2, n2, c2, D2, m2, d2, rfl, r, b⟩; have y0_2 := cell_bx y0_1 b; have y1_2 := cell_bx y1_1 b; have y2_2 := cell_bx y2_1 b; have z1_2 := cell_bx z1_1 b; have q0_2 := cell_bx q0_1 b; have q1_2 := cell_bx q1_1 b; have q2_2 := cell_bx q2_1 b; have P7 := hid (P6.out.keep b); have F7 := hid (F6.out.keep b); have G7 := hid (G6.out.keep b); have R2 := hid r; clear b r) | (go_at_call 74; refine (VF.out _).mono ?_; rintro e w4 ⟨A1, n1, c1, D1, m1, d1, rfl, r, b⟩; have y0_1 := cell_bx (cell_dr y0) b; have y1_1 := cell_bx (cell_dr y1) b; have y2_1 := cell_bx (cell_dr y2) b; have z1_1 := cell_bx (cell_dr z1) b; have q0_1 := cell_bx (cell_dr q0) b; have q1_1 := cell_bx (cell_dr q1) b; have q2_1 := cell_bx (cell_dr q2) b; have P6 := hid (P5.out.keep (bx_call (bx_drew (bx_refl _)) b)); have F6 := hid (F5.out.keep (bx_call (bx_drew (bx_refl _)) b)); have G6 := hid (G5.out.keep (bx_call (bx_drew (bx_refl _)) b)); have R1 := hid r; clear b r))
        (try go_wp2_with fail)
        refine hK.out _ _ ?_ (fun hH2 => ?_)
        · (try dsimp only); (refine ⟨?_, ?_, ?_, ?_⟩ <;> repeat' (first | with_reducible assumption | with_reducible refine cell_dr ?_ | with_reducible refine cell_al ?_ | with_reducible refine cell_fr ?_ (by omega)))
        clear hK K hH
        have hH := hH2
        clear hH2
        (try simp only [Act.put, gy0, gy1, gy2])
        refine wpAnyH_ready (rs := [5]) (by kernel_rfl) (by simp) ?_
        refine rdy (fun K hK => ?_) ?_
        go_simp
        (first | (go_at_call 107; refine (AD.out w5 g0 A0 n0 c0 D0 m0 d0 F7.out A2 n2 c2 D2 m2 d2 R2.out).mono ?_; rintro e w6 ⟨A3, n3, c3, D3, m3, d3, rfl, r, b⟩; have y0_3 := cell_bx y0_2 b; have y1_3 := cell_bx y1_2 b; have y2_3 := cell_bx y2_2 b; have z1_3 := cell_bx z1_2 b; have q0_3 := cell_bx q0_2 b; have q1_3 := cell_bx q1_2 b; have q2_3 := cell_bx q2_2 b; have P8 := hid (P7.out.keep b); have F8 := hid (F7.out.keep b); have G8 := hid (G7.out.keep b); have NN := hid (P8.out.next r.v); obtain ⟨_, _, _, _, _, _, _, _, _, K3, _⟩ := P8.out; have f0 := Blk.free K3 0; have f1 := Blk.free K3 1; have f2 := Blk.free K3 2; clear b r K3) | (go_at_call 108; refine (VT.out w4 gf Af nf cf' Df mf df G6.out A1 n1 c1 D1 m1 d1 R1.out).mono ?_; rintro e w5 ⟨A2, n2, c2, D2, m2, d2, rfl, r, b⟩; have y0_2 := cell_bx y0_1 b; have y1_2 := cell_bx y1_1 b; have y2_2 := cell_bx y2_1 b; have z1_2 := cell_bx z1_1 b; have q0_2 := cell_bx q0_1 b; have q1_2 := cell_bx q1_1 b; have q2_2 := cell_bx q2_1 b; have P7 := hid (P6.out.keep b); have F7 := hid (F6.out.keep b); have G7 := hid (G6.out.keep b); have R2 := hid r; clear b r) | (go_at_call 74; refine (VF.out _).mono ?_; rintro e w4 ⟨A1, n1, c1, D1, m1, d1, rfl, r, b⟩; have y0_1 := cell_bx (cell_dr y0) b; have y1_1 := cell_bx (cell_dr y1) b; have y2_1 := cell_bx (cell_dr y2) b; have z1_1 := cell_bx (cell_dr z1) b; have q0_1 := cell_bx (cell_dr q0) b; have q1_1 := cell_bx (cell_dr q1) b; have q2_1 := cell_bx (cell_dr q2) b; have P6 := hid (P5.out.keep (bx_call (bx_drew (bx_refl _)) b)); have F6 := hid (F5.out.keep (bx_call (bx_drew (bx_refl _)) b)); have G6 := hid (G5.out.keep (bx_call (bx_drew (bx_refl _)) b)); have R1 := hid r; clear b r))
        (try go_wp2_with fail)
        refine hK.out _ _ ?_ (fun hH2 => ?_)
        · (try dsimp only); (refine ⟨?_, ?_, ?_, ?_⟩ <;> repeat' (first | with_reducible assumption | with_reducible refine cell_dr ?_ | with_reducible refine cell_al ?_ | with_reducible refine cell_fr ?_ (by omega)))
        clear hK K hH
        have hH := hH2
        clear hH2
        (try simp only [Act.put, gy0, gy1, gy2])
        refine wpAnyH_ready (rs := [6]) (by kernel_rfl) (by simp) ?_
        refine rdy (fun K hK => ?_) ?_
        go_simp
        (first | (go_at_call 107; refine (AD.out w5 g0 A0 n0 c0 D0 m0 d0 F7.out A2 n2 c2 D2 m2 d2 R2.out).mono ?_; rintro e w6 ⟨A3, n3, c3, D3, m3, d3, rfl, r, b⟩; have y0_3 := cell_bx y0_2 b; have y1_3 := cell_bx y1_2 b; have y2_3 := cell_bx y2_2 b; have z1_3 := cell_bx z1_2 b; have q0_3 := cell_bx q0_2 b; have q1_3 := cell_bx q1_2 b; have q2_3 := cell_bx q2_2 b; have P8 := hid (P7.out.keep b); have F8 := hid (F7.out.keep b); have G8 := hid (G7.out.keep b); have NN := hid (P8.out.next r.v); obtain ⟨_, _, _, _, _, _, _, _, _, K3, _⟩ := P8.out; have f0 := Blk.free K3 0; have f1 := Blk.free K3 1; have f2 := Blk.free K3 2; clear b r K3) | (go_at_call 108; refine (VT.out w4 gf Af nf cf' Df mf df G6.out A1 n1 c1 D1 m1 d1 R1.out).mono ?_; rintro e w5 ⟨A2, n2, c2, D2, m2, d2, rfl, r, b⟩; have y0_2 := cell_bx y0_1 b; have y1_2 := cell_bx y1_1 b; have y2_2 := cell_bx y2_1 b; have z1_2 := cell_bx z1_1 b; have q0_2 := cell_bx q0_1 b; have q1_2 := cell_bx q1_1 b; have q2_2 := cell_bx q2_1 b; have P7 := hid (P6.out.keep b); have F7 := hid (F6.out.keep b); have G7 := hid (G6.out.keep b); have R2 := hid r; clear b r) | (go_at_call 74; refine (VF.out _).mono ?_; rintro e w4 ⟨A1, n1, c1, D1, m1, d1, rfl, r, b⟩; have y0_1 := cell_bx (cell_dr y0) b; have y1_1 := cell_bx (cell_dr y1) b; have y2_1 := cell_bx (cell_dr y2) b; have z1_1 := cell_bx (cell_dr z1) b; have q0_1 := cell_bx (cell_dr q0) b; have q1_1 := cell_bx (cell_dr q1) b; have q2_1 := cell_bx (cell_dr q2) b; have P6 := hid (P5.out.keep (bx_call (bx_drew (bx_refl _)) b)); have F6 := hid (F5.out.keep (bx_call (bx_drew (bx_refl _)) b)); have G6 := hid (G5.out.keep (bx_call (bx_drew (bx_refl _)) b)); have R1 := hid r; clear b r))
        (try go_wp2_with fail)
        refine hK.out _ _ ?_ (fun hH2 => ?_)
        · (try dsimp only); (refine ⟨?_, ?_, ?_, ?_⟩ <;> repeat' (first | with_reducible assumption | with_reducible refine cell_dr ?_ | with_reducible refine cell_al ?_ | with_reducible refine cell_fr ?_ (by omega)))
        clear hK K hH
        have hH := hH2
        clear hH2
        (try simp only [Act.put, gy0, gy1, gy2])
        refine wpAnyH_ready (rs := [7]) (by kernel_rfl) (by simp) ?_
        refine rdy (fun K hK => ?_) ?_
        go_simp
        refine hK.out _ _ ?_ (fun hH2 => ?_)
        · (try dsimp only); (refine ⟨?_, ?_, ?_, ?_⟩ <;> repeat' (first | with_reducible assumption | with_reducible refine cell_dr ?_ | with_reducible refine cell_al ?_ | with_reducible refine cell_fr ?_ (by omega)))
        clear hK K hH
        have hH := hH2
        clear hH2
        (try simp only [Act.put, gy0, gy1, gy2])
        refine wpAnyH_done (by kernel_rfl) ?_ _
        refine NoPanic.normal ?_
        clear hH
        rotate_left
        exact AllReadyH.nil
        exact AllReadyH.nil
        exact AllReadyH.nil
        exact AllReadyH.nil
        refine rdy (fun K hK => ?_) ?_
        go_simp
        (first | (go_at_call 107; refine (AD.out w5 g0 A0 n0 c0 D0 m0 d0 F7.out A2 n2 c2 D2 m2 d2 R2.out).mono ?_; rintro e w6 ⟨A3, n3, c3, D3, m3, d3, rfl, r, b⟩; have y0_3 := cell_bx y0_2 b; have y1_3 := cell_bx y1_2 b; have y2_3 := cell_bx y2_2 b; have z1_3 := cell_bx z1_2 b; have q0_3 := cell_bx q0_2 b; have q1_3 := cell_bx q1_2 b; have q2_3 := cell_bx q2_2 b; have P8 := hid (P7.out.keep b); have F8 := hid (F7.out.keep b); have G8 := hid (G7.out.keep b); have NN := hid (P8.out.next r.v); obtain ⟨_, _, _, _, _, _, _, _, _, K3, _⟩ := P8.out; have f0 := Blk.free K3 0; have f1 := Blk.free K3 1; have f2 := Blk.free K3 2; clear b r K3) | (go_at_call 108; refine (VT.out w4 gf Af nf cf' Df mf df G6.out A1 n1 c1 D1 m1 d1 R1.out).mono ?_; rintro e w5 ⟨A2, n2, c2, D2, m2, d2, rfl, r, b⟩; have y0_2 := cell_bx y0_1 b; have y1_2 := cell_bx y1_1 b; have y2_2 := cell_bx y2_1 b; have z1_2 := cell_bx z1_1 b; have q0_2 := cell_bx q0_1 b; have q1_2 := cell_bx q1_1 b; have q2_2 := cell_bx q2_1 b; have P7 := hid (P6.out.keep b); have F7 := hid (F6.out.keep b); have G7 := hid (G6.out.keep b); have R2 := hid r; clear b r) | (go_at_call 74; refine (VF.out _).mono ?_; rintro e w4 ⟨A1, n1, c1, D1, m1, d1, rfl, r, b⟩; have y0_1 := cell_bx (cell_dr y0) b; have y1_1 := cell_bx (cell_dr y1) b; have y2_1 := cell_bx (cell_dr y2) b; have z1_1 := cell_bx (cell_dr z1) b; have q0_1 := cell_bx (cell_dr q0) b; have q1_1 := cell_bx (cell_dr q1) b; have q2_1 := cell_bx (cell_dr q2) b; have P6 := hid (P5.out.keep (bx_call (bx_drew (bx_refl _)) b)); have F6 := hid (F5.out.keep (bx_call (bx_drew (bx_refl _)) b)); have G6 := hid (G5.out.keep (bx_call (bx_drew (bx_refl _)) b)); have R1 := hid r; clear b r))
        (try go_wp2_with fail)
        refine hK.out _ _ ?_ (fun hH2 => ?_)
        · (try dsimp only); (refine ⟨?_, ?_, ?_, ?_⟩ <;> repeat' (first | with_reducible assumption | with_reducible refine cell_dr ?_ | with_reducible refine cell_al ?_ | with_reducible refine cell_fr ?_ (by omega)))
        clear hK K hH
        have hH := hH2
        clear hH2
        (try simp only [Act.put, gy0, gy1, gy2])
        refine wpAnyH_ready (rs := [0, 5]) (by kernel_rfl) (by simp) ?_
        refine rdy (fun K hK => ?_) ?_
        go_simp
        refine hK.out _ _ ?_ (fun hH2 => ?_)
        · (try dsimp only); (refine ⟨?_, ?_, ?_, ?_⟩ <;> repeat' (first | with_reducible assumption | with_reducible refine cell_dr ?_ | with_reducible refine cell_al ?_ | with_reducible refine cell_fr ?_ (by omega)))
        clear hK K hH
        have hH := hH2
        clear hH2
        (try simp only [Act.put, gy0, gy1, gy2])
        refine wpAnyH_ready (rs := [5]) (by kernel_rfl) (by simp) ?_
        refine rdy (fun K hK => ?_) ?_
        go_simp
        (first | (go_at_call 107; refine (AD.out w5 g0 A0 n0 c0 D0 m0 d0 F7.out A2 n2 c2 D2 m2 d2 R2.out).mono ?_; rintro e w6 ⟨A3, n3, c3, D3, m3, d3, rfl, r, b⟩; have y0_3 := cell_bx y0_2 b; have y1_3 := cell_bx y1_2 b; have y2_3 := cell_bx y2_2 b; have z1_3 := cell_bx z1_2 b; have q0_3 := cell_bx q0_2 b; have q1_3 := cell_bx q1_2 b; have q2_3 := cell_bx q2_2 b; have P8 := hid (P7.out.keep b); have F8 := hid (F7.out.keep b); have G8 := hid (G7.out.keep b); have NN := hid (P8.out.next r.v); obtain ⟨_, _, _, _, _, _, _, _, _, K3, _⟩ := P8.out; have f0 := Blk.free K3 0; have f1 := Blk.free K3 1; have f2 := Blk.free K3 2; clear b r K3) | (go_at_call 108; refine (VT.out w4 gf Af nf cf' Df mf df G6.out A1 n1 c1 D1 m1 d1 R1.out).mono ?_; rintro e w5 ⟨A2, n2, c2, D2, m2, d2, rfl, r, b⟩; have y0_2 := cell_bx y0_1 b; have y1_2 := cell_bx y1_1 b; have y2_2 := cell_bx y2_1 b; have z1_2 := cell_bx z1_1 b; have q0_2 := cell_bx q0_1 b; have q1_2 := cell_bx q1_1 b; have q2_2 := cell_bx q2_1 b; have P7 := hid (P6.out.keep b); have F7 := hid (F6.out.keep b); have G7 := hid (G6.out.keep b); have R2 := hid r; clear b r) | (go_at_call 74; refine (VF.out _).mono ?_; rintro e w4 ⟨A1, n1, c1, D1, m1, d1, rfl, r, b⟩; have y0_1 := cell_bx (cell_dr y0) b; have y1_1 := cell_bx (cell_dr y1) b; have y2_1 := cell_bx (cell_dr y2) b; have z1_1 := cell_bx (cell_dr z1) b; have q0_1 := cell_bx (cell_dr q0) b; have q1_1 := cell_bx (cell_dr q1) b; have q2_1 := cell_bx (cell_dr q2) b; have P6 := hid (P5.out.keep (bx_call (bx_drew (bx_refl _)) b)); have F6 := hid (F5.out.keep (bx_call (bx_drew (bx_refl _)) b)); have G6 := hid (G5.out.keep (bx_call (bx_drew (bx_refl _)) b)); have R1 := hid r; clear b r))
        (try go_wp2_with fail)
        refine hK.out _ _ ?_ (fun hH2 => ?_)
        · (try dsimp only); (refine ⟨?_, ?_, ?_, ?_⟩ <;> repeat' (first | with_reducible assumption | with_reducible refine cell_dr ?_ | with_reducible refine cell_al ?_ | with_reducible refine cell_fr ?_ (by omega)))
        clear hK K hH
        have hH := hH2
        clear hH2
        (try simp only [Act.put, gy0, gy1, gy2])
        refine wpAnyH_ready (rs := [6]) (by kernel_rfl) (by simp) ?_
        refine rdy (fun K hK => ?_) ?_
        go_simp
        (first | (go_at_call 107; refine (AD.out w5 g0 A0 n0 c0 D0 m0 d0 F7.out A2 n2 c2 D2 m2 d2 R2.out).mono ?_; rintro e w6 ⟨A3, n3, c3, D3, m3, d3, rfl, r, b⟩; have y0_3 := cell_bx y0_2 b; have y1_3 := cell_bx y1_2 b; have y2_3 := cell_bx y2_2 b; have z1_3 := cell_bx z1_2 b; have q0_3 := cell_bx q0_2 b; have q1_3 := cell_bx q1_2 b; have q2_3 := cell_bx q2_2 b; have P8 := hid (P7.out.keep b); have F8 := hid (F7.out.keep b); have G8 := hid (G7.out.keep b); have NN := hid (P8.out.next r.v); obtain ⟨_, _, _, _, _, _, _, _, _, K3, _⟩ := P8.out; have f0 := Blk.free K3 0; have f1 := Blk.free K3 1; have f2 := Blk.free K3 2; clear b r K3) | (go_at_call 108; refine (VT.out w4 gf Af nf cf' Df mf df G6.out A1 n1 c1 D1 m1 d1 R1.out).mono ?_; rintro e w5 ⟨A2, n2, c2, D2, m2, d2, rfl, r, b⟩; have y0_2 := cell_bx y0_1 b; have y1_2 := cell_bx y1_1 b; have y2_2 := cell_bx y2_1 b; have z1_2 := cell_bx z1_1 b; have q0_2 := cell_bx q0_1 b; have q1_2 := cell_bx q1_1 b; have q2_2 := cell_bx q2_1 b; have P7 := hid (P6.out.keep b); have F7 := hid (F6.out.keep b); have G7 := hid (G6.out.keep b); have R2 := hid r; clear b r) | (go_at_call 74; refine (VF.out _).mono ?_; rintro e w4 ⟨A1, n1, c1, D1, m1, d1, rfl, r, b⟩; have y0_1 := cell_bx (cell_dr y0) b; have y1_1 := cell_bx (cell_dr y1) b; have y2_1 := cell_bx (cell_dr y2) b; have z1_1 := cell_bx (cell_dr z1) b; have q0_1 := cell_bx (cell_dr q0) b; have q1_1 := cell_bx (cell_dr q1) b; have q2_1 := cell_bx (cell_dr q2) b; have P6 := hid (P5.out.keep (bx_call (bx_drew (bx_refl _)) b)); have F6 := hid (F5.out.keep (bx_call (bx_drew (bx_refl _)) b)); have G6 := hid (G5.out.keep (bx_call (bx_drew (bx_refl _)) b)); have R1 := hid r; clear b r))
        (try go_wp2_with fail)
        refine hK.out _ _ ?_ (fun hH2 => ?_)
        · (try dsimp only); (refine ⟨?_, ?_, ?_, ?_⟩ <;> repeat' (first | with_reducible assumption | with_reducible refine cell_dr ?_ | with_reducible refine cell_al ?_ | with_reducible refine cell_fr ?_ (by omega)))
        clear hK K hH
        have hH := hH2
        clear hH2
        (try simp only [Act.put, gy0, gy1, gy2])
        refine wpAnyH_ready (rs := [7]) (by kernel_rfl) (by simp) ?_
        refine rdy (fun K hK => ?_) ?_
        go_simp
        refine hK.out _ _ ?_ (fun hH2 => ?_)
        · (try dsimp only); (refine ⟨?_, ?_, ?_, ?_⟩ <;> repeat' (first | with_reducible assumption | with_reducible refine cell_dr ?_ | with_reducible refine cell_al ?_ | with_reducible refine cell_fr ?_ (by omega)))
        clear hK K hH
        have hH := hH2
        clear hH2
        (try simp only [Act.put, gy0, gy1, gy2])
        refine wpAnyH_done (by kernel_rfl) ?_ _
        refine NoPanic.normal ?_
        clear hH
        rotate_left
        exact AllReadyH.nil
        exact AllReadyH.nil
        exact AllReadyH.nil
        refine rdy (fun K hK => ?_) ?_
        go_simp
        (first | (go_at_call 107; refine (AD.out w5 g0 A0 n0 c0 D0 m0 d0 F7.out A2 n2 c2 D2 m2 d2 R2.out).mono ?_; rintro e w6 ⟨A3, n3, c3, D3, m3, d3, rfl, r, b⟩; have y0_3 := cell_bx y0_2 b; have y1_3 := cell_bx y1_2 b; have y2_3 := cell_bx y2_2 b; have z1_3 := cell_bx z1_2 b; have q0_3 := cell_bx q0_2 b; have q1_3 := cell_bx q1_2 b; have q2_3 := cell_bx q2_2 b; have P8 := hid (P7.out.keep b); have F8 := hid (F7.out.keep b); have G8 := hid (G7.out.keep b); have NN := hid (P8.out.next r.v); obtain ⟨_, _, _, _, _, _, _, _, _, K3, _⟩ := P8.out; have f0 := Blk.free K3 0; have f1 := Blk.free K3 1; have f2 := Blk.free K3 2; clear b r K3) | (go_at_call 108; refine (VT.out w4 gf Af nf cf' Df mf df G6.out A1 n1 c1 D1 m1 d1 R1.out).mono ?_; rintro e w5 ⟨A2, n2, c2, D2, m2, d2, rfl, r, b⟩; have y0_2 := cell_bx y0_1 b; have y1_2 := cell_bx y1_1 b; have y2_2 := cell_bx y2_1 b; have z1_2 := cell_bx z1_1 b; have q0_2 := cell_bx q0_1 b; have q1_2 := cell_bx q1_1 b; have q2_2 := cell_bx q2_1 b; have P7 := hid (P6.out.keep b); have F7 := hid (F6.out.keep b); have G7 := hid (G6.out.keep b); have R2 := hid r; clear b r) | (go_at_call 74; refine (VF.out _).mono ?_; rintro e w4 ⟨A1, n1, c1, D1, m1, d1, rfl, r, b⟩; have y0_1 := cell_bx (cell_dr y0) b; have y1_1 := cell_bx (cell_dr y1) b; have y2_1 := cell_bx (cell_dr y2) b; have z1_1 := cell_bx (cell_dr z1) b; have q0_1 := cell_bx (cell_dr q0) b; have q1_1 := cell_bx (cell_dr q1) b; have q2_1 := cell_bx (cell_dr q2) b; have P6 := hid (P5.out.keep (bx_call (bx_drew (bx_refl _)) b)); have F6 := hid (F5.out.keep (bx_call (bx_drew (bx_refl _)) b)); have G6 := hid (G5.out.keep (bx_call (bx_drew (bx_refl _)) b)); have R1 := hid r; clear b r))
        (try go_wp2_with fail)
        refine hK.out _ _ ?_ (fun hH2 => ?_)
        · (try dsimp only); (refine ⟨?_, ?_, ?_, ?_⟩ <;> repeat' (first | with_reducible assumption | with_reducible refine cell_dr ?_ | with_reducible refine cell_al ?_ | with_reducible refine cell_fr ?_ (by omega)))
        clear hK K hH
        have hH := hH2
        clear hH2
        (try simp only [Act.put, gy0, gy1, gy2])
        refine wpAnyH_ready (rs := [0]) (by kernel_rfl) (by simp) ?_
        refine rdy (fun K hK => ?_) ?_
        go_simp
        refine hK.out _ _ ?_ (fun hH2 => ?_)
        · (try dsimp only); (refine ⟨?_, ?_, ?_, ?_⟩ <;> repeat' (first | with_reducible assumption | with_reducible refine cell_dr ?_ | with_reducible refine cell_al ?_ | with_reducible refine cell_fr ?_ (by omega)))
        clear hK K hH
        have hH := hH2
        clear hH2
        (try simp only [Act.put, gy0, gy1, gy2])
        refine wpAnyH_ready (rs := [6]) (by kernel_rfl) (by simp) ?_
        refine rdy (fun K hK => ?_) ?_
        go_simp
        (first | (go_at_call 107; refine (AD.out w5 g0 A0 n0 c0 D0 m0 d0 F7.out A2 n2 c2 D2 m2 d2 R2.out).mono ?_; rintro e w6 ⟨A3, n3, c3, D3, m3, d3, rfl, r, b⟩; have y0_3 := cell_bx y0_2 b; have y1_3 := cell_bx y1_2 b; have y2_3 := cell_bx y2_2 b; have z1_3 := cell_bx z1_2 b; have q0_3 := cell_bx q0_2 b; have q1_3 := cell_bx q1_2 b; have q2_3 := cell_bx q2_2 b; have P8 := hid (P7.out.keep b); have F8 := hid (F7.out.keep b); have G8 := hid (G7.out.keep b); have NN := hid (P8.out.next r.v); obtain ⟨_, _, _, _, _, _, _, _, _, K3, _⟩ := P8.out; have f0 := Blk.free K3 0; have f1 := Blk.free K3 1; have f2 := Blk.free K3 2; clear b r K3) | (go_at_call 108; refine (VT.out w4 gf Af nf cf' Df mf df G6.out A1 n1 c1 D1 m1 d1 R1.out).mono ?_; rintro e w5 ⟨A2, n2, c2, D2, m2, d2, rfl, r, b⟩; have y0_2 := cell_bx y0_1 b; have y1_2 := cell_bx y1_1 b; have y2_2 := cell_bx y2_1 b; have z1_2 := cell_bx z1_1 b; have q0_2 := cell_bx q0_1 b; have q1_2 := cell_bx q1_1 b; have q2_2 := cell_bx q2_1 b; have P7 := hid (P6.out.keep b); have F7 := hid (F6.out.keep b); have G7 := hid (G6.out.keep b); have R2 := hid r; clear b r) | (go_at_call 74; refine (VF.out _).mono ?_; rintro e w4 ⟨A1, n1, c1, D1, m1, d1, rfl, r, b⟩; have y0_1 := cell_bx (cell_dr y0) b; have y1_1 := cell_bx (cell_dr y1) b; have y2_1 := cell_bx (cell_dr y2) b; have z1_1 := cell_bx (cell_dr z1) b; have q0_1 := cell_bx (cell_dr q0) b; have q1_1 := cell_bx (cell_dr q1) b; have q2_1 := cell_bx (cell_dr q2) b; have P6 := hid (P5.out.keep (bx_call (bx_drew (bx_refl _)) b)); have F6 := hid (F5.out.keep (bx_call (bx_drew (bx_refl _)) b)); have G6 := hid (G5.out.keep (bx_call (bx_drew (bx_refl _)) b)); have R1 := hid r; clear b r))
        (try go_wp2_with fail)
        refine hK.out _ _ ?_ (fun hH2 => ?_)
        · (try dsimp only); (refine ⟨?_, ?_, ?_, ?_⟩ <;> repeat' (first | with_reducible assumption | with_reducible refine cell_dr ?_ | with_reducible refine cell_al ?_ | with_reducible refine cell_fr ?_ (by omega)))
        clear hK K hH
        have hH := hH2
        clear hH2
        (try simp only [Act.put, gy0, gy1, gy2])
        refine wpAnyH_ready (rs := [7]) (by kernel_rfl) (by simp) ?_
        refine rdy (fun K hK => ?_) ?_
        go_simp
        refine hK.out _ _ ?_ (fun hH2 => ?_)
        · (try dsimp only); (refine ⟨?_, ?_, ?_, ?_⟩ <;> repeat' (first | with_reducible assumption | with_reducible refine cell_dr ?_ | with_reducible refine cell_al ?_ | with_reducible refine cell_fr ?_ (by omega)))
        clear hK K hH
        have hH := hH2
        clear hH2
        (try simp only [Act.put, gy0, gy1, gy2])
        refine wpAnyH_done (by kernel_rfl) ?_ _
        refine NoPanic.normal ?_
        clear hH
        rotate_left
        exact AllReadyH.nil
        exact AllReadyH.nil
        exact AllReadyH.nil
        exact AllReadyH.nil
        exact AllReadyH.nil
        all_goals
          go_wp2_with fail
          go_roundw
          case rel => exact ⟨j + 1, by omega, by go_num, by rw [NX.out]; exact NN⟩
          case measure => simp [intOf]; omega
    · obtain rfl : j = nt := by omega
      clear HT AT ST hge AQ
      have DD := hid (AccP.done hz.out.1 hz.out.2.1 FA)
      have y0 := Blk.cell KA 0
      have y1 := Blk.cell KA 1
      have y2 := Blk.cell KA 2
      have f0 := Blk.free hz.out.2.1 0
      have f1 := Blk.free hz.out.2.1 1
      have f2 := Blk.free hz.out.2.1 2
      have e0 := Blk.cell hz.out.2.1 0
      have e1 := Blk.cell hz.out.2.1 1
      have e2 := Blk.cell hz.out.2.1 2
      clear KA FA hz BR FR PR
      go_wp2_with fail
      exact bodyPost_ret (v := .agg #[.bool g0, .slice A0 n0 c0, .slice D0 m0 d0]) (by simp [results, Tryz.results66, go_sem, e0, e1, e2]) rfl DD.out
def Vs (w : World) (A : Option Addr) (n c : Nat) (lo up : Nat → Int) (op it : Nat → Bool) (co : Nat → Int) : Prop := n ≤ c ∧ c ≤ 9223372036854775807 ∧ (∀ j, j < n → (-9223372036854775808 ≤ lo j ∧ lo j ≤ 9223372036854775807) ∧ (-9223372036854775808 ≤ up j ∧ up j ≤ 9223372036854775807) ∧ -9223372036854775808 ≤ co j ∧ co j ≤ 9223372036854775807) ∧ (0 < n → ∃ b o, A = some ⟨b, o, none⟩ ∧ b < w.heap.size ∧ ∀ j, j < n → w.cell? ⟨b, o + j * 5, none⟩ = some (.int .i64 (lo j)) ∧ w.cell? ⟨b, o + j * 5 + 1, none⟩ = some (.int .i64 (up j)) ∧ w.cell? ⟨b, o + j * 5 + 2, none⟩ = some (.bool (op j)) ∧ w.cell? ⟨b, o + j * 5 + 3, none⟩ = some (.bool (it j)) ∧ w.cell? ⟨b, o + j * 5 + 4, none⟩ = some (.int .i64 (co j)))
theorem Vs.keep {w w' : World} {A : Option Addr} {n c : Nat} {lo up : Nat → Int} {op it : Nat → Bool} {co : Nat → Int} (h : Vs w A n c lo up op it co) (b : Below w.heap.size w w') : Vs w' A n c lo up op it co := by
  refine ⟨h.1, h.2.1, h.2.2.1, fun hn => ?_⟩
  obtain ⟨bb, o, hA, hlt, hc⟩ := h.2.2.2 hn
  exact ⟨bb, o, hA, Nat.lt_of_lt_of_le hlt b.size, fun j hj => ⟨cell_bx (hc j hj).1 b, cell_bx (hc j hj).2.1 b, cell_bx (hc j hj).2.2.1 b, cell_bx (hc j hj).2.2.2.1 b, cell_bx (hc j hj).2.2.2.2 b⟩⟩
end Go.Proofs.YtdbccidlnhjfhaaGreatDoor
