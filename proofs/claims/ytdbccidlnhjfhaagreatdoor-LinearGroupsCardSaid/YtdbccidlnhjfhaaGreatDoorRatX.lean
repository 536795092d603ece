/- RatX: RatV, RatC, RatS, RatD, RatE in one text. -/
import Derived.Test.YtdbccidlnhjfhaaGreatDoorRatB
import Derived.Deep.DeepCutAuto
namespace Go.Proofs.YtdbccidlnhjfhaaGreatDoor
open Go.RowKit
set_option maxRecDepth 100000
def FrV (w : World) (g : Bool) (A : Option Addr) (n c : Nat) (D : Option Addr) (m d k : Nat) (q : Rat) : Prop := ∃ xs ds, Rd w A n c xs ∧ n ≤ k ∧ Rd w D m d ds ∧ m ≤ k ∧ 1 ≤ k ∧ mkRat (iv g xs) (dv1 ds) = q
def FrL (w : World) (A : Option Addr) (n c : Nat) (D : Option Addr) (m d k : Nat) (q : Rat) : Prop := Rd w A n c (dg q.num.natAbs) ∧ n ≤ k ∧ Rd w D m d (dn q.den) ∧ m ≤ k ∧ 1 ≤ k
def RetQ (w : World) (q : Rat) (k : Nat) (e : Ending) (w' : World) : Prop := ∃ A n c D m d, e = .returned (.agg #[.bool (sg q.num), .slice A n c, .slice D m d]) ∧ FrL w' A n c D m d k q ∧ Below w.heap.size w w'
section
variable {w w' : World} {g : Bool} {A : Option Addr} {n c : Nat} {D : Option Addr} {m d k : Nat} {q : Rat}
theorem FrV.keep (h : FrV w g A n c D m d k q) (b : Below w.heap.size w w') : FrV w' g A n c D m d k q := by
  obtain ⟨xs, ds, h1, h2, h3, h4⟩ := h
  exact ⟨xs, ds, h1.keep b, h2, h3.keep b, h4⟩
theorem FrL.keep (h : FrL w A n c D m d k q) (b : Below w.heap.size w w') : FrL w' A n c D m d k q := ⟨h.1.keep b, h.2.1, h.2.2.1.keep b, h.2.2.2⟩
theorem FrL.v (h : FrL w A n c D m d k q) : FrV w (sg q.num) A n c D m d k q :=
  ⟨_, _, h.1, h.2.1, h.2.2.1, h.2.2.2.1, h.2.2.2.2, by rw [iv_sg, val_dn q.den_pos, Rat.mkRat_self]⟩
theorem FrV.up {j : Nat} (h : FrV w g A n c D m d j q) (hk : j ≤ k) : FrV w g A n c D m d k q := by
  obtain ⟨xs, ds, h1, h2, h3, h4, h5, h6⟩ := h
  exact ⟨xs, ds, h1, by omega, h3, by omega, by omega, h6⟩
theorem FrV.one (h : FrV w g A n c D m d k q) : 1 ≤ k := by
  obtain ⟨_, _, _, _, _, _, h5, _⟩ := h
  exact h5
theorem FrV.num (h : FrV w g A n c D m d k q) : ∃ xs, Rd w A n c xs ∧ n ≤ k ∧ sgnZ (iv g xs) = sgnQ q := by
  obtain ⟨xs, ds, h1, h2, h3, h4, h5, h6⟩ := h
  exact ⟨xs, h1, h2, by rw [← h6]; exact sgn_mkRat _ (dv1_pos ds)⟩
end
theorem dn_len_le (y : Nat) : (dn y).length ≤ (dg y).length := by
  unfold dn
  split
  · exact Nat.zero_le _
  · exact Nat.le_refl _
theorem retQ_of {w w' : World} {P : Int} {Q k : Nat} {q : Rat} {e : Ending} (h : RetRat w (lz P Q) (ly P Q) e w') (hQ : 0 < Q) (h1 : (dg P.natAbs).length ≤ k) (h2 : (dg Q).length ≤ k) (hk : 1 ≤ k) (hq : mkRat P Q = q) : RetQ w q k e w' := by
  subst hq
  rw [lz_rat hQ, ly_rat hQ] at h
  obtain ⟨A, n, c, D, m, d, he, r1, r2, b⟩ := h
  exact ⟨A, n, c, D, m, d, he, ⟨r1, by rw [← r1.1]; exact Nat.le_trans (dg_len_mono (num_mkRat_le P hQ)) h1, r2, by rw [← r2.1]; exact Nat.le_trans (dn_len_le _) (Nat.le_trans (dg_len_mono (den_mkRat_le P hQ)) h2), hk⟩, b⟩
theorem RetP.up {w w' : World} {p q : Int} {j k : Nat} {e : Ending} (h : RetP w p q j e w') (hk : j ≤ k) : RetP w p q k e w' := by
  obtain ⟨g1, A, n, c, xs, g2, D, m, d, ys, he, h1, h2, h3, h4, h5, h6, b⟩ := h
  exact ⟨g1, A, n, c, xs, g2, D, m, d, ys, he, h1, h2, by omega, h4, h5, by omega, b⟩
theorem lowest_q (steps : Value) (g0 : Bool) (A0 : Option Addr) (n0 c0 : Nat) (h0 : Bool) (D0 : Option Addr) (m0 d0 : Nat) (p q : Int) (k : Nat) (w : World) (hq : q ≠ 0) (hk : k ≤ 1099511627775) (h1 : 1 ≤ k) (lp : (dg p.natAbs).length ≤ k) (lq : (dg q.natAbs).length ≤ k)
    (FO : ∀ W : World, Below w.heap.size w W → Calls Tryz.prog 111 #[.agg #[.bool g0, .slice A0 n0 c0, .bool h0, .slice D0 m0 d0], steps] W (RetP W p q k)) :
    Calls Tryz.prog 140 #[.agg #[.bool g0, .slice A0 n0 c0, .bool h0, .slice D0 m0 d0], steps] w (RetQ w (pv p q) k) :=
  (lowest_of steps g0 A0 n0 c0 h0 D0 m0 d0 p q k w hq hk FO).mono fun _ _ h => retQ_of h (by omega) (by rw [np_abs]; exact lp) lq h1 pv_np
theorem step_neg {w : World} {p q : Int} {k : Nat} (hk : k ≤ 1099511627776) : PStep w 113 [] p q k (-p) q k := fun W g A n c xs g2 D m d ys _ r1 e1 l1 r2 e2 l2 => by
  have := negative_any g A n c xs g2 D m d ys k W r1 l1 r2 l2 hk
  rw [e1, e2] at this
  exact this
section
variable {w : World} {p q p1 q1 : Int} {k b : Nat} {h1 : Bool} {B : Option Addr} {n2 c2 : Nat} {us : List Nat} {h2 : Bool} {E : Option Addr} {m2 d2 : Nat} {vs : List Nat}
theorem step_plus (rb : Rd w B n2 c2 us) (e1 : iv h1 us = p1) (hn2 : n2 ≤ k) (re : Rd w E m2 d2 vs) (e2 : iv h2 vs = q1) (hm2 : m2 ≤ k) (kq : Blk w b [.bool h1, .slice B n2 c2, .bool h2, .slice E m2 d2] 130) (hk : k ≤ 549755813886) :
    PStep w 142 [.pointer (some ⟨b, 0, none⟩)] p q k (pp p q p1 q1) (pq q q1) (k + k + 1) := fun W g A n c xs g2 D m d ys hb r1 f1 l1 r2 f2 l2 => by
  unfold pp pq
  by_cases e : q = q1
  · rw [if_pos e, if_pos e]
    have := plus1_same g A n c xs g2 D m d ys h1 B n2 c2 us h2 E m2 d2 vs b k W r1 l1 r2 l2 (rb.keep hb) hn2 (re.keep hb) (kq.keep hb) (by omega) (by rw [f2, e2, e])
    rw [f1, f2, e1] at this
    exact this.mono fun _ _ h => h.up (by omega)
  · rw [if_neg e, if_neg e]
    have := plus1_diff g A n c xs g2 D m d ys h1 B n2 c2 us h2 E m2 d2 vs b k W r1 l1 r2 l2 (rb.keep hb) hn2 (re.keep hb) hm2 (kq.keep hb) hk (by rw [f2, e2]; exact e)
    rw [f1, f2, e1, e2] at this
    exact this
theorem step_times (rb : Rd w B n2 c2 us) (e1 : iv h1 us = p1) (hn2 : n2 ≤ k) (re : Rd w E m2 d2 vs) (e2 : iv h2 vs = q1) (hm2 : m2 ≤ k) (kq : Blk w b [.bool h1, .slice B n2 c2, .bool h2, .slice E m2 d2] 130) (hk : k ≤ 549755813886) :
    PStep w 160 [.pointer (some ⟨b, 0, none⟩)] p q k (p * p1) (q * q1) (k + k) := fun W g A n c xs g2 D m d ys hb r1 f1 l1 r2 f2 l2 => by
  have := times1_any g A n c xs g2 D m d ys h1 B n2 c2 us h2 E m2 d2 vs b k W r1 l1 r2 l2 (rb.keep hb) hn2 (re.keep hb) hm2 (kq.keep hb) (by omega)
  rw [f1, f2, e1, e2] at this
  exact this
end
theorem iv_len {w : World} {g : Bool} {A : Option Addr} {n c k : Nat} {xs : List Nat} {p : Int} (h : Rd w A n c xs) (e : iv g xs = p) (hn : n ≤ k) : (dg p.natAbs).length ≤ k := by
  rw [← e]
  exact Nat.le_trans (dg_abs_len (g := g) h.2.2.2.1 h.1) hn
theorem mul_ln {x y : Int} {k : Nat} (hx : (dg x.natAbs).length ≤ k) (hy : (dg y.natAbs).length ≤ k) : (dg (x * y).natAbs).length ≤ k + k := by
  rw [Int.natAbs_mul]
  exact dg_mul_len hx hy
theorem pp_len {p q p1 q1 : Int} {k : Nat} (a : (dg p.natAbs).length ≤ k) (b : (dg q.natAbs).length ≤ k) (a1 : (dg p1.natAbs).length ≤ k) (b1 : (dg q1.natAbs).length ≤ k) : (dg (pp p q p1 q1).natAbs).length ≤ k + k + 1 := by
  unfold pp
  split
  · exact Nat.le_trans (sum_len a a1) (by omega)
  · exact sum_len (mul_ln a b1) (mul_ln a1 b)
theorem pq_len {q q1 : Int} {k : Nat} (b : (dg q.natAbs).length ≤ k) (b1 : (dg q1.natAbs).length ≤ k) : (dg (pq q q1).natAbs).length ≤ k + k + 1 := by
  unfold pq
  split
  · omega
  · exact Nat.le_trans (mul_ln b b1) (by omega)
section
variable (sb : Nat) (g1 : Bool) (A : Option Addr) (n c : Nat) (xs : List Nat) (g2 : Bool) (D : Option Addr) (m d : Nat) (ys : List Nat) (p0 q0 : Int) (k : Nat) (w : World) (h : Rd w A n c xs) (hp : iv g1 xs = p0) (hn : n ≤ k) (q : Rd w D m d ys) (hq : iv g2 ys = q0) (hm : m ≤ k) (h0 : q0 ≠ 0) (h1 : 1 ≤ k) (hk : k ≤ 274877906943)
include h hp hn q hq hm h0 h1 hk
variable (b : Nat) (e1 : Bool) (B : Option Addr) (n2 c2 : Nat) (us : List Nat) (e2 : Bool) (E : Option Addr) (m2 d2 : Nat) (vs : List Nat) (p1 q1 : Int) (rb : Rd w B n2 c2 us) (f1 : iv e1 us = p1) (hn2 : n2 ≤ k) (re : Rd w E m2 d2 vs) (f2 : iv e2 vs = q1) (hm2 : m2 ≤ k) (i0 : q1 ≠ 0) (kq : Blk w b [.bool e1, .slice B n2 c2, .bool e2, .slice E m2 d2] 130)
include rb f1 hn2 re f2 hm2 i0 kq
theorem lowest_qplus (ks : Blk w sb [.func (.func 142) #[] #[.pointer (some ⟨b, 0, none⟩)]] 134) : Calls Tryz.prog 140 #[.agg #[.bool g1, .slice A n c, .bool g2, .slice D m d], .slice (some ⟨sb, 0, none⟩) 1 1] w (RetQ w (pv p0 q0 + pv p1 q1) (k + k + 1)) := by
  rw [← pp_val h0 i0]
  exact lowest_q _ g1 A n c g2 D m d _ _ (k + k + 1) w (pq_ne h0 i0) (by omega) (by omega) (pp_len (iv_len h hp hn) (iv_len q hq hm) (iv_len rb f1 hn2) (iv_len re f2 hm2)) (pq_len (iv_len q hq hm) (iv_len re f2 hm2)) fun W hw => follow_plus b sb g1 A n c xs g2 D m d ys p0 q0 k _ _ _ W (h.keep hw) hp hn (q.keep hw) hq hm (ks.keep hw) (step_plus (rb.keep hw) f1 hn2 (re.keep hw) f2 hm2 (kq.keep hw) (by omega))
theorem lowest_qtimes (ks : Blk w sb [.func (.func 160) #[] #[.pointer (some ⟨b, 0, none⟩)]] 134) : Calls Tryz.prog 140 #[.agg #[.bool g1, .slice A n c, .bool g2, .slice D m d], .slice (some ⟨sb, 0, none⟩) 1 1] w (RetQ w (pv p0 q0 * pv p1 q1) (k + k)) := by
  rw [← pv_mul h0 i0]
  exact lowest_q _ g1 A n c g2 D m d _ _ (k + k) w (Int.mul_ne_zero h0 i0) (by omega) (by omega) (mul_ln (iv_len h hp hn) (iv_len rb f1 hn2)) (mul_ln (iv_len q hq hm) (iv_len re f2 hm2)) fun W hw => follow_times b sb g1 A n c xs g2 D m d ys p0 q0 k _ _ _ W (h.keep hw) hp hn (q.keep hw) hq hm (ks.keep hw) (step_times (rb.keep hw) f1 hn2 (re.keep hw) f2 hm2 (kq.keep hw) (by omega))
end
theorem follow_qnegplus (sb : Nat) (g1 : Bool) (A : Option Addr) (n c : Nat) (xs : List Nat) (g2 : Bool) (D : Option Addr) (m d : Nat) (ys : List Nat) (p0 q0 : Int) (k : Nat) (w : World) (h : Rd w A n c xs) (hp : iv g1 xs = p0) (hn : n ≤ k) (q : Rd w D m d ys) (hq : iv g2 ys = q0) (hm : m ≤ k) (hk : k ≤ 274877906943) (b : Nat) (e1 : Bool) (B : Option Addr) (n2 c2 : Nat) (us : List Nat) (e2 : Bool) (E : Option Addr) (m2 d2 : Nat) (vs : List Nat) (p1 q1 : Int) (rb : Rd w B n2 c2 us) (f1 : iv e1 us = p1) (hn2 : n2 ≤ k) (re : Rd w E m2 d2 vs) (f2 : iv e2 vs = q1) (hm2 : m2 ≤ k) (kq : Blk w b [.bool e1, .slice B n2 c2, .bool e2, .slice E m2 d2] 130) (ks : Blk w sb [.func (.func 113) #[] #[], .func (.func 142) #[] #[.pointer (some ⟨b, 0, none⟩)]] 134) : Calls Tryz.prog 111 #[.agg #[.bool g1, .slice A n c, .bool g2, .slice D m d], .slice (some ⟨sb, 0, none⟩) 2 2] w (RetP w (pp (-p0) q0 p1 q1) (pq q0 q1) (k + k + 1)) :=
  follow_neg_plus b sb g1 A n c xs g2 D m d ys p0 q0 k _ _ k _ _ _ w h hp hn q hq hm ks (step_neg (by omega)) (step_plus rb f1 hn2 re f2 hm2 kq (by omega))
theorem retq_end {w w2 : World} {q : Rat} {A A0 D D0 : Option Addr} {n c n0 c0 m d m0 d0 g k : Nat} {b0 : Bool} (h : FrL w2 A n c D m d k q) (K : Blk w2 g [.bool b0, .slice A0 n0 c0, .slice D0 m0 d0] 41) (hb : Below w.heap.size w w2) (hg : w.heap.size ≤ g) :
    RetQ w q k (.returned (.agg #[.bool (sg q.num), .slice A n c, .slice D m d])) (((w2.setCell ⟨g, 0, none⟩ (.bool (sg q.num))).setCell ⟨g, 1, none⟩ (.slice A n c)).setCell ⟨g, 2, none⟩ (.slice D m d)) :=
  ⟨A, n, c, D, m, d, rfl, ⟨rd_cell_far3 h.1 K _ _ _, h.2.1, rd_cell_far3 h.2.2.1 K _ _ _, h.2.2.2⟩, bx_set (bx_set (bx_set hb hg) hg) hg⟩
set_option maxHeartbeats 8000000 in
theorem vadd (ga : Bool) (Aa : Option Addr) (na ca : Nat) (Da : Option Addr) (ma da : Nat) (gb : Bool) (Ab : Option Addr) (nb cb : Nat) (Db : Option Addr) (mb db : Nat) (k : Nat) (p q : Rat) (w : World) (ha : FrV w ga Aa na ca Da ma da k p) (hb : FrV w gb Ab nb cb Db mb db k q) (hk : k ≤ 274877906943) :
    Calls Tryz.prog 107 #[.agg #[.bool ga, .slice Aa na ca, .slice Da ma da], .agg #[.bool gb, .slice Ab nb cb, .slice Db mb db]] w (RetQ w (p + q) (k + k + 1)) := by
  obtain ⟨xa, dsa, qa, hna, ka, hma, h1, rfl⟩ := ha
  obtain ⟨xb, dsb, qb, hnb, kb, hmb, _, rfl⟩ := hb
  have P0 := hid (PreQ2.start w ga (.slice Aa na ca) (.slice Da ma da) gb (.slice Ab nb cb) (.slice Db mb db))
  obtain ⟨V0, hW⟩ : ∃ W, W = ((w.alloc (.cells #[.bool ga, .slice Aa na ca, .slice Da ma da] 41)).alloc (.cells #[.bool gb, .slice Ab nb cb, .slice Db mb db] 41)).alloc (.cells #[.bool false, .slice none 0 0, .slice none 0 0] 41) := ⟨_, rfl⟩
  rw [← hW] at P0
  have PA := hid (fun (W : World) (p : PreQ2 w ga (.slice Aa na ca) (.slice Da ma da) gb (.slice Ab nb cb) (.slice Db mb db) W) => parts_any ga Aa na ca xa Da ma da dsa k W (qa.keep p.bel) hna (ka.keep p.bel) hma h1)
  have TA := hid (fun (W : World) (p : PreQ2 w ga (.slice Aa na ca) (.slice Da ma da) gb (.slice Ab nb cb) (.slice Db mb db) W) => plus_any gb Ab nb cb xb Db mb db dsb k W (qb.keep p.bel) hnb (kb.keep p.bel) hmb h1)
  have hqa : ((dv1 dsa : Nat) : Int) ≠ 0 := by have := dv1_pos dsa; omega
  have hqb : ((dv1 dsb : Nat) : Int) ≠ 0 := by have := dv1_pos dsb; omega
  rw [pv_mk, pv_mk]
  obtain ⟨pa, hpa⟩ : ∃ p, p = iv ga xa := ⟨_, rfl⟩
  obtain ⟨ya, hya⟩ : ∃ y : Int, y = (dv1 dsa : Int) := ⟨_, rfl⟩
  obtain ⟨pb, hpb⟩ : ∃ p, p = iv gb xb := ⟨_, rfl⟩
  obtain ⟨yb, hyb⟩ : ∃ y : Int, y = (dv1 dsb : Int) := ⟨_, rfl⟩
  rw [← hpa, ← hya] at PA
  rw [← hpb, ← hyb] at TA
  rw [← hpa, ← hya, ← hpb, ← hyb]
  rw [← hya] at hqa
  rw [← hyb] at hqb
  have LW := hid (fun W sb g1 A1 n1 c1 xs1 g2 D1 m1 d1 ys1 r1 e1 l1 r2 e2 l2 bq g3 A3 n3 c3 xs3 g4 D3 m3 d3 ys3 r3 e3 l3 r4 e4 l4 kq ks => lowest_qplus sb g1 A1 n1 c1 xs1 g2 D1 m1 d1 ys1 pa ya k W r1 e1 l1 r2 e2 l2 hqa h1 hk bq g3 A3 n3 c3 xs3 g4 D3 m3 d3 ys3 pb yb r3 e3 l3 r4 e4 l4 hqb kq ks)
  obtain ⟨V, hV⟩ : ∃ V, V = pv pa ya + pv pb yb := ⟨_, rfl⟩
  rw [← hV] at LW ⊢
  clear qa ka qb kb hpa hya hpb hyb hV
  go_enter Tryz.func107, Tryz.ntmps107
  go_upto_region 1 with fail
  rw [← hW]
  clear hW
  obtain ⟨a0, a1, a2⟩ := P0.out.cells1
  obtain ⟨b0, b1, b2⟩ := P0.out.cells2
  go_region_held3 (fun W => W.cell? ⟨w.heap.size, 0, none⟩ = some (.bool ga) ∧ W.cell? ⟨w.heap.size, 1, none⟩ = some (.slice Aa na ca) ∧ W.cell? ⟨w.heap.size, 2, none⟩ = some (.slice Da ma da) ∧ W.cell? ⟨w.heap.size + 1, 0, none⟩ = some (.bool gb) ∧ W.cell? ⟨w.heap.size + 1, 1, none⟩ = some (.slice Ab nb cb) ∧ W.cell? ⟨w.heap.size + 1, 2, none⟩ = some (.slice Db mb db))
    (refine ⟨?_, ?_, ?_, ?_, ?_, ?_⟩ <;> repeat' (first | with_reducible assumption | with_reducible refine cell_dr ?_ | with_reducible refine cell_al ?_ | with_reducible refine cell_fr ?_ (by omega)))
    (first
      | (go_at_call 140; have bs := bx_alloc (bx_refl w2) (.cells #[.func (.func 142) #[] #[.pointer (some ⟨bq, 0, none⟩)]] 134); refine (LW.out _ w2.heap.size g1 A1 n1 c1 xs1 g2 D1 m1 d1 ys1 (R3.out.keep bs) e1 l1 (R4.out.keep bs) e2 l2 bq g3 A3 n3 c3 xs3 g4 D3 m3 d3 ys3 (R5.out.keep bs) e3 l3 (R6.out.keep bs) e4 l4 (KQ.out.keep bs) (Blk.new w2 [.func (.func 142) #[] #[.pointer (some ⟨bq, 0, none⟩)]] _)).mono ?_; rintro e w3 ⟨A5, n5, c5, D5, m5, d5, rfl, r, b⟩; have t3a0 := cell_bx (cell_al t2a0) b; have t3a1 := cell_bx (cell_al t2a1) b; have t3a2 := cell_bx (cell_al t2a2) b; have t3b0 := cell_bx (cell_al t2b0) b; have t3b1 := cell_bx (cell_al t2b1) b; have t3b2 := cell_bx (cell_al t2b2) b; have P3 := hid (P2.out.keep (bx_call bs b)); have EE := hid (retq_end r P3.out.res P3.out.bel (by omega)); obtain ⟨x0, x1, x2, x3, x4, x5⟩ := P3.out.rcells; clear b r bs)
      | (go_at_call 114; refine (TA.out w1 P1.out).mono ?_; rintro e w2 ⟨bq, g3, A3, n3, c3, xs3, g4, D3, m3, d3, ys3, rfl, kq, r3, e3, l3, r4, e4, l4, b⟩; have t2a0 := cell_bx (t1a0) b; have t2a1 := cell_bx (t1a1) b; have t2a2 := cell_bx (t1a2) b; have t2b0 := cell_bx (t1b0) b; have t2b1 := cell_bx (t1b1) b; have t2b2 := cell_bx (t1b2) b; have P2 := hid (P1.out.keep b); have R3 := hid (R1.out.keep b); have R4 := hid (R2.out.keep b); have KQ := hid kq; have R5 := hid r3; have R6 := hid r4; clear b kq r3 r4)
      | (go_at_call 112; refine (PA.out _ (P0.out.keep (bx_drew (bx_refl _)))).mono ?_; rintro e w1 ⟨g1, A1, n1, c1, xs1, g2, D1, m1, d1, ys1, rfl, r1, e1, l1, r2, e2, l2, b⟩; have t1a0 := cell_bx (cell_dr a0) b; have t1a1 := cell_bx (cell_dr a1) b; have t1a2 := cell_bx (cell_dr a2) b; have t1b0 := cell_bx (cell_dr b0) b; have t1b1 := cell_bx (cell_dr b1) b; have t1b2 := cell_bx (cell_dr b2) b; have P1 := hid (P0.out.keep (bx_call (bx_drew (bx_refl _)) b)); have R1 := hid r1; have R2 := hid r2; clear b r1 r2))
  go_wp2_with fail
  exact bodyPost_ret (v := .agg #[.bool (sg V.num), .slice A5 n5 c5, .slice D5 m5 d5]) (by simp [results, Tryz.results107, go_sem, x0, x1, x2]) rfl EE.out
set_option maxHeartbeats 8000000 in
theorem vmul (ga : Bool) (Aa : Option Addr) (na ca : Nat) (Da : Option Addr) (ma da : Nat) (gb : Bool) (Ab : Option Addr) (nb cb : Nat) (Db : Option Addr) (mb db : Nat) (k : Nat) (p q : Rat) (w : World) (ha : FrV w ga Aa na ca Da ma da k p) (hb : FrV w gb Ab nb cb Db mb db k q) (hk : k ≤ 274877906943) :
    Calls Tryz.prog 108 #[.agg #[.bool ga, .slice Aa na ca, .slice Da ma da], .agg #[.bool gb, .slice Ab nb cb, .slice Db mb db]] w (RetQ w (p * q) (k + k)) := by
  obtain ⟨xa, dsa, qa, hna, ka, hma, h1, rfl⟩ := ha
  obtain ⟨xb, dsb, qb, hnb, kb, hmb, _, rfl⟩ := hb
  have P0 := hid (PreQ2.start w ga (.slice Aa na ca) (.slice Da ma da) gb (.slice Ab nb cb) (.slice Db mb db))
  obtain ⟨V0, hW⟩ : ∃ W, W = ((w.alloc (.cells #[.bool ga, .slice Aa na ca, .slice Da ma da] 41)).alloc (.cells #[.bool gb, .slice Ab nb cb, .slice Db mb db] 41)).alloc (.cells #[.bool false, .slice none 0 0, .slice none 0 0] 41) := ⟨_, rfl⟩
  rw [← hW] at P0
  have PA := hid (fun (W : World) (p : PreQ2 w ga (.slice Aa na ca) (.slice Da ma da) gb (.slice Ab nb cb) (.slice Db mb db) W) => parts_any ga Aa na ca xa Da ma da dsa k W (qa.keep p.bel) hna (ka.keep p.bel) hma h1)
  have TA := hid (fun (W : World) (p : PreQ2 w ga (.slice Aa na ca) (.slice Da ma da) gb (.slice Ab nb cb) (.slice Db mb db) W) => times_any gb Ab nb cb xb Db mb db dsb k W (qb.keep p.bel) hnb (kb.keep p.bel) hmb h1)
  have hqa : ((dv1 dsa : Nat) : Int) ≠ 0 := by have := dv1_pos dsa; omega
  have hqb : ((dv1 dsb : Nat) : Int) ≠ 0 := by have := dv1_pos dsb; omega
  rw [pv_mk, pv_mk]
  obtain ⟨pa, hpa⟩ : ∃ p, p = iv ga xa := ⟨_, rfl⟩
  obtain ⟨ya, hya⟩ : ∃ y : Int, y = (dv1 dsa : Int) := ⟨_, rfl⟩
  obtain ⟨pb, hpb⟩ : ∃ p, p = iv gb xb := ⟨_, rfl⟩
  obtain ⟨yb, hyb⟩ : ∃ y : Int, y = (dv1 dsb : Int) := ⟨_, rfl⟩
  rw [← hpa, ← hya] at PA
  rw [← hpb, ← hyb] at TA
  rw [← hpa, ← hya, ← hpb, ← hyb]
  rw [← hya] at hqa
  rw [← hyb] at hqb
  have LW := hid (fun W sb g1 A1 n1 c1 xs1 g2 D1 m1 d1 ys1 r1 e1 l1 r2 e2 l2 bq g3 A3 n3 c3 xs3 g4 D3 m3 d3 ys3 r3 e3 l3 r4 e4 l4 kq ks => lowest_qtimes sb g1 A1 n1 c1 xs1 g2 D1 m1 d1 ys1 pa ya k W r1 e1 l1 r2 e2 l2 hqa h1 hk bq g3 A3 n3 c3 xs3 g4 D3 m3 d3 ys3 pb yb r3 e3 l3 r4 e4 l4 hqb kq ks)
  obtain ⟨V, hV⟩ : ∃ V, V = pv pa ya * pv pb yb := ⟨_, rfl⟩
  rw [← hV] at LW ⊢
  clear qa ka qb kb hpa hya hpb hyb hV
  go_enter Tryz.func108, Tryz.ntmps108
  go_upto_region 1 with fail
  rw [← hW]
  clear hW
  obtain ⟨a0, a1, a2⟩ := P0.out.cells1
  obtain ⟨b0, b1, b2⟩ := P0.out.cells2
  go_region_held3 (fun W => W.cell? ⟨w.heap.size, 0, none⟩ = some (.bool ga) ∧ W.cell? ⟨w.heap.size, 1, none⟩ = some (.slice Aa na ca) ∧ W.cell? ⟨w.heap.size, 2, none⟩ = some (.slice Da ma da) ∧ W.cell? ⟨w.heap.size + 1, 0, none⟩ = some (.bool gb) ∧ W.cell? ⟨w.heap.size + 1, 1, none⟩ = some (.slice Ab nb cb) ∧ W.cell? ⟨w.heap.size + 1, 2, none⟩ = some (.slice Db mb db))
    (refine ⟨?_, ?_, ?_, ?_, ?_, ?_⟩ <;> repeat' (first | with_reducible assumption | with_reducible refine cell_dr ?_ | with_reducible refine cell_al ?_ | with_reducible refine cell_fr ?_ (by omega)))
    (first
      | (go_at_call 140; have bs := bx_alloc (bx_refl w2) (.cells #[.func (.func 160) #[] #[.pointer (some ⟨bq, 0, none⟩)]] 134); refine (LW.out _ w2.heap.size g1 A1 n1 c1 xs1 g2 D1 m1 d1 ys1 (R3.out.keep bs) e1 l1 (R4.out.keep bs) e2 l2 bq g3 A3 n3 c3 xs3 g4 D3 m3 d3 ys3 (R5.out.keep bs) e3 l3 (R6.out.keep bs) e4 l4 (KQ.out.keep bs) (Blk.new w2 [.func (.func 160) #[] #[.pointer (some ⟨bq, 0, none⟩)]] _)).mono ?_; rintro e w3 ⟨A5, n5, c5, D5, m5, d5, rfl, r, b⟩; have t3a0 := cell_bx (cell_al t2a0) b; have t3a1 := cell_bx (cell_al t2a1) b; have t3a2 := cell_bx (cell_al t2a2) b; have t3b0 := cell_bx (cell_al t2b0) b; have t3b1 := cell_bx (cell_al t2b1) b; have t3b2 := cell_bx (cell_al t2b2) b; have P3 := hid (P2.out.keep (bx_call bs b)); have EE := hid (retq_end r P3.out.res P3.out.bel (by omega)); obtain ⟨x0, x1, x2, x3, x4, x5⟩ := P3.out.rcells; clear b r bs)
      | (go_at_call 141; refine (TA.out w1 P1.out).mono ?_; rintro e w2 ⟨bq, g3, A3, n3, c3, xs3, g4, D3, m3, d3, ys3, rfl, kq, r3, e3, l3, r4, e4, l4, b⟩; have t2a0 := cell_bx (t1a0) b; have t2a1 := cell_bx (t1a1) b; have t2a2 := cell_bx (t1a2) b; have t2b0 := cell_bx (t1b0) b; have t2b1 := cell_bx (t1b1) b; have t2b2 := cell_bx (t1b2) b; have P2 := hid (P1.out.keep b); have R3 := hid (R1.out.keep b); have R4 := hid (R2.out.keep b); have KQ := hid kq; have R5 := hid r3; have R6 := hid r4; clear b kq r3 r4)
      | (go_at_call 112; refine (PA.out _ (P0.out.keep (bx_drew (bx_refl _)))).mono ?_; rintro e w1 ⟨g1, A1, n1, c1, xs1, g2, D1, m1, d1, ys1, rfl, r1, e1, l1, r2, e2, l2, b⟩; have t1a0 := cell_bx (cell_dr a0) b; have t1a1 := cell_bx (cell_dr a1) b; have t1a2 := cell_bx (cell_dr a2) b; have t1b0 := cell_bx (cell_dr b0) b; have t1b1 := cell_bx (cell_dr b1) b; have t1b2 := cell_bx (cell_dr b2) b; have P1 := hid (P0.out.keep (bx_call (bx_drew (bx_refl _)) b)); have R1 := hid r1; have R2 := hid r2; clear b r1 r2))
  go_wp2_with fail
  exact bodyPost_ret (v := .agg #[.bool (sg V.num), .slice A5 n5 c5, .slice D5 m5 d5]) (by simp [results, Tryz.results108, go_sem, x0, x1, x2]) rfl EE.out
theorem iv_ln {g : Bool} {xs : List Nat} {n k : Nat} {w : World} {A : Option Addr} {c : Nat} (h : Rd w A n c xs) (hn : n ≤ k) : (dg (iv g xs).natAbs).length ≤ k := Nat.le_trans (dg_abs_len (g := g) h.2.2.2.1 h.1) hn
theorem retq_int {w w' : World} {z : Int} {k : Nat} {e : Ending} (h : RetRat w z 1 e w') (hz : (dg z.natAbs).length ≤ k) (hk : 1 ≤ k) : RetQ w (z : Rat) k e w' := by
  obtain ⟨A, n, c, D, m, d, he, r1, r2, b⟩ := h
  exact ⟨A, n, c, D, m, d, he, ⟨r1, by rw [← r1.1]; exact hz, r2, by rw [← r2.1]; exact Nat.zero_le _, hk⟩, b⟩
theorem len_i64 {z : Int} (h1 : -9223372036854775808 ≤ z) (h2 : z ≤ 9223372036854775807) : (dg z.natAbs).length ≤ 2 := dg_len_le (by omega)
theorem vrfrom (z : Int) (w : World) (h1 : -9223372036854775808 ≤ z) (h2 : z ≤ 9223372036854775807) :
    Calls Tryz.prog 43 #[.int .i64 z] w (RetQ w (z : Rat) 2) := (qrfrom_any z w h1 h2).mono fun _ _ h => retq_int h (len_i64 h1 h2) (by omega)
theorem vfrom (z : Int) (w : World) (h1 : -9223372036854775808 ≤ z) (h2 : z ≤ 9223372036854775807) :
    Calls Tryz.prog 74 #[.int .i64 z] w (RetQ w (z : Rat) 2) := (qfrom_any z w h1 h2).mono fun _ _ h => retq_int h (len_i64 h1 h2) (by omega)
theorem vsign (g : Bool) (A : Option Addr) (n c : Nat) (D : Option Addr) (m d k : Nat) (q : Rat) (w : World) (h : FrV w g A n c D m d k q) :
    Calls Tryz.prog 81 #[.agg #[.bool g, .slice A n c, .slice D m d]] w (RetI w (sgnQ q)) := by
  obtain ⟨xs, h1, _, h3⟩ := h.num
  rw [← h3]
  exact qsign_any g A n c xs D m d w h1
theorem dn_inj {y z : Nat} (hy : 0 < y) (hz : 0 < z) (h : dn y = dn z) : y = z := by
  rw [← val_dn hy, ← val_dn hz, h]
theorem vsame {A : Option Addr} {n c : Nat} {D : Option Addr} {m d k : Nat} {B : Option Addr} {n2 c2 : Nat} {E : Option Addr} {m2 d2 k2 : Nat} {p q : Rat} {w : World} (h : FrL w A n c D m d k p) (h2 : FrL w B n2 c2 E m2 d2 k2 q) :
    Calls Tryz.prog 18 #[.agg #[.bool (sg p.num), .slice A n c, .slice D m d], .agg #[.bool (sg q.num), .slice B n2 c2, .slice E m2 d2]] w (RetB w (decide (p = q))) := by
  have t := qrsame_any (sg p.num) A n c _ D m d _ (sg q.num) B n2 c2 _ E m2 d2 _ w h.1 h.2.2.1 h2.1 h2.2.2.1
  have e : ((decide (sg p.num = sg q.num) && decide (dg p.num.natAbs = dg q.num.natAbs)) && decide (dn p.den = dn q.den)) = decide (p = q) := by
    by_cases he : p = q
    · subst he
      simp
    · rw [decide_eq_false he]
      by_cases e1 : sg p.num = sg q.num
      · by_cases e2 : dg p.num.natAbs = dg q.num.natAbs
        · by_cases e3 : dn p.den = dn q.den
          · exfalso
            have e4 := dg_inj e2
            have e5 := dn_inj p.den_pos q.den_pos e3
            unfold sg at e1
            have e6 : p.num < 0 ↔ q.num < 0 := by simpa using e1
            exact he (Rat.ext (by omega) e5)
          · rw [decide_eq_false e3, Bool.and_false]
        · rw [decide_eq_false e2, Bool.and_false, Bool.false_and]
      · rw [decide_eq_false e1, Bool.false_and, Bool.false_and]
  rwa [e] at t
theorem mk_cells (w : World) (l : List Value) (t : TypeId) : ∃ W p, W = w.alloc (.cells l.toArray t) ∧ p = w.heap.size ∧ Below w.heap.size w W ∧ Blk W p l t := ⟨_, _, rfl, rfl, bx_alloc (bx_refl w) _, Blk.new w l t⟩
theorem pair_made {w W : World} {p : Nat} {g1 g2 b0 b1 : Bool} {A A0 D D0 : Option Addr} {n c n0 c0 m d m0 d0 : Nat} {xs : List Nat} (hB : Below w.heap.size w W) (hp : w.heap.size ≤ p)
    (bp : Blk W p [.bool b0, .slice A0 n0 c0, .bool b1, .slice D0 m0 d0] 130) (r : Rd W A n c xs) :
    Blk ((((W.setCell ⟨p, 0, none⟩ (.bool g1)).setCell ⟨p, 1, none⟩ (.slice A n c)).setCell ⟨p, 2, none⟩ (.bool g2)).setCell ⟨p, 3, none⟩ (.slice D m d)) p [.bool g1, .slice A n c, .bool g2, .slice D m d] 130 ∧ Rd ((((W.setCell ⟨p, 0, none⟩ (.bool g1)).setCell ⟨p, 1, none⟩ (.slice A n c)).setCell ⟨p, 2, none⟩ (.bool g2)).setCell ⟨p, 3, none⟩ (.slice D m d)) A n c xs ∧
    Below w.heap.size w ((((W.setCell ⟨p, 0, none⟩ (.bool g1)).setCell ⟨p, 1, none⟩ (.slice A n c)).setCell ⟨p, 2, none⟩ (.bool g2)).setCell ⟨p, 3, none⟩ (.slice D m d)) :=
  ⟨(((bp.set_ 0 _).set_ 1 _).set_ 2 _).set_ 3 _, rd_cell_far4 r bp _ _ _ _, bx_set (bx_set (bx_set (bx_set hB hp) hp) hp) hp⟩
theorem far_pair {W : World} {p t o q B : Nat} (bp : Blk W p [.bool false, .slice none 0 0, .bool false, .slice none 0 0] t) (hp : B ≤ p) (ho : o < B) (hq : q < B) :
    (W.cell? ⟨p, 0, none⟩ = some (.bool false) ∧ W.cell? ⟨p, 1, none⟩ = some (.slice none 0 0) ∧ W.cell? ⟨p, 2, none⟩ = some (.bool false) ∧ W.cell? ⟨p, 3, none⟩ = some (.slice none 0 0) ∧ W.frozen? ⟨p, 0, none⟩ = false ∧ W.frozen? ⟨p, 1, none⟩ = false ∧ W.frozen? ⟨p, 2, none⟩ = false ∧ W.frozen? ⟨p, 3, none⟩ = false) ∧ Hid (o ≠ p ∧ q ≠ p) :=
  ⟨⟨Blk.cell bp 0, Blk.cell bp 1, Blk.cell bp 2, Blk.cell bp 3, Blk.free bp 0, Blk.free bp 1, Blk.free bp 2, Blk.free bp 3⟩, hid ⟨by omega, by omega⟩⟩
theorem sgn_pv {p q : Int} (h : 0 < q) : sgnZ p = sgnQ (pv p q) := by
  have e : q = ((q.natAbs : Nat) : Int) := by omega
  rw [e, ← pv_mk]
  exact sgn_mkRat p (by omega)
theorem pq_pos {q q1 : Int} (h : 0 < q) (h1 : 0 < q1) : 0 < pq q q1 := by
  unfold pq
  split
  · exact h
  · exact Int.mul_pos h h1
structure PreQD (w : World) (g1 : Bool) (s1 u1 : Value) (g2 : Bool) (s2 u2 : Value) (W : World) : Prop where
  arg1 : Blk W w.heap.size [.bool g1, s1, u1] 41
  arg2 : Blk W (w.heap.size + 1) [.bool g2, s2, u2] 41
  bel : Below w.heap.size w W
theorem PreQD.start (w : World) (g1 : Bool) (s1 u1 : Value) (g2 : Bool) (s2 u2 : Value) : PreQD w g1 s1 u1 g2 s2 u2 ((w.alloc (.cells #[.bool g1, s1, u1] 41)).alloc (.cells #[.bool g2, s2, u2] 41)) :=
  ⟨(Blk.new w [.bool g1, s1, u1] _).alloc _, blk_new1 w _ [.bool g2, s2, u2] _, bx_alloc (bx_alloc (bx_refl w) _) _⟩
theorem PreQD.keep {w W W' : World} {g1 g2 : Bool} {s1 u1 s2 u2 : Value} (h : PreQD w g1 s1 u1 g2 s2 u2 W) (k : Below W.heap.size W W') : PreQD w g1 s1 u1 g2 s2 u2 W' := ⟨h.arg1.keep k, h.arg2.keep k, bx_call h.bel k⟩
theorem PreQD.cells1 {w W : World} {g1 g2 : Bool} {s1 u1 s2 u2 : Value} (h : PreQD w g1 s1 u1 g2 s2 u2 W) : W.cell? ⟨w.heap.size, 0, none⟩ = some (.bool g1) ∧ W.cell? ⟨w.heap.size, 1, none⟩ = some s1 ∧ W.cell? ⟨w.heap.size, 2, none⟩ = some u1 := blk_three h.arg1
theorem PreQD.cells2 {w W : World} {g1 g2 : Bool} {s1 u1 s2 u2 : Value} (h : PreQD w g1 s1 u1 g2 s2 u2 W) : W.cell? ⟨w.heap.size + 1, 0, none⟩ = some (.bool g2) ∧ W.cell? ⟨w.heap.size + 1, 1, none⟩ = some s2 ∧ W.cell? ⟨w.heap.size + 1, 2, none⟩ = some u2 := blk_three h.arg2
set_option maxHeartbeats 8000000 in
theorem vcmp (ga : Bool) (Aa : Option Addr) (na ca : Nat) (Da : Option Addr) (ma da : Nat) (gb : Bool) (Ab : Option Addr) (nb cb : Nat) (Db : Option Addr) (mb db : Nat) (k : Nat) (p q : Rat) (w : World) (ha : FrV w ga Aa na ca Da ma da k p) (hb : FrV w gb Ab nb cb Db mb db k q) (hk : k ≤ 274877906943) :
    Calls Tryz.prog 73 #[.agg #[.bool ga, .slice Aa na ca, .slice Da ma da], .agg #[.bool gb, .slice Ab nb cb, .slice Db mb db]] w (RetI w (sgnQ (p - q))) := by
  obtain ⟨xa, dsa, qa, hna, ka, hma, h1, rfl⟩ := ha
  obtain ⟨xb, dsb, qb, hnb, kb, hmb, _, rfl⟩ := hb
  have P0 := hid (PreQD.start w ga (.slice Aa na ca) (.slice Da ma da) gb (.slice Ab nb cb) (.slice Db mb db))
  obtain ⟨V0, hW⟩ : ∃ W, W = (w.alloc (.cells #[.bool ga, .slice Aa na ca, .slice Da ma da] 41)).alloc (.cells #[.bool gb, .slice Ab nb cb, .slice Db mb db] 41) := ⟨_, rfl⟩
  rw [← hW] at P0
  have PA := hid (fun (W : World) (p : PreQD w ga (.slice Aa na ca) (.slice Da ma da) gb (.slice Ab nb cb) (.slice Db mb db) W) => parts_any gb Ab nb cb xb Db mb db dsb k W (qb.keep p.bel) hnb (kb.keep p.bel) hmb h1)
  have TA := hid (fun (W : World) (p : PreQD w ga (.slice Aa na ca) (.slice Da ma da) gb (.slice Ab nb cb) (.slice Db mb db) W) => plus_any ga Aa na ca xa Da ma da dsa k W (qa.keep p.bel) hna (ka.keep p.bel) hma h1)
  have hqa : ((dv1 dsa : Nat) : Int) ≠ 0 := by have := dv1_pos dsa; omega
  have hqb : ((dv1 dsb : Nat) : Int) ≠ 0 := by have := dv1_pos dsb; omega
  rw [pv_mk, pv_mk]
  obtain ⟨pa, hpa⟩ : ∃ p, p = iv ga xa := ⟨_, rfl⟩
  obtain ⟨ya, hya⟩ : ∃ y : Int, y = (dv1 dsa : Int) := ⟨_, rfl⟩
  obtain ⟨pb, hpb⟩ : ∃ p, p = iv gb xb := ⟨_, rfl⟩
  obtain ⟨yb, hyb⟩ : ∃ y : Int, y = (dv1 dsb : Int) := ⟨_, rfl⟩
  rw [← hpb, ← hyb] at PA
  rw [← hpa, ← hya] at TA
  rw [← hpa, ← hya, ← hpb, ← hyb]
  rw [← hya] at hqa
  rw [← hyb] at hqb
  have hya0 : 0 < ya := by have := dv1_pos dsa; omega
  have hyb0 : 0 < yb := by have := dv1_pos dsb; omega
  have ev : pv pa ya - pv pb yb = pv (pp (-pb) yb pa ya) (pq yb ya) := by rw [pp_val hqb hqa, pv_neg]; grind
  rw [ev, ← sgn_pv (pq_pos hyb0 hya0)]
  have LW := hid (fun W sb g1 A1 n1 c1 xs1 g2 D1 m1 d1 ys1 r1 e1 l1 r2 e2 l2 bq g3 A3 n3 c3 xs3 g4 D3 m3 d3 ys3 r3 e3 l3 r4 e4 l4 kq ks => follow_qnegplus sb g1 A1 n1 c1 xs1 g2 D1 m1 d1 ys1 pb yb k W r1 e1 l1 r2 e2 l2 hk bq g3 A3 n3 c3 xs3 g4 D3 m3 d3 ys3 pa ya r3 e3 l3 r4 e4 l4 kq ks)
  obtain ⟨V, hV⟩ : ∃ V, V = pp (-pb) yb pa ya := ⟨_, rfl⟩
  rw [← hV] at LW ⊢
  obtain ⟨V2, hV2⟩ : ∃ V, V = pq yb ya := ⟨_, rfl⟩
  rw [← hV2] at LW
  clear qa ka qb kb hpa hya hpb hyb hV hV2 ev hya0 hyb0 hqa hqb
  go_enter Tryz.func73, Tryz.ntmps73
  go_upto_region 1 with fail
  rw [← hW]
  clear hW
  have nw := hid (show w.heap.size < V0.heap.size ∧ w.heap.size + 1 < V0.heap.size from ⟨P0.out.arg1.lt, P0.out.arg2.lt⟩)
  go_cut [5] (fun s5 wx => ∃ (p : Nat) (g1 : Bool) (A1 : Option Addr) (n1 c1 : Nat) (xs1 : List Nat) (g2 : Bool) (D1 : Option Addr) (m1 d1 : Nat), s5 = .pointer (some ⟨p, 0, none⟩) ∧ Hid (Blk wx p [.bool g1, .slice A1 n1 c1, .bool g2, .slice D1 m1 d1] 130 ∧ Rd wx A1 n1 c1 xs1 ∧ iv g1 xs1 = V ∧ Below V0.heap.size V0 wx))
  case first =>
   refine wp_region_noPanic ?_
   refine wp_region_held_drew (S := (fun W => (W.cell? ⟨w.heap.size, 0, none⟩ = some (.bool ga) ∧ W.cell? ⟨w.heap.size, 1, none⟩ = some (.slice Aa na ca) ∧ W.cell? ⟨w.heap.size, 2, none⟩ = some (.slice Da ma da)) ∧ (W.cell? ⟨w.heap.size + 1, 0, none⟩ = some (.bool gb) ∧ W.cell? ⟨w.heap.size + 1, 1, none⟩ = some (.slice Ab nb cb) ∧ W.cell? ⟨w.heap.size + 1, 2, none⟩ = some (.slice Db mb db)))) (by kernel_rfl) ?_ (fun hH => ?_)
   exact And.intro P0.out.cells1 P0.out.cells2
   refine wpAnyH_take (i := 0) (v := ?_) (by simp only [gx0, gx2]; rfl) (by kernel_rfl) (by kernel_rfl) (by kernel_rfl) (fun _ _ _ h => h) (.inl ⟨by rfl, ?_⟩) hH ?_
   rotate_left
   · intro w hSw; (try dsimp only at hSw); first | (go_simp; done) | (go_simp; with_reducible rfl)
   (try simp only [Act.put, gy0, gy1, gy2])
   refine wpAnyH_take (i := 2) (v := ?_) (by simp only [gx0, gx1, gx2]; rfl) (by kernel_rfl) (by kernel_rfl) (by kernel_rfl) (fun _ _ _ h => h) (.inl ⟨by rfl, ?_⟩) hH ?_
   rotate_left
   · intro w hSw; (try dsimp only at hSw); first | (go_simp; done) | (go_simp; with_reducible rfl)
   (try simp only [Act.put, gy0, gy1, gy2])
   have bd := bx_drew (bx_refl V0)
   obtain ⟨W0, hW0⟩ : ∃ W, W = V0.drew := ⟨_, rfl⟩
   rw [← hW0] at bd hH ⊢
   clear hW0
   have BW_0 := hid bd
   clear bd
   refine wpAnyH_ready (rs := [1, 6]) (by kernel_rfl) (by simp) ?_
   refine AllReadyH.cons (by simp only [gx0, gx1, gx2]; rfl) (fun K hK => ?_) ?_
   go_simp
   refine (PA.out _ (P0.out.keep BW_0.out)).mono ?_
   rintro e W1 ⟨g1, A1, n1, c1, xs1, g2, D1, m1, d1, ys1, rfl, r1, e1, l1, r2, e2, l2, b⟩
   have R1 := hid r1
   have R2 := hid r2
   clear r1 r2
   have BW_1 := hid (bx_call BW_0.out b)
   clear BW_0
   have H2 := And.intro (And.intro (cell_bx hH.1.1 b) (And.intro (cell_bx hH.1.2.1 b) (cell_bx hH.1.2.2 b))) (And.intro (cell_bx hH.2.1 b) (And.intro (cell_bx hH.2.2.1 b) (cell_bx hH.2.2.2 b)))
   clear hH b
   (try go_wp2_with fail)
   refine hK.out _ _ ?_ (fun hH => ?_)
   exact H2
   clear hK K H2
   (try simp only [Act.put, gy0, gy1, gy2])
   refine wpAnyH_ready (rs := [3, 6]) (by kernel_rfl) (by simp) ?_
   refine AllReadyH.cons (by simp only [gx0, gx1, gx2]; rfl) (fun K hK => ?_) ?_
   go_simp
   refine (TA.out _ (P0.out.keep BW_1.out)).mono ?_
   rintro e W2 ⟨bq, g3, A3, n3, c3, xs3, g4, D3, m3, d3, ys3, rfl, kq, r3, e3, l3, r4, e4, l4, b⟩
   have KQ := hid kq
   have R3 := hid r3
   have R4 := hid r4
   clear kq r3 r4
   have R1_2 := hid (R1.out.keep b)
   have R2_2 := hid (R2.out.keep b)
   have BW_2 := hid (bx_call BW_1.out b)
   clear R1 R2 BW_1
   have H2 := And.intro (And.intro (cell_bx hH.1.1 b) (And.intro (cell_bx hH.1.2.1 b) (cell_bx hH.1.2.2 b))) (And.intro (cell_bx hH.2.1 b) (And.intro (cell_bx hH.2.2.1 b) (cell_bx hH.2.2.2 b)))
   clear hH b
   (try go_wp2_with fail)
   refine hK.out _ _ ?_ (fun hH => ?_)
   exact H2
   clear hK K H2
   (try simp only [Act.put, gy0, gy1, gy2])
   refine wpAnyH_ready (rs := [4, 6]) (by kernel_rfl) (by simp) ?_
   refine AllReadyH.cons (by simp only [gx0, gx1, gx2]; rfl) (fun K hK => ?_) ?_
   go_simp
   obtain ⟨W3, sb, hW, hp, b, kk⟩ := mk_cells W2 [.func (.func 113) #[] #[], .func (.func 142) #[] #[.pointer (some ⟨bq, 0, none⟩)]] 134
   have gsb : V0.heap.size ≤ sb := by rw [hp]; exact BW_2.out.size
   rw [← hW, ← hp]
   clear hW hp
   have Ksb := hid kk
   clear kk
   have R1_3 := hid (R1_2.out.keep b)
   have R2_3 := hid (R2_2.out.keep b)
   have KQ_3 := hid (KQ.out.keep b)
   have R3_3 := hid (R3.out.keep b)
   have R4_3 := hid (R4.out.keep b)
   have BW_3 := hid (bx_call BW_2.out b)
   clear R1_2 R2_2 KQ R3 R4 BW_2
   have H2 := And.intro (And.intro (cell_bx hH.1.1 b) (And.intro (cell_bx hH.1.2.1 b) (cell_bx hH.1.2.2 b))) (And.intro (cell_bx hH.2.1 b) (And.intro (cell_bx hH.2.2.1 b) (cell_bx hH.2.2.2 b)))
   clear hH b
   refine hK.out _ _ ?_ (fun hH => ?_)
   exact H2
   clear hK K H2
   (try simp only [Act.put, gy0, gy1, gy2])
   refine wpAnyH_ready (rs := [5, 6]) (by kernel_rfl) (by simp) ?_
   refine AllReadyH.cons (by simp only [gx0, gx1, gx2]; rfl) (fun K hK => ?_) ?_
   go_simp
   refine (LW.out _ sb g1 A1 n1 c1 xs1 g2 D1 m1 d1 ys1 R1_3.out e1 l1 R2_3.out e2 l2 bq g3 A3 n3 c3 xs3 g4 D3 m3 d3 ys3 R3_3.out e3 l3 R4_3.out e4 l4 KQ_3.out Ksb.out).mono ?_
   rintro e W4 ⟨g5, A5, n5, c5, xs5, g6, D5, m5, d5, ys5, rfl, r5, e5, l5, r6, e6, l6, b⟩
   have RZ := hid r5
   clear r5 r6
   have R1_4 := hid (R1_3.out.keep b)
   have R2_4 := hid (R2_3.out.keep b)
   have KQ_4 := hid (KQ_3.out.keep b)
   have R3_4 := hid (R3_3.out.keep b)
   have R4_4 := hid (R4_3.out.keep b)
   have Ksb_4 := hid (Ksb.out.keep b)
   have BW_4 := hid (bx_call BW_3.out b)
   clear R1_3 R2_3 KQ_3 R3_3 R4_3 Ksb BW_3
   have H2 := And.intro (And.intro (cell_bx hH.1.1 b) (And.intro (cell_bx hH.1.2.1 b) (cell_bx hH.1.2.2 b))) (And.intro (cell_bx hH.2.1 b) (And.intro (cell_bx hH.2.2.1 b) (cell_bx hH.2.2.2 b)))
   clear hH b
   (try go_wp2_with fail)
   refine hK.out _ _ ?_ (fun hH => ?_)
   exact H2
   clear hK K H2
   (try simp only [Act.put, gy0, gy1, gy2])
   clear R1_4
   clear R2_4
   clear R3_4
   clear R4_4
   clear KQ_4
   clear Ksb_4
   refine wpAnyH_ready (rs := [6]) (by kernel_rfl) (by simp) ?_
   refine AllReadyH.cons (by simp only [gx0, gx1, gx2]; rfl) (fun K hK => ?_) ?_
   go_simp
   obtain ⟨W5, p, hW, hp, b, kk⟩ := mk_cells W4 [.bool false, .slice none 0 0, .bool false, .slice none 0 0] 130
   have gp : V0.heap.size ≤ p := by rw [hp]; exact BW_4.out.size
   rw [← hW, ← hp]
   clear hW hp
   have Kp := hid kk
   clear kk
   have RZ_5 := hid (RZ.out.keep b)
   have BW_5 := hid (bx_call BW_4.out b)
   clear RZ BW_4
   have H2 := And.intro (And.intro (cell_bx hH.1.1 b) (And.intro (cell_bx hH.1.2.1 b) (cell_bx hH.1.2.2 b))) (And.intro (cell_bx hH.2.1 b) (And.intro (cell_bx hH.2.2.1 b) (cell_bx hH.2.2.2 b)))
   clear hH b
   refine hK.out _ _ ?_ (fun hH => ?_)
   exact H2
   clear hK K H2
   (try simp only [Act.put, gy0, gy1, gy2])
   have TM := hid (pair_made (g1 := g5) (g2 := g6) (D := D5) (m := m5) (d := d5) BW_5.out gp Kp.out RZ_5.out)
   obtain ⟨⟨a1, a2, a3, a4, a5, a6, a7, a8⟩, O⟩ := far_pair Kp.out gp nw.out.1 nw.out.2
   refine wpAnyH_ready (rs := [7]) (by kernel_rfl) (by simp) ?_
   refine AllReadyH.cons (by simp only [gx0, gx1, gx2]; rfl) (fun K hK => ?_) AllReadyH.nil
   go_simp
   refine hK.out _ _ (And.intro (And.intro (cell_fr (cell_fr (cell_fr (cell_fr hH.1.1 O.out.1) O.out.1) O.out.1) O.out.1) (And.intro (cell_fr (cell_fr (cell_fr (cell_fr hH.1.2.1 O.out.1) O.out.1) O.out.1) O.out.1) (cell_fr (cell_fr (cell_fr (cell_fr hH.1.2.2 O.out.1) O.out.1) O.out.1) O.out.1))) (And.intro (cell_fr (cell_fr (cell_fr (cell_fr hH.2.1 O.out.2) O.out.2) O.out.2) O.out.2) (And.intro (cell_fr (cell_fr (cell_fr (cell_fr hH.2.2.1 O.out.2) O.out.2) O.out.2) O.out.2) (cell_fr (cell_fr (cell_fr (cell_fr hH.2.2.2 O.out.2) O.out.2) O.out.2) O.out.2)))) (fun hH2 => ?_)
   clear hK K hH a1 a2 a3 a4 a5 a6 a7 a8
   refine wpAnyH_done (by kernel_rfl) ?_ _
   refine NoPanic.normal ?_
   go_wp2_with fail
   go_meet
   exact ⟨p, g5, A5, n5, c5, xs5, g6, D5, m5, d5, rfl, hid ⟨TM.out.1, TM.out.2.1, e5, TM.out.2.2⟩⟩
   exact AllReadyH.nil
   refine AllReadyH.cons (by simp only [gx0, gx1, gx2]; rfl) (fun K hK => ?_) ?_
   go_simp
   obtain ⟨W4, p, hW, hp, b, kk⟩ := mk_cells W3 [.bool false, .slice none 0 0, .bool false, .slice none 0 0] 130
   have gp : V0.heap.size ≤ p := by rw [hp]; exact BW_3.out.size
   rw [← hW, ← hp]
   clear hW hp
   have Kp := hid kk
   clear kk
   have R1_4 := hid (R1_3.out.keep b)
   have R2_4 := hid (R2_3.out.keep b)
   have KQ_4 := hid (KQ_3.out.keep b)
   have R3_4 := hid (R3_3.out.keep b)
   have R4_4 := hid (R4_3.out.keep b)
   have Ksb_4 := hid (Ksb.out.keep b)
   have BW_4 := hid (bx_call BW_3.out b)
   clear R1_3 R2_3 KQ_3 R3_3 R4_3 Ksb BW_3
   have H2 := And.intro (And.intro (cell_bx hH.1.1 b) (And.intro (cell_bx hH.1.2.1 b) (cell_bx hH.1.2.2 b))) (And.intro (cell_bx hH.2.1 b) (And.intro (cell_bx hH.2.2.1 b) (cell_bx hH.2.2.2 b)))
   clear hH b
   refine hK.out _ _ ?_ (fun hH => ?_)
   exact H2
   clear hK K H2
   (try simp only [Act.put, gy0, gy1, gy2])
   refine wpAnyH_ready (rs := [5]) (by kernel_rfl) (by simp) ?_
   refine AllReadyH.cons (by simp only [gx0, gx1, gx2]; rfl) (fun K hK => ?_) ?_
   go_simp
   refine (LW.out _ sb g1 A1 n1 c1 xs1 g2 D1 m1 d1 ys1 R1_4.out e1 l1 R2_4.out e2 l2 bq g3 A3 n3 c3 xs3 g4 D3 m3 d3 ys3 R3_4.out e3 l3 R4_4.out e4 l4 KQ_4.out Ksb_4.out).mono ?_
   rintro e W5 ⟨g5, A5, n5, c5, xs5, g6, D5, m5, d5, ys5, rfl, r5, e5, l5, r6, e6, l6, b⟩
   have RZ := hid r5
   clear r5 r6
   have R1_5 := hid (R1_4.out.keep b)
   have R2_5 := hid (R2_4.out.keep b)
   have KQ_5 := hid (KQ_4.out.keep b)
   have R3_5 := hid (R3_4.out.keep b)
   have R4_5 := hid (R4_4.out.keep b)
   have Ksb_5 := hid (Ksb_4.out.keep b)
   have Kp_5 := hid (Kp.out.keep b)
   have BW_5 := hid (bx_call BW_4.out b)
   clear R1_4 R2_4 KQ_4 R3_4 R4_4 Ksb_4 Kp BW_4
   have H2 := And.intro (And.intro (cell_bx hH.1.1 b) (And.intro (cell_bx hH.1.2.1 b) (cell_bx hH.1.2.2 b))) (And.intro (cell_bx hH.2.1 b) (And.intro (cell_bx hH.2.2.1 b) (cell_bx hH.2.2.2 b)))
   clear hH b
   (try go_wp2_with fail)
   refine hK.out _ _ ?_ (fun hH => ?_)
   exact H2
   clear hK K H2
   (try simp only [Act.put, gy0, gy1, gy2])
   clear R1_5
   clear R2_5
   clear R3_5
   clear R4_5
   clear KQ_5
   clear Ksb_5
   have TM := hid (pair_made (g1 := g5) (g2 := g6) (D := D5) (m := m5) (d := d5) BW_5.out gp Kp_5.out RZ.out)
   obtain ⟨⟨a1, a2, a3, a4, a5, a6, a7, a8⟩, O⟩ := far_pair Kp_5.out gp nw.out.1 nw.out.2
   refine wpAnyH_ready (rs := [7]) (by kernel_rfl) (by simp) ?_
   refine AllReadyH.cons (by simp only [gx0, gx1, gx2]; rfl) (fun K hK => ?_) AllReadyH.nil
   go_simp
   refine hK.out _ _ (And.intro (And.intro (cell_fr (cell_fr (cell_fr (cell_fr hH.1.1 O.out.1) O.out.1) O.out.1) O.out.1) (And.intro (cell_fr (cell_fr (cell_fr (cell_fr hH.1.2.1 O.out.1) O.out.1) O.out.1) O.out.1) (cell_fr (cell_fr (cell_fr (cell_fr hH.1.2.2 O.out.1) O.out.1) O.out.1) O.out.1))) (And.intro (cell_fr (cell_fr (cell_fr (cell_fr hH.2.1 O.out.2) O.out.2) O.out.2) O.out.2) (And.intro (cell_fr (cell_fr (cell_fr (cell_fr hH.2.2.1 O.out.2) O.out.2) O.out.2) O.out.2) (cell_fr (cell_fr (cell_fr (cell_fr hH.2.2.2 O.out.2) O.out.2) O.out.2) O.out.2)))) (fun hH2 => ?_)
   clear hK K hH a1 a2 a3 a4 a5 a6 a7 a8
   refine wpAnyH_done (by kernel_rfl) ?_ _
   refine NoPanic.normal ?_
   go_wp2_with fail
   go_meet
   exact ⟨p, g5, A5, n5, c5, xs5, g6, D5, m5, d5, rfl, hid ⟨TM.out.1, TM.out.2.1, e5, TM.out.2.2⟩⟩
   exact AllReadyH.nil
   exact AllReadyH.nil
   refine AllReadyH.cons (by simp only [gx0, gx1, gx2]; rfl) (fun K hK => ?_) ?_
   go_simp
   obtain ⟨W3, p, hW, hp, b, kk⟩ := mk_cells W2 [.bool false, .slice none 0 0, .bool false, .slice none 0 0] 130
   have gp : V0.heap.size ≤ p := by rw [hp]; exact BW_2.out.size
   rw [← hW, ← hp]
   clear hW hp
   have Kp := hid kk
   clear kk
   have R1_3 := hid (R1_2.out.keep b)
   have R2_3 := hid (R2_2.out.keep b)
   have KQ_3 := hid (KQ.out.keep b)
   have R3_3 := hid (R3.out.keep b)
   have R4_3 := hid (R4.out.keep b)
   have BW_3 := hid (bx_call BW_2.out b)
   clear R1_2 R2_2 KQ R3 R4 BW_2
   have H2 := And.intro (And.intro (cell_bx hH.1.1 b) (And.intro (cell_bx hH.1.2.1 b) (cell_bx hH.1.2.2 b))) (And.intro (cell_bx hH.2.1 b) (And.intro (cell_bx hH.2.2.1 b) (cell_bx hH.2.2.2 b)))
   clear hH b
   refine hK.out _ _ ?_ (fun hH => ?_)
   exact H2
   clear hK K H2
   (try simp only [Act.put, gy0, gy1, gy2])
   refine wpAnyH_ready (rs := [4]) (by kernel_rfl) (by simp) ?_
   refine AllReadyH.cons (by simp only [gx0, gx1, gx2]; rfl) (fun K hK => ?_) ?_
   go_simp
   obtain ⟨W4, sb, hW, hp, b, kk⟩ := mk_cells W3 [.func (.func 113) #[] #[], .func (.func 142) #[] #[.pointer (some ⟨bq, 0, none⟩)]] 134
   have gsb : V0.heap.size ≤ sb := by rw [hp]; exact BW_3.out.size
   rw [← hW, ← hp]
   clear hW hp
   have Ksb := hid kk
   clear kk
   have R1_4 := hid (R1_3.out.keep b)
   have R2_4 := hid (R2_3.out.keep b)
   have KQ_4 := hid (KQ_3.out.keep b)
   have R3_4 := hid (R3_3.out.keep b)
   have R4_4 := hid (R4_3.out.keep b)
   have Kp_4 := hid (Kp.out.keep b)
   have BW_4 := hid (bx_call BW_3.out b)
   clear R1_3 R2_3 KQ_3 R3_3 R4_3 Kp BW_3
   have H2 := And.intro (And.intro (cell_bx hH.1.1 b) (And.intro (cell_bx hH.1.2.1 b) (cell_bx hH.1.2.2 b))) (And.intro (cell_bx hH.2.1 b) (And.intro (cell_bx hH.2.2.1 b) (cell_bx hH.2.2.2 b)))
   clear hH b
   refine hK.out _ _ ?_ (fun hH => ?_)
   exact H2
   clear hK K H2
   (try simp only [Act.put, gy0, gy1, gy2])
   refine wpAnyH_ready (rs := [5]) (by kernel_rfl) (by simp) ?_
   refine AllReadyH.cons (by simp only [gx0, gx1, gx2]; rfl) (fun K hK => ?_) ?_
   go_simp
   refine (LW.out _ sb g1 A1 n1 c1 xs1 g2 D1 m1 d1 ys1 R1_4.out e1 l1 R2_4.out e2 l2 bq g3 A3 n3 c3 xs3 g4 D3 m3 d3 ys3 R3_4.out e3 l3 R4_4.out e4 l4 KQ_4.out Ksb.out).mono ?_
   rintro e W5 ⟨g5, A5, n5, c5, xs5, g6, D5, m5, d5, ys5, rfl, r5, e5, l5, r6, e6, l6, b⟩
   have RZ := hid r5
   clear r5 r6
   have R1_5 := hid (R1_4.out.keep b)
   have R2_5 := hid (R2_4.out.keep b)
   have KQ_5 := hid (KQ_4.out.keep b)
   have R3_5 := hid (R3_4.out.keep b)
   have R4_5 := hid (R4_4.out.keep b)
   have Kp_5 := hid (Kp_4.out.keep b)
   have Ksb_5 := hid (Ksb.out.keep b)
   have BW_5 := hid (bx_call BW_4.out b)
   clear R1_4 R2_4 KQ_4 R3_4 R4_4 Kp_4 Ksb BW_4
   have H2 := And.intro (And.intro (cell_bx hH.1.1 b) (And.intro (cell_bx hH.1.2.1 b) (cell_bx hH.1.2.2 b))) (And.intro (cell_bx hH.2.1 b) (And.intro (cell_bx hH.2.2.1 b) (cell_bx hH.2.2.2 b)))
   clear hH b
   (try go_wp2_with fail)
   refine hK.out _ _ ?_ (fun hH => ?_)
   exact H2
   clear hK K H2
   (try simp only [Act.put, gy0, gy1, gy2])
   clear R1_5
   clear R2_5
   clear R3_5
   clear R4_5
   clear KQ_5
   clear Ksb_5
   have TM := hid (pair_made (g1 := g5) (g2 := g6) (D := D5) (m := m5) (d := d5) BW_5.out gp Kp_5.out RZ.out)
   obtain ⟨⟨a1, a2, a3, a4, a5, a6, a7, a8⟩, O⟩ := far_pair Kp_5.out gp nw.out.1 nw.out.2
   refine wpAnyH_ready (rs := [7]) (by kernel_rfl) (by simp) ?_
   refine AllReadyH.cons (by simp only [gx0, gx1, gx2]; rfl) (fun K hK => ?_) AllReadyH.nil
   go_simp
   refine hK.out _ _ (And.intro (And.intro (cell_fr (cell_fr (cell_fr (cell_fr hH.1.1 O.out.1) O.out.1) O.out.1) O.out.1) (And.intro (cell_fr (cell_fr (cell_fr (cell_fr hH.1.2.1 O.out.1) O.out.1) O.out.1) O.out.1) (cell_fr (cell_fr (cell_fr (cell_fr hH.1.2.2 O.out.1) O.out.1) O.out.1) O.out.1))) (And.intro (cell_fr (cell_fr (cell_fr (cell_fr hH.2.1 O.out.2) O.out.2) O.out.2) O.out.2) (And.intro (cell_fr (cell_fr (cell_fr (cell_fr hH.2.2.1 O.out.2) O.out.2) O.out.2) O.out.2) (cell_fr (cell_fr (cell_fr (cell_fr hH.2.2.2 O.out.2) O.out.2) O.out.2) O.out.2)))) (fun hH2 => ?_)
   clear hK K hH a1 a2 a3 a4 a5 a6 a7 a8
   refine wpAnyH_done (by kernel_rfl) ?_ _
   refine NoPanic.normal ?_
   go_wp2_with fail
   go_meet
   exact ⟨p, g5, A5, n5, c5, xs5, g6, D5, m5, d5, rfl, hid ⟨TM.out.1, TM.out.2.1, e5, TM.out.2.2⟩⟩
   exact AllReadyH.nil
   exact AllReadyH.nil
   exact AllReadyH.nil
   refine AllReadyH.cons (by simp only [gx0, gx1, gx2]; rfl) (fun K hK => ?_) ?_
   go_simp
   obtain ⟨W2, p, hW, hp, b, kk⟩ := mk_cells W1 [.bool false, .slice none 0 0, .bool false, .slice none 0 0] 130
   have gp : V0.heap.size ≤ p := by rw [hp]; exact BW_1.out.size
   rw [← hW, ← hp]
   clear hW hp
   have Kp := hid kk
   clear kk
   have R1_2 := hid (R1.out.keep b)
   have R2_2 := hid (R2.out.keep b)
   have BW_2 := hid (bx_call BW_1.out b)
   clear R1 R2 BW_1
   have H2 := And.intro (And.intro (cell_bx hH.1.1 b) (And.intro (cell_bx hH.1.2.1 b) (cell_bx hH.1.2.2 b))) (And.intro (cell_bx hH.2.1 b) (And.intro (cell_bx hH.2.2.1 b) (cell_bx hH.2.2.2 b)))
   clear hH b
   refine hK.out _ _ ?_ (fun hH => ?_)
   exact H2
   clear hK K H2
   (try simp only [Act.put, gy0, gy1, gy2])
   refine wpAnyH_ready (rs := [3]) (by kernel_rfl) (by simp) ?_
   refine AllReadyH.cons (by simp only [gx0, gx1, gx2]; rfl) (fun K hK => ?_) ?_
   go_simp
   refine (TA.out _ (P0.out.keep BW_2.out)).mono ?_
   rintro e W3 ⟨bq, g3, A3, n3, c3, xs3, g4, D3, m3, d3, ys3, rfl, kq, r3, e3, l3, r4, e4, l4, b⟩
   have KQ := hid kq
   have R3 := hid r3
   have R4 := hid r4
   clear kq r3 r4
   have R1_3 := hid (R1_2.out.keep b)
   have R2_3 := hid (R2_2.out.keep b)
   have Kp_3 := hid (Kp.out.keep b)
   have BW_3 := hid (bx_call BW_2.out b)
   clear R1_2 R2_2 Kp BW_2
   have H2 := And.intro (And.intro (cell_bx hH.1.1 b) (And.intro (cell_bx hH.1.2.1 b) (cell_bx hH.1.2.2 b))) (And.intro (cell_bx hH.2.1 b) (And.intro (cell_bx hH.2.2.1 b) (cell_bx hH.2.2.2 b)))
   clear hH b
   (try go_wp2_with fail)
   refine hK.out _ _ ?_ (fun hH => ?_)
   exact H2
   clear hK K H2
   (try simp only [Act.put, gy0, gy1, gy2])
   refine wpAnyH_ready (rs := [4]) (by kernel_rfl) (by simp) ?_
   refine AllReadyH.cons (by simp only [gx0, gx1, gx2]; rfl) (fun K hK => ?_) ?_
   go_simp
   obtain ⟨W4, sb, hW, hp, b, kk⟩ := mk_cells W3 [.func (.func 113) #[] #[], .func (.func 142) #[] #[.pointer (some ⟨bq, 0, none⟩)]] 134
   have gsb : V0.heap.size ≤ sb := by rw [hp]; exact BW_3.out.size
   rw [← hW, ← hp]
   clear hW hp
   have Ksb := hid kk
   clear kk
   have R1_4 := hid (R1_3.out.keep b)
   have R2_4 := hid (R2_3.out.keep b)
   have Kp_4 := hid (Kp_3.out.keep b)
   have KQ_4 := hid (KQ.out.keep b)
   have R3_4 := hid (R3.out.keep b)
   have R4_4 := hid (R4.out.keep b)
   have BW_4 := hid (bx_call BW_3.out b)
   clear R1_3 R2_3 Kp_3 KQ R3 R4 BW_3
   have H2 := And.intro (And.intro (cell_bx hH.1.1 b) (And.intro (cell_bx hH.1.2.1 b) (cell_bx hH.1.2.2 b))) (And.intro (cell_bx hH.2.1 b) (And.intro (cell_bx hH.2.2.1 b) (cell_bx hH.2.2.2 b)))
   clear hH b
   refine hK.out _ _ ?_ (fun hH => ?_)
   exact H2
   clear hK K H2
   (try simp only [Act.put, gy0, gy1, gy2])
   refine wpAnyH_ready (rs := [5]) (by kernel_rfl) (by simp) ?_
   refine AllReadyH.cons (by simp only [gx0, gx1, gx2]; rfl) (fun K hK => ?_) ?_
   go_simp
   refine (LW.out _ sb g1 A1 n1 c1 xs1 g2 D1 m1 d1 ys1 R1_4.out e1 l1 R2_4.out e2 l2 bq g3 A3 n3 c3 xs3 g4 D3 m3 d3 ys3 R3_4.out e3 l3 R4_4.out e4 l4 KQ_4.out Ksb.out).mono ?_
   rintro e W5 ⟨g5, A5, n5, c5, xs5, g6, D5, m5, d5, ys5, rfl, r5, e5, l5, r6, e6, l6, b⟩
   have RZ := hid r5
   clear r5 r6
   have R1_5 := hid (R1_4.out.keep b)
   have R2_5 := hid (R2_4.out.keep b)
   have Kp_5 := hid (Kp_4.out.keep b)
   have KQ_5 := hid (KQ_4.out.keep b)
   have R3_5 := hid (R3_4.out.keep b)
   have R4_5 := hid (R4_4.out.keep b)
   have Ksb_5 := hid (Ksb.out.keep b)
   have BW_5 := hid (bx_call BW_4.out b)
   clear R1_4 R2_4 Kp_4 KQ_4 R3_4 R4_4 Ksb BW_4
   have H2 := And.intro (And.intro (cell_bx hH.1.1 b) (And.intro (cell_bx hH.1.2.1 b) (cell_bx hH.1.2.2 b))) (And.intro (cell_bx hH.2.1 b) (And.intro (cell_bx hH.2.2.1 b) (cell_bx hH.2.2.2 b)))
   clear hH b
   (try go_wp2_with fail)
   refine hK.out _ _ ?_ (fun hH => ?_)
   exact H2
   clear hK K H2
   (try simp only [Act.put, gy0, gy1, gy2])
   clear R1_5
   clear R2_5
   clear R3_5
   clear R4_5
   clear KQ_5
   clear Ksb_5
   have TM := hid (pair_made (g1 := g5) (g2 := g6) (D := D5) (m := m5) (d := d5) BW_5.out gp Kp_5.out RZ.out)
   obtain ⟨⟨a1, a2, a3, a4, a5, a6, a7, a8⟩, O⟩ := far_pair Kp_5.out gp nw.out.1 nw.out.2
   refine wpAnyH_ready (rs := [7]) (by kernel_rfl) (by simp) ?_
   refine AllReadyH.cons (by simp only [gx0, gx1, gx2]; rfl) (fun K hK => ?_) AllReadyH.nil
   go_simp
   refine hK.out _ _ (And.intro (And.intro (cell_fr (cell_fr (cell_fr (cell_fr hH.1.1 O.out.1) O.out.1) O.out.1) O.out.1) (And.intro (cell_fr (cell_fr (cell_fr (cell_fr hH.1.2.1 O.out.1) O.out.1) O.out.1) O.out.1) (cell_fr (cell_fr (cell_fr (cell_fr hH.1.2.2 O.out.1) O.out.1) O.out.1) O.out.1))) (And.intro (cell_fr (cell_fr (cell_fr (cell_fr hH.2.1 O.out.2) O.out.2) O.out.2) O.out.2) (And.intro (cell_fr (cell_fr (cell_fr (cell_fr hH.2.2.1 O.out.2) O.out.2) O.out.2) O.out.2) (cell_fr (cell_fr (cell_fr (cell_fr hH.2.2.2 O.out.2) O.out.2) O.out.2) O.out.2)))) (fun hH2 => ?_)
   clear hK K hH a1 a2 a3 a4 a5 a6 a7 a8
   refine wpAnyH_done (by kernel_rfl) ?_ _
   refine NoPanic.normal ?_
   go_wp2_with fail
   go_meet
   exact ⟨p, g5, A5, n5, c5, xs5, g6, D5, m5, d5, rfl, hid ⟨TM.out.1, TM.out.2.1, e5, TM.out.2.2⟩⟩
   exact AllReadyH.nil
   exact AllReadyH.nil
   exact AllReadyH.nil
   exact AllReadyH.nil
   refine AllReadyH.cons (by simp only [gx0, gx1, gx2]; rfl) (fun K hK => ?_) ?_
   go_simp
   obtain ⟨W1, p, hW, hp, b, kk⟩ := mk_cells W0 [.bool false, .slice none 0 0, .bool false, .slice none 0 0] 130
   have gp : V0.heap.size ≤ p := by rw [hp]; exact BW_0.out.size
   rw [← hW, ← hp]
   clear hW hp
   have Kp := hid kk
   clear kk
   have BW_1 := hid (bx_call BW_0.out b)
   clear BW_0
   have H2 := And.intro (And.intro (cell_bx hH.1.1 b) (And.intro (cell_bx hH.1.2.1 b) (cell_bx hH.1.2.2 b))) (And.intro (cell_bx hH.2.1 b) (And.intro (cell_bx hH.2.2.1 b) (cell_bx hH.2.2.2 b)))
   clear hH b
   refine hK.out _ _ ?_ (fun hH => ?_)
   exact H2
   clear hK K H2
   (try simp only [Act.put, gy0, gy1, gy2])
   refine wpAnyH_ready (rs := [1]) (by kernel_rfl) (by simp) ?_
   refine AllReadyH.cons (by simp only [gx0, gx1, gx2]; rfl) (fun K hK => ?_) ?_
   go_simp
   refine (PA.out _ (P0.out.keep BW_1.out)).mono ?_
   rintro e W2 ⟨g1, A1, n1, c1, xs1, g2, D1, m1, d1, ys1, rfl, r1, e1, l1, r2, e2, l2, b⟩
   have R1 := hid r1
   have R2 := hid r2
   clear r1 r2
   have Kp_2 := hid (Kp.out.keep b)
   have BW_2 := hid (bx_call BW_1.out b)
   clear Kp BW_1
   have H2 := And.intro (And.intro (cell_bx hH.1.1 b) (And.intro (cell_bx hH.1.2.1 b) (cell_bx hH.1.2.2 b))) (And.intro (cell_bx hH.2.1 b) (And.intro (cell_bx hH.2.2.1 b) (cell_bx hH.2.2.2 b)))
   clear hH b
   (try go_wp2_with fail)
   refine hK.out _ _ ?_ (fun hH => ?_)
   exact H2
   clear hK K H2
   (try simp only [Act.put, gy0, gy1, gy2])
   refine wpAnyH_ready (rs := [3]) (by kernel_rfl) (by simp) ?_
   refine AllReadyH.cons (by simp only [gx0, gx1, gx2]; rfl) (fun K hK => ?_) ?_
   go_simp
   refine (TA.out _ (P0.out.keep BW_2.out)).mono ?_
   rintro e W3 ⟨bq, g3, A3, n3, c3, xs3, g4, D3, m3, d3, ys3, rfl, kq, r3, e3, l3, r4, e4, l4, b⟩
   have KQ := hid kq
   have R3 := hid r3
   have R4 := hid r4
   clear kq r3 r4
   have Kp_3 := hid (Kp_2.out.keep b)
   have R1_3 := hid (R1.out.keep b)
   have R2_3 := hid (R2.out.keep b)
   have BW_3 := hid (bx_call BW_2.out b)
   clear Kp_2 R1 R2 BW_2
   have H2 := And.intro (And.intro (cell_bx hH.1.1 b) (And.intro (cell_bx hH.1.2.1 b) (cell_bx hH.1.2.2 b))) (And.intro (cell_bx hH.2.1 b) (And.intro (cell_bx hH.2.2.1 b) (cell_bx hH.2.2.2 b)))
   clear hH b
   (try go_wp2_with fail)
   refine hK.out _ _ ?_ (fun hH => ?_)
   exact H2
   clear hK K H2
   (try simp only [Act.put, gy0, gy1, gy2])
   refine wpAnyH_ready (rs := [4]) (by kernel_rfl) (by simp) ?_
   refine AllReadyH.cons (by simp only [gx0, gx1, gx2]; rfl) (fun K hK => ?_) ?_
   go_simp
   obtain ⟨W4, sb, hW, hp, b, kk⟩ := mk_cells W3 [.func (.func 113) #[] #[], .func (.func 142) #[] #[.pointer (some ⟨bq, 0, none⟩)]] 134
   have gsb : V0.heap.size ≤ sb := by rw [hp]; exact BW_3.out.size
   rw [← hW, ← hp]
   clear hW hp
   have Ksb := hid kk
   clear kk
   have Kp_4 := hid (Kp_3.out.keep b)
   have R1_4 := hid (R1_3.out.keep b)
   have R2_4 := hid (R2_3.out.keep b)
   have KQ_4 := hid (KQ.out.keep b)
   have R3_4 := hid (R3.out.keep b)
   have R4_4 := hid (R4.out.keep b)
   have BW_4 := hid (bx_call BW_3.out b)
   clear Kp_3 R1_3 R2_3 KQ R3 R4 BW_3
   have H2 := And.intro (And.intro (cell_bx hH.1.1 b) (And.intro (cell_bx hH.1.2.1 b) (cell_bx hH.1.2.2 b))) (And.intro (cell_bx hH.2.1 b) (And.intro (cell_bx hH.2.2.1 b) (cell_bx hH.2.2.2 b)))
   clear hH b
   refine hK.out _ _ ?_ (fun hH => ?_)
   exact H2
   clear hK K H2
   (try simp only [Act.put, gy0, gy1, gy2])
   refine wpAnyH_ready (rs := [5]) (by kernel_rfl) (by simp) ?_
   refine AllReadyH.cons (by simp only [gx0, gx1, gx2]; rfl) (fun K hK => ?_) ?_
   go_simp
   refine (LW.out _ sb g1 A1 n1 c1 xs1 g2 D1 m1 d1 ys1 R1_4.out e1 l1 R2_4.out e2 l2 bq g3 A3 n3 c3 xs3 g4 D3 m3 d3 ys3 R3_4.out e3 l3 R4_4.out e4 l4 KQ_4.out Ksb.out).mono ?_
   rintro e W5 ⟨g5, A5, n5, c5, xs5, g6, D5, m5, d5, ys5, rfl, r5, e5, l5, r6, e6, l6, b⟩
   have RZ := hid r5
   clear r5 r6
   have Kp_5 := hid (Kp_4.out.keep b)
   have R1_5 := hid (R1_4.out.keep b)
   have R2_5 := hid (R2_4.out.keep b)
   have KQ_5 := hid (KQ_4.out.keep b)
   have R3_5 := hid (R3_4.out.keep b)
   have R4_5 := hid (R4_4.out.keep b)
   have Ksb_5 := hid (Ksb.out.keep b)
   have BW_5 := hid (bx_call BW_4.out b)
   clear Kp_4 R1_4 R2_4 KQ_4 R3_4 R4_4 Ksb BW_4
   have H2 := And.intro (And.intro (cell_bx hH.1.1 b) (And.intro (cell_bx hH.1.2.1 b) (cell_bx hH.1.2.2 b))) (And.intro (cell_bx hH.2.1 b) (And.intro (cell_bx hH.2.2.1 b) (cell_bx hH.2.2.2 b)))
   clear hH b
   (try go_wp2_with fail)
   refine hK.out _ _ ?_ (fun hH => ?_)
   exact H2
   clear hK K H2
   (try simp only [Act.put, gy0, gy1, gy2])
   clear R1_5
   clear R2_5
   clear R3_5
   clear R4_5
   clear KQ_5
   clear Ksb_5
   have TM := hid (pair_made (g1 := g5) (g2 := g6) (D := D5) (m := m5) (d := d5) BW_5.out gp Kp_5.out RZ.out)
   obtain ⟨⟨a1, a2, a3, a4, a5, a6, a7, a8⟩, O⟩ := far_pair Kp_5.out gp nw.out.1 nw.out.2
   refine wpAnyH_ready (rs := [7]) (by kernel_rfl) (by simp) ?_
   refine AllReadyH.cons (by simp only [gx0, gx1, gx2]; rfl) (fun K hK => ?_) AllReadyH.nil
   go_simp
   refine hK.out _ _ (And.intro (And.intro (cell_fr (cell_fr (cell_fr (cell_fr hH.1.1 O.out.1) O.out.1) O.out.1) O.out.1) (And.intro (cell_fr (cell_fr (cell_fr (cell_fr hH.1.2.1 O.out.1) O.out.1) O.out.1) O.out.1) (cell_fr (cell_fr (cell_fr (cell_fr hH.1.2.2 O.out.1) O.out.1) O.out.1) O.out.1))) (And.intro (cell_fr (cell_fr (cell_fr (cell_fr hH.2.1 O.out.2) O.out.2) O.out.2) O.out.2) (And.intro (cell_fr (cell_fr (cell_fr (cell_fr hH.2.2.1 O.out.2) O.out.2) O.out.2) O.out.2) (cell_fr (cell_fr (cell_fr (cell_fr hH.2.2.2 O.out.2) O.out.2) O.out.2) O.out.2)))) (fun hH2 => ?_)
   clear hK K hH a1 a2 a3 a4 a5 a6 a7 a8
   refine wpAnyH_done (by kernel_rfl) ?_ _
   refine NoPanic.normal ?_
   go_wp2_with fail
   go_meet
   exact ⟨p, g5, A5, n5, c5, xs5, g6, D5, m5, d5, rfl, hid ⟨TM.out.1, TM.out.2.1, e5, TM.out.2.2⟩⟩
   exact AllReadyH.nil
   exact AllReadyH.nil
   exact AllReadyH.nil
   exact AllReadyH.nil
   exact AllReadyH.nil
  case rest =>
  obtain ⟨pb, g1, A1, n1, c1, xs1, g2, D1, m1, d1, rfl, hT⟩ := hcut
  obtain ⟨v2, rfl⟩ : ∃ W : World, W = wc := ⟨_, rfl⟩
  have cc := isign_any g1 A1 n1 c1 xs1 v2 hT.out.2.1
  rw [hT.out.2.2.1] at cc
  have CC := hid cc
  have B2 := hid (bx_call P0.out.bel hT.out.2.2.2)
  obtain ⟨z0, z1, z2, z3⟩ := blk_four hT.out.1
  clear cc hT P0 nw PA TA LW
  go_wp2_with fail
  refine (CC.out).mono ?_
  rintro e v3 ⟨rfl, b⟩
  have B3 := hid (bx_call B2.out b)
  clear b CC B2 z0 z1 z2 z3
  go_wp2_with fail
  go_ret
  exact ⟨rfl, B3.out⟩
end Go.Proofs.YtdbccidlnhjfhaaGreatDoor
