/- RatB: Rat8, Rat9, Rat10, Rat11, Rat12, Rat13, RatM, Rat14, Rat15, Rat16, Rat17, Rat18, Rat19 in one text. -/
import Derived.Test.YtdbccidlnhjfhaaGreatDoorRatA
import Derived.Laws.EntriesVeiled
import Derived.Deep.DeepCutAuto
namespace Go.Proofs.YtdbccidlnhjfhaaGreatDoor
open Go.RowKit
set_option maxRecDepth 100000
def RetP (w : World) (p q : Int) (k : Nat) (e : Ending) (w' : World) : Prop := ∃ g1 A n c xs g2 D m d ys, e = .returned (.agg #[.bool g1, .slice A n c, .bool g2, .slice D m d]) ∧ Rd w' A n c xs ∧ iv g1 xs = p ∧ n ≤ k ∧ Rd w' D m d ys ∧ iv g2 ys = q ∧ m ≤ k ∧ Below w.heap.size w w'
theorem blk_four {w : World} {b t : Nat} {x y z u : Value} (h : Blk w b [x, y, z, u] t) : w.cell? ⟨b, 0, none⟩ = some x ∧ w.cell? ⟨b, 1, none⟩ = some y ∧ w.cell? ⟨b, 2, none⟩ = some z ∧ w.cell? ⟨b, 3, none⟩ = some u := ⟨Blk.cell h 0, Blk.cell h 1, Blk.cell h 2, Blk.cell h 3⟩
theorem rd_cell_far4 {w : World} {A A0 D0 : Option Addr} {n c n0 c0 m0 d0 g : Nat} {b0 b1 : Bool} {xs : List Nat} (h : Rd w A n c xs) (K : Blk w g [.bool b0, .slice A0 n0 c0, .bool b1, .slice D0 m0 d0] 130) (u v x y : Value) : Rd ((((w.setCell ⟨g, 0, none⟩ u).setCell ⟨g, 1, none⟩ v).setCell ⟨g, 2, none⟩ x).setCell ⟨g, 3, none⟩ y) A n c xs := by
  obtain ⟨h1, h2, h3, h4, h5⟩ := h
  refine ⟨h1, h2, h3, h4, fun hn => ?_⟩
  obtain ⟨b, o, hA, hlt, hc⟩ := h5 hn
  have hne : b ≠ g := by
    rintro rfl
    have h6 := hc 0 hn
    rw [Blk.cell K (o + 0)] at h6
    match o with
    | 0 => simp at h6
    | 1 => simp at h6
    | 2 => simp at h6
    | 3 => simp at h6
    | o + 4 => simp at h6
  refine ⟨b, o, hA, by rw [World.size_setCell, World.size_setCell, World.size_setCell, World.size_setCell]; exact hlt, fun j hj => ?_⟩
  rw [← hc j hj]
  exact (((World.cell?_of_block (Below.heap_setCell _ ⟨g, 3, none⟩ y b hne)).trans (World.cell?_of_block (Below.heap_setCell _ ⟨g, 2, none⟩ x b hne))).trans (World.cell?_of_block (Below.heap_setCell _ ⟨g, 1, none⟩ v b hne))).trans (World.cell?_of_block (Below.heap_setCell w ⟨g, 0, none⟩ u b hne))
theorem ret_pair_end {w w2 : World} {p q : Int} {k : Nat} {g1 g2 : Bool} {A A0 D D0 : Option Addr} {n c n0 c0 m d m0 d0 g : Nat} {xs ys : List Nat} {b0 b1 : Bool} (h : Rd w2 A n c xs) (hp : iv g1 xs = p) (hn : n ≤ k) (r : Rd w2 D m d ys) (hq : iv g2 ys = q) (hm : m ≤ k) (K : Blk w2 g [.bool b0, .slice A0 n0 c0, .bool b1, .slice D0 m0 d0] 130) (hb : Below w.heap.size w w2) (hg : w.heap.size ≤ g) :
    RetP w p q k (.returned (.agg #[.bool g1, .slice A n c, .bool g2, .slice D m d])) ((((w2.setCell ⟨g, 0, none⟩ (.bool g1)).setCell ⟨g, 1, none⟩ (.slice A n c)).setCell ⟨g, 2, none⟩ (.bool g2)).setCell ⟨g, 3, none⟩ (.slice D m d)) :=
  ⟨g1, A, n, c, xs, g2, D, m, d, ys, rfl, rd_cell_far4 h K _ _ _ _, hp, hn, rd_cell_far4 r K _ _ _ _, hq, hm, bx_set (bx_set (bx_set (bx_set hb hg) hg) hg) hg⟩
set_option maxHeartbeats 2000000 in
theorem parts_any (g : Bool) (A : Option Addr) (n c : Nat) (xs : List Nat) (D : Option Addr) (m d : Nat) (ds : List Nat) (k : Nat) (w : World) (h : Rd w A n c xs) (hn : n ≤ k) (q : Rd w D m d ds) (hm : m ≤ k) (hk : 1 ≤ k) :
    Calls Tryz.prog 112 #[.agg #[.bool g, .slice A n c, .slice D m d]] w (RetP w (iv g xs) (dv1 ds : Int) k) := by
  have bx : Below w.heap.size w (((w.alloc (.cells #[.bool g, .slice A n c, .slice D m d] 41)).alloc (.cells #[.bool false, .slice none 0 0, .bool false, .slice none 0 0] 130)).alloc (.cells #[.bool false, .slice D m d] 39)) := bx_alloc (bx_alloc (bx_alloc (bx_refl w) _) _) _
  have K1 := hid (((Blk.new w [.bool g, .slice A n c, .slice D m d] 41).alloc (.cells #[.bool false, .slice none 0 0, .bool false, .slice none 0 0] 130)).alloc (.cells #[.bool false, .slice D m d] 39))
  have K2 := hid ((blk_new1 w (.cells #[.bool g, .slice A n c, .slice D m d] 41) [.bool false, .slice none 0 0, .bool false, .slice none 0 0] 130).alloc (.cells #[.bool false, .slice D m d] 39))
  have k3 := blk_new1 (w.alloc (.cells #[.bool g, .slice A n c, .slice D m d] 41)) (.cells #[.bool false, .slice none 0 0, .bool false, .slice none 0 0] 130) [.bool false, .slice D m d] 39
  rw [World.size_alloc] at k3
  have K3 := hid k3
  have R := hid (h.keep bx)
  have Q := hid (q.keep bx)
  have X := hid bx
  obtain ⟨W0, hW⟩ : ∃ W, W = ((w.alloc (.cells #[.bool g, .slice A n c, .slice D m d] 41)).alloc (.cells #[.bool false, .slice none 0 0, .bool false, .slice none 0 0] 130)).alloc (.cells #[.bool false, .slice D m d] 39) := ⟨_, rfl⟩
  rw [← hW] at K1 K2 K3 R Q X
  have s0 := q.2.1
  have s1 := q.2.2.1
  clear bx k3 h q
  by_cases hv : val ds = 0
  · have ed : dv1 ds = 1 := by unfold dv1; rw [if_pos hv]
    rw [ed]
    have SG := isign_any false D m d ds W0 Q.out
    rw [iv_neg hv, show sgnZ 0 = 0 from rfl] at SG
    have S := hid SG
    clear SG hv ed
    go_enter Tryz.func112, Tryz.ntmps112
    go_upto_region 2 with fail
    rw [← hW]
    clear hW
    obtain ⟨y0, y1⟩ := blk_two K3.out
    go_wp2_with fail
    refine (S.out).mono ?_
    rintro e w1 ⟨rfl, b⟩
    have L1 := hid (K1.out.keep b)
    have L2 := hid (K2.out.keep b)
    have L3 := hid (K3.out.keep b)
    have T1 := hid (R.out.keep b)
    have X1 := hid (bx_call X.out b)
    clear b K1 K2 K3 R Q X S y0 y1
    go_wp2_with fail
    refine (ifrom_any 1 w1 (by omega) (by omega)).mono ?_
    rintro e w2 ⟨A2, n2, c2, rfl, r2, b⟩
    have M1 := hid (L1.out.keep b)
    have M2 := hid (L2.out.keep b)
    have M3 := hid (L3.out.keep b)
    have T2 := hid (T1.out.keep b)
    have X2 := hid (bx_call X1.out b)
    have l2 : n2 ≤ k := by rw [← r2.1, show (dg (1 : Int).natAbs).length = 1 from rfl]; exact hk
    have U2 := hid r2
    clear b r2 L1 L2 L3 T1 X1
    obtain ⟨W3, hW3⟩ : ∃ W, W = (w2.setCell ⟨w.heap.size + 1 + 1, 0, none⟩ (.bool (sg 1))).setCell ⟨w.heap.size + 1 + 1, 1, none⟩ (.slice A2 n2 c2) := ⟨_, rfl⟩
    have N1 : Hid (Blk W3 w.heap.size [.bool g, .slice A n c, .slice D m d] 41) := hid (by rw [hW3]; exact (M1.out.far (by omega) _).far (by omega) _)
    have N2 : Hid (Blk W3 (w.heap.size + 1) [.bool false, .slice none 0 0, .bool false, .slice none 0 0] 130) := hid (by rw [hW3]; exact (M2.out.far (by omega) _).far (by omega) _)
    have N3 : Hid (Blk W3 (w.heap.size + 1 + 1) [.bool (sg 1), .slice A2 n2 c2] 39) := hid (by rw [hW3]; exact M3.out.reset)
    have T3 : Hid (Rd W3 A n c xs) := hid (by rw [hW3]; exact rd_cell_far T2.out M3.out _ _)
    have U3 : Hid (Rd W3 A2 n2 c2 (dg (1 : Int).natAbs)) := hid (by rw [hW3]; exact rd_cell_far U2.out M3.out _ _)
    have X3 : Hid (Below w.heap.size w W3) := hid (by rw [hW3]; exact bx_set (bx_set X2.out (by omega)) (by omega))
    obtain ⟨z0, z1⟩ := blk_two M3.out
    have f0 := Blk.free M3.out 0
    have f1 := Blk.free M3.out 1
    go_upto_region 4 with fail
    rw [← hW3]
    clear hW3 z0 z1 f0 f1 M1 M2 M3 T2 U2 X2
    have E := hid (ret_pair_end T3.out (rfl : iv g xs = iv g xs) hn U3.out (iv_sg 1) l2 N2.out X3.out (Nat.le_succ _))
    obtain ⟨a0, a1, a2⟩ := blk_three N1.out
    obtain ⟨p0, p1, p2, p3⟩ := blk_four N2.out
    obtain ⟨y0, y1⟩ := blk_two N3.out
    have f0 := Blk.free N2.out 0
    have f1 := Blk.free N2.out 1
    have f2 := Blk.free N2.out 2
    have f3 := Blk.free N2.out 3
    clear N1 N2 N3 T3 U3 X3
    go_wp2_with fail
    exact bodyPost_ret (v := .agg #[.bool g, .slice A n c, .bool (sg 1), .slice A2 n2 c2]) (by simp [results, Tryz.results112, go_sem, p0, p1, p2, p3]) rfl E.out
  · have ed : (dv1 ds : Int) = iv false ds := by unfold dv1 iv; rw [if_neg hv]; rfl
    rw [ed]
    have hs : (sgnZ (iv false ds) == 0) = false := by
      rw [beq_eq_false_iff_ne]
      unfold sgnZ iv
      simp
      omega
    have S := hid (isign_any false D m d ds W0 Q.out)
    obtain ⟨s, hss⟩ : ∃ s, s = sgnZ (iv false ds) := ⟨_, rfl⟩
    rw [← hss] at S hs
    clear hv ed hss
    go_enter Tryz.func112, Tryz.ntmps112
    go_upto_region 2 with fail
    rw [← hW]
    clear hW
    obtain ⟨y0, y1⟩ := blk_two K3.out
    go_wp2_with fail
    refine (S.out).mono ?_
    rintro e w1 ⟨rfl, b⟩
    have L1 := hid (K1.out.keep b)
    have L2 := hid (K2.out.keep b)
    have L3 := hid (K3.out.keep b)
    have T1 := hid (R.out.keep b)
    have Q1 := hid (Q.out.keep b)
    have X1 := hid (bx_call X.out b)
    clear b K1 K2 K3 R Q X S y0 y1
    have E := hid (ret_pair_end T1.out (rfl : iv g xs = iv g xs) hn Q1.out (rfl : iv false ds = iv false ds) hm L2.out X1.out (Nat.le_succ _))
    obtain ⟨a0, a1, a2⟩ := blk_three L1.out
    obtain ⟨p0, p1, p2, p3⟩ := blk_four L2.out
    obtain ⟨y0, y1⟩ := blk_two L3.out
    have f0 := Blk.free L2.out 0
    have f1 := Blk.free L2.out 1
    have f2 := Blk.free L2.out 2
    have f3 := Blk.free L2.out 3
    clear L1 L2 L3 T1 Q1 X1
    go_wp2_with fail
    exact bodyPost_ret (v := .agg #[.bool g, .slice A n c, .bool false, .slice D m d]) (by simp [results, Tryz.results112, go_sem, p0, p1, p2, p3]) rfl E.out
structure PreP1 (w : World) (g1 : Bool) (s1 : Value) (g2 : Bool) (s2 : Value) (W : World) : Prop where
  arg : Blk W w.heap.size [.bool g1, s1, .bool g2, s2] 130
  res : Blk W (w.heap.size + 1) [.bool false, .slice none 0 0, .bool false, .slice none 0 0] 130
  bel : Below w.heap.size w W
theorem PreP1.start (w : World) (g1 : Bool) (s1 : Value) (g2 : Bool) (s2 : Value) : PreP1 w g1 s1 g2 s2 ((w.alloc (.cells #[.bool g1, s1, .bool g2, s2] 130)).alloc (.cells #[.bool false, .slice none 0 0, .bool false, .slice none 0 0] 130)) :=
  ⟨(Blk.new w [.bool g1, s1, .bool g2, s2] _).alloc _, blk_new1 w _ [.bool false, .slice none 0 0, .bool false, .slice none 0 0] _, bx_alloc (bx_alloc (bx_refl w) _) _⟩
theorem PreP1.keep {w W W' : World} {g1 g2 : Bool} {s1 s2 : Value} (h : PreP1 w g1 s1 g2 s2 W) (k : Below W.heap.size W W') : PreP1 w g1 s1 g2 s2 W' := ⟨h.arg.keep k, h.res.keep k, bx_call h.bel k⟩
theorem PreP1.rcells {w W : World} {g1 g2 : Bool} {s1 s2 : Value} (h : PreP1 w g1 s1 g2 s2 W) : (W.cell? ⟨w.heap.size + 1, 0, none⟩ = some (.bool false) ∧ W.cell? ⟨w.heap.size + 1, 1, none⟩ = some (.slice none 0 0) ∧ W.cell? ⟨w.heap.size + 1, 2, none⟩ = some (.bool false) ∧ W.cell? ⟨w.heap.size + 1, 3, none⟩ = some (.slice none 0 0)) ∧ W.frozen? ⟨w.heap.size + 1, 0, none⟩ = false ∧ W.frozen? ⟨w.heap.size + 1, 1, none⟩ = false ∧ W.frozen? ⟨w.heap.size + 1, 2, none⟩ = false ∧ W.frozen? ⟨w.heap.size + 1, 3, none⟩ = false :=
  ⟨blk_four h.res, Blk.free h.res 0, Blk.free h.res 1, Blk.free h.res 2, Blk.free h.res 3⟩
set_option maxHeartbeats 2000000 in
theorem negative_any (g1 : Bool) (A : Option Addr) (n c : Nat) (xs : List Nat) (g2 : Bool) (D : Option Addr) (m d : Nat) (ys : List Nat) (k : Nat) (w : World) (h : Rd w A n c xs) (hn : n ≤ k) (q : Rd w D m d ys) (hm : m ≤ k) (hk : k ≤ 1099511627776) :
    Calls Tryz.prog 113 #[.agg #[.bool g1, .slice A n c, .bool g2, .slice D m d]] w (RetP w (-iv g1 xs) (iv g2 ys) k) := by
  have P0 := hid (PreP1.start w g1 (.slice A n c) g2 (.slice D m d))
  obtain ⟨W0, hW⟩ : ∃ W, W = (w.alloc (.cells #[.bool g1, .slice A n c, .bool g2, .slice D m d] 130)).alloc (.cells #[.bool false, .slice none 0 0, .bool false, .slice none 0 0] 130) := ⟨_, rfl⟩
  rw [← hW] at P0
  have NG := hid (fun (W : World) (hw : Below W0.heap.size W0 W) => ineg_any g1 A n c xs W ((h.keep P0.out.bel).keep hw) (by omega))
  have Q := hid (q.keep P0.out.bel)
  have ln : (dg (-iv g1 xs).natAbs).length ≤ k := by rw [Int.natAbs_neg]; exact Nat.le_trans (dg_abs_len (g := g1) h.2.2.2.1 h.1) hn
  obtain ⟨z, hz⟩ : ∃ z, z = -iv g1 xs := ⟨_, rfl⟩
  rw [← hz] at NG ln ⊢
  clear h q hz
  go_enter Tryz.func113, Tryz.ntmps113
  go_upto_region 1 with fail
  rw [← hW]
  clear hW
  obtain ⟨s0, s1, s2, s3⟩ := blk_four P0.out.arg
  go_region_held3 (fun W => W.cell? ⟨w.heap.size, 0, none⟩ = some (.bool g1) ∧ W.cell? ⟨w.heap.size, 1, none⟩ = some (.slice A n c) ∧ W.cell? ⟨w.heap.size, 2, none⟩ = some (.bool g2) ∧ W.cell? ⟨w.heap.size, 3, none⟩ = some (.slice D m d))
    (refine ⟨?_, ?_, ?_, ?_⟩ <;> repeat' (first | with_reducible assumption | with_reducible refine cell_dr ?_ | with_reducible refine cell_fr ?_ (by omega)))
    (first
      | (go_at_call 119; refine (NG.out _ (bx_drew (bx_refl _))).mono ?_; rintro e w1 ⟨A1, n1, c1, rfl, r1, b⟩; have t0 := cell_bx (cell_dr s0) b; have t1 := cell_bx (cell_dr s1) b; have t2 := cell_bx (cell_dr s2) b; have t3 := cell_bx (cell_dr s3) b; have P1 := hid (P0.out.keep (bx_call (bx_drew (bx_refl _)) b)); have E := hid (ret_pair_end r1 (iv_sg z) (show n1 ≤ k from by rw [← r1.1]; exact ln) (Q.out.keep (bx_call (bx_drew (bx_refl _)) b)) (rfl : iv g2 ys = iv g2 ys) hm P1.out.res P1.out.bel (Nat.le_succ _)); obtain ⟨⟨x0, x1, x2, x3⟩, f0, f1, f2, f3⟩ := P1.out.rcells; clear b r1))
  go_wp2_with fail
  exact bodyPost_ret (v := .agg #[.bool (sg z), .slice A1 n1 c1, .bool g2, .slice D m d]) (by simp [results, Tryz.results113, go_sem, x0, x1, x2, x3]) rfl E.out
theorem mul_len2 {g1 g2 : Bool} {xs ys : List Nat} {k : Nat} (h : Digs xs) (hn : xs.length ≤ k) (q : Digs ys) (hm : ys.length ≤ k) : (dg (iv g1 xs * iv g2 ys).natAbs).length ≤ k + k := by
  rw [Int.natAbs_mul]
  exact dg_mul_len (Nat.le_trans (dg_abs_len (g := g1) h rfl) hn) (Nat.le_trans (dg_abs_len (g := g2) q rfl) hm)
set_option maxHeartbeats 4000000 in
theorem times1_any (g1 : Bool) (A : Option Addr) (n c : Nat) (xs : List Nat) (g2 : Bool) (D : Option Addr) (m d : Nat) (ys : List Nat) (h1 : Bool) (B : Option Addr) (n2 c2 : Nat) (us : List Nat) (h2 : Bool) (E : Option Addr) (m2 d2 : Nat) (vs : List Nat) (qb : Nat) (k : Nat) (w : World)
    (ra : Rd w A n c xs) (hn : n ≤ k) (rd : Rd w D m d ys) (hm : m ≤ k) (rb : Rd w B n2 c2 us) (hn2 : n2 ≤ k) (re : Rd w E m2 d2 vs) (hm2 : m2 ≤ k) (kq : Blk w qb [.bool h1, .slice B n2 c2, .bool h2, .slice E m2 d2] 130) (hk : k ≤ 1099511627775) :
    Calls Tryz.prog 160 #[.agg #[.bool g1, .slice A n c, .bool g2, .slice D m d], .pointer (some ⟨qb, 0, none⟩)] w (RetP w (iv g1 xs * iv h1 us) (iv g2 ys * iv h2 vs) (k + k)) := by
  have P0 := hid (PreP1.start w g1 (.slice A n c) g2 (.slice D m d))
  obtain ⟨W0, hW⟩ : ∃ W, W = (w.alloc (.cells #[.bool g1, .slice A n c, .bool g2, .slice D m d] 130)).alloc (.cells #[.bool false, .slice none 0 0, .bool false, .slice none 0 0] 130) := ⟨_, rfl⟩
  rw [← hW] at P0
  have qlt := kq.lt
  have KQ := hid (kq.keep P0.out.bel)
  have l1 := mul_len2 (g1 := g1) (g2 := h1) ra.2.2.2.1 (by rw [ra.1]; exact hn) rb.2.2.2.1 (by rw [rb.1]; exact hn2)
  have l2 := mul_len2 (g1 := g2) (g2 := h2) rd.2.2.2.1 (by rw [rd.1]; exact hm) re.2.2.2.1 (by rw [re.1]; exact hm2)
  have M1 := hid (fun (W : World) (hw : Below W0.heap.size W0 W) => imul_any g1 A n c xs h1 B n2 c2 us W ((ra.keep P0.out.bel).keep hw) (by omega) ((rb.keep P0.out.bel).keep hw) (by omega))
  have M2 := hid (fun (W : World) (hw : Below W0.heap.size W0 W) => imul_any g2 D m d ys h2 E m2 d2 vs W ((rd.keep P0.out.bel).keep hw) (by omega) ((re.keep P0.out.bel).keep hw) (by omega))
  obtain ⟨z1, hz1⟩ : ∃ z, z = iv g1 xs * iv h1 us := ⟨_, rfl⟩
  obtain ⟨z2, hz2⟩ : ∃ z, z = iv g2 ys * iv h2 vs := ⟨_, rfl⟩
  rw [← hz1] at M1 l1 ⊢
  rw [← hz2] at M2 l2 ⊢
  clear ra rd rb re kq hz1 hz2
  go_enter Tryz.func160, Tryz.ntmps160
  go_upto_region 1 with fail
  rw [← hW]
  clear hW
  obtain ⟨s0, s1, s2, s3⟩ := blk_four P0.out.arg
  obtain ⟨q0, q1, q2, q3⟩ := blk_four KQ.out
  go_region_held3 (fun W => W.cell? ⟨w.heap.size, 0, none⟩ = some (.bool g1) ∧ W.cell? ⟨w.heap.size, 1, none⟩ = some (.slice A n c) ∧ W.cell? ⟨w.heap.size, 2, none⟩ = some (.bool g2) ∧ W.cell? ⟨w.heap.size, 3, none⟩ = some (.slice D m d) ∧ W.cell? ⟨qb, 0, none⟩ = some (.bool h1) ∧ W.cell? ⟨qb, 1, none⟩ = some (.slice B n2 c2) ∧ W.cell? ⟨qb, 2, none⟩ = some (.bool h2) ∧ W.cell? ⟨qb, 3, none⟩ = some (.slice E m2 d2))
    (refine ⟨?_, ?_, ?_, ?_, ?_, ?_, ?_, ?_⟩ <;> repeat' (first | with_reducible assumption | with_reducible refine cell_dr ?_ | with_reducible refine cell_fr ?_ (by omega)))
    (first
      | (go_at_call 144; refine (M2.out y1 X1.out).mono ?_; rintro e y2 ⟨A2, n4, c4, rfl, r2, b⟩; have u0 := cell_bx t0 b; have u1 := cell_bx t1 b; have u2 := cell_bx t2 b; have u3 := cell_bx t3 b; have v0 := cell_bx w0 b; have v1 := cell_bx w1 b; have v2 := cell_bx w2 b; have v3 := cell_bx w3 b; have P1 := hid (P0.out.keep (bx_call X1.out b)); have E1 := hid (ret_pair_end (R1.out.keep b) (iv_sg z1) (show n3 ≤ k + k from by rw [← R1.out.1]; exact l1) r2 (iv_sg z2) (show n4 ≤ k + k from by rw [← r2.1]; exact l2) P1.out.res P1.out.bel (Nat.le_succ _)); obtain ⟨⟨x0, x1, x2, x3⟩, f0, f1, f2, f3⟩ := P1.out.rcells; clear b r2)
      | (go_at_call 144; refine (M1.out _ (bx_drew (bx_refl _))).mono ?_; rintro e y1 ⟨A1, n3, c3, rfl, r1, b⟩; have t0 := cell_bx (cell_dr s0) b; have t1 := cell_bx (cell_dr s1) b; have t2 := cell_bx (cell_dr s2) b; have t3 := cell_bx (cell_dr s3) b; have w0 := cell_bx (cell_dr q0) b; have w1 := cell_bx (cell_dr q1) b; have w2 := cell_bx (cell_dr q2) b; have w3 := cell_bx (cell_dr q3) b; have R1 := hid r1; have X1 := hid (bx_call (bx_drew (bx_refl _)) b); clear b r1))
  go_wp2_with fail
  exact bodyPost_ret (v := .agg #[.bool (sg z1), .slice A1 n3 c3, .bool (sg z2), .slice A2 n4 c4]) (by simp [results, Tryz.results160, go_sem, x0, x1, x2, x3]) rfl E1.out
def RetF (w : World) (F : Nat) (p q : Int) (k : Nat) (e : Ending) (w' : World) : Prop := ∃ b g1 A n c xs g2 D m d ys, e = .returned (.func (.func F) #[] #[.pointer (some ⟨b, 0, none⟩)]) ∧ Blk w' b [.bool g1, .slice A n c, .bool g2, .slice D m d] 130 ∧ Rd w' A n c xs ∧ iv g1 xs = p ∧ n ≤ k ∧ Rd w' D m d ys ∧ iv g2 ys = q ∧ m ≤ k ∧ Below w.heap.size w w'
set_option maxHeartbeats 2000000 in
theorem times_any (g : Bool) (A : Option Addr) (n c : Nat) (xs : List Nat) (D : Option Addr) (m d : Nat) (ds : List Nat) (k : Nat) (w : World) (h : Rd w A n c xs) (hn : n ≤ k) (q : Rd w D m d ds) (hm : m ≤ k) (hk : 1 ≤ k) :
    Calls Tryz.prog 141 #[.agg #[.bool g, .slice A n c, .slice D m d]] w (RetF w 160 (iv g xs) (dv1 ds : Int) k) := by
  have bx : Below w.heap.size w (w.alloc (.cells #[.bool g, .slice A n c, .slice D m d] 41)) := bx_alloc (bx_refl w) _
  have PA := hid (parts_any g A n c xs D m d ds k _ (h.keep bx) hn (q.keep bx) hm hk)
  have X := hid bx
  obtain ⟨p0, hp0⟩ : ∃ p, p = iv g xs := ⟨_, rfl⟩
  obtain ⟨q0, hq0⟩ : ∃ p : Int, p = (dv1 ds : Int) := ⟨_, rfl⟩
  rw [← hp0, ← hq0] at PA ⊢
  clear bx h q hp0 hq0
  go_enter Tryz.func141, Tryz.ntmps141
  go_wp2_with fail
  refine (PA.out).mono ?_
  rintro e w1 ⟨g1, A1, n1, c1, xs1, g2, D1, m1, d1, ys1, rfl, r1, e1, l1, r2, e2, l2, b⟩
  have bb := bx_alloc (bx_refl w1) (.cells #[.bool g1, .slice A1 n1 c1, .bool g2, .slice D1 m1 d1] 130)
  have E := hid (show RetF w 160 p0 q0 k (.returned (.func (.func 160) #[] #[.pointer (some ⟨w1.heap.size, 0, none⟩)])) (w1.alloc (.cells #[.bool g1, .slice A1 n1 c1, .bool g2, .slice D1 m1 d1] 130)) from ⟨w1.heap.size, g1, A1, n1, c1, xs1, g2, D1, m1, d1, ys1, rfl, Blk.new w1 [.bool g1, .slice A1 n1 c1, .bool g2, .slice D1 m1 d1] _, r1.keep bb, e1, l1, r2.keep bb, e2, l2, bx_call (bx_call X.out b) bb⟩)
  clear r1 e1 l1 r2 e2 l2 b bb X PA
  go_wp2_with fail
  go_ret
  exact E.out
set_option maxHeartbeats 2000000 in
theorem plus_any (g : Bool) (A : Option Addr) (n c : Nat) (xs : List Nat) (D : Option Addr) (m d : Nat) (ds : List Nat) (k : Nat) (w : World) (h : Rd w A n c xs) (hn : n ≤ k) (q : Rd w D m d ds) (hm : m ≤ k) (hk : 1 ≤ k) :
    Calls Tryz.prog 114 #[.agg #[.bool g, .slice A n c, .slice D m d]] w (RetF w 142 (iv g xs) (dv1 ds : Int) k) := by
  have bx : Below w.heap.size w (w.alloc (.cells #[.bool g, .slice A n c, .slice D m d] 41)) := bx_alloc (bx_refl w) _
  have PA := hid (parts_any g A n c xs D m d ds k _ (h.keep bx) hn (q.keep bx) hm hk)
  have X := hid bx
  obtain ⟨p0, hp0⟩ : ∃ p, p = iv g xs := ⟨_, rfl⟩
  obtain ⟨q0, hq0⟩ : ∃ p : Int, p = (dv1 ds : Int) := ⟨_, rfl⟩
  rw [← hp0, ← hq0] at PA ⊢
  clear bx h q hp0 hq0
  go_enter Tryz.func114, Tryz.ntmps114
  go_wp2_with fail
  refine (PA.out).mono ?_
  rintro e w1 ⟨g1, A1, n1, c1, xs1, g2, D1, m1, d1, ys1, rfl, r1, e1, l1, r2, e2, l2, b⟩
  have bb := bx_alloc (bx_refl w1) (.cells #[.bool g1, .slice A1 n1 c1, .bool g2, .slice D1 m1 d1] 130)
  have E := hid (show RetF w 142 p0 q0 k (.returned (.func (.func 142) #[] #[.pointer (some ⟨w1.heap.size, 0, none⟩)])) (w1.alloc (.cells #[.bool g1, .slice A1 n1 c1, .bool g2, .slice D1 m1 d1] 130)) from ⟨w1.heap.size, g1, A1, n1, c1, xs1, g2, D1, m1, d1, ys1, rfl, Blk.new w1 [.bool g1, .slice A1 n1 c1, .bool g2, .slice D1 m1 d1] _, r1.keep bb, e1, l1, r2.keep bb, e2, l2, bx_call (bx_call X.out b) bb⟩)
  clear r1 e1 l1 r2 e2 l2 b bb X PA
  go_wp2_with fail
  go_ret
  exact E.out
def np (p q : Int) : Int := if q < 0 then -p else p
def dz (p q : Int) : Int := if q < 0 then -(Nat.gcd p.natAbs q.natAbs : Int) else (Nat.gcd p.natAbs q.natAbs : Int)
theorem np_abs (p q : Int) : (np p q).natAbs = p.natAbs := by unfold np; split <;> simp
theorem gcd_pos2 {p q : Int} (hq : q ≠ 0) : 0 < Nat.gcd p.natAbs q.natAbs := Nat.gcd_pos_of_pos_right _ (by omega)
theorem dz_abs (p q : Int) : (dz p q).natAbs = Nat.gcd p.natAbs q.natAbs := by unfold dz; split <;> simp
theorem dz_ne {p q : Int} (hq : q ≠ 0) : dz p q ≠ 0 := by
  have := dz_abs p q
  have := gcd_pos2 (p := p) hq
  omega
theorem dz_sg {p q : Int} (hq : q ≠ 0) : sg (dz p q) = decide (q < 0) := by
  have := gcd_pos2 (p := p) hq
  unfold sg dz
  by_cases h : q < 0
  · rw [if_pos h, decide_eq_true h]; exact decide_eq_true (by omega)
  · rw [if_neg h, decide_eq_false h]; exact decide_eq_false (by omega)
theorem dz_num {p q : Int} (hq : q ≠ 0) : p.tdiv (dz p q) = lz (np p q) q.natAbs := by
  have hg := gcd_pos2 (p := p) hq
  have h1 := low_num (np p q) q.natAbs
  rw [np_abs] at h1
  unfold dz
  by_cases h : q < 0
  · rw [if_pos h]
    have e : p = lz (np p q) q.natAbs * -(Nat.gcd p.natAbs q.natAbs : Int) := by
      unfold np at h1 ⊢
      rw [if_pos h] at h1 ⊢
      rw [Int.mul_neg, h1]; omega
    generalize lz (np p q) q.natAbs = z at *
    generalize Nat.gcd p.natAbs q.natAbs = G at *
    rw [e]
    exact Int.mul_tdiv_cancel _ (by omega)
  · rw [if_neg h]
    have e : p = lz (np p q) q.natAbs * (Nat.gcd p.natAbs q.natAbs : Int) := by
      unfold np at h1 ⊢
      rw [if_neg h] at h1 ⊢
      exact h1.symm
    generalize lz (np p q) q.natAbs = z at *
    generalize Nat.gcd p.natAbs q.natAbs = G at *
    rw [e]
    exact Int.mul_tdiv_cancel _ (by omega)
theorem dz_den {p q : Int} (hq : q ≠ 0) : q.tdiv (dz p q) = (ly (np p q) q.natAbs : Int) := by
  have hg := gcd_pos2 (p := p) hq
  have h1 := low_den (np p q) q.natAbs
  rw [np_abs] at h1
  have h2 : ((ly (np p q) q.natAbs : Nat) : Int) * (Nat.gcd p.natAbs q.natAbs : Int) = (q.natAbs : Int) := by rw [← Int.natCast_mul, h1]
  unfold dz
  generalize (ly (np p q) q.natAbs : Int) = y at *
  generalize Nat.gcd p.natAbs q.natAbs = G at *
  by_cases h : q < 0
  · rw [if_pos h]
    have e : q = y * -(G : Int) := by rw [Int.mul_neg, h2]; omega
    rw [e]
    exact Int.mul_tdiv_cancel _ (by omega)
  · rw [if_neg h]
    have e : q = y * (G : Int) := by rw [h2]; omega
    rw [e]
    exact Int.mul_tdiv_cancel _ (by omega)
end Go.Proofs.YtdbccidlnhjfhaaGreatDoor
namespace Go.Proofs.YtdbccidlnhjfhaaGreatDoor
set_option maxRecDepth 100000
def sgnQ (q : Rat) : Int := if q < 0 then -1 else if 0 < q then 1 else 0
theorem low_rat {x : Int} {y : Nat} (h : 0 < y) : lz x y = (mkRat x y).num ∧ ly x y = (mkRat x y).den := by
  have h0 : y ≠ 0 := by omega
  rw [Rat.mkRat_def, dif_neg h0, Rat.normalize_eq]
  refine ⟨?_, rfl⟩
  have h1 := low_num x y
  have hg : (Nat.gcd x.natAbs y : Int) ≠ 0 := by have := Nat.gcd_pos_of_pos_right x.natAbs h; omega
  show lz x y = x / (Nat.gcd x.natAbs y : Int)
  generalize lz x y = z at *
  generalize (Nat.gcd x.natAbs y : Int) = G at *
  rw [← h1, Int.mul_ediv_cancel _ hg]
theorem lz_rat {x : Int} {y : Nat} (h : 0 < y) : lz x y = (mkRat x y).num := (low_rat h).1
theorem ly_rat {x : Int} {y : Nat} (h : 0 < y) : ly x y = (mkRat x y).den := (low_rat h).2
theorem num_neg_iff {q : Rat} : q.num < 0 ↔ q < 0 := by
  rw [← Rat.not_le, ← Rat.num_nonneg]; omega
theorem num_pos_iff {q : Rat} : 0 < q.num ↔ 0 < q := by
  have h1 := @Rat.num_nonneg q
  have h2 := @Rat.num_eq_zero q
  rw [Rat.lt_iff_le_and_ne]
  constructor
  · intro h
    exact ⟨h1.1 (by omega), fun e => by rw [← e] at h; exact absurd h (by decide)⟩
  · intro ⟨a, b⟩
    have := h1.2 a
    have : q.num ≠ 0 := fun e => b (h2.1 e).symm
    omega
theorem sgnZ_num (q : Rat) : sgnZ q.num = sgnQ q := by
  unfold sgnZ sgnQ
  simp only [num_neg_iff, num_pos_iff]
theorem num_mkRat_le (x : Int) {y : Nat} (h : 0 < y) : (mkRat x y).num.natAbs ≤ x.natAbs := by
  rw [← lz_rat h]
  unfold lz
  split
  · rw [Int.natAbs_neg, Int.natAbs_natCast]; exact Nat.div_le_self _ _
  · rw [Int.natAbs_natCast]; exact Nat.div_le_self _ _
theorem den_mkRat_le (x : Int) {y : Nat} (h : 0 < y) : (mkRat x y).den ≤ y := by
  rw [← ly_rat h]
  exact Nat.div_le_self _ _
theorem sgn_mkRat (x : Int) {y : Nat} (h : 0 < y) : sgnZ x = sgnQ (mkRat x y) := by
  rw [← sgnZ_num, ← lz_rat h]
  have h1 := low_num x y
  have hg : 0 < (Nat.gcd x.natAbs y : Int) := by have := Nat.gcd_pos_of_pos_right x.natAbs h; omega
  generalize lz x y = z at *
  generalize (Nat.gcd x.natAbs y : Int) = G at *
  unfold sgnZ
  rcases Int.lt_trichotomy z 0 with a | a | a
  · have := Int.mul_neg_of_neg_of_pos a hg
    rw [if_pos a, if_pos (by omega)]
  · subst a
    rw [Int.zero_mul] at h1
    rw [← h1]
  · have := Int.mul_pos a hg
    rw [if_neg (show ¬x < 0 by omega), if_pos (show 0 < x by omega), if_neg (show ¬z < 0 by omega), if_pos a]
theorem mkRat_add {x1 x2 : Int} {y1 y2 : Nat} (h1 : 0 < y1) (h2 : 0 < y2) : mkRat (x1 * y2 + x2 * y1) (y1 * y2) = mkRat x1 y1 + mkRat x2 y2 := (Rat.mkRat_add_mkRat x1 x2 (by omega) (by omega)).symm
theorem mkRat_mul (x1 x2 : Int) (y1 y2 : Nat) : mkRat (x1 * x2) (y1 * y2) = mkRat x1 y1 * mkRat x2 y2 := (Rat.mkRat_mul_mkRat x1 x2 y1 y2).symm
theorem mkRat_npos {p q : Int} (np : Int) (h : np = if q < 0 then -p else p) : mkRat np q.natAbs = (p : Rat) / (q : Rat) := by
  rw [Rat.mkRat_eq_div, h]
  by_cases hl : q < 0
  · rw [if_pos hl]
    have : ((q.natAbs : Nat) : Rat) = -(q : Rat) := by
      rw [← Rat.intCast_natCast, show ((q.natAbs : Nat) : Int) = -q by omega, Rat.intCast_neg]
    rw [this, Rat.intCast_neg]
    grind
  · rw [if_neg hl]
    have : ((q.natAbs : Nat) : Rat) = (q : Rat) := by
      rw [← Rat.intCast_natCast, show ((q.natAbs : Nat) : Int) = q by omega]
    rw [this]
def pv (p q : Int) : Rat := (p : Rat) / (q : Rat)
theorem ic_ne {q : Int} (h : q ≠ 0) : (q : Rat) ≠ 0 := fun e => h (Rat.intCast_inj.1 (e.trans Rat.intCast_zero.symm))
theorem pv_mk (p : Int) (y : Nat) : mkRat p y = pv p y := by unfold pv; rw [Rat.mkRat_eq_div, Rat.intCast_natCast]
def pp (p q p1 q1 : Int) : Int := if q = q1 then p + p1 else p * q1 + p1 * q
def pq (q q1 : Int) : Int := if q = q1 then q else q * q1
theorem pp_val {p q p1 q1 : Int} (h : q ≠ 0) (h1 : q1 ≠ 0) : pv (pp p q p1 q1) (pq q q1) = pv p q + pv p1 q1 := by
  have a := ic_ne h
  have b := ic_ne h1
  unfold pv pp pq
  by_cases e : q = q1
  · subst e
    rw [if_pos rfl, if_pos rfl, Rat.intCast_add]
    grind
  · rw [if_neg e, if_neg e, Rat.intCast_add, Rat.intCast_mul, Rat.intCast_mul, Rat.intCast_mul]
    grind
theorem pq_ne {q q1 : Int} (h : q ≠ 0) (h1 : q1 ≠ 0) : pq q q1 ≠ 0 := by
  unfold pq
  split
  · exact h
  · exact Int.mul_ne_zero h h1
theorem pv_neg (p q : Int) : pv (-p) q = -pv p q := by
  unfold pv
  rw [Rat.intCast_neg]
  grind
theorem pv_mul {p q p1 q1 : Int} (h : q ≠ 0) (h1 : q1 ≠ 0) : pv (p * p1) (q * q1) = pv p q * pv p1 q1 := by
  have a := ic_ne h
  have b := ic_ne h1
  unfold pv
  rw [Rat.intCast_mul, Rat.intCast_mul]
  grind
theorem pv_np {p q : Int} : mkRat (np p q) q.natAbs = pv p q := mkRat_npos _ rfl
end Go.Proofs.YtdbccidlnhjfhaaGreatDoor
namespace Go.Proofs.YtdbccidlnhjfhaaGreatDoor
open Go.RowKit
set_option maxRecDepth 100000
theorem sgnZ_ne0 {z : Int} (h : z ≠ 0) : sgnZ z ≠ 0 := by
  unfold sgnZ
  split
  · omega
  · rw [if_pos (by omega)]; omega
set_option maxHeartbeats 16000000 in
theorem lowest_of (steps : Value) (g0 : Bool) (A0 : Option Addr) (n0 c0 : Nat) (h0 : Bool) (D0 : Option Addr) (m0 d0 : Nat) (p q : Int) (k : Nat) (w : World) (hq : q ≠ 0) (hk : k ≤ 1099511627775)
    (FO : ∀ W : World, Below w.heap.size w W → Calls Tryz.prog 111 #[.agg #[.bool g0, .slice A0 n0 c0, .bool h0, .slice D0 m0 d0], steps] W (RetP W p q k)) :
    Calls Tryz.prog 140 #[.agg #[.bool g0, .slice A0 n0 c0, .bool h0, .slice D0 m0 d0], steps] w (RetRat w (lz (np p q) q.natAbs) (ly (np p q) q.natAbs)) := by
  have bx : Below w.heap.size w ((w.alloc (.cells #[.bool g0, .slice A0 n0 c0, .bool h0, .slice D0 m0 d0] 130)).alloc (.cells #[.bool false, .slice none 0 0, .slice none 0 0] 41)) := bx_alloc (bx_alloc (bx_refl w) _) _
  have K := hid ((Blk.new w [.bool g0, .slice A0 n0 c0, .bool h0, .slice D0 m0 d0] 130).alloc (.cells #[.bool false, .slice none 0 0, .slice none 0 0] 41))
  have Q := hid (blk_new1 w (.cells #[.bool g0, .slice A0 n0 c0, .bool h0, .slice D0 m0 d0] 130) [.bool false, .slice none 0 0, .slice none 0 0] 41)
  have F := hid (FO _ bx)
  obtain ⟨zz, hzz⟩ : ∃ z, z = lz (np p q) q.natAbs := ⟨_, rfl⟩
  obtain ⟨yy, hyy⟩ : ∃ y, y = ly (np p q) q.natAbs := ⟨_, rfl⟩
  rw [← hzz, ← hyy]
  have HZZ := hid hzz
  have HYY := hid hyy
  clear hzz hyy
  have X := hid bx
  clear FO bx
  obtain ⟨a0, a1, a2, a3⟩ := blk_four K.out
  go_enter Tryz.func140, Tryz.ntmps140
  go_wp2_with fail
  refine (F.out).mono ?_
  rintro e w1 ⟨g1, A1, n1, c1, xs, g2, D1, m1, d1, ys, rfl, r1, e1, l1, r2, e2, l2, b⟩
  have hy : val ys ≠ 0 := fun h => hq (by rw [← e2]; exact (iv_zero_iff g2 ys).2 h)
  have G0 : val xs = p.natAbs := by rw [← e1, iv_natAbs]
  have G1 : val ys = q.natAbs := by rw [← e2, iv_natAbs]
  have hg2 : g2 = sg (dz p q) := by
    rw [dz_sg hq, ← e2]
    cases g2
    · exact (decide_eq_false (by unfold iv; simp)).symm
    · exact (decide_eq_true (by unfold iv; simp; omega)).symm
  obtain ⟨dd, hdd⟩ : ∃ d, d = dz p q := ⟨_, rfl⟩
  rw [← hdd] at hg2
  subst hg2
  obtain ⟨v1, hv⟩ : ∃ W, W = (((w1.setCell ⟨w.heap.size, 0, none⟩ (.bool g1)).setCell ⟨w.heap.size, 1, none⟩ (.slice A1 n1 c1)).setCell ⟨w.heap.size, 2, none⟩ (.bool (sg dd))).setCell ⟨w.heap.size, 3, none⟩ (.slice D1 m1 d1) := ⟨_, rfl⟩
  have K0 := K.out.keep b
  have Q0 := Q.out.keep b
  have X0 := bx_call X.out b
  have K1 : Hid (Blk v1 w.heap.size [.bool g1, .slice A1 n1 c1, .bool (sg dd), .slice D1 m1 d1] 130) := hid (by rw [hv]; exact (((K0.set_ 0 _).set_ 1 _).set_ 2 _).set_ 3 _)
  have Q1 : Hid (Blk v1 (w.heap.size + 1) [.bool false, .slice none 0 0, .slice none 0 0] 41) := hid (by rw [hv]; exact (((Q0.far (by omega) _).far (by omega) _).far (by omega) _).far (by omega) _)
  have R1 : Hid (Rd v1 A1 n1 c1 xs) := hid (by rw [hv]; exact rd_cell_far4 r1 K0 _ _ _ _)
  have R2 : Hid (Rd v1 D1 m1 d1 ys) := hid (by rw [hv]; exact rd_cell_far4 r2 K0 _ _ _ _)
  have X1 : Hid (Below w.heap.size w v1) := hid (by rw [hv]; exact bx_set (bx_set (bx_set (bx_set X0 (Nat.le_refl _)) (Nat.le_refl _)) (Nat.le_refl _)) (Nat.le_refl _))
  obtain ⟨x0, x1, x2, x3⟩ := blk_four K0
  have f0 := Blk.free K0 0
  have f1 := Blk.free K0 1
  have f2 := Blk.free K0 2
  have f3 := Blk.free K0 3
  have E1 := hid e1
  have E2 := hid e2
  have GC := hid (fun (W : World) (hw : Below v1.heap.size v1 W) => gcd_any A1 D1 n1 c1 m1 d1 xs ys W (R1.out.keep hw) (R2.out.keep hw) (by omega) (by omega))
  rw [G0, G1, ← dz_abs, ← hdd] at GC
  have HD := hid hdd
  have lG : (dg dd.natAbs).length ≤ k := by rw [hdd, dz_abs]; exact Nat.le_trans (dg_len_mono (Nat.gcd_le_right _ (by omega))) (by rw [← G1]; exact Nat.le_trans (dg_len_small R2.out.2.2.2.1) (by rw [R2.out.1]; exact l2))
  have HN : Hid (p.tdiv dd = zz) := hid (by rw [HZZ.out, hdd]; exact dz_num hq)
  have HQ : Hid (q.tdiv dd = (yy : Int)) := hid (by rw [HYY.out, hdd]; exact dz_den hq)
  have dne : dd ≠ 0 := by rw [hdd]; exact dz_ne hq
  clear r1 r2 e1 e2 b K Q X F K0 Q0 X0 a0 a1 a2 a3 hy G0 G1 hdd
  go_upto_region 2 with fail
  rw [← hv]
  clear hv x0 x1 x2 x3 f0 f1 f2 f3
  have nw := hid (show w.heap.size + 1 < v1.heap.size from Q1.out.lt)
  go_cut [5] (fun s5 wx => ∃ (p : Nat) (AG : Option Addr) (nG cG : Nat), s5 = .pointer (some ⟨p, 0, none⟩) ∧ Hid (Blk wx p [.bool (sg dd), .slice AG nG cG] 39 ∧ Rd wx AG nG cG (dg dd.natAbs) ∧ Below v1.heap.size v1 wx))
  case first =>
   refine wp_region_noPanic ?_
   refine wp_region_held_drew (S := (fun W => W.cell? ⟨w.heap.size, 0, none⟩ = some (.bool g1) ∧ W.cell? ⟨w.heap.size, 1, none⟩ = some (.slice A1 n1 c1) ∧ W.cell? ⟨w.heap.size, 2, none⟩ = some (.bool (sg dd)) ∧ W.cell? ⟨w.heap.size, 3, none⟩ = some (.slice D1 m1 d1))) (by kernel_rfl) ?_ (fun hH => ?_)
   exact blk_four K1.out
   refine wpAnyH_take (i := 0) (v := ?_) (by simp only [gx0, gx2]; rfl) (by kernel_rfl) (by kernel_rfl) (by kernel_rfl) (fun _ _ _ h => h) (.inl ⟨by rfl, ?_⟩) hH ?_
   rotate_left
   · intro w hSw; (try dsimp only at hSw); first | (go_simp; done) | (go_simp; with_reducible rfl)
   (try simp only [Act.put, gy0, gy1, gy2])
   refine wpAnyH_take (i := 1) (v := ?_) (by simp only [gx0, gx1, gx2]; rfl) (by kernel_rfl) (by kernel_rfl) (by kernel_rfl) (fun _ _ _ h => h) (.inl ⟨by rfl, ?_⟩) hH ?_
   rotate_left
   · intro w hSw; (try dsimp only at hSw); first | (go_simp; done) | (go_simp; with_reducible rfl)
   (try simp only [Act.put, gy0, gy1, gy2])
   refine wpAnyH_take (i := 2) (v := ?_) (by simp only [gx0, gx1, gx2]; rfl) (by kernel_rfl) (by kernel_rfl) (by kernel_rfl) (fun _ _ _ h => h) (.inl ⟨by rfl, ?_⟩) hH ?_
   rotate_left
   · intro w hSw; (try dsimp only at hSw); first | (go_simp; done) | (go_simp; with_reducible rfl)
   (try simp only [Act.put, gy0, gy1, gy2])
   refine wpAnyH_take (i := 3) (v := ?_) (by simp only [gx0, gx1, gx2]; rfl) (by kernel_rfl) (by kernel_rfl) (by kernel_rfl) (fun _ _ _ h => h) (.inl ⟨by rfl, ?_⟩) hH ?_
   rotate_left
   · intro w hSw; (try dsimp only at hSw); first | (go_simp; done) | (go_simp; with_reducible rfl)
   (try simp only [Act.put, gy0, gy1, gy2])
   refine wpAnyH_take (i := 4) (v := ?_) (by simp only [gx0, gx1, gx2]; rfl) (by kernel_rfl) (by kernel_rfl) (by kernel_rfl) (fun _ _ _ h => h) (.inl ⟨by rfl, ?_⟩) hH ?_
   rotate_left
   · intro w hSw; (try dsimp only at hSw); first | (go_simp; done) | (go_simp; with_reducible rfl)
   (try simp only [Act.put, gy0, gy1, gy2])
   refine wpAnyH_take (i := 5) (v := ?_) (by simp only [gx0, gx1, gx2]; rfl) (by kernel_rfl) (by kernel_rfl) (by kernel_rfl) (fun _ _ _ h => h) (.inl ⟨by rfl, ?_⟩) hH ?_
   rotate_left
   · intro w hSw; (try dsimp only at hSw); first | (go_simp; done) | (go_simp; with_reducible rfl)
   (try simp only [Act.put, gy0, gy1, gy2])
   refine wpAnyH_take (i := 6) (v := ?_) (by simp only [gx0, gx1, gx2]; rfl) (by kernel_rfl) (by kernel_rfl) (by kernel_rfl) (fun _ _ _ h => h) (.inl ⟨by rfl, ?_⟩) hH ?_
   rotate_left
   · intro w hSw; (try dsimp only at hSw); first | (go_simp; done) | (go_simp; with_reducible rfl)
   (try simp only [Act.put, gy0, gy1, gy2])
   refine wpAnyH_take (i := 7) (v := ?_) (by simp only [gx0, gx1, gx2]; rfl) (by kernel_rfl) (by kernel_rfl) (by kernel_rfl) (fun _ _ _ h => h) (.inl ⟨by rfl, ?_⟩) hH ?_
   rotate_left
   · intro w hSw; (try dsimp only at hSw); first | (go_simp; done) | (go_simp; with_reducible rfl)
   (try simp only [Act.put, gy0, gy1, gy2])
   refine wpAnyH_take (i := 8) (v := ?_) (by simp only [gx0, gx1, gx2]; rfl) (by kernel_rfl) (by kernel_rfl) (by kernel_rfl) (fun _ _ _ h => h) (.inl ⟨by rfl, ?_⟩) hH ?_
   rotate_left
   · intro w hSw; (try dsimp only at hSw); first | (go_simp; done) | (go_simp; with_reducible rfl)
   (try simp only [Act.put, gy0, gy1, gy2])
   have bd := bx_drew (bx_refl v1)
   obtain ⟨W0, hW0⟩ : ∃ W, W = v1.drew := ⟨_, rfl⟩
   rw [← hW0] at bd hH ⊢
   clear hW0
   have BW_0 := hid bd
   clear bd
   refine wpAnyH_ready (rs := [9, 11]) (by kernel_rfl) (by simp) ?_
   refine AllReadyH.cons (by simp only [gx0, gx1, gx2]; rfl) (fun K hK => ?_) ?_
   go_simp
   refine (GC.out _ BW_0.out).mono ?_
   rintro e W1 ⟨vg, rfl, ⟨AG, nG, cG, rfl, rg⟩, b⟩
   have RG := hid rg
   clear rg
   have BW_1 := hid (bx_call BW_0.out b)
   clear BW_0
   have H2 := And.intro (cell_bx hH.1 b) (And.intro (cell_bx hH.2.1 b) (And.intro (cell_bx hH.2.2.1 b) (cell_bx hH.2.2.2 b)))
   clear hH b
   (try go_wp2_with fail)
   refine hK.out _ _ ?_ (fun hH => ?_)
   exact H2
   clear hK K H2
   (try simp only [Act.put, gy0, gy1, gy2])
   refine wpAnyH_take (i := 10) (v := ?_) (by simp only [gx0, gx1, gx2]; rfl) (by kernel_rfl) (by kernel_rfl) (by kernel_rfl) (fun _ _ _ h => h) (.inl ⟨by rfl, ?_⟩) hH ?_
   rotate_left
   · intro w hSw; (try dsimp only at hSw); first | (go_simp; done) | (go_simp; with_reducible rfl)
   (try simp only [Act.put, gy0, gy1, gy2])
   refine wpAnyH_ready (rs := [11]) (by kernel_rfl) (by simp) ?_
   refine AllReadyH.cons (by simp only [gx0, gx1, gx2]; rfl) (fun K hK => ?_) ?_
   go_simp
   obtain ⟨W2, p, hW, hp, b, kk⟩ := mk_int W1
   have gp : v1.heap.size ≤ p := by rw [hp]; exact BW_1.out.size
   rw [← hW, ← hp]
   clear hW hp
   have Kp := hid kk
   clear kk
   have RG_2 := hid (RG.out.keep b)
   have BW_2 := hid (bx_call BW_1.out b)
   clear RG BW_1
   have H2 := And.intro (cell_bx hH.1 b) (And.intro (cell_bx hH.2.1 b) (And.intro (cell_bx hH.2.2.1 b) (cell_bx hH.2.2.2 b)))
   clear hH b
   refine hK.out _ _ ?_ (fun hH => ?_)
   exact H2
   clear hK K H2
   (try simp only [Act.put, gy0, gy1, gy2])
   have TM := hid (one_made (z := dd) BW_2.out gp Kp.out RG_2.out)
   obtain ⟨⟨a1, a2, a3, a4⟩, O⟩ := far_facts Kp.out gp nw.out
   refine wpAnyH_ready (rs := [12]) (by kernel_rfl) (by simp) ?_
   refine AllReadyH.cons (by simp only [gx0, gx1, gx2]; rfl) (fun K hK => ?_) AllReadyH.nil
   go_simp
   refine hK.out _ _ (And.intro (cell_fr (cell_fr hH.1 O.out.1) O.out.1) (And.intro (cell_fr (cell_fr hH.2.1 O.out.1) O.out.1) (And.intro (cell_fr (cell_fr hH.2.2.1 O.out.1) O.out.1) (cell_fr (cell_fr hH.2.2.2 O.out.1) O.out.1)))) (fun hH2 => ?_)
   clear hK K hH a1 a2 a3 a4
   refine wpAnyH_done (by kernel_rfl) ?_ _
   refine NoPanic.normal ?_
   go_wp2_with fail
   go_meet
   exact ⟨p, AG, nG, cG, rfl, hid ⟨TM.out.1.1, TM.out.1.2, TM.out.2⟩⟩
   exact AllReadyH.nil
   refine AllReadyH.cons (by simp only [gx0, gx1, gx2]; rfl) (fun K hK => ?_) ?_
   go_simp
   obtain ⟨W1, p, hW, hp, b, kk⟩ := mk_int W0
   have gp : v1.heap.size ≤ p := by rw [hp]; exact BW_0.out.size
   rw [← hW, ← hp]
   clear hW hp
   have Kp := hid kk
   clear kk
   have BW_1 := hid (bx_call BW_0.out b)
   clear BW_0
   have H2 := And.intro (cell_bx hH.1 b) (And.intro (cell_bx hH.2.1 b) (And.intro (cell_bx hH.2.2.1 b) (cell_bx hH.2.2.2 b)))
   clear hH b
   refine hK.out _ _ ?_ (fun hH => ?_)
   exact H2
   clear hK K H2
   (try simp only [Act.put, gy0, gy1, gy2])
   refine wpAnyH_ready (rs := [9]) (by kernel_rfl) (by simp) ?_
   refine AllReadyH.cons (by simp only [gx0, gx1, gx2]; rfl) (fun K hK => ?_) ?_
   go_simp
   refine (GC.out _ BW_1.out).mono ?_
   rintro e W2 ⟨vg, rfl, ⟨AG, nG, cG, rfl, rg⟩, b⟩
   have RG := hid rg
   clear rg
   have Kp_2 := hid (Kp.out.keep b)
   have BW_2 := hid (bx_call BW_1.out b)
   clear Kp BW_1
   have H2 := And.intro (cell_bx hH.1 b) (And.intro (cell_bx hH.2.1 b) (And.intro (cell_bx hH.2.2.1 b) (cell_bx hH.2.2.2 b)))
   clear hH b
   (try go_wp2_with fail)
   refine hK.out _ _ ?_ (fun hH => ?_)
   exact H2
   clear hK K H2
   (try simp only [Act.put, gy0, gy1, gy2])
   refine wpAnyH_take (i := 10) (v := ?_) (by simp only [gx0, gx1, gx2]; rfl) (by kernel_rfl) (by kernel_rfl) (by kernel_rfl) (fun _ _ _ h => h) (.inl ⟨by rfl, ?_⟩) hH ?_
   rotate_left
   · intro w hSw; (try dsimp only at hSw); first | (go_simp; done) | (go_simp; with_reducible rfl)
   (try simp only [Act.put, gy0, gy1, gy2])
   have TM := hid (one_made (z := dd) BW_2.out gp Kp_2.out RG.out)
   obtain ⟨⟨a1, a2, a3, a4⟩, O⟩ := far_facts Kp_2.out gp nw.out
   refine wpAnyH_ready (rs := [12]) (by kernel_rfl) (by simp) ?_
   refine AllReadyH.cons (by simp only [gx0, gx1, gx2]; rfl) (fun K hK => ?_) AllReadyH.nil
   go_simp
   refine hK.out _ _ (And.intro (cell_fr (cell_fr hH.1 O.out.1) O.out.1) (And.intro (cell_fr (cell_fr hH.2.1 O.out.1) O.out.1) (And.intro (cell_fr (cell_fr hH.2.2.1 O.out.1) O.out.1) (cell_fr (cell_fr hH.2.2.2 O.out.1) O.out.1)))) (fun hH2 => ?_)
   clear hK K hH a1 a2 a3 a4
   refine wpAnyH_done (by kernel_rfl) ?_ _
   refine NoPanic.normal ?_
   go_wp2_with fail
   go_meet
   exact ⟨p, AG, nG, cG, rfl, hid ⟨TM.out.1.1, TM.out.1.2, TM.out.2⟩⟩
   exact AllReadyH.nil
   exact AllReadyH.nil
  case rest =>
  obtain ⟨pb, AG, nG, cG, rfl, hT⟩ := hcut
  obtain ⟨v2, rfl⟩ : ∃ W : World, W = wc := ⟨_, rfl⟩
  have K2 := hid (K1.out.keep hT.out.2.2)
  have Q2 := hid (Q1.out.keep hT.out.2.2)
  have S1 := hid (R1.out.keep hT.out.2.2)
  have S2 := hid (R2.out.keep hT.out.2.2)
  have X2 := hid (bx_call X1.out hT.out.2.2)
  have B2 := hid hT.out.1
  have DG := hid hT.out.2.1
  clear hT K1 Q1 R1 R2 X1 nw GC
  have lg : nG ≤ k := by rw [← DG.out.1]; exact lG
  have cc := iquo_any g1 A1 n1 c1 xs (sg dd) AG nG cG _ v2 S1.out (by omega) DG.out (by omega)
  rw [iv_sg, E1.out, show qz p dd = p.tdiv dd from if_neg dne, HN.out, show ez dd = 0 from if_neg dne] at cc
  obtain ⟨t0, ht0⟩ : ∃ t, t = rz p dd := ⟨_, rfl⟩
  rw [← ht0] at cc
  clear ht0
  have CC := hid cc
  clear cc
  obtain ⟨a0, a1, a2, a3⟩ := blk_four K2.out
  obtain ⟨b0, b1⟩ := blk_two B2.out
  go_wp2_with fail
  refine (CC.out).mono ?_
  rintro e v3 ⟨Az, nz, cz, Ar, nr, cr, rfl, rzz, rr, b⟩
  have p1 := rzz.2.1
  have p2 := rzz.2.2.1
  have p3 := rr.2.1
  have p4 := rr.2.2.1
  have o := bx_alloc (bx_alloc (bx_refl v3) (.cells #[.bool (sg zz), .slice Az nz cz] 39)) (.cells #[.bool (sg t0), .slice Ar nr cr] 39)
  have ob := bx_call b o
  have K3 := hid (K2.out.keep ob)
  have Q3 := hid (Q2.out.keep ob)
  have S3 := hid (S2.out.keep ob)
  have B3 := hid (B2.out.keep ob)
  have D3 := hid (DG.out.keep ob)
  have X3 := hid (bx_call X2.out ob)
  have Z3 := hid (rzz.keep o)
  have N3 := hid ((Blk.new v3 [.bool (sg zz), .slice Az nz cz] 39).alloc (.cells #[.bool (sg t0), .slice Ar nr cr] 39))
  clear rzz rr b o ob CC K2 Q2 S1 S2 B2 DG X2 a0 a1 a2 a3 b0 b1
  obtain ⟨a0, a1, a2, a3⟩ := blk_four K3.out
  obtain ⟨b0, b1⟩ := blk_two B3.out
  go_wp2_with fail
  obtain ⟨V3, hV⟩ : ∃ V, V = (v3.alloc (.cells #[.bool (sg zz), .slice Az nz cz] 39)).alloc (.cells #[.bool (sg t0), .slice Ar nr cr] 39) := ⟨_, rfl⟩
  obtain ⟨iz, hi⟩ : ∃ i, i = v3.heap.size := ⟨_, rfl⟩
  rw [← hV] at K3 Q3 S3 B3 D3 X3 Z3 N3 ⊢
  rw [← hi] at N3 ⊢
  clear a0 a1 a2 a3 b0 b1 hV hi
  have cc := iquo_any (sg dd) D1 m1 d1 ys (sg dd) AG nG cG _ V3 S3.out (by omega) D3.out (by omega)
  rw [iv_sg, E2.out, show qz q dd = q.tdiv dd from if_neg dne, HQ.out, show ez dd = 0 from if_neg dne] at cc
  obtain ⟨t1, ht1⟩ : ∃ t, t = rz q dd := ⟨_, rfl⟩
  obtain ⟨yi, hyi⟩ : ∃ y : Int, y = (yy : Int) := ⟨_, rfl⟩
  rw [← ht1, ← hyi] at cc
  have CC := hid cc
  have HI := hid hyi
  clear cc ht1 hyi
  refine (CC.out).mono ?_
  rintro e v4 ⟨Ad, nd, cd, As, ns, cs, rfl, rd0, rs, b⟩
  have p5 := rd0.2.1
  have p6 := rd0.2.2.1
  have p7 := rs.2.1
  have p8 := rs.2.2.1
  have o := bx_alloc (bx_alloc (bx_refl v4) (.cells #[.bool (sg yi), .slice Ad nd cd] 39)) (.cells #[.bool (sg t1), .slice As ns cs] 39)
  have ob := bx_call b o
  have Q4 := hid (Q3.out.keep ob)
  have X4 := hid (bx_call X3.out ob)
  have Z4 := hid (Z3.out.keep ob)
  have N4 := hid (N3.out.keep ob)
  have Y4 := hid (rd0.keep o)
  have M4 := hid ((Blk.new v4 [.bool (sg yi), .slice Ad nd cd] 39).alloc (.cells #[.bool (sg t1), .slice As ns cs] 39))
  clear rd0 rs b o ob CC K3 Q3 S3 B3 D3 X3 Z3 N3
  go_upto_region 5 with fail
  obtain ⟨V4, hV⟩ : ∃ V, V = (v4.alloc (.cells #[.bool (sg yi), .slice Ad nd cd] 39)).alloc (.cells #[.bool (sg t1), .slice As ns cs] 39) := ⟨_, rfl⟩
  obtain ⟨iy, hi⟩ : ∃ i, i = v4.heap.size := ⟨_, rfl⟩
  rw [← hV] at Q4 X4 Z4 N4 Y4 M4 ⊢
  rw [← hi] at M4 ⊢
  clear hV hi
  obtain ⟨k0, k1⟩ := blk_two M4.out
  have FR := hid (fun (W : World) => ifrom_any 1 W (by omega) (by omega))
  have CM := hid (fun (W : World) A n c (r : Rd W Ad nd cd (dg yi.natAbs)) (r1 : Rd W A n c (dg (1 : Int).natAbs)) => icmp_any (sg yi) Ad nd cd _ (sg 1) A n c _ W r r1)
  simp only [iv_sg] at CM
  obtain ⟨tc, htc⟩ : ∃ t, t = sgnZ (yi - 1) := ⟨_, rfl⟩
  rw [← htc] at CM
  have hty : (yy = 1 ∧ (tc == 0) = true) ∨ (yy ≠ 1 ∧ (tc == 0) = false) := by
    rw [htc]
    have hyi := HI.out
    by_cases h : yy = 1
    · left; rw [hyi, h]; exact ⟨rfl, rfl⟩
    · right
      refine ⟨h, beq_eq_false_iff_ne.2 (sgnZ_ne0 (by omega))⟩
  clear htc
  rcases hty with ⟨h1, h2⟩ | ⟨h1, h2⟩
  all_goals
    have H1 := hid h1
    clear h1
    go_region_held3 (fun W => W.cell? ⟨iy, 0, none⟩ = some (.bool (sg yi)) ∧ W.cell? ⟨iy, 1, none⟩ = some (.slice Ad nd cd))
      (refine ⟨?_, ?_⟩ <;> repeat' (first | with_reducible assumption | with_reducible refine cell_dr ?_))
      (first
        | (go_at_call 75; refine (CM.out w5 A5 n5 c5 (Y4.out.keep X5.out) R5.out).mono ?_; rintro e w6 ⟨rfl, b⟩; have u0 := cell_bx t0' b; have u1 := cell_bx t1' b; have X6 := hid (bx_call X5.out b); clear b)
        | (go_at_call 116; refine (FR.out _).mono ?_; rintro e w5 ⟨A5, n5, c5, rfl, r5, b⟩; have t0' := cell_bx (cell_dr k0) b; have t1' := cell_bx (cell_dr k1) b; have R5 := hid r5; have X5 := hid (bx_call (bx_drew (bx_refl V4)) b); clear b r5))
    have Q6 := hid (Q4.out.keep X6.out)
    obtain ⟨z0, z1⟩ := blk_two (N4.out.keep X6.out)
    obtain ⟨y0, y1⟩ := blk_two (M4.out.keep X6.out)
    obtain ⟨x0, x1, x2⟩ := blk_three Q6.out
    have f0 := Blk.free Q6.out 0
    have f1 := Blk.free Q6.out 1
    have f2 := Blk.free Q6.out 2
    have Z6 := hid (Z4.out.keep X6.out)
    have Y6 := hid (Y4.out.keep X6.out)
    have W6 := hid (bx_call X4.out X6.out)
    first
      | (have EE := hid (ret_rat_end (z := zz) (y := yy) Z6.out (show Rd w6 none 0 0 (dn yy) from by rw [show dn yy = [] from by unfold dn; rw [if_pos H1.out]]; exact Rd.nil w6 none) Q6.out W6.out (Nat.le_succ _)))
      | (have EE := hid (ret_rat_end (z := zz) (y := yy) Z6.out (show Rd w6 Ad nd cd (dn yy) from by rw [show dn yy = dg yy from by unfold dn; rw [if_neg H1.out]]; have t := Y6.out; rw [HI.out] at t; exact t) Q6.out W6.out (Nat.le_succ _)))
    clear Q6 Z6 Y6 W6 u0 u1 t0' t1' k0 k1 R5 X5
    go_wp2_with fail
    first
      | exact bodyPost_ret (v := .agg #[.bool (sg zz), .slice Az nz cz, .slice none 0 0]) (by simp [results, Tryz.results140, go_sem, x0, x1, x2]) rfl EE.out
      | exact bodyPost_ret (v := .agg #[.bool (sg zz), .slice Az nz cz, .slice Ad nd cd]) (by simp [results, Tryz.results140, go_sem, x0, x1, x2]) rfl EE.out
set_option maxHeartbeats 4000000 in
theorem plus1_same (g1 : Bool) (A : Option Addr) (n c : Nat) (xs : List Nat) (g2 : Bool) (D : Option Addr) (m d : Nat) (ys : List Nat) (h1 : Bool) (B : Option Addr) (n2 c2 : Nat) (us : List Nat) (h2 : Bool) (E : Option Addr) (m2 d2 : Nat) (vs : List Nat) (qb : Nat) (k : Nat) (w : World)
    (ra : Rd w A n c xs) (hn : n ≤ k) (rd : Rd w D m d ys) (hm : m ≤ k) (rb : Rd w B n2 c2 us) (hn2 : n2 ≤ k) (re : Rd w E m2 d2 vs) (kq : Blk w qb [.bool h1, .slice B n2 c2, .bool h2, .slice E m2 d2] 130) (hk : k ≤ 1099511627775) (he : iv g2 ys = iv h2 vs) :
    Calls Tryz.prog 142 #[.agg #[.bool g1, .slice A n c, .bool g2, .slice D m d], .pointer (some ⟨qb, 0, none⟩)] w (RetP w (iv g1 xs + iv h1 us) (iv g2 ys) (k + 1)) := by
  have P0 := hid (PreP1.start w g1 (.slice A n c) g2 (.slice D m d))
  obtain ⟨W0, hW⟩ : ∃ W, W = (w.alloc (.cells #[.bool g1, .slice A n c, .bool g2, .slice D m d] 130)).alloc (.cells #[.bool false, .slice none 0 0, .bool false, .slice none 0 0] 130) := ⟨_, rfl⟩
  rw [← hW] at P0
  have qlt := kq.lt
  have KQ := hid (kq.keep P0.out.bel)
  have l1 : (dg (iv g1 xs + iv h1 us).natAbs).length ≤ k + 1 := sum_len (Nat.le_trans (dg_abs_len (g := g1) ra.2.2.2.1 ra.1) hn) (Nat.le_trans (dg_abs_len (g := h1) rb.2.2.2.1 rb.1) hn2)
  have CM := hid (icmp_any g2 D m d ys h2 E m2 d2 vs W0 (rd.keep P0.out.bel) (re.keep P0.out.bel))
  rw [show sgnZ (iv g2 ys - iv h2 vs) = 0 from by rw [he, Int.sub_self]; rfl] at CM
  have AD := hid (fun (W : World) (hw : Below W0.heap.size W0 W) => iadd_any g1 A n c xs h1 B n2 c2 us W ((ra.keep P0.out.bel).keep hw) (by omega) ((rb.keep P0.out.bel).keep hw) (by omega))
  have RD := hid (rd.keep P0.out.bel)
  obtain ⟨z1, hz1⟩ : ∃ z, z = iv g1 xs + iv h1 us := ⟨_, rfl⟩
  rw [← hz1] at AD l1 ⊢
  clear ra rd rb re kq hz1 he
  go_enter Tryz.func142, Tryz.ntmps142
  go_upto_region 1 with fail
  rw [← hW]
  clear hW
  obtain ⟨s0, s1, s2, s3⟩ := blk_four P0.out.arg
  obtain ⟨q0, q1, q2, q3⟩ := blk_four KQ.out
  go_wp2_with fail
  refine (CM.out).mono ?_
  rintro e v1 ⟨rfl, bb⟩
  have P1 := hid (P0.out.keep bb)
  have KQ1 := hid (KQ.out.keep bb)
  have B1 := hid bb
  clear bb CM s0 s1 s2 s3 q0 q1 q2 q3 P0 KQ
  obtain ⟨s0, s1, s2, s3⟩ := blk_four P1.out.arg
  obtain ⟨q0, q1, q2, q3⟩ := blk_four KQ1.out
  go_wp2_with fail
  go_region_held3 (fun W => W.cell? ⟨w.heap.size, 0, none⟩ = some (.bool g1) ∧ W.cell? ⟨w.heap.size, 1, none⟩ = some (.slice A n c) ∧ W.cell? ⟨w.heap.size, 2, none⟩ = some (.bool g2) ∧ W.cell? ⟨w.heap.size, 3, none⟩ = some (.slice D m d) ∧ W.cell? ⟨qb, 0, none⟩ = some (.bool h1) ∧ W.cell? ⟨qb, 1, none⟩ = some (.slice B n2 c2))
    (refine ⟨?_, ?_, ?_, ?_, ?_, ?_⟩ <;> repeat' (first | with_reducible assumption | with_reducible refine cell_dr ?_ | with_reducible refine cell_fr ?_ (by omega)))
    (first
      | (go_at_call 143; refine (AD.out _ (bx_drew B1.out)).mono ?_; rintro e y1 ⟨A1, n3, c3, rfl, r1, b⟩; have t0 := cell_bx (cell_dr s0) b; have t1 := cell_bx (cell_dr s1) b; have t2 := cell_bx (cell_dr s2) b; have t3 := cell_bx (cell_dr s3) b; have w0 := cell_bx (cell_dr q0) b; have w1 := cell_bx (cell_dr q1) b; have P2 := hid (P1.out.keep (bx_call (bx_drew (bx_refl _)) b)); have E1 := hid (ret_pair_end r1 (iv_sg z1) (show n3 ≤ k + 1 from by rw [← r1.1]; exact l1) (RD.out.keep (bx_call (bx_drew B1.out) b)) (rfl : iv g2 ys = iv g2 ys) (Nat.le_succ_of_le hm) P2.out.res P2.out.bel (Nat.le_succ _)); obtain ⟨⟨x0, x1, x2, x3⟩, f0, f1, f2, f3⟩ := P2.out.rcells; clear b r1))
  go_wp2_with fail
  exact bodyPost_ret (v := .agg #[.bool (sg z1), .slice A1 n3 c3, .bool g2, .slice D m d]) (by simp [results, Tryz.results142, go_sem, x0, x1, x2, x3]) rfl E1.out
theorem far_two {W : World} {p t o q B : Nat} (bp : Blk W p [.bool false, .slice none 0 0] t) (hp : B ≤ p) (ho : o < B) (hq : q < B) :
    (W.cell? ⟨p, 0, none⟩ = some (.bool false) ∧ W.cell? ⟨p, 1, none⟩ = some (.slice none 0 0) ∧ W.frozen? ⟨p, 0, none⟩ = false ∧ W.frozen? ⟨p, 1, none⟩ = false) ∧ Hid (o ≠ p ∧ q ≠ p) :=
  ⟨⟨Blk.cell bp 0, Blk.cell bp 1, Blk.free bp 0, Blk.free bp 1⟩, hid ⟨by omega, by omega⟩⟩
set_option maxHeartbeats 8000000 in
theorem plus1_diff (g1 : Bool) (A : Option Addr) (n c : Nat) (xs : List Nat) (g2 : Bool) (D : Option Addr) (m d : Nat) (ys : List Nat) (h1 : Bool) (B : Option Addr) (n2 c2 : Nat) (us : List Nat) (h2 : Bool) (E : Option Addr) (m2 d2 : Nat) (vs : List Nat) (qb : Nat) (k : Nat) (w : World)
    (ra : Rd w A n c xs) (hn : n ≤ k) (rd : Rd w D m d ys) (hm : m ≤ k) (rb : Rd w B n2 c2 us) (hn2 : n2 ≤ k) (re : Rd w E m2 d2 vs) (hm2 : m2 ≤ k) (kq : Blk w qb [.bool h1, .slice B n2 c2, .bool h2, .slice E m2 d2] 130) (hk : k ≤ 549755813886) (he : iv g2 ys ≠ iv h2 vs) :
    Calls Tryz.prog 142 #[.agg #[.bool g1, .slice A n c, .bool g2, .slice D m d], .pointer (some ⟨qb, 0, none⟩)] w (RetP w (iv g1 xs * iv h2 vs + iv h1 us * iv g2 ys) (iv g2 ys * iv h2 vs) (k + k + 1)) := by
  have P0 := hid (PreP1.start w g1 (.slice A n c) g2 (.slice D m d))
  obtain ⟨W0, hW⟩ : ∃ W, W = (w.alloc (.cells #[.bool g1, .slice A n c, .bool g2, .slice D m d] 130)).alloc (.cells #[.bool false, .slice none 0 0, .bool false, .slice none 0 0] 130) := ⟨_, rfl⟩
  rw [← hW] at P0
  have qlt := kq.lt
  have KQ := hid (kq.keep P0.out.bel)
  have l1 := mul_len2 (g1 := g1) (g2 := h2) ra.2.2.2.1 (by rw [ra.1]; exact hn) re.2.2.2.1 (by rw [re.1]; exact hm2)
  have l2 := mul_len2 (g1 := h1) (g2 := g2) rb.2.2.2.1 (by rw [rb.1]; exact hn2) rd.2.2.2.1 (by rw [rd.1]; exact hm)
  have l3 := mul_len2 (g1 := g2) (g2 := h2) rd.2.2.2.1 (by rw [rd.1]; exact hm) re.2.2.2.1 (by rw [re.1]; exact hm2)
  have ls := sum_len l1 l2
  have CM := hid (icmp_any g2 D m d ys h2 E m2 d2 vs W0 (rd.keep P0.out.bel) (re.keep P0.out.bel))
  have hs : (sgnZ (iv g2 ys - iv h2 vs) == 0) = false := beq_eq_false_iff_ne.2 (sgnZ_ne0 (by omega))
  have M1 := hid (fun (W0' : World) (hw0 : Below W0.heap.size W0 W0') (W : World) (hw : Below W0'.heap.size W0' W) => imul_any g1 A n c xs h2 E m2 d2 vs W (((ra.keep P0.out.bel).keep hw0).keep hw) (by omega) (((re.keep P0.out.bel).keep hw0).keep hw) (by omega))
  have M2 := hid (fun (W0' : World) (hw0 : Below W0.heap.size W0 W0') (W : World) (hw : Below W0'.heap.size W0' W) => imul_any h1 B n2 c2 us g2 D m d ys W (((rb.keep P0.out.bel).keep hw0).keep hw) (by omega) (((rd.keep P0.out.bel).keep hw0).keep hw) (by omega))
  have M3 := hid (fun (W : World) (hw : Below W0.heap.size W0 W) => imul_any g2 D m d ys h2 E m2 d2 vs W ((rd.keep P0.out.bel).keep hw) (by omega) ((re.keep P0.out.bel).keep hw) (by omega))
  obtain ⟨x1, hx1⟩ : ∃ z, z = iv g1 xs * iv h2 vs := ⟨_, rfl⟩
  obtain ⟨x2, hx2⟩ : ∃ z, z = iv h1 us * iv g2 ys := ⟨_, rfl⟩
  obtain ⟨x3, hx3⟩ : ∃ z, z = iv g2 ys * iv h2 vs := ⟨_, rfl⟩
  obtain ⟨s, hss⟩ : ∃ s, s = sgnZ (iv g2 ys - iv h2 vs) := ⟨_, rfl⟩
  rw [← hss] at CM hs
  rw [← hx1] at M1 l1 ls ⊢
  rw [← hx2] at M2 l2 ls ⊢
  rw [← hx3] at M3 l3 ⊢
  have AD := hid (fun (W : World) A1 n1 c1 A2 n2 c2 (r : Rd W A1 n1 c1 (dg x1.natAbs)) (q : Rd W A2 n2 c2 (dg x2.natAbs)) => iadd_any (sg x1) A1 n1 c1 _ (sg x2) A2 n2 c2 _ W r (by have := r.1; omega) q (by have := q.1; omega))
  simp only [iv_sg] at AD
  obtain ⟨sx, hsx⟩ : ∃ z, z = x1 + x2 := ⟨_, rfl⟩
  rw [← hsx] at AD ls ⊢
  clear ra rd rb re kq hx1 hx2 hx3 he hsx hss
  go_enter Tryz.func142, Tryz.ntmps142
  go_upto_region 1 with fail
  rw [← hW]
  clear hW
  obtain ⟨s0, s1, s2, s3⟩ := blk_four P0.out.arg
  obtain ⟨q0, q1, q2, q3⟩ := blk_four KQ.out
  go_wp2_with fail
  refine (CM.out).mono ?_
  rintro e v1 ⟨rfl, bb⟩
  have P1 := hid (P0.out.keep bb)
  have KQ1 := hid (KQ.out.keep bb)
  have B1 := hid bb
  have m1 := hid (M1.out v1 bb)
  have m2 := hid (M2.out v1 bb)
  have nw := hid (show w.heap.size < v1.heap.size ∧ qb < v1.heap.size from ⟨P1.out.arg.lt, KQ1.out.lt⟩)
  clear bb CM s0 s1 s2 s3 q0 q1 q2 q3 P0 KQ M1 M2
  have M1 := hid m1.out
  have M2 := hid m2.out
  clear m1 m2
  go_upto_region 3 with fail
  go_cut [4] (fun s4 wx => ∃ (p : Nat) (A3 : Option Addr) (n3 c3 : Nat), s4 = .pointer (some ⟨p, 0, none⟩) ∧ Hid (Blk wx p [.bool (sg sx), .slice A3 n3 c3] 39 ∧ Rd wx A3 n3 c3 (dg sx.natAbs) ∧ Below v1.heap.size v1 wx))
  case first =>
   refine wp_region_noPanic ?_
   refine wp_region_held_drew (S := (fun W => (W.cell? ⟨w.heap.size, 0, none⟩ = some (.bool g1) ∧ W.cell? ⟨w.heap.size, 1, none⟩ = some (.slice A n c) ∧ W.cell? ⟨w.heap.size, 2, none⟩ = some (.bool g2) ∧ W.cell? ⟨w.heap.size, 3, none⟩ = some (.slice D m d)) ∧ (W.cell? ⟨qb, 0, none⟩ = some (.bool h1) ∧ W.cell? ⟨qb, 1, none⟩ = some (.slice B n2 c2) ∧ W.cell? ⟨qb, 2, none⟩ = some (.bool h2) ∧ W.cell? ⟨qb, 3, none⟩ = some (.slice E m2 d2)))) (by kernel_rfl) ?_ (fun hH => ?_)
   exact And.intro (blk_four P1.out.arg) (blk_four KQ1.out)
   refine wpAnyH_take (i := 0) (v := ?_) (by simp only [gx0, gx2]; rfl) (by kernel_rfl) (by kernel_rfl) (by kernel_rfl) (fun _ _ _ h => h) (.inl ⟨by rfl, ?_⟩) hH ?_
   rotate_left
   · intro w hSw; (try dsimp only at hSw); first | (go_simp; done) | (go_simp; with_reducible rfl)
   (try simp only [Act.put, gy0, gy1, gy2])
   refine wpAnyH_take (i := 1) (v := ?_) (by simp only [gx0, gx1, gx2]; rfl) (by kernel_rfl) (by kernel_rfl) (by kernel_rfl) (fun _ _ _ h => h) (.inl ⟨by rfl, ?_⟩) hH ?_
   rotate_left
   · intro w hSw; (try dsimp only at hSw); first | (go_simp; done) | (go_simp; with_reducible rfl)
   (try simp only [Act.put, gy0, gy1, gy2])
   refine wpAnyH_take (i := 2) (v := ?_) (by simp only [gx0, gx1, gx2]; rfl) (by kernel_rfl) (by kernel_rfl) (by kernel_rfl) (fun _ _ _ h => h) (.inl ⟨by rfl, ?_⟩) hH ?_
   rotate_left
   · intro w hSw; (try dsimp only at hSw); first | (go_simp; done) | (go_simp; with_reducible rfl)
   (try simp only [Act.put, gy0, gy1, gy2])
   refine wpAnyH_take (i := 3) (v := ?_) (by simp only [gx0, gx1, gx2]; rfl) (by kernel_rfl) (by kernel_rfl) (by kernel_rfl) (fun _ _ _ h => h) (.inl ⟨by rfl, ?_⟩) hH ?_
   rotate_left
   · intro w hSw; (try dsimp only at hSw); first | (go_simp; done) | (go_simp; with_reducible rfl)
   (try simp only [Act.put, gy0, gy1, gy2])
   refine wpAnyH_take (i := 5) (v := ?_) (by simp only [gx0, gx1, gx2]; rfl) (by kernel_rfl) (by kernel_rfl) (by kernel_rfl) (fun _ _ _ h => h) (.inl ⟨by rfl, ?_⟩) hH ?_
   rotate_left
   · intro w hSw; (try dsimp only at hSw); first | (go_simp; done) | (go_simp; with_reducible rfl)
   (try simp only [Act.put, gy0, gy1, gy2])
   refine wpAnyH_take (i := 6) (v := ?_) (by simp only [gx0, gx1, gx2]; rfl) (by kernel_rfl) (by kernel_rfl) (by kernel_rfl) (fun _ _ _ h => h) (.inl ⟨by rfl, ?_⟩) hH ?_
   rotate_left
   · intro w hSw; (try dsimp only at hSw); first | (go_simp; done) | (go_simp; with_reducible rfl)
   (try simp only [Act.put, gy0, gy1, gy2])
   refine wpAnyH_take (i := 7) (v := ?_) (by simp only [gx0, gx1, gx2]; rfl) (by kernel_rfl) (by kernel_rfl) (by kernel_rfl) (fun _ _ _ h => h) (.inl ⟨by rfl, ?_⟩) hH ?_
   rotate_left
   · intro w hSw; (try dsimp only at hSw); first | (go_simp; done) | (go_simp; with_reducible rfl)
   (try simp only [Act.put, gy0, gy1, gy2])
   refine wpAnyH_take (i := 8) (v := ?_) (by simp only [gx0, gx1, gx2]; rfl) (by kernel_rfl) (by kernel_rfl) (by kernel_rfl) (fun _ _ _ h => h) (.inl ⟨by rfl, ?_⟩) hH ?_
   rotate_left
   · intro w hSw; (try dsimp only at hSw); first | (go_simp; done) | (go_simp; with_reducible rfl)
   (try simp only [Act.put, gy0, gy1, gy2])
   have bd := bx_drew (bx_refl v1)
   obtain ⟨W0, hW0⟩ : ∃ W, W = v1.drew := ⟨_, rfl⟩
   rw [← hW0] at bd hH ⊢
   clear hW0
   have BW_0 := hid bd
   clear bd
   refine wpAnyH_ready (rs := [4, 11]) (by kernel_rfl) (by simp) ?_
   refine AllReadyH.cons (by simp only [gx0, gx1, gx2]; rfl) (fun K hK => ?_) ?_
   go_simp
   refine (M1.out _ BW_0.out).mono ?_
   rintro e W1 ⟨AX, nX, cX, rfl, rx, b⟩
   have RX := hid rx
   clear rx
   have BW_1 := hid (bx_call BW_0.out b)
   clear BW_0
   have H2 := And.intro (And.intro (cell_bx hH.1.1 b) (And.intro (cell_bx hH.1.2.1 b) (And.intro (cell_bx hH.1.2.2.1 b) (cell_bx hH.1.2.2.2 b)))) (And.intro (cell_bx hH.2.1 b) (And.intro (cell_bx hH.2.2.1 b) (And.intro (cell_bx hH.2.2.2.1 b) (cell_bx hH.2.2.2.2 b))))
   clear hH b
   (try go_wp2_with fail)
   refine hK.out _ _ ?_ (fun hH => ?_)
   exact H2
   clear hK K H2
   (try simp only [Act.put, gy0, gy1, gy2])
   refine wpAnyH_ready (rs := [9, 11]) (by kernel_rfl) (by simp) ?_
   refine AllReadyH.cons (by simp only [gx0, gx1, gx2]; rfl) (fun K hK => ?_) ?_
   go_simp
   refine (M2.out _ BW_1.out).mono ?_
   rintro e W2 ⟨AY, nY, cY, rfl, ry, b⟩
   have RY := hid ry
   clear ry
   have RX_2 := hid (RX.out.keep b)
   have BW_2 := hid (bx_call BW_1.out b)
   clear RX BW_1
   have H2 := And.intro (And.intro (cell_bx hH.1.1 b) (And.intro (cell_bx hH.1.2.1 b) (And.intro (cell_bx hH.1.2.2.1 b) (cell_bx hH.1.2.2.2 b)))) (And.intro (cell_bx hH.2.1 b) (And.intro (cell_bx hH.2.2.1 b) (And.intro (cell_bx hH.2.2.2.1 b) (cell_bx hH.2.2.2.2 b))))
   clear hH b
   (try go_wp2_with fail)
   refine hK.out _ _ ?_ (fun hH => ?_)
   exact H2
   clear hK K H2
   (try simp only [Act.put, gy0, gy1, gy2])
   refine wpAnyH_ready (rs := [10, 11]) (by kernel_rfl) (by simp) ?_
   refine AllReadyH.cons (by simp only [gx0, gx1, gx2]; rfl) (fun K hK => ?_) ?_
   go_simp
   refine (AD.out _ AX nX cX AY nY cY RX_2.out RY.out).mono ?_
   rintro e W3 ⟨AZ, nZ, cZ, rfl, rz, b⟩
   have RZ := hid rz
   clear rz
   have RX_3 := hid (RX_2.out.keep b)
   have RY_3 := hid (RY.out.keep b)
   have BW_3 := hid (bx_call BW_2.out b)
   clear RX_2 RY BW_2
   have H2 := And.intro (And.intro (cell_bx hH.1.1 b) (And.intro (cell_bx hH.1.2.1 b) (And.intro (cell_bx hH.1.2.2.1 b) (cell_bx hH.1.2.2.2 b)))) (And.intro (cell_bx hH.2.1 b) (And.intro (cell_bx hH.2.2.1 b) (And.intro (cell_bx hH.2.2.2.1 b) (cell_bx hH.2.2.2.2 b))))
   clear hH b
   (try go_wp2_with fail)
   refine hK.out _ _ ?_ (fun hH => ?_)
   exact H2
   clear hK K H2
   (try simp only [Act.put, gy0, gy1, gy2])
   clear RX_3
   clear RY_3
   refine wpAnyH_ready (rs := [11]) (by kernel_rfl) (by simp) ?_
   refine AllReadyH.cons (by simp only [gx0, gx1, gx2]; rfl) (fun K hK => ?_) ?_
   go_simp
   obtain ⟨W4, p, hW, hp, b, kk⟩ := mk_int W3
   have gp : v1.heap.size ≤ p := by rw [hp]; exact BW_3.out.size
   rw [← hW, ← hp]
   clear hW hp
   have Kp := hid kk
   clear kk
   have RZ_4 := hid (RZ.out.keep b)
   have BW_4 := hid (bx_call BW_3.out b)
   clear RZ BW_3
   have H2 := And.intro (And.intro (cell_bx hH.1.1 b) (And.intro (cell_bx hH.1.2.1 b) (And.intro (cell_bx hH.1.2.2.1 b) (cell_bx hH.1.2.2.2 b)))) (And.intro (cell_bx hH.2.1 b) (And.intro (cell_bx hH.2.2.1 b) (And.intro (cell_bx hH.2.2.2.1 b) (cell_bx hH.2.2.2.2 b))))
   clear hH b
   refine hK.out _ _ ?_ (fun hH => ?_)
   exact H2
   clear hK K H2
   (try simp only [Act.put, gy0, gy1, gy2])
   have TM := hid (one_made BW_4.out gp Kp.out RZ_4.out)
   obtain ⟨⟨a1, a2, a3, a4⟩, O⟩ := far_two Kp.out gp nw.out.1 nw.out.2
   refine wpAnyH_ready (rs := [12]) (by kernel_rfl) (by simp) ?_
   refine AllReadyH.cons (by simp only [gx0, gx1, gx2]; rfl) (fun K hK => ?_) AllReadyH.nil
   go_simp
   refine hK.out _ _ (And.intro (And.intro (cell_fr (cell_fr hH.1.1 O.out.1) O.out.1) (And.intro (cell_fr (cell_fr hH.1.2.1 O.out.1) O.out.1) (And.intro (cell_fr (cell_fr hH.1.2.2.1 O.out.1) O.out.1) (cell_fr (cell_fr hH.1.2.2.2 O.out.1) O.out.1)))) (And.intro (cell_fr (cell_fr hH.2.1 O.out.2) O.out.2) (And.intro (cell_fr (cell_fr hH.2.2.1 O.out.2) O.out.2) (And.intro (cell_fr (cell_fr hH.2.2.2.1 O.out.2) O.out.2) (cell_fr (cell_fr hH.2.2.2.2 O.out.2) O.out.2))))) (fun hH2 => ?_)
   clear hK K hH a1 a2 a3 a4
   refine wpAnyH_done (by kernel_rfl) ?_ _
   refine NoPanic.normal ?_
   go_wp2_with fail
   go_meet
   exact ⟨p, AZ, nZ, cZ, rfl, hid ⟨TM.out.1.1, TM.out.1.2, TM.out.2⟩⟩
   exact AllReadyH.nil
   refine AllReadyH.cons (by simp only [gx0, gx1, gx2]; rfl) (fun K hK => ?_) ?_
   go_simp
   obtain ⟨W3, p, hW, hp, b, kk⟩ := mk_int W2
   have gp : v1.heap.size ≤ p := by rw [hp]; exact BW_2.out.size
   rw [← hW, ← hp]
   clear hW hp
   have Kp := hid kk
   clear kk
   have RX_3 := hid (RX_2.out.keep b)
   have RY_3 := hid (RY.out.keep b)
   have BW_3 := hid (bx_call BW_2.out b)
   clear RX_2 RY BW_2
   have H2 := And.intro (And.intro (cell_bx hH.1.1 b) (And.intro (cell_bx hH.1.2.1 b) (And.intro (cell_bx hH.1.2.2.1 b) (cell_bx hH.1.2.2.2 b)))) (And.intro (cell_bx hH.2.1 b) (And.intro (cell_bx hH.2.2.1 b) (And.intro (cell_bx hH.2.2.2.1 b) (cell_bx hH.2.2.2.2 b))))
   clear hH b
   refine hK.out _ _ ?_ (fun hH => ?_)
   exact H2
   clear hK K H2
   (try simp only [Act.put, gy0, gy1, gy2])
   refine wpAnyH_ready (rs := [10]) (by kernel_rfl) (by simp) ?_
   refine AllReadyH.cons (by simp only [gx0, gx1, gx2]; rfl) (fun K hK => ?_) ?_
   go_simp
   refine (AD.out _ AX nX cX AY nY cY RX_3.out RY_3.out).mono ?_
   rintro e W4 ⟨AZ, nZ, cZ, rfl, rz, b⟩
   have RZ := hid rz
   clear rz
   have RX_4 := hid (RX_3.out.keep b)
   have RY_4 := hid (RY_3.out.keep b)
   have Kp_4 := hid (Kp.out.keep b)
   have BW_4 := hid (bx_call BW_3.out b)
   clear RX_3 RY_3 Kp BW_3
   have H2 := And.intro (And.intro (cell_bx hH.1.1 b) (And.intro (cell_bx hH.1.2.1 b) (And.intro (cell_bx hH.1.2.2.1 b) (cell_bx hH.1.2.2.2 b)))) (And.intro (cell_bx hH.2.1 b) (And.intro (cell_bx hH.2.2.1 b) (And.intro (cell_bx hH.2.2.2.1 b) (cell_bx hH.2.2.2.2 b))))
   clear hH b
   (try go_wp2_with fail)
   refine hK.out _ _ ?_ (fun hH => ?_)
   exact H2
   clear hK K H2
   (try simp only [Act.put, gy0, gy1, gy2])
   clear RX_4
   clear RY_4
   have TM := hid (one_made BW_4.out gp Kp_4.out RZ.out)
   obtain ⟨⟨a1, a2, a3, a4⟩, O⟩ := far_two Kp_4.out gp nw.out.1 nw.out.2
   refine wpAnyH_ready (rs := [12]) (by kernel_rfl) (by simp) ?_
   refine AllReadyH.cons (by simp only [gx0, gx1, gx2]; rfl) (fun K hK => ?_) AllReadyH.nil
   go_simp
   refine hK.out _ _ (And.intro (And.intro (cell_fr (cell_fr hH.1.1 O.out.1) O.out.1) (And.intro (cell_fr (cell_fr hH.1.2.1 O.out.1) O.out.1) (And.intro (cell_fr (cell_fr hH.1.2.2.1 O.out.1) O.out.1) (cell_fr (cell_fr hH.1.2.2.2 O.out.1) O.out.1)))) (And.intro (cell_fr (cell_fr hH.2.1 O.out.2) O.out.2) (And.intro (cell_fr (cell_fr hH.2.2.1 O.out.2) O.out.2) (And.intro (cell_fr (cell_fr hH.2.2.2.1 O.out.2) O.out.2) (cell_fr (cell_fr hH.2.2.2.2 O.out.2) O.out.2))))) (fun hH2 => ?_)
   clear hK K hH a1 a2 a3 a4
   refine wpAnyH_done (by kernel_rfl) ?_ _
   refine NoPanic.normal ?_
   go_wp2_with fail
   go_meet
   exact ⟨p, AZ, nZ, cZ, rfl, hid ⟨TM.out.1.1, TM.out.1.2, TM.out.2⟩⟩
   exact AllReadyH.nil
   exact AllReadyH.nil
   refine AllReadyH.cons (by simp only [gx0, gx1, gx2]; rfl) (fun K hK => ?_) ?_
   go_simp
   obtain ⟨W2, p, hW, hp, b, kk⟩ := mk_int W1
   have gp : v1.heap.size ≤ p := by rw [hp]; exact BW_1.out.size
   rw [← hW, ← hp]
   clear hW hp
   have Kp := hid kk
   clear kk
   have RX_2 := hid (RX.out.keep b)
   have BW_2 := hid (bx_call BW_1.out b)
   clear RX BW_1
   have H2 := And.intro (And.intro (cell_bx hH.1.1 b) (And.intro (cell_bx hH.1.2.1 b) (And.intro (cell_bx hH.1.2.2.1 b) (cell_bx hH.1.2.2.2 b)))) (And.intro (cell_bx hH.2.1 b) (And.intro (cell_bx hH.2.2.1 b) (And.intro (cell_bx hH.2.2.2.1 b) (cell_bx hH.2.2.2.2 b))))
   clear hH b
   refine hK.out _ _ ?_ (fun hH => ?_)
   exact H2
   clear hK K H2
   (try simp only [Act.put, gy0, gy1, gy2])
   refine wpAnyH_ready (rs := [9]) (by kernel_rfl) (by simp) ?_
   refine AllReadyH.cons (by simp only [gx0, gx1, gx2]; rfl) (fun K hK => ?_) ?_
   go_simp
   refine (M2.out _ BW_2.out).mono ?_
   rintro e W3 ⟨AY, nY, cY, rfl, ry, b⟩
   have RY := hid ry
   clear ry
   have RX_3 := hid (RX_2.out.keep b)
   have Kp_3 := hid (Kp.out.keep b)
   have BW_3 := hid (bx_call BW_2.out b)
   clear RX_2 Kp BW_2
   have H2 := And.intro (And.intro (cell_bx hH.1.1 b) (And.intro (cell_bx hH.1.2.1 b) (And.intro (cell_bx hH.1.2.2.1 b) (cell_bx hH.1.2.2.2 b)))) (And.intro (cell_bx hH.2.1 b) (And.intro (cell_bx hH.2.2.1 b) (And.intro (cell_bx hH.2.2.2.1 b) (cell_bx hH.2.2.2.2 b))))
   clear hH b
   (try go_wp2_with fail)
   refine hK.out _ _ ?_ (fun hH => ?_)
   exact H2
   clear hK K H2
   (try simp only [Act.put, gy0, gy1, gy2])
   refine wpAnyH_ready (rs := [10]) (by kernel_rfl) (by simp) ?_
   refine AllReadyH.cons (by simp only [gx0, gx1, gx2]; rfl) (fun K hK => ?_) ?_
   go_simp
   refine (AD.out _ AX nX cX AY nY cY RX_3.out RY.out).mono ?_
   rintro e W4 ⟨AZ, nZ, cZ, rfl, rz, b⟩
   have RZ := hid rz
   clear rz
   have RX_4 := hid (RX_3.out.keep b)
   have Kp_4 := hid (Kp_3.out.keep b)
   have RY_4 := hid (RY.out.keep b)
   have BW_4 := hid (bx_call BW_3.out b)
   clear RX_3 Kp_3 RY BW_3
   have H2 := And.intro (And.intro (cell_bx hH.1.1 b) (And.intro (cell_bx hH.1.2.1 b) (And.intro (cell_bx hH.1.2.2.1 b) (cell_bx hH.1.2.2.2 b)))) (And.intro (cell_bx hH.2.1 b) (And.intro (cell_bx hH.2.2.1 b) (And.intro (cell_bx hH.2.2.2.1 b) (cell_bx hH.2.2.2.2 b))))
   clear hH b
   (try go_wp2_with fail)
   refine hK.out _ _ ?_ (fun hH => ?_)
   exact H2
   clear hK K H2
   (try simp only [Act.put, gy0, gy1, gy2])
   clear RX_4
   clear RY_4
   have TM := hid (one_made BW_4.out gp Kp_4.out RZ.out)
   obtain ⟨⟨a1, a2, a3, a4⟩, O⟩ := far_two Kp_4.out gp nw.out.1 nw.out.2
   refine wpAnyH_ready (rs := [12]) (by kernel_rfl) (by simp) ?_
   refine AllReadyH.cons (by simp only [gx0, gx1, gx2]; rfl) (fun K hK => ?_) AllReadyH.nil
   go_simp
   refine hK.out _ _ (And.intro (And.intro (cell_fr (cell_fr hH.1.1 O.out.1) O.out.1) (And.intro (cell_fr (cell_fr hH.1.2.1 O.out.1) O.out.1) (And.intro (cell_fr (cell_fr hH.1.2.2.1 O.out.1) O.out.1) (cell_fr (cell_fr hH.1.2.2.2 O.out.1) O.out.1)))) (And.intro (cell_fr (cell_fr hH.2.1 O.out.2) O.out.2) (And.intro (cell_fr (cell_fr hH.2.2.1 O.out.2) O.out.2) (And.intro (cell_fr (cell_fr hH.2.2.2.1 O.out.2) O.out.2) (cell_fr (cell_fr hH.2.2.2.2 O.out.2) O.out.2))))) (fun hH2 => ?_)
   clear hK K hH a1 a2 a3 a4
   refine wpAnyH_done (by kernel_rfl) ?_ _
   refine NoPanic.normal ?_
   go_wp2_with fail
   go_meet
   exact ⟨p, AZ, nZ, cZ, rfl, hid ⟨TM.out.1.1, TM.out.1.2, TM.out.2⟩⟩
   exact AllReadyH.nil
   exact AllReadyH.nil
   exact AllReadyH.nil
   refine AllReadyH.cons (by simp only [gx0, gx1, gx2]; rfl) (fun K hK => ?_) ?_
   go_simp
   obtain ⟨W1, p, hW, hp, b, kk⟩ := mk_int W0
   have gp : v1.heap.size ≤ p := by rw [hp]; exact BW_0.out.size
   rw [← hW, ← hp]
   clear hW hp
   have Kp := hid kk
   clear kk
   have BW_1 := hid (bx_call BW_0.out b)
   clear BW_0
   have H2 := And.intro (And.intro (cell_bx hH.1.1 b) (And.intro (cell_bx hH.1.2.1 b) (And.intro (cell_bx hH.1.2.2.1 b) (cell_bx hH.1.2.2.2 b)))) (And.intro (cell_bx hH.2.1 b) (And.intro (cell_bx hH.2.2.1 b) (And.intro (cell_bx hH.2.2.2.1 b) (cell_bx hH.2.2.2.2 b))))
   clear hH b
   refine hK.out _ _ ?_ (fun hH => ?_)
   exact H2
   clear hK K H2
   (try simp only [Act.put, gy0, gy1, gy2])
   refine wpAnyH_ready (rs := [4]) (by kernel_rfl) (by simp) ?_
   refine AllReadyH.cons (by simp only [gx0, gx1, gx2]; rfl) (fun K hK => ?_) ?_
   go_simp
   refine (M1.out _ BW_1.out).mono ?_
   rintro e W2 ⟨AX, nX, cX, rfl, rx, b⟩
   have RX := hid rx
   clear rx
   have Kp_2 := hid (Kp.out.keep b)
   have BW_2 := hid (bx_call BW_1.out b)
   clear Kp BW_1
   have H2 := And.intro (And.intro (cell_bx hH.1.1 b) (And.intro (cell_bx hH.1.2.1 b) (And.intro (cell_bx hH.1.2.2.1 b) (cell_bx hH.1.2.2.2 b)))) (And.intro (cell_bx hH.2.1 b) (And.intro (cell_bx hH.2.2.1 b) (And.intro (cell_bx hH.2.2.2.1 b) (cell_bx hH.2.2.2.2 b))))
   clear hH b
   (try go_wp2_with fail)
   refine hK.out _ _ ?_ (fun hH => ?_)
   exact H2
   clear hK K H2
   (try simp only [Act.put, gy0, gy1, gy2])
   refine wpAnyH_ready (rs := [9]) (by kernel_rfl) (by simp) ?_
   refine AllReadyH.cons (by simp only [gx0, gx1, gx2]; rfl) (fun K hK => ?_) ?_
   go_simp
   refine (M2.out _ BW_2.out).mono ?_
   rintro e W3 ⟨AY, nY, cY, rfl, ry, b⟩
   have RY := hid ry
   clear ry
   have Kp_3 := hid (Kp_2.out.keep b)
   have RX_3 := hid (RX.out.keep b)
   have BW_3 := hid (bx_call BW_2.out b)
   clear Kp_2 RX BW_2
   have H2 := And.intro (And.intro (cell_bx hH.1.1 b) (And.intro (cell_bx hH.1.2.1 b) (And.intro (cell_bx hH.1.2.2.1 b) (cell_bx hH.1.2.2.2 b)))) (And.intro (cell_bx hH.2.1 b) (And.intro (cell_bx hH.2.2.1 b) (And.intro (cell_bx hH.2.2.2.1 b) (cell_bx hH.2.2.2.2 b))))
   clear hH b
   (try go_wp2_with fail)
   refine hK.out _ _ ?_ (fun hH => ?_)
   exact H2
   clear hK K H2
   (try simp only [Act.put, gy0, gy1, gy2])
   refine wpAnyH_ready (rs := [10]) (by kernel_rfl) (by simp) ?_
   refine AllReadyH.cons (by simp only [gx0, gx1, gx2]; rfl) (fun K hK => ?_) ?_
   go_simp
   refine (AD.out _ AX nX cX AY nY cY RX_3.out RY.out).mono ?_
   rintro e W4 ⟨AZ, nZ, cZ, rfl, rz, b⟩
   have RZ := hid rz
   clear rz
   have Kp_4 := hid (Kp_3.out.keep b)
   have RX_4 := hid (RX_3.out.keep b)
   have RY_4 := hid (RY.out.keep b)
   have BW_4 := hid (bx_call BW_3.out b)
   clear Kp_3 RX_3 RY BW_3
   have H2 := And.intro (And.intro (cell_bx hH.1.1 b) (And.intro (cell_bx hH.1.2.1 b) (And.intro (cell_bx hH.1.2.2.1 b) (cell_bx hH.1.2.2.2 b)))) (And.intro (cell_bx hH.2.1 b) (And.intro (cell_bx hH.2.2.1 b) (And.intro (cell_bx hH.2.2.2.1 b) (cell_bx hH.2.2.2.2 b))))
   clear hH b
   (try go_wp2_with fail)
   refine hK.out _ _ ?_ (fun hH => ?_)
   exact H2
   clear hK K H2
   (try simp only [Act.put, gy0, gy1, gy2])
   clear RX_4
   clear RY_4
   have TM := hid (one_made BW_4.out gp Kp_4.out RZ.out)
   obtain ⟨⟨a1, a2, a3, a4⟩, O⟩ := far_two Kp_4.out gp nw.out.1 nw.out.2
   refine wpAnyH_ready (rs := [12]) (by kernel_rfl) (by simp) ?_
   refine AllReadyH.cons (by simp only [gx0, gx1, gx2]; rfl) (fun K hK => ?_) AllReadyH.nil
   go_simp
   refine hK.out _ _ (And.intro (And.intro (cell_fr (cell_fr hH.1.1 O.out.1) O.out.1) (And.intro (cell_fr (cell_fr hH.1.2.1 O.out.1) O.out.1) (And.intro (cell_fr (cell_fr hH.1.2.2.1 O.out.1) O.out.1) (cell_fr (cell_fr hH.1.2.2.2 O.out.1) O.out.1)))) (And.intro (cell_fr (cell_fr hH.2.1 O.out.2) O.out.2) (And.intro (cell_fr (cell_fr hH.2.2.1 O.out.2) O.out.2) (And.intro (cell_fr (cell_fr hH.2.2.2.1 O.out.2) O.out.2) (cell_fr (cell_fr hH.2.2.2.2 O.out.2) O.out.2))))) (fun hH2 => ?_)
   clear hK K hH a1 a2 a3 a4
   refine wpAnyH_done (by kernel_rfl) ?_ _
   refine NoPanic.normal ?_
   go_wp2_with fail
   go_meet
   exact ⟨p, AZ, nZ, cZ, rfl, hid ⟨TM.out.1.1, TM.out.1.2, TM.out.2⟩⟩
   exact AllReadyH.nil
   exact AllReadyH.nil
   exact AllReadyH.nil
   exact AllReadyH.nil
  case rest =>
  obtain ⟨pb, A3, n3, c3, rfl, hT⟩ := hcut
  obtain ⟨v2, rfl⟩ : ∃ W : World, W = wc := ⟨_, rfl⟩
  have P2 := hid (P1.out.keep hT.out.2.2)
  have KQ2 := hid (KQ1.out.keep hT.out.2.2)
  have B2 := hid (bx_call B1.out hT.out.2.2)
  have KP := hid hT.out.1
  have RS := hid hT.out.2.1
  clear hT P1 KQ1 B1 M1 M2 nw AD
  obtain ⟨s0, s1, s2, s3⟩ := blk_four P2.out.arg
  obtain ⟨q0, q1, q2, q3⟩ := blk_four KQ2.out
  obtain ⟨z0, z1⟩ := blk_two KP.out
  have o1 : pb ≠ w.heap.size + 1 := fun e => by have h1 := KP.out; rw [e] at h1; have h2 := P2.out.res; unfold Blk at h1 h2; rw [h1] at h2; simp at h2
  have o2 : qb ≠ w.heap.size + 1 := by omega
  go_upto_region 4 with fail
  go_region_held3 (fun W => W.cell? ⟨pb, 0, none⟩ = some (.bool (sg sx)) ∧ W.cell? ⟨pb, 1, none⟩ = some (.slice A3 n3 c3) ∧ W.cell? ⟨w.heap.size, 0, none⟩ = some (.bool g1) ∧ W.cell? ⟨w.heap.size, 1, none⟩ = some (.slice A n c) ∧ W.cell? ⟨w.heap.size, 2, none⟩ = some (.bool g2) ∧ W.cell? ⟨w.heap.size, 3, none⟩ = some (.slice D m d) ∧ W.cell? ⟨qb, 0, none⟩ = some (.bool h1) ∧ W.cell? ⟨qb, 1, none⟩ = some (.slice B n2 c2) ∧ W.cell? ⟨qb, 2, none⟩ = some (.bool h2) ∧ W.cell? ⟨qb, 3, none⟩ = some (.slice E m2 d2))
    (refine ⟨?_, ?_, ?_, ?_, ?_, ?_, ?_, ?_, ?_, ?_⟩ <;> repeat' (first | with_reducible assumption | with_reducible refine cell_dr ?_ | with_reducible refine cell_fr ?_ (by first | assumption | omega)))
    (first
      | (go_at_call 144; refine (M3.out _ (bx_drew B2.out)).mono ?_; rintro e y1 ⟨A5, n5, c5, rfl, r5, b⟩; have ts0 := cell_bx (cell_dr s0) b; have ts1 := cell_bx (cell_dr s1) b; have ts2 := cell_bx (cell_dr s2) b; have ts3 := cell_bx (cell_dr s3) b; have tq0 := cell_bx (cell_dr q0) b; have tq1 := cell_bx (cell_dr q1) b; have tq2 := cell_bx (cell_dr q2) b; have tq3 := cell_bx (cell_dr q3) b; have tz0 := cell_bx (cell_dr z0) b; have tz1 := cell_bx (cell_dr z1) b; have P3 := hid (P2.out.keep (bx_call (bx_drew (bx_refl _)) b)); have E1 := hid (ret_pair_end (RS.out.keep (bx_call (bx_drew (bx_refl _)) b)) (iv_sg sx) (show n3 ≤ k + k + 1 from by rw [← RS.out.1]; exact ls) r5 (iv_sg x3) (show n5 ≤ k + k + 1 from by rw [← r5.1]; omega) P3.out.res P3.out.bel (Nat.le_succ _)); obtain ⟨⟨x0, xx1, xx2, xx3⟩, f0, f1, f2, f3⟩ := P3.out.rcells; clear b r5))
  go_wp2_with fail
  exact bodyPost_ret (v := .agg #[.bool (sg sx), .slice A3 n3 c3, .bool (sg x3), .slice A5 n5 c5]) (by simp [results, Tryz.results142, go_sem, x0, xx1, xx2, xx3]) rfl E1.out
def StP (w : World) (p q : Int) (k : Nat) (wr : World) : Prop := ∃ g A n c xs g2 D m d ys, PreP1 w g (.slice A n c) g2 (.slice D m d) wr ∧ Rd wr A n c xs ∧ iv g xs = p ∧ n ≤ k ∧ Rd wr D m d ys ∧ iv g2 ys = q ∧ m ≤ k
def PStep (w : World) (F : Nat) (caps : List Value) (p q : Int) (k : Nat) (p' q' : Int) (k' : Nat) : Prop := ∀ (W : World) (g : Bool) (A : Option Addr) (n c : Nat) (xs : List Nat) (g2 : Bool) (D : Option Addr) (m d : Nat) (ys : List Nat), Below w.heap.size w W → Rd W A n c xs → iv g xs = p → n ≤ k → Rd W D m d ys → iv g2 ys = q → m ≤ k →
  Calls Tryz.prog F (.agg #[.bool g, .slice A n c, .bool g2, .slice D m d] :: caps).toArray W (RetP W p' q' k')
theorem stP_next {w w1 wr : World} {g0 h0 : Bool} {A0 D0 : Option Addr} {n0 c0 m0 d0 : Nat} {p q : Int} {k : Nat} {g g2 : Bool} {A D : Option Addr} {n c m d : Nat} {xs ys : List Nat} (P : PreP1 w g0 (.slice A0 n0 c0) h0 (.slice D0 m0 d0) wr) (b : Below wr.heap.size wr w1)
    (r1 : Rd w1 A n c xs) (e1 : iv g xs = p) (l1 : n ≤ k) (r2 : Rd w1 D m d ys) (e2 : iv g2 ys = q) (l2 : m ≤ k) :
    StP w p q k ((((w1.setCell ⟨w.heap.size, 0, none⟩ (.bool g)).setCell ⟨w.heap.size, 1, none⟩ (.slice A n c)).setCell ⟨w.heap.size, 2, none⟩ (.bool g2)).setCell ⟨w.heap.size, 3, none⟩ (.slice D m d)) := by
  have K0 := P.arg.keep b
  have Q0 := P.res.keep b
  have X0 := bx_call P.bel b
  exact ⟨g, A, n, c, xs, g2, D, m, d, ys, ⟨(((K0.set_ 0 _).set_ 1 _).set_ 2 _).set_ 3 _, (((Q0.far (by omega) _).far (by omega) _).far (by omega) _).far (by omega) _, bx_set (bx_set (bx_set (bx_set X0 (Nat.le_refl _)) (Nat.le_refl _)) (Nat.le_refl _)) (Nat.le_refl _)⟩, rd_cell_far4 r1 K0 _ _ _ _, e1, l1, rd_cell_far4 r2 K0 _ _ _ _, e2, l2⟩
theorem stP_end {w wr : World} {p q : Int} {k : Nat} {g g2 : Bool} {A D : Option Addr} {n c m d : Nat} {xs ys : List Nat} (P : PreP1 w g (.slice A n c) g2 (.slice D m d) wr) (r1 : Rd wr A n c xs) (e1 : iv g xs = p) (l1 : n ≤ k) (r2 : Rd wr D m d ys) (e2 : iv g2 ys = q) (l2 : m ≤ k) :
    RetP w p q k (.returned (.agg #[.bool g, .slice A n c, .bool g2, .slice D m d])) ((((wr.setCell ⟨w.heap.size + 1, 0, none⟩ (.bool g)).setCell ⟨w.heap.size + 1, 1, none⟩ (.slice A n c)).setCell ⟨w.heap.size + 1, 2, none⟩ (.bool g2)).setCell ⟨w.heap.size + 1, 3, none⟩ (.slice D m d)) :=
  ret_pair_end r1 e1 l1 r2 e2 l2 P.res P.bel (Nat.le_succ _)
set_option maxHeartbeats 4000000 in
theorem follow_plus (b0 : Nat) (sb : Nat) (g1 : Bool) (A : Option Addr) (n c : Nat) (xs : List Nat) (g2 : Bool) (D : Option Addr) (m d : Nat) (ys : List Nat) (p0 q0 : Int) (k0 : Nat) (p1 q1 : Int) (k1 : Nat) (w : World) (h : Rd w A n c xs) (hp : iv g1 xs = p0) (hn : n ≤ k0) (q : Rd w D m d ys) (hq : iv g2 ys = q0) (hm : m ≤ k0) (ks : Blk w sb [.func (.func 142) #[] #[.pointer (some ⟨b0, 0, none⟩)]] 134)
    (T0 : PStep w 142 [.pointer (some ⟨b0, 0, none⟩)] p0 q0 k0 p1 q1 k1) :
    Calls Tryz.prog 111 #[.agg #[.bool g1, .slice A n c, .bool g2, .slice D m d], .slice (some ⟨sb, 0, none⟩) 1 1] w (RetP w p1 q1 k1) := by
  have P0 := hid (PreP1.start w g1 (.slice A n c) g2 (.slice D m d))
  obtain ⟨W0, hW⟩ : ∃ W, W = (w.alloc (.cells #[.bool g1, .slice A n c, .bool g2, .slice D m d] 130)).alloc (.cells #[.bool false, .slice none 0 0, .bool false, .slice none 0 0] 130) := ⟨_, rfl⟩
  rw [← hW] at P0
  have KS := hid ks
  have ST0 := hid (show StP w p0 q0 k0 W0 from ⟨g1, A, n, c, xs, g2, D, m, d, ys, P0.out, h.keep P0.out.bel, hp, hn, q.keep P0.out.bel, hq, hm⟩)
  have U0 := hid T0
  clear h hp hn q hq hm ks P0 T0
  go_enter Tryz.func111, Tryz.ntmps111
  go_upto_region 1 with fail
  rw [← hW]
  clear hW
  go_wp2_with fail
  go_loopg [9] 1 (fun kk s9 wr => (kk = 1 ∧ s9 = .int .i64 0 ∧ Hid (StP w p0 q0 k0 wr)) ∨ (kk = 0 ∧ s9 = .int .i64 1 ∧ Hid (StP w p1 q1 k1 wr)))
  case atStart => exact .inl ⟨rfl, rfl, ST0⟩
  case round =>
    clear ST0
    rcases hrel with ⟨rfl, rfl, hz⟩ | ⟨rfl, rfl, hz⟩
    · obtain ⟨ga, Aa, na, ca, xa, gb, Db, mb, db, yb, P, r1, e1, l1, r2, e2, l2⟩ := hz.out
      have cc : Calls Tryz.prog 142 #[.agg #[.bool ga, .slice Aa na ca, .bool gb, .slice Db mb db], .pointer (some ⟨b0, 0, none⟩)] wr (RetP wr p1 q1 k1) := U0.out wr ga Aa na ca xa gb Db mb db yb P.bel r1 e1 l1 r2 e2 l2
      have CC := hid cc
      have sc : wr.cell? ⟨sb, 0, none⟩ = some (.func (.func 142) #[] #[.pointer (some ⟨b0, 0, none⟩)]) := Blk.cell (KS.out.keep P.bel) 0
      have P1 := hid P
      obtain ⟨s0, s1, s2, s3⟩ := blk_four P.arg
      clear cc P r1 e1 l1 r2 e2 l2 hz
      go_wp2_with fail
      refine (CC.out).mono ?_
      rintro e w1 ⟨gc, Ac, nc, cc, xc, gd, Dd, md, dd, yd, rfl, r1, e1, l1, r2, e2, l2, b⟩
      have Z := hid (stP_next P1.out b r1 e1 l1 r2 e2 l2)
      have K1 := P1.out.arg.keep b
      obtain ⟨x0, x1, x2, x3⟩ := blk_four K1
      have f0 := Blk.free K1 0
      have f1 := Blk.free K1 1
      have f2 := Blk.free K1 2
      have f3 := Blk.free K1 3
      clear r1 e1 l1 r2 e2 l2 b CC P1 K1 s0 s1 s2 s3 sc
      go_wp2_with fail
      go_roundg 0
      case measure => omega
      case rel => exact .inr ⟨rfl, rfl, Z⟩
    · obtain ⟨ga, Aa, na, ca, xa, gb, Db, mb, db, yb, P, r1, e1, l1, r2, e2, l2⟩ := hz.out
      have EE := hid (stP_end P r1 e1 l1 r2 e2 l2)
      obtain ⟨s0, s1, s2, s3⟩ := blk_four P.arg
      obtain ⟨⟨x0, x1, x2, x3⟩, f0, f1, f2, f3⟩ := P.rcells
      clear P r1 e1 l1 r2 e2 l2 hz
      go_wp2_with fail
      exact bodyPost_ret (v := .agg #[.bool ga, .slice Aa na ca, .bool gb, .slice Db mb db]) (by simp [results, Tryz.results111, go_sem, x0, x1, x2, x3]) rfl EE.out
set_option maxHeartbeats 4000000 in
theorem follow_times (b0 : Nat) (sb : Nat) (g1 : Bool) (A : Option Addr) (n c : Nat) (xs : List Nat) (g2 : Bool) (D : Option Addr) (m d : Nat) (ys : List Nat) (p0 q0 : Int) (k0 : Nat) (p1 q1 : Int) (k1 : Nat) (w : World) (h : Rd w A n c xs) (hp : iv g1 xs = p0) (hn : n ≤ k0) (q : Rd w D m d ys) (hq : iv g2 ys = q0) (hm : m ≤ k0) (ks : Blk w sb [.func (.func 160) #[] #[.pointer (some ⟨b0, 0, none⟩)]] 134)
    (T0 : PStep w 160 [.pointer (some ⟨b0, 0, none⟩)] p0 q0 k0 p1 q1 k1) :
    Calls Tryz.prog 111 #[.agg #[.bool g1, .slice A n c, .bool g2, .slice D m d], .slice (some ⟨sb, 0, none⟩) 1 1] w (RetP w p1 q1 k1) := by
  have P0 := hid (PreP1.start w g1 (.slice A n c) g2 (.slice D m d))
  obtain ⟨W0, hW⟩ : ∃ W, W = (w.alloc (.cells #[.bool g1, .slice A n c, .bool g2, .slice D m d] 130)).alloc (.cells #[.bool false, .slice none 0 0, .bool false, .slice none 0 0] 130) := ⟨_, rfl⟩
  rw [← hW] at P0
  have KS := hid ks
  have ST0 := hid (show StP w p0 q0 k0 W0 from ⟨g1, A, n, c, xs, g2, D, m, d, ys, P0.out, h.keep P0.out.bel, hp, hn, q.keep P0.out.bel, hq, hm⟩)
  have U0 := hid T0
  clear h hp hn q hq hm ks P0 T0
  go_enter Tryz.func111, Tryz.ntmps111
  go_upto_region 1 with fail
  rw [← hW]
  clear hW
  go_wp2_with fail
  go_loopg [9] 1 (fun kk s9 wr => (kk = 1 ∧ s9 = .int .i64 0 ∧ Hid (StP w p0 q0 k0 wr)) ∨ (kk = 0 ∧ s9 = .int .i64 1 ∧ Hid (StP w p1 q1 k1 wr)))
  case atStart => exact .inl ⟨rfl, rfl, ST0⟩
  case round =>
    clear ST0
    rcases hrel with ⟨rfl, rfl, hz⟩ | ⟨rfl, rfl, hz⟩
    · obtain ⟨ga, Aa, na, ca, xa, gb, Db, mb, db, yb, P, r1, e1, l1, r2, e2, l2⟩ := hz.out
      have cc : Calls Tryz.prog 160 #[.agg #[.bool ga, .slice Aa na ca, .bool gb, .slice Db mb db], .pointer (some ⟨b0, 0, none⟩)] wr (RetP wr p1 q1 k1) := U0.out wr ga Aa na ca xa gb Db mb db yb P.bel r1 e1 l1 r2 e2 l2
      have CC := hid cc
      have sc : wr.cell? ⟨sb, 0, none⟩ = some (.func (.func 160) #[] #[.pointer (some ⟨b0, 0, none⟩)]) := Blk.cell (KS.out.keep P.bel) 0
      have P1 := hid P
      obtain ⟨s0, s1, s2, s3⟩ := blk_four P.arg
      clear cc P r1 e1 l1 r2 e2 l2 hz
      go_wp2_with fail
      refine (CC.out).mono ?_
      rintro e w1 ⟨gc, Ac, nc, cc, xc, gd, Dd, md, dd, yd, rfl, r1, e1, l1, r2, e2, l2, b⟩
      have Z := hid (stP_next P1.out b r1 e1 l1 r2 e2 l2)
      have K1 := P1.out.arg.keep b
      obtain ⟨x0, x1, x2, x3⟩ := blk_four K1
      have f0 := Blk.free K1 0
      have f1 := Blk.free K1 1
      have f2 := Blk.free K1 2
      have f3 := Blk.free K1 3
      clear r1 e1 l1 r2 e2 l2 b CC P1 K1 s0 s1 s2 s3 sc
      go_wp2_with fail
      go_roundg 0
      case measure => omega
      case rel => exact .inr ⟨rfl, rfl, Z⟩
    · obtain ⟨ga, Aa, na, ca, xa, gb, Db, mb, db, yb, P, r1, e1, l1, r2, e2, l2⟩ := hz.out
      have EE := hid (stP_end P r1 e1 l1 r2 e2 l2)
      obtain ⟨s0, s1, s2, s3⟩ := blk_four P.arg
      obtain ⟨⟨x0, x1, x2, x3⟩, f0, f1, f2, f3⟩ := P.rcells
      clear P r1 e1 l1 r2 e2 l2 hz
      go_wp2_with fail
      exact bodyPost_ret (v := .agg #[.bool ga, .slice Aa na ca, .bool gb, .slice Db mb db]) (by simp [results, Tryz.results111, go_sem, x0, x1, x2, x3]) rfl EE.out
set_option maxHeartbeats 4000000 in
theorem follow_neg_plus (b1 : Nat) (sb : Nat) (g1 : Bool) (A : Option Addr) (n c : Nat) (xs : List Nat) (g2 : Bool) (D : Option Addr) (m d : Nat) (ys : List Nat) (p0 q0 : Int) (k0 : Nat) (p1 q1 : Int) (k1 : Nat) (p2 q2 : Int) (k2 : Nat) (w : World) (h : Rd w A n c xs) (hp : iv g1 xs = p0) (hn : n ≤ k0) (q : Rd w D m d ys) (hq : iv g2 ys = q0) (hm : m ≤ k0) (ks : Blk w sb [.func (.func 113) #[] #[], .func (.func 142) #[] #[.pointer (some ⟨b1, 0, none⟩)]] 134)
    (T0 : PStep w 113 [] p0 q0 k0 p1 q1 k1) (T1 : PStep w 142 [.pointer (some ⟨b1, 0, none⟩)] p1 q1 k1 p2 q2 k2) :
    Calls Tryz.prog 111 #[.agg #[.bool g1, .slice A n c, .bool g2, .slice D m d], .slice (some ⟨sb, 0, none⟩) 2 2] w (RetP w p2 q2 k2) := by
  have P0 := hid (PreP1.start w g1 (.slice A n c) g2 (.slice D m d))
  obtain ⟨W0, hW⟩ : ∃ W, W = (w.alloc (.cells #[.bool g1, .slice A n c, .bool g2, .slice D m d] 130)).alloc (.cells #[.bool false, .slice none 0 0, .bool false, .slice none 0 0] 130) := ⟨_, rfl⟩
  rw [← hW] at P0
  have KS := hid ks
  have ST0 := hid (show StP w p0 q0 k0 W0 from ⟨g1, A, n, c, xs, g2, D, m, d, ys, P0.out, h.keep P0.out.bel, hp, hn, q.keep P0.out.bel, hq, hm⟩)
  have U0 := hid T0
  have U1 := hid T1
  clear h hp hn q hq hm ks P0 T0 T1
  go_enter Tryz.func111, Tryz.ntmps111
  go_upto_region 1 with fail
  rw [← hW]
  clear hW
  go_wp2_with fail
  go_loopg [9] 2 (fun kk s9 wr => (kk = 2 ∧ s9 = .int .i64 0 ∧ Hid (StP w p0 q0 k0 wr)) ∨ (kk = 1 ∧ s9 = .int .i64 1 ∧ Hid (StP w p1 q1 k1 wr)) ∨ (kk = 0 ∧ s9 = .int .i64 2 ∧ Hid (StP w p2 q2 k2 wr)))
  case atStart => exact .inl ⟨rfl, rfl, ST0⟩
  case round =>
    clear ST0
    rcases hrel with ⟨rfl, rfl, hz⟩ | ⟨rfl, rfl, hz⟩ | ⟨rfl, rfl, hz⟩
    · obtain ⟨ga, Aa, na, ca, xa, gb, Db, mb, db, yb, P, r1, e1, l1, r2, e2, l2⟩ := hz.out
      have cc : Calls Tryz.prog 113 #[.agg #[.bool ga, .slice Aa na ca, .bool gb, .slice Db mb db]] wr (RetP wr p1 q1 k1) := U0.out wr ga Aa na ca xa gb Db mb db yb P.bel r1 e1 l1 r2 e2 l2
      have CC := hid cc
      have sc : wr.cell? ⟨sb, 0, none⟩ = some (.func (.func 113) #[] #[]) := Blk.cell (KS.out.keep P.bel) 0
      have P1 := hid P
      obtain ⟨s0, s1, s2, s3⟩ := blk_four P.arg
      clear cc P r1 e1 l1 r2 e2 l2 hz
      go_wp2_with fail
      refine (CC.out).mono ?_
      rintro e w1 ⟨gc, Ac, nc, cc, xc, gd, Dd, md, dd, yd, rfl, r1, e1, l1, r2, e2, l2, b⟩
      have Z := hid (stP_next P1.out b r1 e1 l1 r2 e2 l2)
      have K1 := P1.out.arg.keep b
      obtain ⟨x0, x1, x2, x3⟩ := blk_four K1
      have f0 := Blk.free K1 0
      have f1 := Blk.free K1 1
      have f2 := Blk.free K1 2
      have f3 := Blk.free K1 3
      clear r1 e1 l1 r2 e2 l2 b CC P1 K1 s0 s1 s2 s3 sc
      go_wp2_with fail
      go_roundg 1
      case measure => omega
      case rel => exact .inr (.inl ⟨rfl, rfl, Z⟩)
    · obtain ⟨ga, Aa, na, ca, xa, gb, Db, mb, db, yb, P, r1, e1, l1, r2, e2, l2⟩ := hz.out
      have cc : Calls Tryz.prog 142 #[.agg #[.bool ga, .slice Aa na ca, .bool gb, .slice Db mb db], .pointer (some ⟨b1, 0, none⟩)] wr (RetP wr p2 q2 k2) := U1.out wr ga Aa na ca xa gb Db mb db yb P.bel r1 e1 l1 r2 e2 l2
      have CC := hid cc
      have sc : wr.cell? ⟨sb, 1, none⟩ = some (.func (.func 142) #[] #[.pointer (some ⟨b1, 0, none⟩)]) := Blk.cell (KS.out.keep P.bel) 1
      have P1 := hid P
      obtain ⟨s0, s1, s2, s3⟩ := blk_four P.arg
      clear cc P r1 e1 l1 r2 e2 l2 hz
      go_wp2_with fail
      refine (CC.out).mono ?_
      rintro e w1 ⟨gc, Ac, nc, cc, xc, gd, Dd, md, dd, yd, rfl, r1, e1, l1, r2, e2, l2, b⟩
      have Z := hid (stP_next P1.out b r1 e1 l1 r2 e2 l2)
      have K1 := P1.out.arg.keep b
      obtain ⟨x0, x1, x2, x3⟩ := blk_four K1
      have f0 := Blk.free K1 0
      have f1 := Blk.free K1 1
      have f2 := Blk.free K1 2
      have f3 := Blk.free K1 3
      clear r1 e1 l1 r2 e2 l2 b CC P1 K1 s0 s1 s2 s3 sc
      go_wp2_with fail
      go_roundg 0
      case measure => omega
      case rel => exact .inr (.inr ⟨rfl, rfl, Z⟩)
    · obtain ⟨ga, Aa, na, ca, xa, gb, Db, mb, db, yb, P, r1, e1, l1, r2, e2, l2⟩ := hz.out
      have EE := hid (stP_end P r1 e1 l1 r2 e2 l2)
      obtain ⟨s0, s1, s2, s3⟩ := blk_four P.arg
      obtain ⟨⟨x0, x1, x2, x3⟩, f0, f1, f2, f3⟩ := P.rcells
      clear P r1 e1 l1 r2 e2 l2 hz
      go_wp2_with fail
      exact bodyPost_ret (v := .agg #[.bool ga, .slice Aa na ca, .bool gb, .slice Db mb db]) (by simp [results, Tryz.results111, go_sem, x0, x1, x2, x3]) rfl EE.out
end Go.Proofs.YtdbccidlnhjfhaaGreatDoor
