/- The example holds: awake. -/
import Derived.Test.YthbogaindaflpaaGreatExs
import Derived.Deep.DeepCutAuto
import Derived.BigQuiet
namespace Go.Proofs.YthbogaindaflpaaGreat
open Go.RowKit
set_option maxRecDepth 100000
structure Aw (w : World) (V R T pb : Nat) (AY : Option Addr) (cY : Nat) (AX : Option Addr) (cX : Nat) (W : World) : Prop where
  bel : Below w.heap.size w W
  pg : Pg W (exP V R T)
  box : Blk W pb [.slice (some ⟨V, 0, none⟩) 2 2, .slice (some ⟨R, 0, none⟩) 1 1] 25
  qy : Qs W AY 1 cY 2 (fun i => (zY i : Rat))
  qx : Qs W AX 2 cX 2 (fun i => (zX i : Rat))
theorem Aw.keep {w : World} {V R T pb : Nat} {AY : Option Addr} {cY : Nat} {AX : Option Addr} {cX : Nat} {W W' : World} (h : Aw w V R T pb AY cY AX cX W) (b : Below W.heap.size W W') : Aw w V R T pb AY cY AX cX W' := ⟨bx_call h.bel b, h.pg.keep b, h.box.keep b, h.qy.keep b, h.qx.keep b⟩
structure Bq (W : World) (ab : Nat) (k : Nat) (q : Rat) (A : Option Addr) (n c : Nat) (D : Option Addr) (m d : Nat) : Prop where
  blk : Blk W ab [.bool (sg q.num), .slice A n c, .slice D m d] 31
  fr : FrL W A n c D m d k q
theorem Bq.keep {W W' : World} {ab k : Nat} {q : Rat} {A : Option Addr} {n c : Nat} {D : Option Addr} {m d : Nat} (h : Bq W ab k q A n c D m d) (b : Below W.heap.size W W') : Bq W' ab k q A n c D m d := ⟨h.blk.keep b, h.fr.keep b⟩
theorem il_blk {W : World} {b : Nat} {t : TypeId} (l : List Value) (n : Nat) (zs : Nat → Int) (K : Blk W b l t) (h : ∀ j, j < n → l[j]? = some (.int .i64 (zs j))) (hl : n ≤ 1000) : Il W (some ⟨b, 0, none⟩) n n zs :=
  ⟨Nat.le_refl _, by omega, fun _ => ⟨b, 0, rfl, K.lt, fun j hj => by rw [K.cell, Nat.zero_add]; exact h j hj⟩⟩
theorem ints_Y (W : World) (b : Nat) (K : Blk W b [.int .i64 (-1)] 2) : Calls Tryz.prog 15 #[.slice (some ⟨b, 0, none⟩) 1 1] W (RetQs W 1 2 (fun i => (zY i : Rat))) :=
  rints _ 1 1 zY _ (il_blk _ 1 zY K (fun j hj => by
    obtain rfl : j = 0 := by omega
    rfl) (by omega)) (fun j _ => by show -9223372036854775808 ≤ (-1 : Int) ∧ (-1 : Int) ≤ _; omega) (by omega)
theorem ints_N (W : World) (b : Nat) (K : Blk W b [.int .i64 1] 2) : Calls Tryz.prog 15 #[.slice (some ⟨b, 0, none⟩) 1 1] W (RetQs W 1 2 (fun i => (zN i : Rat))) :=
  rints _ 1 1 zN _ (il_blk _ 1 zN K (fun j hj => by
    obtain rfl : j = 0 := by omega
    rfl) (by omega)) (fun j _ => by show -9223372036854775808 ≤ (1 : Int) ∧ (1 : Int) ≤ _; omega) (by omega)
theorem ints_X (W : World) (b : Nat) (K : Blk W b [.int .i64 1, .int .i64 3] 2) : Calls Tryz.prog 15 #[.slice (some ⟨b, 0, none⟩) 2 2] W (RetQs W 2 2 (fun i => (zX i : Rat))) :=
  rints _ 2 2 zX _ (il_blk _ 2 zX K (fun j hj => by
    have : j = 0 ∨ j = 1 := by omega
    rcases this with rfl | rfl <;> rfl) (by omega)) (fun j _ => by
    show -9223372036854775808 ≤ (if j = 0 then (1 : Int) else 3) ∧ (if j = 0 then (1 : Int) else 3) ≤ _
    split <;> omega) (by omega)
theorem bound_Y {q : Rat} (h7 : q = ((-7 : Int) : Rat)) {W : World} {V R T : Nat} (h : Pg W (exP V R T)) {AY : Option Addr} {cY : Nat} (hq : Qs W AY 1 cY 2 (fun i => (zY i : Rat))) : Calls Tryz.prog 16 #[.agg #[.slice (some ⟨V, 0, none⟩) 2 2, .slice (some ⟨R, 0, none⟩) 1 1], .slice AY 1 cY] W (RetLB W q 112000000 true) := by
  have t := d_boundL (exP V R T) AY 1 cY 2 _ W h hq (by omega)
  rw [ex_bndv, ex_bnd, ← h7] at t
  exact t
theorem bound_0 {q : Rat} (h9 : q = ((-9 : Int) : Rat)) {W : World} {V R T : Nat} (h : Pg W (exP V R T)) : Calls Tryz.prog 16 #[.agg #[.slice (some ⟨V, 0, none⟩) 2 2, .slice (some ⟨R, 0, none⟩) 1 1], .slice none 0 0] W (RetLB W q 112000000 true) := by
  have t := d_boundL (exP V R T) none 0 0 2 (fun _ => 0) W h ⟨Nat.le_refl _, by omega, by omega, fun h => absurd h (by omega)⟩ (by omega)
  rw [ex_nilv, ex_nil, ← h9] at t
  exact t
theorem bound_N {W : World} {V R T : Nat} (h : Pg W (exP V R T)) {AY : Option Addr} {cY : Nat} (hq : Qs W AY 1 cY 2 (fun i => (zN i : Rat))) : ∃ q, Calls Tryz.prog 16 #[.agg #[.slice (some ⟨V, 0, none⟩) 2 2, .slice (some ⟨R, 0, none⟩) 1 1], .slice AY 1 cY] W (RetLB W q 112000000 false) := by
  have t := d_boundL (exP V R T) AY 1 cY 2 _ W h hq (by omega)
  rw [ex_no] at t
  exact ⟨_, t⟩
theorem opt_E {W : World} {V R T : Nat} (h : Pg W (exP V R T)) {AY : Option Addr} {cY : Nat} (hq : Qs W AY 1 cY 2 (fun i => (zY i : Rat))) {AX : Option Addr} {cX : Nat} (hx : Qs W AX 2 cX 2 (fun i => (zX i : Rat))) : Calls Tryz.prog 19 #[.agg #[.slice (some ⟨V, 0, none⟩) 2 2, .slice (some ⟨R, 0, none⟩) 1 1], .slice AX 2 cX, .slice AY 1 cY] W (RetB W true) := by
  have t := d_optimal (exP V R T) AX 2 cX 2 _ AY 1 cY 2 _ W h hx (by omega) hq (by omega)
  rw [ex_opt] at t
  exact t
theorem check_E {W : World} {V R T : Nat} (h : Pg W (exP V R T)) {AY : Option Addr} {cY : Nat} (hq : Qs W AY 1 cY 2 (fun i => (zY i : Rat))) {AX : Option Addr} {cX : Nat} (hx : Qs W AX 2 cX 2 (fun i => (zX i : Rat))) (q : Rat) {A : Option Addr} {n c : Nat} {D : Option Addr} {m d : Nat} (f : FrL W A n c D m d 2 q) (r : Int) (hr : (if sgnQ (q - (exP V R T).costV (pt 2 fun i => (zX i : Rat))) = 0 then 0 else 13) = r) :
    Calls Tryz.prog 8 #[.agg #[.slice (some ⟨V, 0, none⟩) 2 2, .slice (some ⟨R, 0, none⟩) 1 1], .agg #[.int .i64 0, .bool (sg q.num), .slice A n c, .slice D m d, .slice AX 2 cX, .slice AY 1 cY, .slice none 0 0]] W (RetI W r) := by
  have t := d_check1 (exP V R T) { kd := 0, g := sg q.num, A := A, n := n, c := c, D := D, m := m, d := d, q := q, PA := AX, pn := 2, pc := cX, ps := fun i => (zX i : Rat), MA := AY, mn := 1, mc := cY, ms := fun i => (zY i : Rat), YA := none, yn := 0, yc := 0, ys := fun _ => 0 } 2 W h ⟨f.v, hx, hq, ⟨Nat.le_refl _, by show (0 : Nat) ≤ _; omega, by omega, fun h => absurd (show (0 : Nat) < 0 from h) (by omega)⟩⟩ (by omega) rfl
  have e : (exP V R T).chk1 { kd := 0, g := sg q.num, A := A, n := n, c := c, D := D, m := m, d := d, q := q, PA := AX, pn := 2, pc := cX, ps := fun i => (zX i : Rat), MA := AY, mn := 1, mc := cY, ms := fun i => (zY i : Rat), YA := none, yn := 0, yc := 0, ys := fun _ => 0 } = r := by
    rw [← hr]
    unfold PD.chk1 PD.ck1
    dsimp only
    rw [ex_ok, ex_opt, if_pos rfl, show szB 2 1 0 (exP V R T).vn (exP V R T).rn 0 = true from rfl]
    by_cases h : sgnQ (q - (exP V R T).costV (pt 2 fun i => (zX i : Rat))) = 0
    · rw [if_pos h, if_pos (by rw [decide_eq_true h]; rfl)]
    · rw [if_neg h, if_neg (by rw [decide_eq_false h]; decide)]
  rw [e] at t
  exact t
theorem vsame_refl {A : Option Addr} {n c : Nat} {D : Option Addr} {m d k : Nat} {B : Option Addr} {n2 c2 : Nat} {E : Option Addr} {m2 d2 k2 : Nat} {p : Rat} {w : World} (h : FrL w A n c D m d k p) (h2 : FrL w B n2 c2 E m2 d2 k2 p) :
    Calls Tryz.prog 18 #[.agg #[.bool (sg p.num), .slice A n c, .slice D m d], .agg #[.bool (sg p.num), .slice B n2 c2, .slice E m2 d2]] w (RetB w true) := by
  have t := vsame h h2
  rw [decide_eq_true rfl] at t
  exact t
theorem from_E (z : Int) {q : Rat} (h : q = (z : Rat)) (W : World) (h1 : -9223372036854775808 ≤ z) (h2 : z ≤ 9223372036854775807) : Calls Tryz.prog 17 #[.int .i64 z] W (RetQ W q 2) := by
  rw [h]
  exact vrfrom z W h1 h2
structure S8 (w : World) (V R T pb : Nat) (AY : Option Addr) (cY : Nat) (AX : Option Addr) (cX : Nat) (ab : Nat) (qa : Rat) (Aa : Option Addr) (na ca : Nat) (Da : Option Addr) (ma da : Nat) (bb : Nat) (qb : Rat) (Ab : Option Addr) (nb cb : Nat) (Db : Option Addr) (mb db : Nat) (ob : Nat) (Av : Option Addr) (nv cv : Nat) (Dv : Option Addr) (mv dv : Nat) (W : World) : Prop where
  aw : Aw w V R T pb AY cY AX cX W
  a : Bq W ab 112000000 qa Aa na ca Da ma da
  b : Bq W bb 112000000 qb Ab nb cb Db mb db
  ko : Blk W ob [.int .i64 0, .bool (sg qa.num), .slice Av nv cv, .slice Dv mv dv, .slice AX 2 cX, .slice AY 1 cY, .slice none 0 0] 34
  lv : FrL W Av nv cv Dv mv dv 2 qa
section
variable {w : World} {V R T pb : Nat} {AY : Option Addr} {cY : Nat} {AX : Option Addr} {cX : Nat} {ab : Nat} {qa : Rat} {Aa : Option Addr} {na ca : Nat} {Da : Option Addr} {ma da : Nat} {bb : Nat} {qb : Rat} {Ab : Option Addr} {nb cb : Nat} {Db : Option Addr} {mb db : Nat} {ob : Nat} {Av : Option Addr} {nv cv : Nat} {Dv : Option Addr} {mv dv : Nat} {W W' : World}
theorem S8.keep (h : S8 w V R T pb AY cY AX cX ab qa Aa na ca Da ma da bb qb Ab nb cb Db mb db ob Av nv cv Dv mv dv W) (b : Below W.heap.size W W') : S8 w V R T pb AY cY AX cX ab qa Aa na ca Da ma da bb qb Ab nb cb Db mb db ob Av nv cv Dv mv dv W' := ⟨h.aw.keep b, h.a.keep b, h.b.keep b, h.ko.keep b, h.lv.keep b⟩
end
set_option maxHeartbeats 16000000 in
theorem awk6 (w : World) : Calls Tryz.prog 5 #[] w (RetB w true) := by
  go_enter Tryz.func5, Tryz.ntmps5
  go_wp2_with fail
  refine (d_example w).mono ?_
  rintro e w1 ⟨V, R, T, rfl, pg, b1⟩
  obtain ⟨qa, hqa⟩ : ∃ q : Rat, q = ((-7 : Int) : Rat) := ⟨_, rfl⟩
  obtain ⟨qb, hqb⟩ : ∃ q : Rat, q = ((-9 : Int) : Rat) := ⟨_, rfl⟩
  obtain ⟨qc, hqc⟩ : ∃ q : Rat, q = ((-6 : Int) : Rat) := ⟨_, rfl⟩
  have QA := hid hqa
  have QB := hid hqb
  have QC := hid hqc
  have C1 := hid (show (if sgnQ (qa - (exP V R T).costV (pt 2 fun i => (zX i : Rat))) = 0 then (0 : Int) else 13) = 0 by rw [hqa, if_pos (ex_c1 V R T)])
  have C2 := hid (show (if sgnQ (qc - (exP V R T).costV (pt 2 fun i => (zX i : Rat))) = 0 then (0 : Int) else 13) = 13 by rw [hqc, if_neg (ex_c2 V R T)])
  clear hqa hqb hqc
  obtain ⟨W1, hW1⟩ : ∃ W, W = w1.alloc (.cells #[.slice (some ⟨V, 0, none⟩) 2 2, .slice (some ⟨R, 0, none⟩) 1 1] 25) := ⟨_, rfl⟩
  have bw1 := bx_alloc (bx_refl w1) (.cells #[.slice (some ⟨V, 0, none⟩) 2 2, .slice (some ⟨R, 0, none⟩) 1 1] 25)
  have kb := Blk.new w1 [.slice (some ⟨V, 0, none⟩) 2 2, .slice (some ⟨R, 0, none⟩) 1 1] 25
  change Blk (w1.alloc (.cells #[.slice (some ⟨V, 0, none⟩) 2 2, .slice (some ⟨R, 0, none⟩) 1 1] 25)) _ _ _ at kb
  obtain ⟨pb, hpb⟩ : ∃ p, p = w1.heap.size := ⟨_, rfl⟩
  rw [← hpb] at kb
  rw [← hW1] at bw1 kb
  have P1 := hid (pg.keep bw1)
  have BB1 := hid (bx_call b1 bw1)
  have KB := hid kb
  clear pg b1 bw1 kb
  go_upto_region 2 with fail
  rw [← hW1, ← hpb]
  clear hW1 hpb
  have ba := bx_alloc (bx_refl W1) (.cells #[.int .i64 (-1)] 2)
  have kn := Blk.new W1 [.int .i64 (-1)] 2
  go_wp2_with fail
  refine (ints_Y _ _ kn).mono ?_
  rintro e W2 ⟨AY, cY, rfl, qy, b⟩
  have P2 := hid (P1.out.keep (bx_call ba b))
  have BB2 := hid (bx_call BB1.out (bx_call ba b))
  have KB2 := hid (KB.out.keep (bx_call ba b))
  have QY := hid qy
  clear P1 BB1 KB qy b ba kn
  go_upto_region 3 with fail
  have ba := bx_alloc (bx_refl W2) (.cells #[.int .i64 1, .int .i64 3] 2)
  have kn := Blk.new W2 [.int .i64 1, .int .i64 3] 2
  go_wp2_with fail
  refine (ints_X _ _ kn).mono ?_
  rintro e W3 ⟨AX, cX, rfl, qx, b⟩
  have A3 := hid (show Aw w V R T pb AY cY AX cX W3 from ⟨bx_call BB2.out (bx_call ba b), P2.out.keep (bx_call ba b), KB2.out.keep (bx_call ba b), QY.out.keep (bx_call ba b), qx⟩)
  clear P2 BB2 KB2 QY qx b ba kn
  obtain ⟨z0, z1⟩ := blk_two A3.out.box
  go_wp2_with fail
  refine (bound_Y QA.out A3.out.pg A3.out.qy).mono ?_
  rintro e W4 ⟨Aa, na, ca, Da, ma, da, rfl, fa, b⟩
  have A4 := hid (A3.out.keep b)
  have FA := hid fa
  clear A3 fa b z0 z1
  go_upto_region 5 with fail
  obtain ⟨W5, ab, hW, hp, b, kk⟩ := mk_cells W4 [.bool (sg qa.num), .slice Aa na ca, .slice Da ma da] 31
  simp only [List.toArray] at hW
  rw [← hW, ← hp]
  have A5 := hid (A4.out.keep b)
  have BA5 := hid (show Bq W5 ab 112000000 qa Aa na ca Da ma da from ⟨kk, FA.out.keep b⟩)
  clear hW hp b kk A4 FA
  obtain ⟨z0, z1⟩ := blk_two A5.out.box
  go_wp2_with fail
  refine (bound_0 QB.out A5.out.pg).mono ?_
  rintro e W6 ⟨Ab, nb, cb, Db, mb, db, rfl, fb, b⟩
  have A6 := hid (A5.out.keep b)
  have BA6 := hid (BA5.out.keep b)
  have FB := hid fb
  clear A5 BA5 fb b z0 z1
  go_upto_region 6 with fail
  obtain ⟨W7, bb, hW, hp, b, kk⟩ := mk_cells W6 [.bool (sg qb.num), .slice Ab nb cb, .slice Db mb db] 31
  simp only [List.toArray] at hW
  rw [← hW, ← hp]
  have A7 := hid (A6.out.keep b)
  have BA7 := hid (BA6.out.keep b)
  have BB7 := hid (show Bq W7 bb 112000000 qb Ab nb cb Db mb db from ⟨kk, FB.out.keep b⟩)
  clear hW hp b kk A6 BA6 FB
  have NN := hid (fun (W : World) (b : Nat) (K : Blk W b [.int .i64 1] 2) => ints_N W b K)
  have BN := hid (fun (W : World) (B : Below W7.heap.size W7 W) (A5 : Option Addr) (c5 : Nat) (q : Qs W A5 1 c5 2 (fun i => (zN i : Rat))) => bound_N (A7.out.pg.keep B) q)
  have nw := hid (show pb < W7.heap.size from A7.out.box.lt)
  have HB := hid (blk_two A7.out.box)
  go_cut [8, 9] (fun sx sy wx => ∃ p : Nat, sx = .pointer (some ⟨p, 0, none⟩) ∧ sy = .bool false ∧ Hid (Below W7.heap.size W7 wx))
  case first =>
     refine wp_region_noPanic ?_
     refine wp_region_held_drew (S := (fun W => W.cell? ⟨pb, 0, none⟩ = some (.slice (some ⟨V, 0, none⟩) 2 2) ∧ W.cell? ⟨pb, 1, none⟩ = some (.slice (some ⟨R, 0, none⟩) 1 1))) (by kernel_rfl) ?_ (fun hH => ?_)
     exact HB.out
     refine tk 0 hH ?_
     (try simp only [Act.put, gy0, gy1, gy2])
     have bd := bx_drew (bx_refl W7)
     obtain ⟨W0, hW0⟩ : ∃ W, W = W7.drew := ⟨_, rfl⟩
     rw [← hW0] at bd hH ⊢
     clear hW0
     have BW_0 := hid bd
     clear bd
     refine wpAnyH_ready (rs := [1, 7]) (by kernel_rfl) (by simp) ?_
     refine rdy (fun K hK => ?_) ?_
     go_simp
     obtain ⟨W1, q, hW, hp, b, kk⟩ := mk_cells W0 [.int .i64 1] 2
     have gq : W7.heap.size ≤ q := by rw [hp]; exact BW_0.out.size
     rw [← hW, ← hp]
     clear hW hp
     have Kq := hid kk
     clear kk
     have BW_1 := hid (bx_call BW_0.out b)
     clear BW_0
     have H2 := (And.intro (cell_bx hH.1 b) (cell_bx hH.2 b))
     clear hH b
     refine hK.out _ _ ?_ (fun hH => ?_)
     exact H2
     clear hK K H2
     (try simp only [Act.put, gy0, gy1, gy2])
     refine wpAnyH_ready (rs := [2, 7]) (by kernel_rfl) (by simp) ?_
     refine rdy (fun K hK => ?_) ?_
     go_simp
     refine (NN.out _ _ Kq.out).mono ?_
     rintro e W2 ⟨A5, c5, rfl, r, b⟩
     have RM := hid r
     clear r
     have Kq_2 := hid (Kq.out.keep b)
     have BW_2 := hid (bx_call BW_1.out b)
     clear Kq BW_1
     have H2 := (And.intro (cell_bx hH.1 b) (cell_bx hH.2 b))
     clear hH b
     (try go_wp2_with fail)
     refine hK.out _ _ ?_ (fun hH => ?_)
     exact H2
     clear hK K H2
     (try simp only [Act.put, gy0, gy1, gy2])
     clear Kq_2
     refine wpAnyH_ready (rs := [3, 7]) (by kernel_rfl) (by simp) ?_
     refine rdy (fun K hK => ?_) ?_
     go_simp
     obtain ⟨vn, BNN⟩ := BN.out _ BW_2.out A5 c5 RM.out
     refine BNN.mono ?_
     rintro e W3 ⟨A6, n6, c6, D6, m6, d6, rfl, r, b⟩
     clear r BNN
     have RM_3 := hid (RM.out.keep b)
     have BW_3 := hid (bx_call BW_2.out b)
     clear RM BW_2
     have H2 := (And.intro (cell_bx hH.1 b) (cell_bx hH.2 b))
     clear hH b
     (try go_wp2_with fail)
     refine hK.out _ _ ?_ (fun hH => ?_)
     exact H2
     clear hK K H2
     (try simp only [Act.put, gy0, gy1, gy2])
     clear RM_3
     refine tk 4 hH ?_
     (try simp only [Act.put, gy0, gy1, gy2])
     refine tk 5 hH ?_
     (try simp only [Act.put, gy0, gy1, gy2])
     refine tk 6 hH ?_
     (try simp only [Act.put, gy0, gy1, gy2])
     refine wpAnyH_ready (rs := [7]) (by kernel_rfl) (by simp) ?_
     refine rdy (fun K hK => ?_) ?_
     go_simp
     obtain ⟨W4, p, hW, hp, b, kk⟩ := mk_cells W3 [.bool false, .slice none 0 0, .slice none 0 0] 31
     have gp : W7.heap.size ≤ p := by rw [hp]; exact BW_3.out.size
     rw [← hW, ← hp]
     clear hW hp
     have Kp := hid kk
     clear kk
     have BW_4 := hid (bx_call BW_3.out b)
     clear BW_3
     have H2 := (And.intro (cell_bx hH.1 b) (cell_bx hH.2 b))
     clear hH b
     refine hK.out _ _ ?_ (fun hH => ?_)
     exact H2
     clear hK K H2
     (try simp only [Act.put, gy0, gy1, gy2])
     obtain ⟨a1, a2, a3⟩ := blk_three Kp.out
     have a4 := Kp.out.free 0
     have a5 := Kp.out.free 1
     have a6 := Kp.out.free 2
     have TM := hid (fun (x y z : Value) => bx_set (bx_set (bx_set BW_4.out gp (i := 0) (u := x)) gp (i := 1) (u := y)) gp (i := 2) (u := z))
     have ne : pb ≠ p := by have := nw.out; omega
     refine wpAnyH_ready (rs := [8]) (by kernel_rfl) (by simp) ?_
     refine rdy (fun K hK => ?_) AllReadyH.nil
     go_simp
     refine hK.out _ _ (And.intro (cell_fr (cell_fr (cell_fr (hH.1) (ne)) (ne)) (ne)) (cell_fr (cell_fr (cell_fr (hH.2) (ne)) (ne)) (ne))) (fun hH2 => ?_)
     clear hK K hH a1 a2 a3 a4 a5 a6 ne
     (try simp only [Act.put, gy0, gy1, gy2])
     refine tk 9 hH2 ?_
     (try simp only [Act.put, gy0, gy1, gy2])
     refine wpAnyH_done (by kernel_rfl) ?_ _
     refine NoPanic.normal ?_
     go_wp2_with fail
     go_meet
     exact ⟨p, rfl, rfl, hid (TM.out _ _ _)⟩
     exact AllReadyH.nil
     refine rdy (fun K hK => ?_) ?_
     go_simp
     obtain ⟨W3, p, hW, hp, b, kk⟩ := mk_cells W2 [.bool false, .slice none 0 0, .slice none 0 0] 31
     have gp : W7.heap.size ≤ p := by rw [hp]; exact BW_2.out.size
     rw [← hW, ← hp]
     clear hW hp
     have Kp := hid kk
     clear kk
     have RM_3 := hid (RM.out.keep b)
     have BW_3 := hid (bx_call BW_2.out b)
     clear RM BW_2
     have H2 := (And.intro (cell_bx hH.1 b) (cell_bx hH.2 b))
     clear hH b
     refine hK.out _ _ ?_ (fun hH => ?_)
     exact H2
     clear hK K H2
     (try simp only [Act.put, gy0, gy1, gy2])
     refine wpAnyH_ready (rs := [3]) (by kernel_rfl) (by simp) ?_
     refine rdy (fun K hK => ?_) ?_
     go_simp
     obtain ⟨vn, BNN⟩ := BN.out _ BW_3.out A5 c5 RM_3.out
     refine BNN.mono ?_
     rintro e W4 ⟨A6, n6, c6, D6, m6, d6, rfl, r, b⟩
     clear r BNN
     have RM_4 := hid (RM_3.out.keep b)
     have Kp_4 := hid (Kp.out.keep b)
     have BW_4 := hid (bx_call BW_3.out b)
     clear RM_3 Kp BW_3
     have H2 := (And.intro (cell_bx hH.1 b) (cell_bx hH.2 b))
     clear hH b
     (try go_wp2_with fail)
     refine hK.out _ _ ?_ (fun hH => ?_)
     exact H2
     clear hK K H2
     (try simp only [Act.put, gy0, gy1, gy2])
     clear RM_4
     refine tk 4 hH ?_
     (try simp only [Act.put, gy0, gy1, gy2])
     refine tk 5 hH ?_
     (try simp only [Act.put, gy0, gy1, gy2])
     refine tk 6 hH ?_
     (try simp only [Act.put, gy0, gy1, gy2])
     obtain ⟨a1, a2, a3⟩ := blk_three Kp_4.out
     have a4 := Kp_4.out.free 0
     have a5 := Kp_4.out.free 1
     have a6 := Kp_4.out.free 2
     have TM := hid (fun (x y z : Value) => bx_set (bx_set (bx_set BW_4.out gp (i := 0) (u := x)) gp (i := 1) (u := y)) gp (i := 2) (u := z))
     have ne : pb ≠ p := by have := nw.out; omega
     refine wpAnyH_ready (rs := [8]) (by kernel_rfl) (by simp) ?_
     refine rdy (fun K hK => ?_) AllReadyH.nil
     go_simp
     refine hK.out _ _ (And.intro (cell_fr (cell_fr (cell_fr (hH.1) (ne)) (ne)) (ne)) (cell_fr (cell_fr (cell_fr (hH.2) (ne)) (ne)) (ne))) (fun hH2 => ?_)
     clear hK K hH a1 a2 a3 a4 a5 a6 ne
     (try simp only [Act.put, gy0, gy1, gy2])
     refine tk 9 hH2 ?_
     (try simp only [Act.put, gy0, gy1, gy2])
     refine wpAnyH_done (by kernel_rfl) ?_ _
     refine NoPanic.normal ?_
     go_wp2_with fail
     go_meet
     exact ⟨p, rfl, rfl, hid (TM.out _ _ _)⟩
     exact AllReadyH.nil
     exact AllReadyH.nil
     refine rdy (fun K hK => ?_) ?_
     go_simp
     obtain ⟨W2, p, hW, hp, b, kk⟩ := mk_cells W1 [.bool false, .slice none 0 0, .slice none 0 0] 31
     have gp : W7.heap.size ≤ p := by rw [hp]; exact BW_1.out.size
     rw [← hW, ← hp]
     clear hW hp
     have Kp := hid kk
     clear kk
     have Kq_2 := hid (Kq.out.keep b)
     have BW_2 := hid (bx_call BW_1.out b)
     clear Kq BW_1
     have H2 := (And.intro (cell_bx hH.1 b) (cell_bx hH.2 b))
     clear hH b
     refine hK.out _ _ ?_ (fun hH => ?_)
     exact H2
     clear hK K H2
     (try simp only [Act.put, gy0, gy1, gy2])
     refine wpAnyH_ready (rs := [2]) (by kernel_rfl) (by simp) ?_
     refine rdy (fun K hK => ?_) ?_
     go_simp
     refine (NN.out _ _ Kq_2.out).mono ?_
     rintro e W3 ⟨A5, c5, rfl, r, b⟩
     have RM := hid r
     clear r
     have Kq_3 := hid (Kq_2.out.keep b)
     have Kp_3 := hid (Kp.out.keep b)
     have BW_3 := hid (bx_call BW_2.out b)
     clear Kq_2 Kp BW_2
     have H2 := (And.intro (cell_bx hH.1 b) (cell_bx hH.2 b))
     clear hH b
     (try go_wp2_with fail)
     refine hK.out _ _ ?_ (fun hH => ?_)
     exact H2
     clear hK K H2
     (try simp only [Act.put, gy0, gy1, gy2])
     clear Kq_3
     refine wpAnyH_ready (rs := [3]) (by kernel_rfl) (by simp) ?_
     refine rdy (fun K hK => ?_) ?_
     go_simp
     obtain ⟨vn, BNN⟩ := BN.out _ BW_3.out A5 c5 RM.out
     refine BNN.mono ?_
     rintro e W4 ⟨A6, n6, c6, D6, m6, d6, rfl, r, b⟩
     clear r BNN
     have Kp_4 := hid (Kp_3.out.keep b)
     have RM_4 := hid (RM.out.keep b)
     have BW_4 := hid (bx_call BW_3.out b)
     clear Kp_3 RM BW_3
     have H2 := (And.intro (cell_bx hH.1 b) (cell_bx hH.2 b))
     clear hH b
     (try go_wp2_with fail)
     refine hK.out _ _ ?_ (fun hH => ?_)
     exact H2
     clear hK K H2
     (try simp only [Act.put, gy0, gy1, gy2])
     clear RM_4
     refine tk 4 hH ?_
     (try simp only [Act.put, gy0, gy1, gy2])
     refine tk 5 hH ?_
     (try simp only [Act.put, gy0, gy1, gy2])
     refine tk 6 hH ?_
     (try simp only [Act.put, gy0, gy1, gy2])
     obtain ⟨a1, a2, a3⟩ := blk_three Kp_4.out
     have a4 := Kp_4.out.free 0
     have a5 := Kp_4.out.free 1
     have a6 := Kp_4.out.free 2
     have TM := hid (fun (x y z : Value) => bx_set (bx_set (bx_set BW_4.out gp (i := 0) (u := x)) gp (i := 1) (u := y)) gp (i := 2) (u := z))
     have ne : pb ≠ p := by have := nw.out; omega
     refine wpAnyH_ready (rs := [8]) (by kernel_rfl) (by simp) ?_
     refine rdy (fun K hK => ?_) AllReadyH.nil
     go_simp
     refine hK.out _ _ (And.intro (cell_fr (cell_fr (cell_fr (hH.1) (ne)) (ne)) (ne)) (cell_fr (cell_fr (cell_fr (hH.2) (ne)) (ne)) (ne))) (fun hH2 => ?_)
     clear hK K hH a1 a2 a3 a4 a5 a6 ne
     (try simp only [Act.put, gy0, gy1, gy2])
     refine tk 9 hH2 ?_
     (try simp only [Act.put, gy0, gy1, gy2])
     refine wpAnyH_done (by kernel_rfl) ?_ _
     refine NoPanic.normal ?_
     go_wp2_with fail
     go_meet
     exact ⟨p, rfl, rfl, hid (TM.out _ _ _)⟩
     exact AllReadyH.nil
     exact AllReadyH.nil
     exact AllReadyH.nil
     refine rdy (fun K hK => ?_) ?_
     go_simp
     obtain ⟨W1, p, hW, hp, b, kk⟩ := mk_cells W0 [.bool false, .slice none 0 0, .slice none 0 0] 31
     have gp : W7.heap.size ≤ p := by rw [hp]; exact BW_0.out.size
     rw [← hW, ← hp]
     clear hW hp
     have Kp := hid kk
     clear kk
     have BW_1 := hid (bx_call BW_0.out b)
     clear BW_0
     have H2 := (And.intro (cell_bx hH.1 b) (cell_bx hH.2 b))
     clear hH b
     refine hK.out _ _ ?_ (fun hH => ?_)
     exact H2
     clear hK K H2
     (try simp only [Act.put, gy0, gy1, gy2])
     refine wpAnyH_ready (rs := [1]) (by kernel_rfl) (by simp) ?_
     refine rdy (fun K hK => ?_) ?_
     go_simp
     obtain ⟨W2, q, hW, hp, b, kk⟩ := mk_cells W1 [.int .i64 1] 2
     have gq : W7.heap.size ≤ q := by rw [hp]; exact BW_1.out.size
     rw [← hW, ← hp]
     clear hW hp
     have Kq := hid kk
     clear kk
     have Kp_2 := hid (Kp.out.keep b)
     have BW_2 := hid (bx_call BW_1.out b)
     clear Kp BW_1
     have H2 := (And.intro (cell_bx hH.1 b) (cell_bx hH.2 b))
     clear hH b
     refine hK.out _ _ ?_ (fun hH => ?_)
     exact H2
     clear hK K H2
     (try simp only [Act.put, gy0, gy1, gy2])
     refine wpAnyH_ready (rs := [2]) (by kernel_rfl) (by simp) ?_
     refine rdy (fun K hK => ?_) ?_
     go_simp
     refine (NN.out _ _ Kq.out).mono ?_
     rintro e W3 ⟨A5, c5, rfl, r, b⟩
     have RM := hid r
     clear r
     have Kp_3 := hid (Kp_2.out.keep b)
     have Kq_3 := hid (Kq.out.keep b)
     have BW_3 := hid (bx_call BW_2.out b)
     clear Kp_2 Kq BW_2
     have H2 := (And.intro (cell_bx hH.1 b) (cell_bx hH.2 b))
     clear hH b
     (try go_wp2_with fail)
     refine hK.out _ _ ?_ (fun hH => ?_)
     exact H2
     clear hK K H2
     (try simp only [Act.put, gy0, gy1, gy2])
     clear Kq_3
     refine wpAnyH_ready (rs := [3]) (by kernel_rfl) (by simp) ?_
     refine rdy (fun K hK => ?_) ?_
     go_simp
     obtain ⟨vn, BNN⟩ := BN.out _ BW_3.out A5 c5 RM.out
     refine BNN.mono ?_
     rintro e W4 ⟨A6, n6, c6, D6, m6, d6, rfl, r, b⟩
     clear r BNN
     have Kp_4 := hid (Kp_3.out.keep b)
     have RM_4 := hid (RM.out.keep b)
     have BW_4 := hid (bx_call BW_3.out b)
     clear Kp_3 RM BW_3
     have H2 := (And.intro (cell_bx hH.1 b) (cell_bx hH.2 b))
     clear hH b
     (try go_wp2_with fail)
     refine hK.out _ _ ?_ (fun hH => ?_)
     exact H2
     clear hK K H2
     (try simp only [Act.put, gy0, gy1, gy2])
     clear RM_4
     refine tk 4 hH ?_
     (try simp only [Act.put, gy0, gy1, gy2])
     refine tk 5 hH ?_
     (try simp only [Act.put, gy0, gy1, gy2])
     refine tk 6 hH ?_
     (try simp only [Act.put, gy0, gy1, gy2])
     obtain ⟨a1, a2, a3⟩ := blk_three Kp_4.out
     have a4 := Kp_4.out.free 0
     have a5 := Kp_4.out.free 1
     have a6 := Kp_4.out.free 2
     have TM := hid (fun (x y z : Value) => bx_set (bx_set (bx_set BW_4.out gp (i := 0) (u := x)) gp (i := 1) (u := y)) gp (i := 2) (u := z))
     have ne : pb ≠ p := by have := nw.out; omega
     refine wpAnyH_ready (rs := [8]) (by kernel_rfl) (by simp) ?_
     refine rdy (fun K hK => ?_) AllReadyH.nil
     go_simp
     refine hK.out _ _ (And.intro (cell_fr (cell_fr (cell_fr (hH.1) (ne)) (ne)) (ne)) (cell_fr (cell_fr (cell_fr (hH.2) (ne)) (ne)) (ne))) (fun hH2 => ?_)
     clear hK K hH a1 a2 a3 a4 a5 a6 ne
     (try simp only [Act.put, gy0, gy1, gy2])
     refine tk 9 hH2 ?_
     (try simp only [Act.put, gy0, gy1, gy2])
     refine wpAnyH_done (by kernel_rfl) ?_ _
     refine NoPanic.normal ?_
     go_wp2_with fail
     go_meet
     exact ⟨p, rfl, rfl, hid (TM.out _ _ _)⟩
     exact AllReadyH.nil
     exact AllReadyH.nil
     exact AllReadyH.nil
     exact AllReadyH.nil
  case rest =>
  obtain ⟨p8, rfl, rfl, hT⟩ := hcut
  obtain ⟨W8, rfl⟩ : ∃ W : World, W = wc := ⟨_, rfl⟩
  have A8 := hid (A7.out.keep hT.out)
  have BA8 := hid (BA7.out.keep hT.out)
  have BB8 := hid (BB7.out.keep hT.out)
  clear hT A7 BA7 BB7 NN BN nw HB
  go_wp2_with fail
  refine (from_E (-7) QA.out W8 (by omega) (by omega)).mono ?_
  rintro e W9 ⟨Av, nv, cv, Dv, mv, dv, rfl, fv, b⟩
  have A9 := hid (A8.out.keep b)
  have BA9 := hid (BA8.out.keep b)
  have BB9 := hid (BB8.out.keep b)
  have FV := hid fv
  clear A8 BA8 BB8 fv b
  go_upto_region 8 with fail
  obtain ⟨W0, ob, hW, hp, b, kk⟩ := mk_cells W9 [.int .i64 0, .bool (sg qa.num), .slice Av nv cv, .slice Dv mv dv, .slice AX 2 cX, .slice AY 1 cY, .slice none 0 0] 34
  simp only [List.toArray] at hW
  rw [← hW, ← hp]
  have S0 := hid (show S8 w V R T pb AY cY AX cX ab qa Aa na ca Da ma da bb qb Ab nb cb Db mb db ob Av nv cv Dv mv dv W0 from ⟨A9.out.keep b, BA9.out.keep b, BB9.out.keep b, kk, FV.out.keep b⟩)
  clear hW hp b kk A9 BA9 BB9 FV
  (try simp only [List.append_eq, List.cons_append, List.nil_append])
  refine wp_region_noPanic ?_
  refine wp_region_held_drew (S := (fun W => (W.cell? ⟨pb, 0, none⟩ = some (.slice (some ⟨V, 0, none⟩) 2 2) ∧ W.cell? ⟨pb, 1, none⟩ = some (.slice (some ⟨R, 0, none⟩) 1 1)) ∧ (W.cell? ⟨ab, 0, none⟩ = some (.bool (sg qa.num)) ∧ W.cell? ⟨ab, 1, none⟩ = some (.slice Aa na ca) ∧ W.cell? ⟨ab, 2, none⟩ = some (.slice Da ma da)) ∧ (W.cell? ⟨bb, 0, none⟩ = some (.bool (sg qb.num)) ∧ W.cell? ⟨bb, 1, none⟩ = some (.slice Ab nb cb) ∧ W.cell? ⟨bb, 2, none⟩ = some (.slice Db mb db)) ∧ (W.cell? ⟨ob, 0, none⟩ = some (.int .i64 0) ∧ W.cell? ⟨ob, 1, none⟩ = some (.bool (sg qa.num)) ∧ W.cell? ⟨ob, 2, none⟩ = some (.slice Av nv cv) ∧ W.cell? ⟨ob, 3, none⟩ = some (.slice Dv mv dv) ∧ W.cell? ⟨ob, 4, none⟩ = some (.slice AX 2 cX) ∧ W.cell? ⟨ob, 5, none⟩ = some (.slice AY 1 cY) ∧ W.cell? ⟨ob, 6, none⟩ = some (.slice none 0 0)))) (by kernel_rfl) ?_ (fun hH => ?_)
  exact (And.intro (blk_two S0.out.aw.box) (And.intro (blk_three S0.out.a.blk) (And.intro (blk_three S0.out.b.blk) (blk_seven S0.out.ko))))
  have bd := bx_drew (bx_refl W0)
  obtain ⟨D0, hW0⟩ : ∃ W, W = W0.drew := ⟨_, rfl⟩
  rw [← hW0] at bd hH ⊢
  clear hW0
  have S1 := hid (S0.out.keep bd)
  clear bd S0
  refine tk 0 hH ?_
  (try simp only [Act.put, gy0, gy1, gy2])
  refine tk 1 hH ?_
  (try simp only [Act.put, gy0, gy1, gy2])
  refine tk 2 hH ?_
  (try simp only [Act.put, gy0, gy1, gy2])
  refine tk 3 hH ?_
  (try simp only [Act.put, gy0, gy1, gy2])
  refine tk 4 hH ?_
  (try simp only [Act.put, gy0, gy1, gy2])
  refine tk 5 hH ?_
  (try simp only [Act.put, gy0, gy1, gy2])
  refine tk 6 hH ?_
  (try simp only [Act.put, gy0, gy1, gy2])
  refine tk 7 hH ?_
  (try simp only [Act.put, gy0, gy1, gy2])
  refine tk 8 hH ?_
  (try simp only [Act.put, gy0, gy1, gy2])
  refine tk 9 hH ?_
  (try simp only [Act.put, gy0, gy1, gy2])
  refine wpAnyH_ready (rs := [10]) (by kernel_rfl) (by simp) ?_
  refine rdy (fun K hK => ?_) AllReadyH.nil
  go_simp
  refine (from_E (-7) QA.out _ (by omega) (by omega)).mono ?_
  rintro e v1 ⟨A1, n1, c1, D1, m1, d1, rfl, r, b⟩
  have S2 := hid (S1.out.keep b)
  have R1 := hid r
  clear r
  clear b hH S1 
  (try go_wp2_with fail)
  refine hK.out _ _ ?_ (fun hH => ?_)
  exact (And.intro (blk_two S2.out.aw.box) (And.intro (blk_three S2.out.a.blk) (And.intro (blk_three S2.out.b.blk) (blk_seven S2.out.ko))))
  clear hK K
  (try simp only [Act.put, gy0, gy1, gy2])
  refine wpAnyH_ready (rs := [11]) (by kernel_rfl) (by simp) ?_
  refine rdy (fun K hK => ?_) AllReadyH.nil
  go_simp
  refine (vsame_refl S2.out.a.fr R1.out).mono ?_
  rintro e v2 ⟨rfl, b⟩
  have S3 := hid (S2.out.keep b)
  clear b hH S2 R1
  (try go_wp2_with fail)
  refine hK.out _ _ ?_ (fun hH => ?_)
  exact (And.intro (blk_two S3.out.aw.box) (And.intro (blk_three S3.out.a.blk) (And.intro (blk_three S3.out.b.blk) (blk_seven S3.out.ko))))
  clear hK K
  (try simp only [Act.put, gy0, gy1, gy2])
  refine tk 12 hH ?_
  (try simp only [Act.put, gy0, gy1, gy2])
  refine tk 13 hH ?_
  (try simp only [Act.put, gy0, gy1, gy2])
  refine tk 14 hH ?_
  (try simp only [Act.put, gy0, gy1, gy2])
  refine wpAnyH_ready (rs := [15]) (by kernel_rfl) (by simp) ?_
  refine rdy (fun K hK => ?_) AllReadyH.nil
  go_simp
  refine (from_E (-9) QB.out _ (by omega) (by omega)).mono ?_
  rintro e v3 ⟨A2, n2, c2, D2, m2, d2, rfl, r, b⟩
  have S4 := hid (S3.out.keep b)
  have R2 := hid r
  clear r
  clear b hH S3 
  (try go_wp2_with fail)
  refine hK.out _ _ ?_ (fun hH => ?_)
  exact (And.intro (blk_two S4.out.aw.box) (And.intro (blk_three S4.out.a.blk) (And.intro (blk_three S4.out.b.blk) (blk_seven S4.out.ko))))
  clear hK K
  (try simp only [Act.put, gy0, gy1, gy2])
  refine wpAnyH_ready (rs := [16]) (by kernel_rfl) (by simp) ?_
  refine rdy (fun K hK => ?_) AllReadyH.nil
  go_simp
  refine (vsame_refl S4.out.b.fr R2.out).mono ?_
  rintro e v4 ⟨rfl, b⟩
  have S5 := hid (S4.out.keep b)
  clear b hH S4 R2
  (try go_wp2_with fail)
  refine hK.out _ _ ?_ (fun hH => ?_)
  exact (And.intro (blk_two S5.out.aw.box) (And.intro (blk_three S5.out.a.blk) (And.intro (blk_three S5.out.b.blk) (blk_seven S5.out.ko))))
  clear hK K
  (try simp only [Act.put, gy0, gy1, gy2])
  refine tk 17 hH ?_
  (try simp only [Act.put, gy0, gy1, gy2])
  refine tk 18 hH ?_
  (try simp only [Act.put, gy0, gy1, gy2])
  refine tk 19 hH ?_
  (try simp only [Act.put, gy0, gy1, gy2])
  refine tk 20 hH ?_
  (try simp only [Act.put, gy0, gy1, gy2])
  refine tk 21 hH ?_
  (try simp only [Act.put, gy0, gy1, gy2])
  refine wpAnyH_ready (rs := [22]) (by kernel_rfl) (by simp) ?_
  refine rdy (fun K hK => ?_) AllReadyH.nil
  go_simp
  refine (opt_E S5.out.aw.pg S5.out.aw.qy S5.out.aw.qx).mono ?_
  rintro e v5 ⟨rfl, b⟩
  have S6 := hid (S5.out.keep b)
  clear b hH S5 
  (try go_wp2_with fail)
  refine hK.out _ _ ?_ (fun hH => ?_)
  exact (And.intro (blk_two S6.out.aw.box) (And.intro (blk_three S6.out.a.blk) (And.intro (blk_three S6.out.b.blk) (blk_seven S6.out.ko))))
  clear hK K
  (try simp only [Act.put, gy0, gy1, gy2])
  refine tk 23 hH ?_
  (try simp only [Act.put, gy0, gy1, gy2])
  refine tk 24 hH ?_
  (try simp only [Act.put, gy0, gy1, gy2])
  refine tk 25 hH ?_
  (try simp only [Act.put, gy0, gy1, gy2])
  refine tk 26 hH ?_
  (try simp only [Act.put, gy0, gy1, gy2])
  refine wpAnyH_ready (rs := [27]) (by kernel_rfl) (by simp) ?_
  refine rdy (fun K hK => ?_) AllReadyH.nil
  go_simp
  refine (check_E S6.out.aw.pg S6.out.aw.qy S6.out.aw.qx qa S6.out.lv 0 C1.out).mono ?_
  rintro e v6 ⟨rfl, b⟩
  have S7 := hid (S6.out.keep b)
  clear b hH S6 
  (try go_wp2_with fail)
  refine hK.out _ _ ?_ (fun hH => ?_)
  exact (And.intro (blk_two S7.out.aw.box) (And.intro (blk_three S7.out.a.blk) (And.intro (blk_three S7.out.b.blk) (blk_seven S7.out.ko))))
  clear hK K
  (try simp only [Act.put, gy0, gy1, gy2])
  refine tk 28 hH ?_
  (try simp only [Act.put, gy0, gy1, gy2])
  refine tk 29 hH ?_
  (try simp only [Act.put, gy0, gy1, gy2])
  refine tk 30 hH ?_
  (try simp only [Act.put, gy0, gy1, gy2])
  refine tk 31 hH ?_
  (try simp only [Act.put, gy0, gy1, gy2])
  refine tk 33 hH ?_
  (try simp only [Act.put, gy0, gy1, gy2])
  refine tk 34 hH ?_
  (try simp only [Act.put, gy0, gy1, gy2])
  refine wpAnyH_ready (rs := [32]) (by kernel_rfl) (by simp) ?_
  refine rdy (fun K hK => ?_) AllReadyH.nil
  go_simp
  refine (from_E (-6) QC.out _ (by omega) (by omega)).mono ?_
  rintro e v7 ⟨A3, n3, c3, D3, m3, d3, rfl, r, b⟩
  have S8 := hid (S7.out.keep b)
  have R3 := hid r
  clear r
  clear b hH S7 
  (try go_wp2_with fail)
  refine hK.out _ _ ?_ (fun hH => ?_)
  exact (And.intro (blk_two S8.out.aw.box) (And.intro (blk_three S8.out.a.blk) (And.intro (blk_three S8.out.b.blk) (blk_seven S8.out.ko))))
  clear hK K
  (try simp only [Act.put, gy0, gy1, gy2])
  refine tk 35 hH ?_
  (try simp only [Act.put, gy0, gy1, gy2])
  refine wpAnyH_ready (rs := [36]) (by kernel_rfl) (by simp) ?_
  refine rdy (fun K hK => ?_) AllReadyH.nil
  go_simp
  refine (check_E S8.out.aw.pg S8.out.aw.qy S8.out.aw.qx qc R3.out 13 C2.out).mono ?_
  rintro e v8 ⟨rfl, b⟩
  have S9 := hid (S8.out.keep b)
  clear b hH S8 R3
  (try go_wp2_with fail)
  refine hK.out _ _ ?_ (fun hH => ?_)
  exact (And.intro (blk_two S9.out.aw.box) (And.intro (blk_three S9.out.a.blk) (And.intro (blk_three S9.out.b.blk) (blk_seven S9.out.ko))))
  clear hK K
  (try simp only [Act.put, gy0, gy1, gy2])
  refine tk 37 hH ?_
  (try simp only [Act.put, gy0, gy1, gy2])
  refine tk 38 hH ?_
  (try simp only [Act.put, gy0, gy1, gy2])
  refine tk 39 hH ?_
  (try simp only [Act.put, gy0, gy1])
  refine wpAnyH_done (by kernel_rfl) ?_ _
  refine NoPanic.normal ?_
  clear hH
  go_wp2_with fail
  go_ret
  exact vld_yes rfl S9.out.aw.bel
end Go.Proofs.YthbogaindaflpaaGreat
