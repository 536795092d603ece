/- The points in the direction of a ray. -/
import Derived.Test.YtlgdlabhaehdpaaGreatDrf
import Derived.Test.YtlgdlabhaehdpaaGreatAwk6
import Derived.Deep.DeepCutAuto
import Derived.BigQuiet
namespace Go.Proofs.YtlgdlabhaehdpaaGreat
open Go.RowKit

/-- append of one fraction, as one operation. -/
theorem wp_append_rat {w : World} {o : Oper} {a : Act} {K : Act → World → Prop} {Q : Exit → Act → World → Prop} (s x : Operand) (ho : o.op = .call { callee := .builtin .append, args := #[s, x], argTypes := #[26, 26] })
    (base : Nat) (v : Value) (n k : Nat) (qs : Nat → Rat) (hs : a.eval s = v) (hown : QO w base v n k qs) (g0 : Nat) (hx : a.eval x = .slice (some ⟨g0, 0, none⟩) 1 1) {g : Bool} {A : Option Addr} {n' c : Nat} {D : Option Addr} {m d : Nat} {q : Rat} (K0 : Blk w g0 [.bool g, .slice A n' c, .slice D m d] 34) (f : FrV w g A n' c D m d k q) (hn : n ≤ 1000000) (hbase : base ≤ w.heap.size)
    (h : ∀ w' g1 cap, QO w' base (.slice (some ⟨g1, 0, none⟩) (n + 1) cap) (n + 1) k (fun j => if j = n then q else qs j) → w.grownBy w' v.ownBlock → K (a.put o.dst (.slice (some ⟨g1, 0, none⟩) (n + 1) cap)) w') : o.wp Tryz.prog a w K Q := by
  obtain ⟨v', w', hr, h2, h3, g1, cap, rfl⟩ := run_append_rat (ty := o.type) hown K0 f hn hbase
  unfold Oper.wp execOp
  simp only [ho, resolve, invoke, builtin, Sem.run_bind, Sem.run_pure, Result.andThen_ok, List.map_toArray, List.map_cons, List.map_nil, hs, hx, hr]
  exact h w' g1 cap h2 h3

set_option maxRecDepth 100000 in
set_option maxHeartbeats 8000000 in
theorem ray_at (z : Int) (hz : -9223372036854775808 ≤ z ∧ z ≤ 9223372036854775807) (pb : Nat) (V0 : Option Addr) (vn vc : Nat) (R0 : Option Addr) (rn rc : Nat) (xb : Nat) (A : Option Addr) (n c : Nat) (xs : Nat → Rat) (yb : Nat) (B : Option Addr) (m d : Nat) (ys : Nat → Rat) (tx : TypeId) (w : World) (hv : vn ≤ 1000)
    (KP : Blk w pb [.slice V0 vn vc, .slice R0 rn rc] 25) (KX : Blk w xb [.slice A n c] tx) (KY : Blk w yb [.slice B m d] tx) (hX : Qs w A n c 4 xs) (hY : Qs w B m d 4 ys) :
    Calls Tryz.prog 26 #[.int .i64 z, .pointer (some ⟨pb, 0, none⟩), .pointer (some ⟨xb, 0, none⟩), .pointer (some ⟨yb, 0, none⟩)] w (RetQs w vn 17 (fun j : Nat => pt n xs j + (z : Rat) * pt m ys j)) := by
  obtain ⟨q, hq⟩ : ∃ q : Nat → Rat, q = fun j : Nat => pt n xs j + (z : Rat) * pt m ys j := ⟨_, rfl⟩
  rw [← hq]
  have HQ := hid (fun j : Nat => (show q j = pt n xs j + (z : Rat) * pt m ys j by rw [hq]))
  have AT := hid (fun (W : World) (b : Below w.heap.size w W) (j : Nat) => (show Calls Tryz.prog 28 #[.slice A n c, .int .i64 (j : Int)] W (RetV W (pt n xs j) 4) from qat A n c 4 xs (j : Int) W (hX.keep b)))
  have AR := hid (fun (W : World) (b : Below w.heap.size w W) (j : Nat) => (show Calls Tryz.prog 28 #[.slice B m d, .int .i64 (j : Int)] W (RetV W (pt m ys j) 4) from qat B m d 4 ys (j : Int) W (hY.keep b)))
  have FR := hid (fun (W : World) => vrfrom z W hz.1 hz.2)
  have MU := hid (fun (W : World) (q1 q2 : Rat) (A1 : Option Addr) (n1 c1 : Nat) (D1 : Option Addr) (m1 d1 : Nat) (L : FrL W A1 n1 c1 D1 m1 d1 2 q1) (g2 : Bool) (A2 : Option Addr) (n2 c2 : Nat) (D2 : Option Addr) (m2 d2 : Nat) (M : FrV W g2 A2 n2 c2 D2 m2 d2 4 q2) => vrmul (sg q1.num) A1 n1 c1 D1 m1 d1 g2 A2 n2 c2 D2 m2 d2 4 q1 q2 W (L.v.up (by omega)) M (by omega))
  have AD := hid (fun (W : World) (q1 q2 : Rat) (g1 : Bool) (A1 : Option Addr) (n1 c1 : Nat) (D1 : Option Addr) (m1 d1 : Nat) (L : FrV W g1 A1 n1 c1 D1 m1 d1 4 q1) (A2 : Option Addr) (n2 c2 : Nat) (D2 : Option Addr) (m2 d2 : Nat) (M : FrL W A2 n2 c2 D2 m2 d2 8 q2) => vradd g1 A1 n1 c1 D1 m1 d1 (sg q2.num) A2 n2 c2 D2 m2 d2 8 q1 q2 W (L.up (by omega)) M.v (by omega))
  have ST := hid (show PIn w (.slice none 0 0) 0 17 q w from ⟨bx_refl w, .inl ⟨rfl, rfl⟩⟩)
  obtain ⟨z0, z1⟩ := blk_two KP
  have KKX := hid KX
  have KKY := hid KY
  clear KX KY hX hY hz hq KP
  go_enter Tryz.func26, Tryz.ntmps26
  go_wp2_with fail
  clear z0 z1
  go_loopw [6, 11] (fun u i wr => ∃ j : Nat, j ≤ vn ∧ i = .int .i64 j ∧ (∃ A0 c0, u = .slice A0 j c0) ∧ Hid (PIn w u j 17 q wr)) (fun _ i _ => vn - (intOf i).toNat)
  case atStart => exact ⟨0, Nat.zero_le _, rfl, ⟨_, _, rfl⟩, ST⟩
  case round =>
    clear ST
    obtain ⟨j, hj, rfl, ⟨A0, c0, rfl⟩, hz⟩ := hrel
    rcases Nat.lt_or_ge j vn with hlt | hge
    · have P0 := hid hz.out
      have NX := hid (fun (w' : World) (g1 cap : Nat) (W : World) (P : PIn w (.slice A0 j c0) j 17 q W) (qv : Rat) (hqv : qv = q j) (x : QO w' w.heap.size (.slice (some ⟨g1, 0, none⟩) (j + 1) cap) (j + 1) 17 (fun i => if i = j then qv else q i)) (hg : W.grownBy w' (Value.slice A0 j c0).ownBlock) => (show PIn w (.slice (some ⟨g1, 0, none⟩) (j + 1) cap) (j + 1) 17 q w' from P.grow (x.congr fun i hi => by
        show (if i = j then qv else q i) = q i
        by_cases e : i = j
        · rw [if_pos e, hqv, e]
        · rw [if_neg e]) hg))
      have HJ := hid (HQ.out j)
      obtain ⟨xj, hxj⟩ : ∃ z, z = pt n xs j := ⟨_, rfl⟩
      obtain ⟨yj, hyj⟩ : ∃ z, z = pt m ys j := ⟨_, rfl⟩
      obtain ⟨qz, hqz⟩ : ∃ x, x = (z : Rat) := ⟨_, rfl⟩
      have AT1 := hid (fun W b => AT.out W b j)
      have AR1 := hid (fun W b => AR.out W b j)
      have FR1 := hid (fun W => FR.out W)
      rw [← hxj] at AT1 HJ
      rw [← hyj] at AR1 HJ
      rw [← hqz] at FR1 HJ
      have hn9 : j ≤ 1000000 := by omega
      clear hz hxj hyj hqz AT AR FR HQ
      go_upto_region 5 with fail
      (try simp only [List.append_eq, List.cons_append, List.nil_append])
      refine wp_region_noPanic ?_
      refine wp_region_held_drew (S := (fun W => W.cell? ⟨xb, 0, none⟩ = some (.slice A n c) ∧ W.cell? ⟨yb, 0, none⟩ = some (.slice B m d))) (by kernel_rfl) ?_ (fun hH => ?_)
      exact (And.intro (Blk.cell (KKX.out.keep P0.out.bel) 0) (Blk.cell (KKY.out.keep P0.out.bel) 0))
      have bd := bx_drew (bx_refl wr)
      obtain ⟨D0, hW0⟩ : ∃ W, W = wr.drew := ⟨_, rfl⟩
      rw [← hW0] at bd hH ⊢
      clear hW0
      have P1 := hid (P0.out.keep bd)
      clear bd P0
      refine wpAnyH_take (i := 0) (v := ?_) (by simp only [gx0, gx2]; rfl) (by kernel_rfl) (by kernel_rfl) (by kernel_rfl) (fun _ _ _ h => h) (.inl ⟨by rfl, ?_⟩) hH ?_
      rotate_left
      · intro w hSw; (try dsimp only at hSw); first | (go_simp; done) | (go_simp; with_reducible rfl) | (go_simp; decide)
      (try simp only [Act.put, gy0, gy1, gy2])
      refine wpAnyH_take (i := 1) (v := ?_) (by simp only [gx0, gx1, gx2]; rfl) (by kernel_rfl) (by kernel_rfl) (by kernel_rfl) (fun _ _ _ h => h) (.inl ⟨by rfl, ?_⟩) hH ?_
      rotate_left
      · intro w hSw; (try dsimp only at hSw); first | (go_simp; done) | (go_simp; with_reducible rfl) | (go_simp; decide)
      (try simp only [Act.put, gy0, gy1, gy2])
      refine wpAnyH_take (i := 2) (v := ?_) (by simp only [gx0, gx1, gx2]; rfl) (by kernel_rfl) (by kernel_rfl) (by kernel_rfl) (fun _ _ _ h => h) (.inl ⟨by rfl, ?_⟩) hH ?_
      rotate_left
      · intro w hSw; (try dsimp only at hSw); first | (go_simp; done) | (go_simp; with_reducible rfl) | (go_simp; decide)
      (try simp only [Act.put, gy0, gy1, gy2])
      refine wpAnyH_take (i := 4) (v := ?_) (by simp only [gx0, gx1, gx2]; rfl) (by kernel_rfl) (by kernel_rfl) (by kernel_rfl) (fun _ _ _ h => h) (.inl ⟨by rfl, ?_⟩) hH ?_
      rotate_left
      · intro w hSw; (try dsimp only at hSw); first | (go_simp; done) | (go_simp; with_reducible rfl) | (go_simp; decide)
      (try simp only [Act.put, gy0, gy1, gy2])
      refine wpAnyH_take (i := 6) (v := ?_) (by simp only [gx0, gx1, gx2]; rfl) (by kernel_rfl) (by kernel_rfl) (by kernel_rfl) (fun _ _ _ h => h) (.inl ⟨by rfl, ?_⟩) hH ?_
      rotate_left
      · intro w hSw; (try dsimp only at hSw); first | (go_simp; done) | (go_simp; with_reducible rfl) | (go_simp; decide)
      (try simp only [Act.put, gy0, gy1, gy2])
      refine wpAnyH_take (i := 7) (v := ?_) (by simp only [gx0, gx1, gx2]; rfl) (by kernel_rfl) (by kernel_rfl) (by kernel_rfl) (fun _ _ _ h => h) (.inl ⟨by rfl, ?_⟩) hH ?_
      rotate_left
      · intro w hSw; (try dsimp only at hSw); first | (go_simp; done) | (go_simp; with_reducible rfl) | (go_simp; decide)
      (try simp only [Act.put, gy0, gy1, gy2])
      refine wpAnyH_ready (rs := [3]) (by kernel_rfl) (by simp) ?_
      refine AllReadyH.cons (by simp only [gx0, gx1, gx2]; rfl) (fun K hK => ?_) AllReadyH.nil
      go_simp
      refine (AT1.out _ P1.out.bel).mono ?_
      rintro e v2 ⟨g1, A1, n1, c1, D1, m1, d1, rfl, r, b⟩
      have P2 := hid (P1.out.keep b)
      clear b hH P1 
      have RA_2 := hid r
      clear r
      (try go_wp2_with fail)
      refine hK.out _ _ ?_ (fun hH => ?_)
      exact (And.intro (Blk.cell (KKX.out.keep P2.out.bel) 0) (Blk.cell (KKY.out.keep P2.out.bel) 0))
      clear hK K
      (try simp only [Act.put, gy0, gy1, gy2])
      refine wpAnyH_ready (rs := [5]) (by kernel_rfl) (by simp) ?_
      refine AllReadyH.cons (by simp only [gx0, gx1, gx2]; rfl) (fun K hK => ?_) AllReadyH.nil
      go_simp
      refine (FR1.out _).mono ?_
      rintro e v3 ⟨A2, n2, c2, D2, m2, d2, rfl, r, b⟩
      have P3 := hid (P2.out.keep b)
      have RA_3 := hid (RA_2.out.keep b)
      clear b hH P2 RA_2
      have RF_3 := hid r
      clear r
      (try go_wp2_with fail)
      refine hK.out _ _ ?_ (fun hH => ?_)
      exact (And.intro (Blk.cell (KKX.out.keep P3.out.bel) 0) (Blk.cell (KKY.out.keep P3.out.bel) 0))
      clear hK K
      (try simp only [Act.put, gy0, gy1, gy2])
      refine wpAnyH_ready (rs := [8]) (by kernel_rfl) (by simp) ?_
      refine AllReadyH.cons (by simp only [gx0, gx1, gx2]; rfl) (fun K hK => ?_) AllReadyH.nil
      go_simp
      refine (AR1.out _ P3.out.bel).mono ?_
      rintro e v4 ⟨g3, A3, n3, c3, D3, m3, d3, rfl, r, b⟩
      have P4 := hid (P3.out.keep b)
      have RA_4 := hid (RA_3.out.keep b)
      have RF_4 := hid (RF_3.out.keep b)
      clear b hH P3 RA_3 RF_3
      have RY_4 := hid r
      clear r
      (try go_wp2_with fail)
      refine hK.out _ _ ?_ (fun hH => ?_)
      exact (And.intro (Blk.cell (KKX.out.keep P4.out.bel) 0) (Blk.cell (KKY.out.keep P4.out.bel) 0))
      clear hK K
      (try simp only [Act.put, gy0, gy1, gy2])
      refine wpAnyH_ready (rs := [9]) (by kernel_rfl) (by simp) ?_
      refine AllReadyH.cons (by simp only [gx0, gx1, gx2]; rfl) (fun K hK => ?_) AllReadyH.nil
      go_simp
      refine (MU.out _ qz yj A2 n2 c2 D2 m2 d2 RF_4.out g3 A3 n3 c3 D3 m3 d3 RY_4.out).mono ?_
      rintro e v5 ⟨A4, n4, c4, D4, m4, d4, rfl, r, b⟩
      have P5 := hid (P4.out.keep b)
      have RA_5 := hid (RA_4.out.keep b)
      clear b hH P4 RA_4
      have RM_5 := hid r
      clear r RF_4 RY_4
      (try go_wp2_with fail)
      refine hK.out _ _ ?_ (fun hH => ?_)
      exact (And.intro (Blk.cell (KKX.out.keep P5.out.bel) 0) (Blk.cell (KKY.out.keep P5.out.bel) 0))
      clear hK K
      (try simp only [Act.put, gy0, gy1, gy2])
      refine wpAnyH_ready (rs := [10]) (by kernel_rfl) (by simp) ?_
      refine AllReadyH.cons (by simp only [gx0, gx1, gx2]; rfl) (fun K hK => ?_) AllReadyH.nil
      go_simp
      refine (AD.out _ xj (qz * yj) g1 A1 n1 c1 D1 m1 d1 RA_5.out A4 n4 c4 D4 m4 d4 RM_5.out).mono ?_
      rintro e v6 ⟨A5, n5, c5, D5, m5, d5, rfl, r, b⟩
      have P6 := hid (P5.out.keep b)
      clear b hH P5 
      have RS_6 := hid r
      clear r RA_5 RM_5
      (try go_wp2_with fail)
      refine hK.out _ _ ?_ (fun hH => ?_)
      exact (And.intro (Blk.cell (KKX.out.keep P6.out.bel) 0) (Blk.cell (KKY.out.keep P6.out.bel) 0))
      clear hK K
      (try simp only [Act.put, gy0, gy1, gy2])
      refine wpAnyH_ready (rs := [11]) (by kernel_rfl) (by simp) ?_
      refine AllReadyH.cons (by simp only [gx0, gx1, gx2]; rfl) (fun K hK => ?_) AllReadyH.nil
      go_simp
      obtain ⟨v7, nb, hW, hp, b, kk⟩ := mk_cells v6 [.bool (sg (xj + qz * yj).num), .slice A5 n5 c5, .slice D5 m5 d5] 34
      simp only [List.toArray] at hW
      rw [← hW, ← hp]
      clear hW hp
      have P7 := hid (P6.out.keep b)
      have RS_7 := hid (RS_6.out.keep b)
      clear b hH P6 RS_6
      have KN := hid kk
      clear kk
      refine hK.out _ _ ?_ (fun hH => ?_)
      exact (And.intro (Blk.cell (KKX.out.keep P7.out.bel) 0) (Blk.cell (KKY.out.keep P7.out.bel) 0))
      clear hK K
      (try simp only [Act.put, gy0, gy1, gy2])
      refine wpAnyH_ready (rs := [12]) (by kernel_rfl) (by simp) ?_
      refine AllReadyH.cons (by simp only [gx0, gx1, gx2]; rfl) (fun K hK => ?_) AllReadyH.nil
      rw [if_pos (by rfl)]
      refine wp_append_rat (.tmp 14) (.tmp 25) rfl w.heap.size (.slice A0 j c0) j 17 _ rfl P7.out.own nb rfl KN.out RS_7.out.v hn9 P7.out.bel.size ?_
      intro v8 g9 cap x hg
      have P8 := hid (NX.out v8 g9 cap v7 P7.out _ HJ.out.symm x hg)
      clear x hg hH P7 KN RS_7
      (try go_wp2_with fail)
      refine hK.out _ _ ?_ (fun hH => ?_)
      exact (And.intro (Blk.cell (KKX.out.keep P8.out.bel) 0) (Blk.cell (KKY.out.keep P8.out.bel) 0))
      clear hK K
      (try simp only [Act.put, gy0, gy1, gy2])
      refine wpAnyH_take (i := 13) (v := ?_) (by simp only [gx0, gx1, gx2]; rfl) (by kernel_rfl) (by kernel_rfl) (by kernel_rfl) (fun _ _ _ h => h) (.inl ⟨by rfl, ?_⟩) hH ?_
      rotate_left
      · intro w hSw; (try dsimp only at hSw); first | (go_simp; done) | (go_simp; with_reducible rfl) | (go_simp; decide)
      (try simp only [Act.put, gy0, gy1, gy2])
      refine wpAnyH_done (by kernel_rfl) ?_ _
      refine NoPanic.normal ?_
      clear hH
      clear AT1 AR1 FR1 MU AD NX HJ
      go_wp2_with fail
      go_roundw
      case rel => exact ⟨j + 1, by omega, by go_num, ⟨_, _, rfl⟩, P8⟩
      case measure => simp [intOf]; omega
    · obtain rfl : j = vn := by omega
      obtain ⟨A2, c2, e2, q2⟩ := hz.out.own.qs (by omega)
      have YY := hid (show RetQs w j 17 q (.returned (.slice A0 j c0)) wr from ⟨A2, c2, by rw [e2], q2, hz.out.bel⟩)
      clear hz AT AR FR MU AD HQ q2 e2 KKX KKY
      go_wp2_with fail
      go_ret
      exact YY.out

theorem rowV_line {vn tn : Nat} {v cf : Nat → Int} {x r : Nat → Rat} {z : Rat} : rowV vn tn v cf (fun j => x j + z * r j) = rowV vn tn v cf x + z * rowV vn tn v cf r := by
  unfold rowV
  rw [← sumN_mul, ← sumN_add]
  refine sumN_congr fun t _ => ?_
  have : atQ vn (fun j => x j + z * r j) (v t) = atQ vn x (v t) + z * atQ vn r (v t) := by
    unfold atQ
    split
    · rfl
    · grind
  rw [this]
  grind
theorem hold_line {ki bo : Int} {a r z : Rat} (hz : 0 ≤ z) (h1 : holdB ki bo a = true) (h2 : holdB ki 0 r = true) : holdB ki bo (a + z * r) = true := by
  have a1 := @sgnQ_neg' (a - (bo : Rat))
  have a2 := @sgnQ_pos' (a - (bo : Rat))
  have b1 := @sgnQ_neg' (r - ((0 : Int) : Rat))
  have b2 := @sgnQ_pos' (r - ((0 : Int) : Rat))
  have c1 := @sgnQ_neg' (a + z * r - (bo : Rat))
  have c2 := @sgnQ_pos' (a + z * r - (bo : Rat))
  have e0 : ((0 : Int) : Rat) = 0 := rfl
  rw [e0] at b1 b2
  unfold holdB at h1 h2 ⊢
  rw [e0] at h2
  by_cases k0 : ki = 0
  · rw [if_pos k0] at h1 h2 ⊢
    have h1 := of_decide_eq_true h1
    have h2 := of_decide_eq_true h2
    refine decide_eq_true ?_
    have x1 : ¬0 < a - (bo : Rat) := fun h => by have := a2.2 h; omega
    have x2 : ¬0 < r - 0 := fun h => by have := b2.2 h; omega
    have x3 : 0 ≤ z * -r := Rat.mul_nonneg hz (by grind)
    have x4 : ¬0 < a + z * r - (bo : Rat) := by grind
    have : ¬0 < sgnQ (a + z * r - (bo : Rat)) := fun h => x4 (c2.1 h)
    omega
  · rw [if_neg k0] at h1 h2 ⊢
    by_cases k1 : ki = 1
    · rw [if_pos k1] at h1 h2 ⊢
      have h1 := of_decide_eq_true h1
      have h2 := of_decide_eq_true h2
      refine decide_eq_true ?_
      have x1 : ¬a - (bo : Rat) < 0 := fun h => by have := a1.2 h; omega
      have x2 : ¬r - 0 < 0 := fun h => by have := b1.2 h; omega
      have x3 : 0 ≤ z * r := Rat.mul_nonneg hz (by grind)
      have x4 : ¬a + z * r - (bo : Rat) < 0 := by grind
      have : ¬sgnQ (a + z * r - (bo : Rat)) < 0 := fun h => x4 (c1.1 h)
      omega
    · rw [if_neg k1] at h1 h2 ⊢
      have h1 := of_decide_eq_true h1
      have h2 := of_decide_eq_true h2
      refine decide_eq_true ?_
      have x1 : ¬a - (bo : Rat) < 0 := fun h => by have := a1.2 h; omega
      have x1' : ¬0 < a - (bo : Rat) := fun h => by have := a2.2 h; omega
      have x2 : ¬r - 0 < 0 := fun h => by have := b1.2 h; omega
      have x2' : ¬0 < r - 0 := fun h => by have := b2.2 h; omega
      have x3 : r = 0 := by grind
      have x4 : z * r = 0 := by rw [x3]; grind
      have y1 : ¬sgnQ (a + z * r - (bo : Rat)) < 0 := fun h => by have := c1.1 h; grind
      have y2 : ¬0 < sgnQ (a + z * r - (bo : Rat)) := fun h => by have := c2.1 h; grind
      omega
theorem within_line {op : Bool} {lo up : Int} {x r z : Rat} (hz : 0 ≤ z) (h1 : within op lo up x) (h2 : within op 0 0 r) : within op lo up (x + z * r) := by
  have a1 := @sgnQ_neg' (x - (lo : Rat))
  have a2 := @sgnQ_pos' (x - (up : Rat))
  have b1 := @sgnQ_neg' (r - ((0 : Int) : Rat))
  have b2 := @sgnQ_pos' (r - ((0 : Int) : Rat))
  have c1 := @sgnQ_neg' (x + z * r - (lo : Rat))
  have c2 := @sgnQ_pos' (x + z * r - (up : Rat))
  have e0 : ((0 : Int) : Rat) = 0 := rfl
  rw [e0] at b1 b2
  unfold within at h1 h2 ⊢
  rw [e0] at h2
  rw [a1, a2] at h1
  rw [b1, b2] at h2
  rw [c1, c2]
  refine ⟨?_, fun ⟨o, h⟩ => ?_⟩
  · have x3 : 0 ≤ z * r := Rat.mul_nonneg hz (by grind)
    grind
  · have g1 : ¬0 < x - (up : Rat) := fun g => h1.2 ⟨o, g⟩
    have g2 : ¬0 < r - 0 := fun g => h2.2 ⟨o, g⟩
    have x3 : 0 ≤ z * -r := Rat.mul_nonneg hz (by grind)
    grind
/-- A point in the direction of a ray is feasible. -/
theorem PD.line_fea {p : PD} {x r : Nat → Rat} {z : Rat} (hz : 0 ≤ z) (hx : p.feaB x = true) (hr : p.dirB r = true) : p.feaB (fun j => x j + z * r j) = true := by
  have h1 := PD.fea_ins hx
  have h2 := PD.fea_hol hx
  unfold PD.dirB at hr
  have h3 := PD.fea_ins hr
  have h4 := PD.fea_hol hr
  unfold PD.feaB PD.inB insB
  rw [decide_eq_true fun j hj => within_line hz (h1 j hj) (h3 j hj), Bool.true_and]
  refine decide_eq_true fun i hi => ?_
  unfold PD.rowB
  rw [rowV_line]
  exact hold_line hz (h2 i hi) (h4 i hi)
theorem PD.line_cost {p : PD} {x r : Nat → Rat} {z : Rat} : p.costV (fun j => x j + z * r j) = p.costV x + z * p.costV r := by
  unfold PD.costV
  rw [← sumN_mul, ← sumN_add]
  exact sumN_congr fun j _ => by grind
theorem PD.unb_parts {p : PD} {x r : Nat → Rat} (h : p.unbB x r = true) : p.feaB x = true ∧ p.dirB r = true ∧ p.costV r < 0 := by
  unfold PD.unbB at h
  simp only [Bool.and_eq_true] at h
  exact ⟨h.1.2, h.2.1, sgnQ_neg'.1 (of_decide_eq_true h.2.2)⟩
/-- The farther, the cheaper. -/
theorem PD.line_less {p : PD} {x r : Nat → Rat} (k : Int) (hc : p.costV r < 0) : sgnQ (p.costV (fun j => x j + ((k + 1 : Int) : Rat) * r j) - p.costV (fun j => x j + (k : Rat) * r j)) < 0 := by
  rw [sgnQ_neg', PD.line_cost, PD.line_cost]
  have : ((k + 1 : Int) : Rat) = (k : Rat) + 1 := by rw [Rat.intCast_add]; rfl
  rw [this]
  grind
theorem insB_vn {vn : Nat} {lo up : Nat → Int} {op : Nat → Bool} {x y : Nat → Rat} (h : ∀ j, j < vn → x j = y j) : insB vn lo up op x = insB vn lo up op y := insB_congr h
theorem rowV_vn {vn tn : Nat} {v cf : Nat → Int} {x y : Nat → Rat} (h : ∀ j, j < vn → x j = y j) : rowV vn tn v cf x = rowV vn tn v cf y := by
  unfold rowV
  refine sumN_congr fun t _ => ?_
  have : atQ vn x (v t) = atQ vn y (v t) := by
    unfold atQ
    split
    · rename_i g
      exact h _ (by omega)
    · rfl
  rw [this]
/-- Beyond the variables a point does not matter. -/
theorem PD.fea_vn {p : PD} {x y : Nat → Rat} (h : ∀ j, j < p.vn → x j = y j) : p.feaB x = p.feaB y := by
  unfold PD.feaB PD.inB
  rw [insB_vn h]
  congr 1
  refine decide_eq_decide.2 ?_
  have e : ∀ i, p.rowB x i = p.rowB y i := fun i => by unfold PD.rowB; rw [rowV_vn h]
  exact ⟨fun g i hi => (e i).symm.trans (g i hi), fun g i hi => (e i).trans (g i hi)⟩
theorem PD.cost_vn {p : PD} {x y : Nat → Rat} (h : ∀ j, j < p.vn → x j = y j) : p.costV x = p.costV y := by
  unfold PD.costV
  exact sumN_congr fun j hj => by show (p.co j : Rat) * x j = (p.co j : Rat) * y j; rw [h j hj]
theorem pt_all (n : Nat) (f : Nat → Rat) : ∀ j, j < n → pt n f j = f j := fun j hj => by
  unfold pt
  exact atQ_in hj

end Go.Proofs.YtlgdlabhaehdpaaGreat
