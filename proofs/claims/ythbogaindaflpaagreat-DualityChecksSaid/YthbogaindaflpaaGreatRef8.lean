/- Contracts: DivMod of the specification of layer 1. -/
import Derived.Test.YthbogaindaflpaaGreatRef7
namespace Go.Proofs.YthbogaindaflpaaGreat
open Go.RowKit
set_option maxRecDepth 100000
def DRel (w : World) (Qb : Nat) (A : Option Addr) (n c : Nat) (xs : List Nat) (B : Option Addr) (m d y k R : Nat) (v : Value) (qs : List Nat) (wr : World) : Prop :=
  DEnv w Qb qs A n c xs B m d y wr ∧ Digs qs ∧ qs.length = n ∧ LongBit (val xs) y k (val qs) R ∧ Dig wr v (dg R) ∧ New (Qb + 1) v
theorem rd_old {w : World} {A : Option Addr} {n c base : Nat} {xs : List Nat} (h : Rd w A n c xs) (hb : w.heap.size ≤ base) : ∀ b o, 0 < n → A = some ⟨b, o, none⟩ → b ≠ base := by
  intro b o hn hA
  obtain ⟨b', o', hA', hlt, _⟩ := h.2.2.2.2 hn
  rw [hA] at hA'
  injection hA' with e
  injection e with e1 _ _
  omega
theorem new_apart {v : Value} {base : Nat} (h : New (base + 1) v) : ∀ A n c b o, v = .slice A n c → 0 < n → A = some ⟨b, o, none⟩ → b ≠ base := by
  intro A n c b o hv _ hA
  subst hv hA
  have : base + 1 ≤ b := h b rfl
  omega
theorem dRel_less {w wr w' : World} {Qb : Nat} {A : Option Addr} {n c : Nat} {xs : List Nat} {B : Option Addr} {m d y p R : Nat} {v u : Value} {qs : List Nat} (h : DRel w Qb A n c xs B m d y (p + 1) R v qs wr) (hb : Below wr.heap.size wr w') (hQ : Qb < wr.heap.size)
    (hu : Dig w' u (dg (R + R + val xs / 2 ^ p % 2))) (hn : New wr.heap.size u) (hlt : R + R + val xs / 2 ^ p % 2 < y) : DRel w Qb A n c xs B m d y p (R + R + val xs / 2 ^ p % 2) u qs w' := by
  obtain ⟨h1, h2, h3, h4, h5, h6⟩ := h
  exact ⟨h1.keep hb, h2, h3, longBit_less h4 hlt, hu, hn.mono (by omega)⟩
theorem dRel_more {w wr w' : World} {Qb : Nat} {A : Option Addr} {n c : Nat} {xs : List Nat} {B : Option Addr} {m d y p R : Nat} {v u : Value} {qs : List Nat} (h : DRel w Qb A n c xs B m d y (p + 1) R v qs wr) (hb : Below wr.heap.size wr w') (hQ : Qb < wr.heap.size) (hy0 : 0 < y) (hp : p < 32 * n)
    (hA : ∀ b o, 0 < n → A = some ⟨b, o, none⟩ → b ≠ Qb) (hB : ∀ b o, 0 < m → B = some ⟨b, o, none⟩ → b ≠ Qb)
    (hu : Dig w' u (dg (R + R + val xs / 2 ^ p % 2 - y))) (hn : New wr.heap.size u) (hge : y ≤ R + R + val xs / 2 ^ p % 2) :
    ∃ x, Row w' Qb qs ∧ qs.length = n ∧ qs.getD (p / 32) 0 = x ∧ x < 4294967296 ∧ bits .or .u32 (x : Int) ((2 ^ (p % 32) : Nat) : Int) = ((x + 2 ^ (p % 32) : Nat) : Int) ∧ x + 2 ^ (p % 32) < 4294967296 ∧
      DRel w Qb A n c xs B m d y p (R + R + val xs / 2 ^ p % 2 - y) u (qs.set (p / 32) (x + 2 ^ (p % 32))) (w'.setCell ⟨Qb, p / 32, none⟩ (.int .u32 (x + 2 ^ (p % 32) : Nat))) := by
  obtain ⟨h1, h2, h3, h4, h5, h6⟩ := h
  obtain ⟨e1, e2⟩ := longBit_more hy0 h4 hge
  have hr : p % 32 < 32 := Nat.mod_lt _ (by omega)
  have hpq : 32 * (p / 32) + (p % 32 + 1) = p + 1 := by omega
  have hf := digit_free h2 (p / 32) (p % 32) hr (by rw [hpq]; exact e2)
  obtain ⟨o1, o2⟩ := or_bit (h2.get (p / 32)) hr hf
  have hl : p / 32 < qs.length := by omega
  have h1' := h1.keep hb
  refine ⟨_, h1'.row, h3, rfl, h2.get _, o1, o2, ⟨?_, digs_set h2 o2, by simp [h3], ?_, ?_, hn.mono (by omega)⟩⟩
  · exact h1'.store hA hB _ _
  · have e := val_set (us := qs) (p := p / 32) (v := qs.getD (p / 32) 0 + 2 ^ (p % 32)) hl
    have e3 : val (qs.set (p / 32) (qs.getD (p / 32) 0 + 2 ^ (p % 32))) = val qs + 2 ^ p := by
      have e4 : 2 ^ p = 4294967296 ^ (p / 32) * 2 ^ (p % 32) := by rw [← pow32]; congr 1; omega
      rw [Nat.mul_add, ← e4] at e
      omega
    rw [e3]
    exact e1
  · exact dig_store _ hu (new_apart (hn.mono (by omega)))
theorem wrap_scale32 {e t : Nat} (ht : t = 2 ^ e) (h : t < 4294967296) : (2 : Int) ^ e % 4294967296 = (t : Int) := by
  have e1 : ((2 : Int) ^ e) = ((2 ^ e : Nat) : Int) := by simp
  rw [e1, ← ht]
  omega
theorem dRel_drew {w wr : World} {Qb : Nat} {A : Option Addr} {n c : Nat} {xs : List Nat} {B : Option Addr} {m d y k R : Nat} {v : Value} {qs : List Nat} (h : DRel w Qb A n c xs B m d y k R v qs wr) : DRel w Qb A n c xs B m d y k R v qs wr.drew :=
  ⟨⟨h.1.row, h.1.a, h.1.b, h.1.below.drew, h.1.old⟩, h.2.1, h.2.2.1, h.2.2.2.1, h.2.2.2.2.1, h.2.2.2.2.2⟩
set_option maxHeartbeats 4000000 in
theorem rdivMod_any (A B : Option Addr) (n c m d : Nat) (xs ys : List Nat) (w : World) (ha : Rd w A n c xs) (hb : Rd w B m d ys) (hn : n ≤ 1099511627776) (hm : m ≤ 1099511627775) :
    Calls Tryz.prog 86 #[.slice A n c, .slice B m d] w (Ret3 w (quoD (val xs) (val ys)) (remD (val xs) (val ys)) (divE (val ys))) := by
  have tb := hid (rtrim_any B m d ys w hb (by omega))
  have lb := dg_len_small hb.2.2.2.1
  rw [hb.1] at lb
  have HA := hid ha
  have h1 := ha.2.1
  have h2 := ha.2.2.1
  obtain ⟨y, hy⟩ : ∃ y, y = val ys := ⟨_, rfl⟩
  rw [← hy] at tb lb ⊢
  have hmk := fun W => run_make_nat n (by omega) W
  clear ha hb hy
  rcases Nat.eq_zero_or_pos y with rfl | hy0
  · unfold quoD remD divE
    rw [if_pos rfl, if_pos rfl, if_pos rfl]
    go_enter Tryz.func86, Tryz.ntmps86
    go_wp2_with fail
    refine (tb.out).mono ?_
    rintro e w1 ⟨v1, rfl, ⟨A1, p, c1, rfl, d1⟩, b1⟩
    obtain rfl : p = 0 := by rw [← d1.1]; rfl
    have B1 := hid b1
    clear d1 b1
    go_wp2_with fail
    go_ret3
    exact ⟨_, _, rfl, Dig.nil _, Dig.nil _, B1.out⟩
  · go_enter Tryz.func86, Tryz.ntmps86
    go_wp2_with fail
    refine (tb.out).mono ?_
    rintro e w1 ⟨v1, rfl, ⟨B1, q, d1, rfl, hd1⟩, b1⟩
    have hq : q = (dg y).length := hd1.1.symm
    have hq0 : 0 < q := by rw [hq]; exact dg_len_pos hy0
    have hqm : q ≤ m := by omega
    have hq00 : ((q : Int) == 0) = false := by rw [beq_eq_false_iff_ne]; omega
    have hqd := hd1.2.1
    have hdm := hd1.2.2.1
    have HAo := hid (rd_old HA.out b1.size)
    have HBo := hid (rd_old hd1 (Nat.le_refl _))
    have R0 := hid (show DRel w w1.heap.size A n c xs B1 q d1 y (32 * n) 0 (.slice (some ⟨w1.heap.size + 1, 0, none⟩) 0 0) (List.replicate n 0) ((w1.alloc (.cells (zrow n) 108)).alloc (.cells #[] 108)) from by
      have hb2 : Below w1.heap.size w1 ((w1.alloc (.cells (zrow n) 108)).alloc (.cells #[] 108)) := ((Below.refl _ _).alloc (Nat.le_refl _) _).alloc (by simp) _
      refine ⟨⟨Blk.alloc (row_new w1 n) _, (HA.out.keep b1).keep hb2, hd1.keep hb2, b1.trans (hb2.mono b1.size), b1.size⟩, Digs.zeros _, by simp, ?_, ⟨_, 0, 0, rfl, rfl, Nat.le_refl _, by omega, Digs.nil, fun h => absurd h (by omega)⟩, fun k hk => by cases hk; exact Nat.le_refl _⟩
      rw [val_zeros]
      refine longBit_start ?_
      have := val_lt HA.out.2.2.2.1
      rw [HA.out.1, base_pow] at this
      exact this)
    have HQ := hid hq
    clear hd1 b1 hq tb
    go_wp2_with fail
    go_loopg [8, 9] (32 * n) (fun k s8 s9 wr => ∃ (R : Nat) (v : Value) (qs : List Nat), k ≤ 32 * n ∧ v = s8 ∧ s9 = .int .i64 ((k : Int) - 1) ∧ Hid (DRel w w1.heap.size A n c xs B1 q d1 y k R v qs wr))
    case atStart => exact ⟨0, _, _, Nat.le_refl _, rfl, by go_num, R0⟩
    case round =>
      clear R0
      obtain ⟨R, v, qs, hk, rfl, rfl, hz⟩ := hrel
      obtain ⟨k, rfl⟩ : ∃ k, k = gk := ⟨_, rfl⟩
      rcases Nat.eq_zero_or_pos k with rfl | hp
      · obtain ⟨⟨e1, e2, e3, e4, e5⟩, z2, z3, z4, z5, z6⟩ := hz.out
        have hrow := e1.rd0 z2 (Nat.le_refl _) (by omega)
        rw [z3] at hrow
        have tq := hid (rtrim_any _ n n qs wr hrow (by omega))
        have V := hid (show val qs = val xs / y ∧ R = val xs % y from ⟨by rw [z4.1]; simp, by rw [z4.2]; simp⟩)
        have Z5 := hid z5
        have E4 := hid e4
        clear e1 e2 e3 e4 e5 z2 z3 z4 z5 z6 hrow
        go_wp2_with fail
        refine (tq.out).mono ?_
        rintro e w3 ⟨u, rfl, u1, u2⟩
        have F := hid (show Ret3 w (quoD (val xs) y) (remD (val xs) y) (divE y) (.returned (.tuple #[u, v, .int .i64 0])) w3 from by
          unfold quoD remD divE
          rw [if_neg (by omega), if_neg (by omega), if_neg (by omega), ← V.out.1, ← V.out.2]
          exact ⟨_, _, rfl, u1, Z5.out.keep u2, E4.out.trans (u2.mono E4.out.size)⟩)
        clear u1 u2
        go_wp2_with fail
        go_ret3
        exact F.out
      · obtain ⟨p, rfl⟩ : ∃ p, k = p + 1 := ⟨k - 1, by omega⟩
        obtain ⟨Av, lv, cv, rfl, hrd⟩ := hz.out.2.2.2.2.1
        have hRy : R < y := by rw [hz.out.2.2.2.1.2]; exact Nat.mod_lt _ hy0
        have hlv : lv ≤ q := by rw [← hrd.1, HQ.out]; exact dg_len_mono (Nat.le_of_lt hRy)
        have ca := hid (radd_new Av Av lv cv lv cv (dg R) (dg R) wr hrd hrd (by omega) (by omega))
        rw [val_dg] at ca
        clear hrd
        go_wp2_with fail
        refine (ca.out).mono ?_
        rintro e w2 ⟨v2, rfl, ⟨A2, l2, c2, rfl, r2⟩, b2, n2⟩
        have hl2 : l2 ≤ q + 1 := by
          rw [← r2.1]
          refine dg_len_le ?_
          have := dg_len_lt y
          rw [← HQ.out] at this
          rw [Nat.pow_succ]
          omega
        have R2 := hid r2
        have B2 := hid b2
        have cb := hid (rbit_any A n c xs p w2 (hz.out.1.keep b2).a (by omega) (by omega))
        obtain ⟨bt, hbt⟩ : ∃ bt, bt = val xs / 2 ^ p % 2 := ⟨_, rfl⟩
        have hbt2 : bt < 2 := by omega
        rw [← hbt] at cb
        have HBT := hid hbt
        clear r2 b2 n2 ca hbt
        go_wp2_with fail
        refine (cb.out).mono ?_
        rintro e w' ⟨rfl, rfl⟩
        clear cb
        have cc := hid (radd_new A2 _ l2 c2 1 1 (dg (R + R)) [bt] _ (R2.out.keep ((Below.refl _ _).alloc (Nat.le_refl _) _)) (one_rd w2 bt (by omega) (bt : Int) rfl) (by omega) (by omega))
        rw [val_dg, show val [bt] = bt from by simp [val]] at cc
        go_wp2_with fail
        refine (cc.out).mono ?_
        rintro e w3 ⟨v3, rfl, ⟨A3, l3, c3, rfl, r3⟩, b3, n3⟩
        have hl3 : l3 ≤ q + 1 := by
          rw [← r3.1]
          refine dg_len_le ?_
          have := dg_len_lt y
          rw [← HQ.out] at this
          rw [Nat.pow_succ]
          omega
        have B3 := hid (show Below wr.heap.size wr w3 from (B2.out.alloc B2.out.size _).trans (b3.mono (by have := B2.out.size; simp; omega)))
        have N3 := hid (show New wr.heap.size (.slice A3 l3 c3) from n3.mono (by have := B2.out.size; simp; omega))
        have R3 := hid r3
        have cm := hid (rcmp_any A3 B1 l3 c3 q d1 (dg (R + R + bt)) (dg y) w3 r3 (hz.out.1.keep B3.out).b (by omega) (by omega))
        rw [val_dg, val_dg] at cm
        clear r3 b3 n3 cc
        rcases Nat.lt_or_ge (R + R + bt) y with hlt | hge
        · have ec := cmpN_lt hlt
          rw [ec] at cm
          clear ec
          go_wp2_with fail
          refine (cm.out).mono ?_
          rintro e w4 ⟨rfl, b4⟩
          have F := hid (dRel_less (u := .slice A3 l3 c3) hz.out (B3.out.trans (b4.mono B3.out.size)) (Blk.lt hz.out.1.row) (by rw [← HBT.out]; exact Dig.keep ⟨_, _, _, rfl, R3.out⟩ b4) N3.out (by rw [← HBT.out]; exact hlt))
          rw [← HBT.out] at F
          clear b4
          go_wp2_with fail
          go_roundg p
          case measure => omega
          case rel => exact ⟨R + R + bt, _, _, by omega, rfl, by go_num, F⟩
        · have ec := cmpN_ge hge
          obtain ⟨z, hzz⟩ : ∃ z, z = cmpN (R + R + bt) y := ⟨_, rfl⟩
          rw [← hzz] at cm ec
          clear hzz
          go_wp2_with fail
          refine (cm.out).mono ?_
          rintro e w4 ⟨rfl, b4⟩
          have B4 := hid (B3.out.trans (b4.mono B3.out.size))
          have cs := rsub_ge A3 B1 l3 c3 q d1 (dg (R + R + bt)) (dg y) w4 (R3.out.keep b4) (hz.out.1.keep B4.out).b (by omega) (by omega) (by rw [val_dg, val_dg]; exact hge)
          rw [val_dg, val_dg] at cs
          have CS := hid cs
          clear b4 cs
          go_wp2_with fail
          refine (CS.out).mono ?_
          rintro e w5 ⟨v5, rfl, r5, b5, n5⟩
          obtain ⟨x, g1, g2, g3, g4, g5, g6, g7⟩ := dRel_more (u := v5) hz.out (B4.out.trans (b5.mono B4.out.size)) (Blk.lt hz.out.1.row) hy0 (by omega) HAo.out HBo.out (by rw [← HBT.out]; exact r5) (n5.mono B4.out.size) (by rw [← HBT.out]; exact hge)
          have G3 := hid g3
          have co := g1.cell (i := p / 32) (by omega)
          rw [g3] at co
          have fo := Blk.free g1 (p / 32)
          have F := hid g7
          rw [← HBT.out] at F
          have hpn : p / 32 < n := by omega
          obtain ⟨t, ht⟩ : ∃ t, t = 2 ^ (p % 32) := ⟨_, rfl⟩
          have hws : (2 : Int) ^ (p % 32) % 4294967296 = (t : Int) := wrap_scale32 ht (by rw [ht]; exact scale_small (by omega))
          rw [← ht] at g5 g6
          obtain ⟨s, hs⟩ : ∃ s, s = x + t := ⟨_, rfl⟩
          rw [← ht, ← hs] at F
          rw [← hs] at g5 g6
          clear r5 b5 n5 g1 g2 g3 g7 CS cm ht hs
          go_wp2_with fail
          go_region
          go_wp2_with fail
          go_roundg p
          case measure => omega
          case rel => exact ⟨R + R + bt - y, _, _, by omega, rfl, by go_num, hid (dRel_drew F.out)⟩
end Go.Proofs.YthbogaindaflpaaGreat
