/- BitR: Bit, Ref7, Ref8, Ref9 in one text. -/
import Derived.Test.YtdbccidlnhjfhaaGreatDoorRefA
import Derived.RegionTactic
import Derived.ChangeAlike
namespace Go.Proofs.YtdbccidlnhjfhaaGreatDoor
open Go.RowKit
set_option maxRecDepth 100000
theorem val_at (xs : List Nat) (q : Nat) : ∃ h, val xs = val (xs.take q) + 4294967296 ^ q * (xs.getD q 0 + 4294967296 * h) := by
  rcases Nat.lt_or_ge q xs.length with hq | hq
  · refine ⟨val (xs.drop (q + 1)), ?_⟩
    have h1 := val_append (xs.take q) (xs.drop q)
    rw [List.take_append_drop, List.drop_eq_getElem_cons hq, List.length_take, Nat.min_eq_left (by omega)] at h1
    rw [h1]
    simp [val, List.getD, List.getElem?_eq_getElem hq]
  · refine ⟨0, ?_⟩
    rw [List.take_of_length_le hq]
    simp [List.getD, List.getElem?_eq_none hq]
theorem pow32 (q r : Nat) : (2 : Nat) ^ (32 * q + r) = 4294967296 ^ q * 2 ^ r := by rw [Nat.pow_add, Nat.pow_mul]
theorem digit_bit {xs : List Nat} (hd : Digs xs) (q r : Nat) (hr : r < 32) : xs.getD q 0 / 2 ^ r % 2 = val xs / 2 ^ (32 * q + r) % 2 := by
  obtain ⟨h, hv⟩ := val_at xs q
  have hlt := val_lt (hd.take q)
  have hle : 4294967296 ^ (xs.take q).length ≤ 4294967296 ^ q := Nat.pow_le_pow_right (by omega) (by simp; omega)
  rw [pow32, hv, ← Nat.div_div_eq_div_mul, Nat.add_mul_div_left _ _ (Nat.pow_pos (by omega)), Nat.div_eq_of_lt (show val (xs.take q) < 4294967296 ^ q from Nat.lt_of_lt_of_le hlt hle), Nat.zero_add]
  have e : (4294967296 : Nat) * h = 2 ^ r * (2 ^ (31 - r) * 2 * h) := by
    rw [← Nat.mul_assoc, ← Nat.mul_assoc, ← Nat.pow_add, ← Nat.pow_succ]
    rw [show (r + (31 - r)).succ = 32 by omega]
  rw [e, Nat.add_mul_div_left _ _ (Nat.two_pow_pos r), Nat.mul_assoc, Nat.mul_left_comm, Nat.add_mul_mod_self_left]
theorem digit_free {xs : List Nat} (hd : Digs xs) (q r : Nat) (hr : r < 32) (h0 : val xs % 2 ^ (32 * q + (r + 1)) = 0) : xs.getD q 0 % 2 ^ (r + 1) = 0 := by
  obtain ⟨h, hv⟩ := val_at xs q
  have hlt := val_lt (hd.take q)
  have hle : 4294967296 ^ (xs.take q).length ≤ 4294967296 ^ q := Nat.pow_le_pow_right (by omega) (by simp; omega)
  rw [pow32] at h0
  have h1 : val xs / 4294967296 ^ q % 2 ^ (r + 1) = 0 := by
    have h2 := Nat.mod_mul_right_div_self (val xs) (4294967296 ^ q) (2 ^ (r + 1))
    rw [h0, Nat.zero_div] at h2
    exact h2.symm
  rw [hv, Nat.add_mul_div_left _ _ (Nat.pow_pos (by omega)), Nat.div_eq_of_lt (show val (xs.take q) < 4294967296 ^ q from Nat.lt_of_lt_of_le hlt hle), Nat.zero_add] at h1
  have e : (4294967296 : Nat) * h = 2 ^ (r + 1) * (2 ^ (31 - r) * h) := by
    rw [← Nat.mul_assoc, ← Nat.pow_add]
    rw [show r + 1 + (31 - r) = 32 by omega]
  rw [e, Nat.add_mul_mod_self_left] at h1
  exact h1
theorem or_bit {d r : Nat} (hd : d < 4294967296) (hr : r < 32) (h : d % 2 ^ (r + 1) = 0) : bits .or .u32 (d : Int) ((2 ^ r : Nat) : Int) = ((d + 2 ^ r : Nat) : Int) ∧ d + 2 ^ r < 4294967296 := by
  have h2 : 2 ^ r < 4294967296 := scale_small (by omega)
  have h3 : 2 ^ r < 2 ^ (r + 1) := Nat.pow_lt_pow_right (by omega) (by omega)
  have h4 := nat_join (r + 1) d (2 ^ r) h h3
  refine ⟨by rw [u32_or_nat _ _ hd h2, h4], ?_⟩
  rw [← h4]
  exact Nat.or_lt_two_pow (n := 32) hd h2
theorem and_one (d : Nat) (h : d < 4294967296) : bits .and .u32 (d : Int) 1 = ((d % 2 : Nat) : Int) := by
  have e : (1 : Int) = ((1 : Nat) : Int) := rfl
  rw [e, u32_and_nat d 1 h (by omega), Nat.and_one_is_mod]
set_option maxHeartbeats 400000 in
theorem rbit_any (A : Option Addr) (n c : Nat) (xs : List Nat) (i : Nat) (w : World) (h : Rd w A n c xs) (hn : n ≤ 1099511627776) (hi : i < 32 * n) :
    Calls Tryz.prog 151 #[.slice A n c, .int .i64 i] w fun e w' => e = .returned (.int .u32 (val xs / 2 ^ i % 2 : Nat)) ∧ w = w' := by
  obtain ⟨q, r, hr, rfl⟩ : ∃ q r, r < 32 ∧ i = 32 * q + r := ⟨i / 32, i % 32, Nat.mod_lt _ (by omega), by omega⟩
  obtain ⟨b, o, hA, hcell⟩ := rd_cell h (k := q) (by omega)
  subst hA
  rw [← digit_bit h.2.2.2.1 q r hr]
  have h1 := h.2.1
  have h2 := h.2.2.1
  have hd := h.2.2.2.1.get q
  obtain ⟨x, hx⟩ : ∃ x, x = xs.getD q 0 := ⟨_, rfl⟩
  rw [← hx] at hcell hd ⊢
  have e1 : ((32 * q + r : Nat) : Int) / 32 = (q : Int) := by omega
  have e2 : ((32 * q + r : Nat) : Int) % 32 = (r : Int) := by omega
  obtain ⟨i, hi2⟩ : ∃ i, i = 32 * q + r := ⟨_, rfl⟩
  rw [← hi2] at e1 e2 hi ⊢
  have hxr : x / 2 ^ r < 4294967296 := Nat.lt_of_le_of_lt (Nat.div_le_self _ _) hd
  have ea : bits .and .u32 ((x : Int) / 2 ^ r) 1 = ((x / 2 ^ r % 2 : Nat) : Int) := by
    rw [← and_one (x / 2 ^ r) hxr]
    simp
  clear hx hi2 h
  go_enter Tryz.func151, Tryz.ntmps151
  go_wp2_with fail
  go_ret
  exact ⟨rfl, rfl⟩
def LongBit (X y k q r : Nat) : Prop := q = 2 ^ k * (X / 2 ^ k / y) ∧ r = X / 2 ^ k % y
theorem longBit_start {X y k : Nat} (h : X < 2 ^ k) : LongBit X y k 0 0 := by
  unfold LongBit
  rw [Nat.div_eq_of_lt h]
  simp
theorem longBit_split (X p : Nat) : X / 2 ^ p = 2 * (X / 2 ^ (p + 1)) + X / 2 ^ p % 2 := by
  rw [Nat.pow_succ, ← Nat.div_div_eq_div_mul]
  omega
theorem longBit_less {X y p q r : Nat} (h : LongBit X y (p + 1) q r) (hy : r + r + X / 2 ^ p % 2 < y) : LongBit X y p q (r + r + X / 2 ^ p % 2) := by
  obtain ⟨h1, h2⟩ := h
  have h3 := longBit_split X p
  generalize X / 2 ^ p % 2 = b at *
  have h4 := Nat.div_add_mod (X / 2 ^ (p + 1)) y
  rw [← h2] at h4
  have h5 : X / 2 ^ p = y * (2 * (X / 2 ^ (p + 1) / y)) + (r + r + b) := by
    rw [h3, Nat.mul_left_comm]; omega
  unfold LongBit
  rw [h5, Nat.mul_add_div (by omega), Nat.div_eq_of_lt hy, Nat.mul_add_mod, Nat.mod_eq_of_lt hy, Nat.add_zero]
  refine ⟨?_, rfl⟩
  rw [h1, Nat.pow_succ, Nat.mul_assoc]
theorem longBit_more {X y p q r : Nat} (hy0 : 0 < y) (h : LongBit X y (p + 1) q r) (hy : y ≤ r + r + X / 2 ^ p % 2) : LongBit X y p (q + 2 ^ p) (r + r + X / 2 ^ p % 2 - y) ∧ q % 2 ^ (p + 1) = 0 := by
  obtain ⟨h1, h2⟩ := h
  refine ⟨?_, by rw [h1, Nat.mul_mod_right]⟩
  have h3 := longBit_split X p
  have hb : X / 2 ^ p % 2 < 2 := Nat.mod_lt _ (by omega)
  generalize X / 2 ^ p % 2 = b at *
  have h4 := Nat.div_add_mod (X / 2 ^ (p + 1)) y
  have h6 := Nat.mod_lt (X / 2 ^ (p + 1)) hy0
  rw [← h2] at h4 h6
  have h5 : X / 2 ^ p = y * (2 * (X / 2 ^ (p + 1) / y) + 1) + (r + r + b - y) := by
    rw [h3, Nat.mul_add, Nat.mul_one, Nat.mul_left_comm]; omega
  have hlt : r + r + b - y < y := by omega
  unfold LongBit
  rw [h5, Nat.mul_add_div (by omega), Nat.div_eq_of_lt hlt, Nat.mul_add_mod, Nat.mod_eq_of_lt hlt, Nat.add_zero]
  refine ⟨?_, rfl⟩
  rw [h1, Nat.pow_succ, Nat.mul_assoc, Nat.mul_add, Nat.mul_one]
structure DEnv (w : World) (Qb : Nat) (qs : List Nat) (A : Option Addr) (n c : Nat) (xs : List Nat) (B : Option Addr) (m d y : Nat) (wr : World) : Prop where
  row : Row wr Qb qs
  a : Rd wr A n c xs
  b : Rd wr B m d (dg y)
  below : Below w.heap.size w wr
  old : w.heap.size ≤ Qb
theorem DEnv.keep {w wr w' : World} {Qb : Nat} {qs : List Nat} {A : Option Addr} {n c : Nat} {xs : List Nat} {B : Option Addr} {m d y : Nat} (h : DEnv w Qb qs A n c xs B m d y wr) (hb : Below wr.heap.size wr w') : DEnv w Qb qs A n c xs B m d y w' :=
  ⟨Blk.below h.row hb (Blk.lt h.row), h.a.keep hb, h.b.keep hb, h.below.trans (hb.mono h.below.size), h.old⟩
theorem DEnv.store {w wr : World} {Qb : Nat} {qs : List Nat} {A : Option Addr} {n c : Nat} {xs : List Nat} {B : Option Addr} {m d y : Nat} (h : DEnv w Qb qs A n c xs B m d y wr) (hA : ∀ b o, 0 < n → A = some ⟨b, o, none⟩ → b ≠ Qb) (hB : ∀ b o, 0 < m → B = some ⟨b, o, none⟩ → b ≠ Qb) (i u : Nat) : DEnv w Qb (qs.set i u) A n c xs B m d y (wr.setCell ⟨Qb, i, none⟩ (.int .u32 u)) := by
  refine ⟨h.row.set_ i u, ?_, ?_, h.below.setCell h.old _, h.old⟩
  · obtain ⟨a1, a2, a3, a4, a5⟩ := h.a
    refine ⟨a1, a2, a3, a4, fun hn => ?_⟩
    obtain ⟨b, o, e, hlt, hc⟩ := a5 hn
    exact ⟨b, o, e, by rw [World.size_setCell]; exact hlt, fun j hj => (World.cell?_of_block (Below.heap_setCell wr ⟨Qb, i, none⟩ _ b (hA b o hn e))).trans (hc j hj)⟩
  · obtain ⟨a1, a2, a3, a4, a5⟩ := h.b
    refine ⟨a1, a2, a3, a4, fun hn => ?_⟩
    obtain ⟨b, o, e, hlt, hc⟩ := a5 hn
    exact ⟨b, o, e, by rw [World.size_setCell]; exact hlt, fun j hj => (World.cell?_of_block (Below.heap_setCell wr ⟨Qb, i, none⟩ _ b (hB b o hn e))).trans (hc j hj)⟩
theorem dig_store {wr : World} {v : Value} {xs : List Nat} {Qb i : Nat} (u : Value) (h : Dig wr v xs) (hA : ∀ A n c b o, v = .slice A n c → 0 < n → A = some ⟨b, o, none⟩ → b ≠ Qb) : Dig (wr.setCell ⟨Qb, i, none⟩ u) v xs := by
  obtain ⟨A, n, c, rfl, a1, a2, a3, a4, a5⟩ := h
  refine ⟨A, n, c, rfl, a1, a2, a3, a4, fun hn => ?_⟩
  obtain ⟨b, o, e, hlt, hc⟩ := a5 hn
  exact ⟨b, o, e, by rw [World.size_setCell]; exact hlt, fun j hj => (World.cell?_of_block (Below.heap_setCell wr ⟨Qb, i, none⟩ u b (hA A n c b o rfl hn e))).trans (hc j hj)⟩
def DRel (w : World) (Qb : Nat) (A : Option Addr) (n c : Nat) (xs : List Nat) (B : Option Addr) (m d y k R : Nat) (v : Value) (qs : List Nat) (wr : World) : Prop :=
  DEnv w Qb qs A n c xs B m d y wr ∧ Digs qs ∧ qs.length = n ∧ LongBit (val xs) y k (val qs) R ∧ Dig wr v (dg R) ∧ New (Qb + 1) v
theorem rd_old {w : World} {A : Option Addr} {n c base : Nat} {xs : List Nat} (h : Rd w A n c xs) (hb : w.heap.size ≤ base) : ∀ b o, 0 < n → A = some ⟨b, o, none⟩ → b ≠ base := by
  intro b o hn hA
  obtain ⟨b', o', hA', hlt, _⟩ := h.2.2.2.2 hn
  rw [hA] at hA'
  injection hA' with e
  injection e with e1 _ _
  omega
theorem new_apart {v : Value} {base : Nat} (h : New (base + 1) v) : ∀ A n c b o, v = .slice A n c → 0 < n → A = some ⟨b, o, none⟩ → b ≠ base := by
  intro A n c b o hv _ hA
  subst hv hA
  have : base + 1 ≤ b := h b rfl
  omega
theorem dRel_less {w wr w' : World} {Qb : Nat} {A : Option Addr} {n c : Nat} {xs : List Nat} {B : Option Addr} {m d y p R : Nat} {v u : Value} {qs : List Nat} (h : DRel w Qb A n c xs B m d y (p + 1) R v qs wr) (hb : Below wr.heap.size wr w') (hQ : Qb < wr.heap.size)
    (hu : Dig w' u (dg (R + R + val xs / 2 ^ p % 2))) (hn : New wr.heap.size u) (hlt : R + R + val xs / 2 ^ p % 2 < y) : DRel w Qb A n c xs B m d y p (R + R + val xs / 2 ^ p % 2) u qs w' := by
  obtain ⟨h1, h2, h3, h4, h5, h6⟩ := h
  exact ⟨h1.keep hb, h2, h3, longBit_less h4 hlt, hu, hn.mono (by omega)⟩
theorem dRel_more {w wr w' : World} {Qb : Nat} {A : Option Addr} {n c : Nat} {xs : List Nat} {B : Option Addr} {m d y p R : Nat} {v u : Value} {qs : List Nat} (h : DRel w Qb A n c xs B m d y (p + 1) R v qs wr) (hb : Below wr.heap.size wr w') (hQ : Qb < wr.heap.size) (hy0 : 0 < y) (hp : p < 32 * n)
    (hA : ∀ b o, 0 < n → A = some ⟨b, o, none⟩ → b ≠ Qb) (hB : ∀ b o, 0 < m → B = some ⟨b, o, none⟩ → b ≠ Qb)
    (hu : Dig w' u (dg (R + R + val xs / 2 ^ p % 2 - y))) (hn : New wr.heap.size u) (hge : y ≤ R + R + val xs / 2 ^ p % 2) :
    ∃ x, Row w' Qb qs ∧ qs.length = n ∧ qs.getD (p / 32) 0 = x ∧ x < 4294967296 ∧ bits .or .u32 (x : Int) ((2 ^ (p % 32) : Nat) : Int) = ((x + 2 ^ (p % 32) : Nat) : Int) ∧ x + 2 ^ (p % 32) < 4294967296 ∧
      DRel w Qb A n c xs B m d y p (R + R + val xs / 2 ^ p % 2 - y) u (qs.set (p / 32) (x + 2 ^ (p % 32))) (w'.setCell ⟨Qb, p / 32, none⟩ (.int .u32 (x + 2 ^ (p % 32) : Nat))) := by
  obtain ⟨h1, h2, h3, h4, h5, h6⟩ := h
  obtain ⟨e1, e2⟩ := longBit_more hy0 h4 hge
  have hr : p % 32 < 32 := Nat.mod_lt _ (by omega)
  have hpq : 32 * (p / 32) + (p % 32 + 1) = p + 1 := by omega
  have hf := digit_free h2 (p / 32) (p % 32) hr (by rw [hpq]; exact e2)
  obtain ⟨o1, o2⟩ := or_bit (h2.get (p / 32)) hr hf
  have hl : p / 32 < qs.length := by omega
  have h1' := h1.keep hb
  refine ⟨_, h1'.row, h3, rfl, h2.get _, o1, o2, ⟨?_, digs_set h2 o2, by simp [h3], ?_, ?_, hn.mono (by omega)⟩⟩
  · exact h1'.store hA hB _ _
  · have e := val_set (us := qs) (p := p / 32) (v := qs.getD (p / 32) 0 + 2 ^ (p % 32)) hl
    have e3 : val (qs.set (p / 32) (qs.getD (p / 32) 0 + 2 ^ (p % 32))) = val qs + 2 ^ p := by
      have e4 : 2 ^ p = 4294967296 ^ (p / 32) * 2 ^ (p % 32) := by rw [← pow32]; congr 1; omega
      rw [Nat.mul_add, ← e4] at e
      omega
    rw [e3]
    exact e1
  · exact dig_store _ hu (new_apart (hn.mono (by omega)))
theorem wrap_scale32 {e t : Nat} (ht : t = 2 ^ e) (h : t < 4294967296) : (2 : Int) ^ e % 4294967296 = (t : Int) := by
  have e1 : ((2 : Int) ^ e) = ((2 ^ e : Nat) : Int) := by simp
  rw [e1, ← ht]
  omega
theorem dRel_drew {w wr : World} {Qb : Nat} {A : Option Addr} {n c : Nat} {xs : List Nat} {B : Option Addr} {m d y k R : Nat} {v : Value} {qs : List Nat} (h : DRel w Qb A n c xs B m d y k R v qs wr) : DRel w Qb A n c xs B m d y k R v qs wr.drew :=
  ⟨⟨h.1.row, h.1.a, h.1.b, h.1.below.drew, h.1.old⟩, h.2.1, h.2.2.1, h.2.2.2.1, h.2.2.2.2.1, h.2.2.2.2.2⟩
set_option maxHeartbeats 4000000 in
theorem rdivMod_any (A B : Option Addr) (n c m d : Nat) (xs ys : List Nat) (w : World) (ha : Rd w A n c xs) (hb : Rd w B m d ys) (hn : n ≤ 1099511627776) (hm : m ≤ 1099511627775) :
    Calls Tryz.prog 125 #[.slice A n c, .slice B m d] w (Ret3 w (quoD (val xs) (val ys)) (remD (val xs) (val ys)) (divE (val ys))) := by
  have tb := hid (rtrim_any B m d ys w hb (by omega))
  have lb := dg_len_small hb.2.2.2.1
  rw [hb.1] at lb
  have HA := hid ha
  have h1 := ha.2.1
  have h2 := ha.2.2.1
  obtain ⟨y, hy⟩ : ∃ y, y = val ys := ⟨_, rfl⟩
  rw [← hy] at tb lb ⊢
  have hmk := fun W => run_make_nat n (by omega) W
  clear ha hb hy
  rcases Nat.eq_zero_or_pos y with rfl | hy0
  · unfold quoD remD divE
    rw [if_pos rfl, if_pos rfl, if_pos rfl]
    go_enter Tryz.func125, Tryz.ntmps125
    go_wp2_with fail
    refine (tb.out).mono ?_
    rintro e w1 ⟨v1, rfl, ⟨A1, p, c1, rfl, d1⟩, b1⟩
    obtain rfl : p = 0 := by rw [← d1.1]; rfl
    have B1 := hid b1
    clear d1 b1
    go_wp2_with fail
    go_ret3
    exact ⟨_, _, rfl, Dig.nil _, Dig.nil _, B1.out⟩
  · go_enter Tryz.func125, Tryz.ntmps125
    go_wp2_with fail
    refine (tb.out).mono ?_
    rintro e w1 ⟨v1, rfl, ⟨B1, q, d1, rfl, hd1⟩, b1⟩
    have hq : q = (dg y).length := hd1.1.symm
    have hq0 : 0 < q := by rw [hq]; exact dg_len_pos hy0
    have hqm : q ≤ m := by omega
    have hq00 : ((q : Int) == 0) = false := by rw [beq_eq_false_iff_ne]; omega
    have hqd := hd1.2.1
    have hdm := hd1.2.2.1
    have HAo := hid (rd_old HA.out b1.size)
    have HBo := hid (rd_old hd1 (Nat.le_refl _))
    have R0 := hid (show DRel w w1.heap.size A n c xs B1 q d1 y (32 * n) 0 (.slice (some ⟨w1.heap.size + 1, 0, none⟩) 0 0) (List.replicate n 0) ((w1.alloc (.cells (zrow n) 127)).alloc (.cells #[] 127)) from by
      have hb2 : Below w1.heap.size w1 ((w1.alloc (.cells (zrow n) 127)).alloc (.cells #[] 127)) := ((Below.refl _ _).alloc (Nat.le_refl _) _).alloc (by simp) _
      refine ⟨⟨Blk.alloc (row_new w1 n) _, (HA.out.keep b1).keep hb2, hd1.keep hb2, b1.trans (hb2.mono b1.size), b1.size⟩, Digs.zeros _, by simp, ?_, ⟨_, 0, 0, rfl, rfl, Nat.le_refl _, by omega, Digs.nil, fun h => absurd h (by omega)⟩, fun k hk => by cases hk; exact Nat.le_refl _⟩
      rw [val_zeros]
      refine longBit_start ?_
      have := val_lt HA.out.2.2.2.1
      rw [HA.out.1, base_pow] at this
      exact this)
    have HQ := hid hq
    clear hd1 b1 hq tb
    go_wp2_with fail
    go_loopg [8, 9] (32 * n) (fun k s8 s9 wr => ∃ (R : Nat) (v : Value) (qs : List Nat), k ≤ 32 * n ∧ v = s8 ∧ s9 = .int .i64 ((k : Int) - 1) ∧ Hid (DRel w w1.heap.size A n c xs B1 q d1 y k R v qs wr))
    case atStart => exact ⟨0, _, _, Nat.le_refl _, rfl, by go_num, R0⟩
    case round =>
      clear R0
      obtain ⟨R, v, qs, hk, rfl, rfl, hz⟩ := hrel
      obtain ⟨k, rfl⟩ : ∃ k, k = gk := ⟨_, rfl⟩
      rcases Nat.eq_zero_or_pos k with rfl | hp
      · obtain ⟨⟨e1, e2, e3, e4, e5⟩, z2, z3, z4, z5, z6⟩ := hz.out
        have hrow := e1.rd0 z2 (Nat.le_refl _) (by omega)
        rw [z3] at hrow
        have tq := hid (rtrim_any _ n n qs wr hrow (by omega))
        have V := hid (show val qs = val xs / y ∧ R = val xs % y from ⟨by rw [z4.1]; simp, by rw [z4.2]; simp⟩)
        have Z5 := hid z5
        have E4 := hid e4
        clear e1 e2 e3 e4 e5 z2 z3 z4 z5 z6 hrow
        go_wp2_with fail
        refine (tq.out).mono ?_
        rintro e w3 ⟨u, rfl, u1, u2⟩
        have F := hid (show Ret3 w (quoD (val xs) y) (remD (val xs) y) (divE y) (.returned (.tuple #[u, v, .int .i64 0])) w3 from by
          unfold quoD remD divE
          rw [if_neg (by omega), if_neg (by omega), if_neg (by omega), ← V.out.1, ← V.out.2]
          exact ⟨_, _, rfl, u1, Z5.out.keep u2, E4.out.trans (u2.mono E4.out.size)⟩)
        clear u1 u2
        go_wp2_with fail
        go_ret3
        exact F.out
      · obtain ⟨p, rfl⟩ : ∃ p, k = p + 1 := ⟨k - 1, by omega⟩
        obtain ⟨Av, lv, cv, rfl, hrd⟩ := hz.out.2.2.2.2.1
        have hRy : R < y := by rw [hz.out.2.2.2.1.2]; exact Nat.mod_lt _ hy0
        have hlv : lv ≤ q := by rw [← hrd.1, HQ.out]; exact dg_len_mono (Nat.le_of_lt hRy)
        have ca := hid (radd_new Av Av lv cv lv cv (dg R) (dg R) wr hrd hrd (by omega) (by omega))
        rw [val_dg] at ca
        clear hrd
        go_wp2_with fail
        refine (ca.out).mono ?_
        rintro e w2 ⟨v2, rfl, ⟨A2, l2, c2, rfl, r2⟩, b2, n2⟩
        have hl2 : l2 ≤ q + 1 := by
          rw [← r2.1]
          refine dg_len_le ?_
          have := dg_len_lt y
          rw [← HQ.out] at this
          rw [Nat.pow_succ]
          omega
        have R2 := hid r2
        have B2 := hid b2
        have cb := hid (rbit_any A n c xs p w2 (hz.out.1.keep b2).a (by omega) (by omega))
        obtain ⟨bt, hbt⟩ : ∃ bt, bt = val xs / 2 ^ p % 2 := ⟨_, rfl⟩
        have hbt2 : bt < 2 := by omega
        rw [← hbt] at cb
        have HBT := hid hbt
        clear r2 b2 n2 ca hbt
        go_wp2_with fail
        refine (cb.out).mono ?_
        rintro e w' ⟨rfl, rfl⟩
        clear cb
        have cc := hid (radd_new A2 _ l2 c2 1 1 (dg (R + R)) [bt] _ (R2.out.keep ((Below.refl _ _).alloc (Nat.le_refl _) _)) (one_rd w2 bt (by omega) (bt : Int) rfl) (by omega) (by omega))
        rw [val_dg, show val [bt] = bt from by simp [val]] at cc
        go_wp2_with fail
        refine (cc.out).mono ?_
        rintro e w3 ⟨v3, rfl, ⟨A3, l3, c3, rfl, r3⟩, b3, n3⟩
        have hl3 : l3 ≤ q + 1 := by
          rw [← r3.1]
          refine dg_len_le ?_
          have := dg_len_lt y
          rw [← HQ.out] at this
          rw [Nat.pow_succ]
          omega
        have B3 := hid (show Below wr.heap.size wr w3 from (B2.out.alloc B2.out.size _).trans (b3.mono (by have := B2.out.size; simp; omega)))
        have N3 := hid (show New wr.heap.size (.slice A3 l3 c3) from n3.mono (by have := B2.out.size; simp; omega))
        have R3 := hid r3
        have cm := hid (rcmp_any A3 B1 l3 c3 q d1 (dg (R + R + bt)) (dg y) w3 r3 (hz.out.1.keep B3.out).b (by omega) (by omega))
        rw [val_dg, val_dg] at cm
        clear r3 b3 n3 cc
        rcases Nat.lt_or_ge (R + R + bt) y with hlt | hge
        · have ec := cmpN_lt hlt
          rw [ec] at cm
          clear ec
          go_wp2_with fail
          refine (cm.out).mono ?_
          rintro e w4 ⟨rfl, b4⟩
          have F := hid (dRel_less (u := .slice A3 l3 c3) hz.out (B3.out.trans (b4.mono B3.out.size)) (Blk.lt hz.out.1.row) (by rw [← HBT.out]; exact Dig.keep ⟨_, _, _, rfl, R3.out⟩ b4) N3.out (by rw [← HBT.out]; exact hlt))
          rw [← HBT.out] at F
          clear b4
          go_wp2_with fail
          go_roundg p
          case measure => omega
          case rel => exact ⟨R + R + bt, _, _, by omega, rfl, by go_num, F⟩
        · have ec := cmpN_ge hge
          obtain ⟨z, hzz⟩ : ∃ z, z = cmpN (R + R + bt) y := ⟨_, rfl⟩
          rw [← hzz] at cm ec
          clear hzz
          go_wp2_with fail
          refine (cm.out).mono ?_
          rintro e w4 ⟨rfl, b4⟩
          have B4 := hid (B3.out.trans (b4.mono B3.out.size))
          have cs := rsub_ge A3 B1 l3 c3 q d1 (dg (R + R + bt)) (dg y) w4 (R3.out.keep b4) (hz.out.1.keep B4.out).b (by omega) (by omega) (by rw [val_dg, val_dg]; exact hge)
          rw [val_dg, val_dg] at cs
          have CS := hid cs
          clear b4 cs
          go_wp2_with fail
          refine (CS.out).mono ?_
          rintro e w5 ⟨v5, rfl, r5, b5, n5⟩
          obtain ⟨x, g1, g2, g3, g4, g5, g6, g7⟩ := dRel_more (u := v5) hz.out (B4.out.trans (b5.mono B4.out.size)) (Blk.lt hz.out.1.row) hy0 (by omega) HAo.out HBo.out (by rw [← HBT.out]; exact r5) (n5.mono B4.out.size) (by rw [← HBT.out]; exact hge)
          have G3 := hid g3
          have co := g1.cell (i := p / 32) (by omega)
          rw [g3] at co
          have fo := Blk.free g1 (p / 32)
          have F := hid g7
          rw [← HBT.out] at F
          have hpn : p / 32 < n := by omega
          obtain ⟨t, ht⟩ : ∃ t, t = 2 ^ (p % 32) := ⟨_, rfl⟩
          have hws : (2 : Int) ^ (p % 32) % 4294967296 = (t : Int) := wrap_scale32 ht (by rw [ht]; exact scale_small (by omega))
          rw [← ht] at g5 g6
          obtain ⟨s, hs⟩ : ∃ s, s = x + t := ⟨_, rfl⟩
          rw [← ht, ← hs] at F
          rw [← hs] at g5 g6
          clear r5 b5 n5 g1 g2 g3 g7 CS cm ht hs
          go_wp2_with fail
          go_region
          go_wp2_with fail
          go_roundg p
          case measure => omega
          case rel => exact ⟨R + R + bt - y, _, _, by omega, rfl, by go_num, hid (dRel_drew F.out)⟩
end Go.Proofs.YtdbccidlnhjfhaaGreatDoor
