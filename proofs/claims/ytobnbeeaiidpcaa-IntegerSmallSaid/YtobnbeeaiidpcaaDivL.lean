/- The contract of divideLong. -/
import Derived.Test.YtobnbeeaiidpcaaLong
namespace Go.Proofs.Ytobnbeeaiidpcaa
open Go.RowKit

/-- The call returns two lists of digits. -/
def RetPair (w : World) (xs ys : List Nat) (e : Ending) (w' : World) : Prop := ∃ v u, e = .returned (.tuple #[v, u]) ∧ Dig w' v xs ∧ Dig w' u ys ∧ Below w.heap.size w w'

theorem wrap_scale {e t : Nat} (ht : t = 2 ^ e) (h : t < 4294967296) : IntKind.u64.wrap ((2 : Int) ^ e) = (t : Int) := by
  have e1 : ((2 : Int) ^ e) = ((2 ^ e : Nat) : Int) := by simp
  rw [e1, ← ht]
  simp only [IntKind.wrap, IntKind.bits, IntKind.signed]
  simp
  omega
theorem xs_fits {x n t : Nat} (hx : x < 4294967296 ^ n) (ht : t < 4294967296) : x * t < 4294967296 ^ (n + 1) := by
  rw [Nat.pow_succ]
  exact Nat.mul_lt_mul'' hx ht

/-- What stands when the three rows have been made. -/
def LongStart (w : World) (R Q n m : Nat) (t x y : Nat) (us vs : List Nat) (W : World) : Prop :=
  Digs us ∧ us.length = n + 1 ∧ val us = x * t ∧ Digs vs ∧ vs.length = m ∧ val vs = y * t ∧ w.heap.size < R ∧ R < Q ∧ 0 < vs.getD (m - 1) 0 ∧ LongRel w w.heap.size R Q n m us vs (n - m + 1) W
theorem long_start {w w1 w2 : World} {n m t x y : Nat} {us vs : List Nat} (hm : 0 < m) (hmn : m ≤ n) (ht : 0 < t) (hx : x < 4294967296 ^ n) (hy : 4294967296 ^ (m - 1) ≤ y)
    (z1 : Row w1 w.heap.size vs) (z2 : Digs vs) (z3 : vs.length = m) (z4 : val vs = y * t) (z5 : Below w.heap.size w w1) (z6 : w.heap.size < w1.heap.size)
    (u1 : Row w2 w1.heap.size us) (u2 : Digs us) (u3 : us.length = n + 1) (u4 : val us = x * t) (u5 : Below w1.heap.size w1 w2) (u6 : w1.heap.size < w2.heap.size) :
    LongStart w w1.heap.size w2.heap.size n m t x y us vs (w2.alloc (.cells (zrow (n - m + 1)) 79)) := by
  have hyt : 4294967296 ^ (m - 1) ≤ y * t := Nat.le_trans hy (Nat.le_mul_of_pos_right y ht)
  refine ⟨u2, u3, u4, z2, z3, z4, z6, u6, top_pos z2 (by omega) (by rw [z4]; exact hyt), ?_⟩
  have hb3 : Below w.heap.size w (w2.alloc (.cells (zrow (n - m + 1)) 79)) := (z5.trans (u5.mono (by omega))).alloc (by have := u5.size; omega) _
  refine ⟨us, List.replicate (n - m + 1) 0, Blk.alloc (Blk.below z1 u5 z6) _, Blk.alloc u1 _, row_new _ _, u2, Digs.zeros _, u3, by simp, fun _ _ => rfl, ?_, ?_, hb3⟩
  · rw [Nat.sub_self]
    have : seg (List.replicate (n - m + 1) 0) (n - m + 1) 0 = [] := by simp [seg]
    rw [this]
    simp [val]
  · have h1 := val_append (us.take (n - m + 1)) (us.drop (n - m + 1))
    rw [List.take_append_drop, List.length_take, Nat.min_eq_left (by omega)] at h1
    have h2 : seg us (n - m + 1) (n + 1 - (n - m + 1)) = us.drop (n - m + 1) := by
      unfold seg
      rw [List.take_of_length_le (by simp; omega)]
    rw [h2]
    have h3 : 4294967296 ^ (n - m + 1) * val (us.drop (n - m + 1)) < 4294967296 ^ (n - m + 1) * val vs := by
      refine Nat.lt_of_le_of_lt (m := x * t) (by omega) ?_
      have h4 : 4294967296 ^ n * t ≤ 4294967296 ^ (n - m + 1) * val vs := by
        rw [z4, ← Nat.mul_assoc]
        refine Nat.mul_le_mul_right _ ?_
        have : 4294967296 ^ n = 4294967296 ^ (n - m + 1) * 4294967296 ^ (m - 1) := by rw [← Nat.pow_add]; congr 1; omega
        rw [this]
        exact Nat.mul_le_mul_left _ hy
      exact Nat.lt_of_lt_of_le (Nat.mul_lt_mul_of_pos_right hx ht) h4
    exact Nat.lt_of_mul_lt_mul_left h3
theorem scale_back {X Y t Q r : Nat} (ht : 0 < t) (h : X * t = Q * (Y * t) + r) (hr : r < Y * t) : Q = X / Y ∧ r / t = X % Y := by
  have hY : 0 < Y := by
    rcases Nat.eq_zero_or_pos Y with h0 | h0
    · rw [h0] at hr; omega
    · exact h0
  have h1 : X * t / (Y * t) = Q := by
    rw [h, Nat.mul_comm Q, Nat.mul_add_div (by omega), Nat.div_eq_of_lt hr, Nat.add_zero]
  have h2 : X * t % (Y * t) = r := by
    rw [h, Nat.mul_comm Q, Nat.mul_add_mod, Nat.mod_eq_of_lt hr]
  rw [Nat.mul_div_mul_right _ _ ht] at h1
  rw [Nat.mul_mod_mul_right] at h2
  exact ⟨h1.symm, by rw [← h2, Nat.mul_div_cancel _ ht]⟩
/-- What is left when all places are done. -/
theorem long_done {w wr : World} {R Q n m t x y : Nat} {us vs : List Nat} (ht : 0 < t) (hu : us.length = n + 1) (hux : val us = x * t) (hvy : val vs = y * t) (_hmn : m ≤ n) (h : LongRel w w.heap.size R Q n m us vs 0 wr) :
    ∃ rs qs, Row wr R rs ∧ Row wr Q qs ∧ Digs rs ∧ Digs qs ∧ rs.length = n + 1 ∧ qs.length = n - m + 1 ∧ val qs = x / y ∧ val rs / t = x % y ∧ Below w.heap.size w wr := by
  obtain ⟨rs, qs, _, z2, z3, z4, z5, z6, z7, _, z9, z10, z11⟩ := h
  have e1 : seg us 0 (n + 1 - 0) = us := by unfold seg; rw [List.drop_zero, List.take_of_length_le (by omega)]
  have e2 : seg rs 0 (n + 1 - 0) = rs := by unfold seg; rw [List.drop_zero, List.take_of_length_le (by omega)]
  have e3 : seg qs 0 (n - m + 1 - 0) = qs := by unfold seg; rw [List.drop_zero, List.take_of_length_le (by omega)]
  rw [e1, e2, e3, hux, hvy] at z9
  rw [e2, hvy] at z10
  obtain ⟨a, b⟩ := scale_back ht z9 z10
  exact ⟨rs, qs, z2, z3, z4, z5, z6, z7, a, b, z11⟩

theorem long_end {w wr w3 : World} {R Q n m t r x y : Nat} {rs qs : List Nat} (h : DivRel wr R (n + 1) t rs 0 r w3) (hY : Row wr Q qs ∧ Digs qs ∧ qs.length = n - m + 1 ∧ rs.length = n + 1 ∧ val qs = x / y ∧ val rs / t = x % y ∧ Below w.heap.size w wr) (hR : w.heap.size < R) (hRQ : R < Q) :
    ∃ zs, Row w3 R zs ∧ Digs zs ∧ zs.length = n + 1 ∧ val zs = x % y ∧ Row w3 Q qs ∧ Below w.heap.size w w3 ∧ True := by
  obtain ⟨zs, z1, z2, z3, _, z5, z6, z7⟩ := h
  obtain ⟨y1, y2, y3, y4, y5, y6, y7⟩ := hY
  have e1 : seg rs 0 (n + 1 - 0) = rs := by unfold seg; rw [List.drop_zero, List.take_of_length_le (by omega)]
  have e2 : seg zs 0 (n + 1 - 0) = zs := by unfold seg; rw [List.drop_zero, List.take_of_length_le (by omega)]
  rw [e1, e2] at z5
  refine ⟨zs, z1, z3, by omega, ?_, Blk.upd y1 z7 (by omega), y7.trans (z7.below y7.size (fun k hk => by omega)), trivial⟩
  rw [← y6, z5, Nat.mul_comm, Nat.mul_add_div (by omega), Nat.div_eq_of_lt z6, Nat.add_zero]
theorem pair_rows {w w' : World} {Q R : Nat} {qs zs : List Nat} (h1 : Row w' Q qs) (h2 : Digs qs) (h3 : qs.length ≤ 9223372036854775807) (h4 : Row w' R zs) (h5 : Digs zs) (h6 : zs.length ≤ 9223372036854775807) (hb : Below w.heap.size w w') :
    RetPair w (dg (val qs)) (dg (val zs)) (.returned (.tuple #[.slice (some ⟨Q, 0, none⟩) (dg (val qs)).length (dg (val qs)).length, .slice (some ⟨R, 0, none⟩) (dg (val zs)).length (dg (val zs)).length])) w' :=
  ⟨_, _, rfl, ⟨_, _, _, rfl, (h1.rd0 h2 (Nat.le_refl _) h3).trim⟩, ⟨_, _, _, rfl, (h4.rd0 h5 (Nat.le_refl _) h6).trim⟩, hb⟩

set_option maxRecDepth 100000 in
set_option maxHeartbeats 1000000 in
theorem divLong_any (A B : Option Addr) (n c m d : Nat) (xs ys : List Nat) (w : World) (ha : Rd w A n c xs) (hb : Rd w B m d ys) (hn : n ≤ 1099511627776) (hm : 0 < m) (hmn : m ≤ n) (hy : 4294967296 ^ (m - 1) ≤ val ys) :
    Calls Try.prog 139 #[.slice A n c, .slice B m d] w (RetPair w (dg (val xs / val ys)) (dg (val xs % val ys))) := by
  have hx2 := val_lt ha.2.2.2.1
  have hy2 := val_lt hb.2.2.2.1
  rw [ha.1] at hx2
  rw [hb.1] at hy2
  obtain ⟨f1, f2, f3⟩ := scale_fits hy hy2 hm
  have f4 := scale_small f2
  have cb := hid (bits_any B m d ys w hb (by omega))
  obtain ⟨t, ht⟩ : ∃ t, t = 2 ^ (32 * m - bitN (val ys)) := ⟨_, rfl⟩
  obtain ⟨bn, hbn⟩ : ∃ b, b = bitN (val ys) := ⟨_, rfl⟩
  rw [← hbn] at f1 f2 f3 f4 cb ht
  rw [← ht] at f3 f4
  have mk1 := fun W => run_make_nat m (by omega) W
  have mk2 : ∀ W, (Instr.makeSlice 23 (.int .i64 ((n : Int) + 1)) (.int .i64 ((n : Int) + 1))).run Try.prog W = .ok (.slice (some ⟨W.heap.size, 0, none⟩) (n + 1) (n + 1)) (W.alloc (.cells (zrow (n + 1)) 79)) := fun W => run_make_nat (n + 1) (by omega) W
  have ec : ((n - m + 1 : Nat) : Int) = (n : Int) - (m : Int) + 1 := by omega
  have mk3 : ∀ W, (Instr.makeSlice 23 (.int .i64 ((n : Int) - (m : Int) + 1)) (.int .i64 ((n : Int) - (m : Int) + 1))).run Try.prog W = .ok (.slice (some ⟨W.heap.size, 0, none⟩) (n - m + 1) (n - m + 1)) (W.alloc (.cells (zrow (n - m + 1)) 79)) := fun W => by rw [← ec]; exact run_make_nat (n - m + 1) (by omega) W
  have c1 := hid (times_row (W := w) hb f4 (Nat.le_refl m) (by omega) f3)
  have c2 := hid (fun (w1 : World) (h : Below w.heap.size w w1) => times_row (W := w1) (k := n + 1) (ha.keep h) f4 (by omega) (by omega) (xs_fits hx2 f4))
  have ws := wrap_scale ht f4
  have htp : 0 < t := by rw [ht]; exact Nat.two_pow_pos _
  have ls := hid (fun (w1 w2 : World) (us vs : List Nat) => long_start (w := w) (w1 := w1) (w2 := w2) (us := us) (vs := vs) hm hmn htp hx2 hy)
  have h1 := ha.2.1
  have h2 := ha.2.2.1
  have h3 := hb.2.1
  have h4 := hb.2.2.1
  clear ha hb hy hx2 hy2 f3 ht hbn ec
  go_enter Try.func139, Try.ntmps139
  go_wp2_with fail
  refine (cb.out).mono ?_
  rintro e w' ⟨rfl, rfl⟩
  go_wp2_with fail
  refine (c1.out).mono ?_
  rintro e w1 ⟨⟨s1, rfl⟩, hz⟩
  have HZ := hid hz
  clear hz
  go_wp2_with fail
  have c2' := hid (c2.out w1 (by obtain ⟨_, _, _, _, _, h, _⟩ := HZ.out; exact h))
  refine (c2'.out).mono ?_
  rintro e w2 ⟨⟨s2, rfl⟩, hz⟩
  have HY := hid hz
  clear hz
  go_wp2_with fail
  obtain ⟨vs, us, hs⟩ : ∃ vs us, Hid (LongStart w w1.heap.size w2.heap.size n m t (val xs) (val ys) us vs (w2.alloc (.cells (zrow (n - m + 1)) 79))) := by
    obtain ⟨vs, z1, z2, z3, z4, z5, z6⟩ := HZ.out
    obtain ⟨us, u1, u2, u3, u4, u5, u6⟩ := HY.out
    exact ⟨vs, us, hid (ls.out w1 w2 us vs z1 z2 z3 z4 z5 z6 u1 u2 u3 u4 u5 u6)⟩
  clear HZ HY c1 c2 c2' ls cb
  go_loopw [10] (fun i wr => ∃ k : Nat, k ≤ n - m + 1 ∧ i = .int .i64 ((k : Int) - 1) ∧ Hid (LongRel w w.heap.size w1.heap.size w2.heap.size n m us vs k wr)) (fun i _ => (intOf i + 1).toNat)
  case atStart => exact ⟨n - m + 1, Nat.le_refl _, by go_num, hid hs.out.2.2.2.2.2.2.2.2.2⟩
  case round =>
    obtain ⟨k, hk, rfl, hz⟩ := hrel
    obtain ⟨g1, g2, g3, g4, g5, g6, g7, g8, g9, _⟩ := hs.out
    have G2 := hid g2
    have G5 := hid g5
    rcases Nat.eq_zero_or_pos k with rfl | hp
    · obtain ⟨rs, qs, y1, y2, y3, y4, y5, y6, y7, y8, y9⟩ := long_done htp g2 g3 g6 hmn hz.out
      have dd := hid (divDigit_any w1.heap.size (n + 1) (n + 1) t rs wr y1 y3 (by omega) (Nat.le_refl _) (by omega) htp f4)
      have Y := hid (show Row wr w2.heap.size qs ∧ Digs qs ∧ qs.length = n - m + 1 ∧ rs.length = n + 1 ∧ val qs = val xs / val ys ∧ val rs / t = val xs % val ys ∧ Below w.heap.size w wr from ⟨y2, y4, y6, y5, y7, y8, y9⟩)
      clear y1 y2 y3 y4 y5 y6 y7 y8 y9 g1 g2 g3 g4 g5 g6 g9
      go_wp2_with fail
      refine (dd.out).mono ?_
      rintro e w3 ⟨r, rfl, hr⟩
      have HR := hid (long_end hr Y.out g7 g8)
      clear hr dd
      go_wp2_with fail
      obtain ⟨zs, v1, v2, v3, v4, v5, v6, v7⟩ := HR.out
      have T1 := hid (trim_row v5 Y.out.2.1 Y.out.2.2.1 (by omega))
      have T2 := hid (trim_row v1 v2 v3 (by omega))
      have R := hid (pair_rows v5 Y.out.2.1 (by have := Y.out.2.2.1; omega) v1 v2 (by omega) v6)
      rw [v4] at T2 R
      rw [Y.out.2.2.2.2.1] at T1 R
      clear v1 v2 v3 v4 v5 v6 v7
      refine (T1.out).mono ?_
      rintro e w' ⟨rfl, rfl⟩
      go_wp2_with fail
      refine (T2.out).mono ?_
      rintro e w' ⟨rfl, rfl⟩
      go_wp2_with fail
      go_ret2
      exact R.out
    · obtain ⟨q, rfl⟩ : ∃ q, k = q + 1 := ⟨k - 1, by omega⟩
      have stp := hid (fun (oc : Nat) (a : m + 1 ≤ oc) (b : oc ≤ 9223372036854775807) => long_step hz.out (Nat.le_refl _) g7 g8 g2 g5 g4 hm hmn (by omega) a b g9)
      clear g1 g2 g3 g4 g5 g6 g9
      go_wp2_with fail
      rw [show q + m + 1 - q = m + 1 by omega]
      refine (stp.out _ (by omega) (by omega)).mono ?_
      rintro e w3 ⟨dgt, rfl, ⟨x, hcell⟩, hfree, hl⟩
      go_wp2_with fail
      go_roundw
      case rel => exact ⟨q, by omega, by go_num, hl⟩
      case measure => simp [intOf]

end Go.Proofs.Ytobnbeeaiidpcaa
