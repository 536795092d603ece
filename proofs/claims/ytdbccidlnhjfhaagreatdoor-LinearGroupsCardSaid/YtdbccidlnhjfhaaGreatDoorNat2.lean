/- Contracts: Valid, Uint, From, Bits of package natural. -/
import Derived.Test.YtdbccidlnhjfhaaGreatDoorNat1
import Derived.Laws.BitsAllLaws
namespace Go.Proofs.YtdbccidlnhjfhaaGreatDoor
open Go.RowKit
theorem val_two {ds : List Nat} {v : Nat} (h : val ds = v) (hl : ds.length ≤ 2) : v = ds.getD 0 0 + 4294967296 * ds.getD 1 0 := by
  match ds, hl with
  | [], _ => rw [← h]; rfl
  | [a], _ => simp [val] at h; simp; omega
  | [a, b], _ => simp [val] at h; simp; omega
theorem or_join (x1 x0 : Nat) (d1 : x1 < 4294967296) (d0 : x0 < 4294967296) : bits .or .u64 ((x1 : Int) * 4294967296) (x0 : Int) = ((x0 + 4294967296 * x1 : Nat) : Int) := by
  have e : ((x1 : Int) * 4294967296) = ((x1 * 4294967296 : Nat) : Int) := by omega
  rw [e, u64_or_nat _ _ (by omega) (by omega), nat_join 32 _ _ (by omega) (by omega)]
  congr 1
  omega
theorem ret_uint {a b : Int} {x : Value} (h : a = b) : Ending.returned (.tuple #[.int .u64 a, x]) = .returned (.tuple #[.int .u64 b, x]) := by rw [h]
set_option maxHeartbeats 400000 in
theorem uint_small (A : Option Addr) (n c : Nat) (xs : List Nat) (w : World) (h : Rd w A n c xs) (hs : (dg (val xs)).length ≤ 2) :
    Calls Tryz.prog 185 #[.slice A n c] w fun e w' => e = .returned (.tuple #[.int .u64 (val xs), .bool true]) ∧ w = w' := by
  have ct := hid (trim_any A n c xs w h)
  have ht := h.trim
  have c1 := hid (digit_any A _ _ _ 1 w ht)
  have c0 := hid (digit_any A _ _ _ 0 w ht)
  have d1 := ht.2.2.2.1.get 1
  have d0 := ht.2.2.2.1.get 0
  obtain ⟨x1, hx1⟩ : ∃ x, x = (dg (val xs)).getD 1 0 := ⟨_, rfl⟩
  obtain ⟨x0, hx0⟩ : ∃ x, x = (dg (val xs)).getD 0 0 := ⟨_, rfl⟩
  rw [← hx1] at c1 d1
  rw [← hx0] at c0 d0
  have hv : Hid (val xs = x0 + 4294967296 * x1) := by
    rw [hx0, hx1]
    exact val_two (val_dg (val xs)) hs
  obtain ⟨L, hL⟩ : ∃ L, L = (dg (val xs)).length := ⟨_, rfl⟩
  rw [← hL] at ct c1 c0 hs
  clear hx1 hx0 ht hL h
  go_enter Tryz.func185, Tryz.ntmps185
  go_wp2_with fail
  refine (ct.out).mono ?_
  rintro e w' ⟨rfl, rfl⟩
  go_wp2_with fail
  refine (c1.out).mono ?_
  rintro e w' ⟨rfl, rfl⟩
  go_wp2_with fail
  refine (c0.out).mono ?_
  rintro e w' ⟨rfl, rfl⟩
  go_wp2_with fail
  go_ret2
  exact ⟨ret_uint (by rw [or_join _ _ d1 d0, hv.out]), rfl⟩
theorem from_row0 (n : Nat) (w : World) : Row (w.alloc (.cells #[.int .u32 ((n : Int) % 4294967296), .int .u32 ((n : Int) / 4294967296)] 127)) w.heap.size [n % 4294967296, n / 4294967296] := by
  have := Blk.new w [dv (n % 4294967296), dv (n / 4294967296)] 127
  have e1 : dv (n % 4294967296) = .int .u32 ((n : Int) % 4294967296) := by unfold dv; rw [show ((n % 4294967296 : Nat) : Int) = (n : Int) % 4294967296 by omega]
  have e2 : dv (n / 4294967296) = .int .u32 ((n : Int) / 4294967296) := by unfold dv; rw [show ((n / 4294967296 : Nat) : Int) = (n : Int) / 4294967296 by omega]
  unfold Row
  rw [List.map_cons, List.map_cons, List.map_nil]
  rw [e1, e2] at this ⊢
  exact this
theorem from_digs {n : Nat} (h : n < 18446744073709551616) : Digs [n % 4294967296, n / 4294967296] := Digs.cons (by omega) (Digs.cons (by omega) Digs.nil)
theorem from_val (n : Nat) : val [n % 4294967296, n / 4294967296] = n := by simp [val]; omega
theorem from_row (n : Nat) (w : World) (h : n < 18446744073709551616) : RetDig w (dg n) (.returned (.slice (some ⟨w.heap.size, 0, none⟩) (dg n).length (dg n).length)) (w.alloc (.cells #[.int .u32 ((n : Int) % 4294967296), .int .u32 ((n : Int) / 4294967296)] 127)) := by
  have := (from_row0 n w).rd0 (from_digs h) (c := 2) (by simp) (by omega)
  have t := this.trim
  rw [from_val] at t
  exact ⟨_, rfl, ⟨_, _, _, rfl, t⟩, (Below.refl _ _).alloc (Nat.le_refl _) _⟩
theorem trim_row2 (n : Nat) (w : World) (h : n < 18446744073709551616) :
    Calls Tryz.prog 163 #[.slice (some ⟨w.heap.size, 0, none⟩) 2 2] (w.alloc (.cells #[.int .u32 ((n : Int) % 4294967296), .int .u32 ((n : Int) / 4294967296)] 127)) fun e w' => e = .returned (.slice (some ⟨w.heap.size, 0, none⟩) (dg n).length (dg n).length) ∧ w.alloc (.cells #[.int .u32 ((n : Int) % 4294967296), .int .u32 ((n : Int) / 4294967296)] 127) = w' := by
  have := trim_any (some ⟨w.heap.size, 0, none⟩) 2 2 _ _ ((from_row0 n w).rd0 (from_digs h) (c := 2) (by simp) (by omega))
  rwa [from_val] at this
set_option maxHeartbeats 400000 in
theorem from_any (n : Nat) (w : World) (h : n < 18446744073709551616) :
    Calls Tryz.prog 146 #[.int .u64 n] w (RetDig w (dg n)) := by
  have R := hid (from_row n w h)
  have T := hid (fun W => trim_row2 n W h)
  go_enter Tryz.func146, Tryz.ntmps146
  go_wp2_with fail
  refine (T.out w).mono ?_
  rintro e w' ⟨rfl, rfl⟩
  go_wp2_with fail
  go_ret
  exact R.out
def bitN (n : Nat) : Nat := if n = 0 then 0 else Nat.log2 n + 1
theorem bitN_pos {n k : Nat} (h1 : 2 ^ k ≤ n) (h2 : n < 2 ^ (k + 1)) : bitN n = k + 1 := by
  have h0 : n ≠ 0 := by have := Nat.two_pow_pos k; omega
  unfold bitN
  rw [if_neg h0]
  have := (Nat.log2_eq_iff h0).2 ⟨h1, h2⟩
  omega
theorem bits_top {xs : List Nat} {q : Nat} (hl : xs.length = q + 1) (hd : Digs xs) {k : Nat} (h1 : 2 ^ k ≤ xs.getD q 0) (h2 : xs.getD q 0 < 2 ^ (k + 1)) : bitN (val xs) = 32 * q + k + 1 := by
  have h3 := val_take_succ xs q
  rw [List.take_of_length_le (by omega)] at h3
  have h4 := val_lt (hd.take q)
  rw [List.length_take, Nat.min_eq_left (by omega)] at h4
  have e : (4294967296 : Nat) ^ q = 2 ^ (32 * q) := by rw [Nat.pow_mul]
  have h5 := Nat.mul_le_mul_left (4294967296 ^ q) h1
  have h6 := Nat.mul_le_mul_left (4294967296 ^ q) h2
  rw [Nat.mul_succ] at h6
  refine bitN_pos ?_ ?_
  · rw [Nat.pow_add, ← e]; omega
  · rw [show 32 * q + k + 1 = 32 * q + (k + 1) by omega, Nat.pow_add, ← e]; omega
theorem top_pow {x y j : Nat} (hj : j ≤ 31) (hy : y = x * 2 ^ j) (h1 : 2147483648 ≤ y) (h2 : y < 4294967296) : 2 ^ (31 - j) ≤ x ∧ x < 2 ^ (31 - j + 1) := by
  have e1 : 2 ^ (31 - j) * 2 ^ j = 2147483648 := by rw [← Nat.pow_add, show 31 - j + j = 31 by omega]
  have e2 : 2 ^ (31 - j + 1) * 2 ^ j = 4294967296 := by rw [← Nat.pow_add, show 31 - j + 1 + j = 32 by omega]
  have hp := Nat.two_pow_pos j
  exact ⟨Nat.le_of_mul_le_mul_right (by rw [e1, ← hy]; exact h1) hp, Nat.lt_of_mul_lt_mul_right (a := 2 ^ j) (by rw [e2, ← hy]; exact h2)⟩
theorem ret_bits {n : Nat} {a : Int} (h : a = n) : Ending.returned (.int .i64 a) = .returned (.int .i64 n) := by rw [h]
set_option maxHeartbeats 400000 in
theorem bits_any (A : Option Addr) (n c : Nat) (xs : List Nat) (w : World) (h : Rd w A n c xs) (hn : n ≤ 1099511627776) :
    Calls Tryz.prog 203 #[.slice A n c] w fun e w' => e = .returned (.int .i64 (bitN (val xs) : Nat)) ∧ w = w' := by
  have ct := hid (trim_any A n c xs w h)
  have hL := dg_len_small h.2.2.2.1
  rw [h.1] at hL
  have h1 : n ≤ c := h.2.1
  have h2 : c ≤ 9223372036854775807 := h.2.2.1
  have H := hid h.trim
  rcases Nat.eq_zero_or_pos (val xs) with h0 | hp
  · rw [h0] at ct ⊢
    clear h h0 H
    go_enter Tryz.func203, Tryz.ntmps203
    go_wp2_with fail
    refine (ct.out).mono ?_
    rintro e w' ⟨rfl, rfl⟩
    simp only [dg_zero, List.length_nil]
    go_wp2_with fail
    go_ret
    exact ⟨rfl, rfl⟩
  · obtain ⟨q, hq⟩ : ∃ q, (dg (val xs)).length = q + 1 := ⟨(dg (val xs)).length - 1, by have := dg_len_pos hp; omega⟩
    have hf := full_dg (val xs)
    have hx : (dg (val xs)).getD q 0 ≠ 0 := by
      rcases hf with hf | hf
      · rw [hf] at hq; simp at hq
      · rw [hq] at hf; simpa using hf
    have hx2 := (digs_dg (val xs)).get q
    have hb := fun k => bits_top hq (digs_dg (val xs)) (k := k)
    rw [val_dg] at hb
    obtain ⟨b, o, hA, hlt, hc⟩ := H.out.2.2.2.2 (by omega)
    have hcell := hc q (by omega)
    rw [hq] at ct hL
    subst hA
    obtain ⟨x, hxx⟩ : ∃ x, x = (dg (val xs)).getD q 0 := ⟨_, rfl⟩
    rw [← hxx] at hx hx2 hcell hb
    have HB := hid hb
    have X0 : 1 ≤ x := by omega
    clear h hc hq hf hb hx hxx H
    go_enter Tryz.func203, Tryz.ntmps203
    go_wp2_with fail
    refine (ct.out).mono ?_
    rintro e w' ⟨rfl, rfl⟩
    go_wp2_with fail
    go_loop [3, 4] (fun i t => ∃ j y : Nat, j ≤ 31 ∧ Hid (y = x * 2 ^ j) ∧ y < 4294967296 ∧ 1 ≤ y ∧ t = .int .u32 y ∧ i = .int .i64 (32 * ((q : Int) + 1) - j)) (fun i _ => (intOf i - 32 * (q : Int)).toNat)
    case atStart => exact ⟨0, x, by omega, hid (by simp), hx2, X0, rfl, by go_num⟩
    case round =>
      obtain ⟨j, y, hj, hy, hy2, hy3, rfl, rfl⟩ := hrel
      rcases Nat.lt_or_ge y 2147483648 with hlt | hge
      · have e0 : (y : Int) / 2147483648 = 0 := by omega
        have hj2 : j + 1 ≤ 31 := by
          rcases Nat.lt_or_ge j 31 with h | h
          · omega
          · obtain rfl : j = 31 := by omega
            have := hy.out
            omega
        go_wp2_with fail
        go_round
        case rel => exact ⟨j + 1, y * 2, hj2, hid (by rw [hy.out, Nat.pow_succ, Nat.mul_assoc]), by omega, by omega, by go_num, by go_num⟩
        case measure => simp [intOf]; omega
      · have e0 : (y : Int) / 2147483648 = 1 := by omega
        go_wp2_with fail
        go_ret
        obtain ⟨p1, p2⟩ := top_pow hj hy.out hge hy2
        exact ⟨ret_bits (by rw [HB.out (31 - j) p1 p2]; omega), rfl⟩
end Go.Proofs.YtdbccidlnhjfhaaGreatDoor
