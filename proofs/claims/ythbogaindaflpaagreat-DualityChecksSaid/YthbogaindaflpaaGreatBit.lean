/- Binary digits of lists of digits; contracts: Bit of the specification of layer 1. -/
import Derived.Test.YthbogaindaflpaaGreatRefA
import Derived.RegionTactic
import Derived.ChangeAlike
namespace Go.Proofs.YthbogaindaflpaaGreat
open Go.RowKit
theorem val_at (xs : List Nat) (q : Nat) : ∃ h, val xs = val (xs.take q) + 4294967296 ^ q * (xs.getD q 0 + 4294967296 * h) := by
  rcases Nat.lt_or_ge q xs.length with hq | hq
  · refine ⟨val (xs.drop (q + 1)), ?_⟩
    have h1 := val_append (xs.take q) (xs.drop q)
    rw [List.take_append_drop, List.drop_eq_getElem_cons hq, List.length_take, Nat.min_eq_left (by omega)] at h1
    rw [h1]
    simp [val, List.getD, List.getElem?_eq_getElem hq]
  · refine ⟨0, ?_⟩
    rw [List.take_of_length_le hq]
    simp [List.getD, List.getElem?_eq_none hq]
theorem pow32 (q r : Nat) : (2 : Nat) ^ (32 * q + r) = 4294967296 ^ q * 2 ^ r := by rw [Nat.pow_add, Nat.pow_mul]
theorem digit_bit {xs : List Nat} (hd : Digs xs) (q r : Nat) (hr : r < 32) : xs.getD q 0 / 2 ^ r % 2 = val xs / 2 ^ (32 * q + r) % 2 := by
  obtain ⟨h, hv⟩ := val_at xs q
  have hlt := val_lt (hd.take q)
  have hle : 4294967296 ^ (xs.take q).length ≤ 4294967296 ^ q := Nat.pow_le_pow_right (by omega) (by simp; omega)
  rw [pow32, hv, ← Nat.div_div_eq_div_mul, Nat.add_mul_div_left _ _ (Nat.pow_pos (by omega)), Nat.div_eq_of_lt (show val (xs.take q) < 4294967296 ^ q from Nat.lt_of_lt_of_le hlt hle), Nat.zero_add]
  have e : (4294967296 : Nat) * h = 2 ^ r * (2 ^ (31 - r) * 2 * h) := by
    rw [← Nat.mul_assoc, ← Nat.mul_assoc, ← Nat.pow_add, ← Nat.pow_succ]
    rw [show (r + (31 - r)).succ = 32 by omega]
  rw [e, Nat.add_mul_div_left _ _ (Nat.two_pow_pos r), Nat.mul_assoc, Nat.mul_left_comm, Nat.add_mul_mod_self_left]
theorem digit_free {xs : List Nat} (hd : Digs xs) (q r : Nat) (hr : r < 32) (h0 : val xs % 2 ^ (32 * q + (r + 1)) = 0) : xs.getD q 0 % 2 ^ (r + 1) = 0 := by
  obtain ⟨h, hv⟩ := val_at xs q
  have hlt := val_lt (hd.take q)
  have hle : 4294967296 ^ (xs.take q).length ≤ 4294967296 ^ q := Nat.pow_le_pow_right (by omega) (by simp; omega)
  rw [pow32] at h0
  have h1 : val xs / 4294967296 ^ q % 2 ^ (r + 1) = 0 := by
    have h2 := Nat.mod_mul_right_div_self (val xs) (4294967296 ^ q) (2 ^ (r + 1))
    rw [h0, Nat.zero_div] at h2
    exact h2.symm
  rw [hv, Nat.add_mul_div_left _ _ (Nat.pow_pos (by omega)), Nat.div_eq_of_lt (show val (xs.take q) < 4294967296 ^ q from Nat.lt_of_lt_of_le hlt hle), Nat.zero_add] at h1
  have e : (4294967296 : Nat) * h = 2 ^ (r + 1) * (2 ^ (31 - r) * h) := by
    rw [← Nat.mul_assoc, ← Nat.pow_add]
    rw [show r + 1 + (31 - r) = 32 by omega]
  rw [e, Nat.add_mul_mod_self_left] at h1
  exact h1
theorem or_bit {d r : Nat} (hd : d < 4294967296) (hr : r < 32) (h : d % 2 ^ (r + 1) = 0) : bits .or .u32 (d : Int) ((2 ^ r : Nat) : Int) = ((d + 2 ^ r : Nat) : Int) ∧ d + 2 ^ r < 4294967296 := by
  have h2 : 2 ^ r < 4294967296 := scale_small (by omega)
  have h3 : 2 ^ r < 2 ^ (r + 1) := Nat.pow_lt_pow_right (by omega) (by omega)
  have h4 := nat_join (r + 1) d (2 ^ r) h h3
  refine ⟨by rw [u32_or_nat _ _ hd h2, h4], ?_⟩
  rw [← h4]
  exact Nat.or_lt_two_pow (n := 32) hd h2
theorem and_one (d : Nat) (h : d < 4294967296) : bits .and .u32 (d : Int) 1 = ((d % 2 : Nat) : Int) := by
  have e : (1 : Int) = ((1 : Nat) : Int) := rfl
  rw [e, u32_and_nat d 1 h (by omega), Nat.and_one_is_mod]
set_option maxHeartbeats 400000 in
theorem rbit_any (A : Option Addr) (n c : Nat) (xs : List Nat) (i : Nat) (w : World) (h : Rd w A n c xs) (hn : n ≤ 1099511627776) (hi : i < 32 * n) :
    Calls Tryz.prog 113 #[.slice A n c, .int .i64 i] w fun e w' => e = .returned (.int .u32 (val xs / 2 ^ i % 2 : Nat)) ∧ w = w' := by
  obtain ⟨q, r, hr, rfl⟩ : ∃ q r, r < 32 ∧ i = 32 * q + r := ⟨i / 32, i % 32, Nat.mod_lt _ (by omega), by omega⟩
  obtain ⟨b, o, hA, hcell⟩ := rd_cell h (k := q) (by omega)
  subst hA
  rw [← digit_bit h.2.2.2.1 q r hr]
  have h1 := h.2.1
  have h2 := h.2.2.1
  have hd := h.2.2.2.1.get q
  obtain ⟨x, hx⟩ : ∃ x, x = xs.getD q 0 := ⟨_, rfl⟩
  rw [← hx] at hcell hd ⊢
  have e1 : ((32 * q + r : Nat) : Int) / 32 = (q : Int) := by omega
  have e2 : ((32 * q + r : Nat) : Int) % 32 = (r : Int) := by omega
  obtain ⟨i, hi2⟩ : ∃ i, i = 32 * q + r := ⟨_, rfl⟩
  rw [← hi2] at e1 e2 hi ⊢
  have hxr : x / 2 ^ r < 4294967296 := Nat.lt_of_le_of_lt (Nat.div_le_self _ _) hd
  have ea : bits .and .u32 ((x : Int) / 2 ^ r) 1 = ((x / 2 ^ r % 2 : Nat) : Int) := by
    rw [← and_one (x / 2 ^ r) hxr]
    simp
  clear hx hi2 h
  go_enter Tryz.func113, Tryz.ntmps113
  go_wp2_with fail
  go_ret
  exact ⟨rfl, rfl⟩
def LongBit (X y k q r : Nat) : Prop := q = 2 ^ k * (X / 2 ^ k / y) ∧ r = X / 2 ^ k % y
theorem longBit_start {X y k : Nat} (h : X < 2 ^ k) : LongBit X y k 0 0 := by
  unfold LongBit
  rw [Nat.div_eq_of_lt h]
  simp
theorem longBit_split (X p : Nat) : X / 2 ^ p = 2 * (X / 2 ^ (p + 1)) + X / 2 ^ p % 2 := by
  rw [Nat.pow_succ, ← Nat.div_div_eq_div_mul]
  omega
theorem longBit_less {X y p q r : Nat} (h : LongBit X y (p + 1) q r) (hy : r + r + X / 2 ^ p % 2 < y) : LongBit X y p q (r + r + X / 2 ^ p % 2) := by
  obtain ⟨h1, h2⟩ := h
  have h3 := longBit_split X p
  generalize X / 2 ^ p % 2 = b at *
  have h4 := Nat.div_add_mod (X / 2 ^ (p + 1)) y
  rw [← h2] at h4
  have h5 : X / 2 ^ p = y * (2 * (X / 2 ^ (p + 1) / y)) + (r + r + b) := by
    rw [h3, Nat.mul_left_comm]; omega
  unfold LongBit
  rw [h5, Nat.mul_add_div (by omega), Nat.div_eq_of_lt hy, Nat.mul_add_mod, Nat.mod_eq_of_lt hy, Nat.add_zero]
  refine ⟨?_, rfl⟩
  rw [h1, Nat.pow_succ, Nat.mul_assoc]
theorem longBit_more {X y p q r : Nat} (hy0 : 0 < y) (h : LongBit X y (p + 1) q r) (hy : y ≤ r + r + X / 2 ^ p % 2) : LongBit X y p (q + 2 ^ p) (r + r + X / 2 ^ p % 2 - y) ∧ q % 2 ^ (p + 1) = 0 := by
  obtain ⟨h1, h2⟩ := h
  refine ⟨?_, by rw [h1, Nat.mul_mod_right]⟩
  have h3 := longBit_split X p
  have hb : X / 2 ^ p % 2 < 2 := Nat.mod_lt _ (by omega)
  generalize X / 2 ^ p % 2 = b at *
  have h4 := Nat.div_add_mod (X / 2 ^ (p + 1)) y
  have h6 := Nat.mod_lt (X / 2 ^ (p + 1)) hy0
  rw [← h2] at h4 h6
  have h5 : X / 2 ^ p = y * (2 * (X / 2 ^ (p + 1) / y) + 1) + (r + r + b - y) := by
    rw [h3, Nat.mul_add, Nat.mul_one, Nat.mul_left_comm]; omega
  have hlt : r + r + b - y < y := by omega
  unfold LongBit
  rw [h5, Nat.mul_add_div (by omega), Nat.div_eq_of_lt hlt, Nat.mul_add_mod, Nat.mod_eq_of_lt hlt, Nat.add_zero]
  refine ⟨?_, rfl⟩
  rw [h1, Nat.pow_succ, Nat.mul_assoc, Nat.mul_add, Nat.mul_one]
end Go.Proofs.YthbogaindaflpaaGreat
