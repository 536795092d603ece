/- Contracts: Uint, Bits of the specification of layer 1. -/
import Derived.Test.YtcbbacnhnaopmaaRef8
namespace Go.Proofs.Ytcbbacnhnaopmaa
open Go.RowKit

def uintV (n : Nat) : Int := if n < 18446744073709551616 then n else 0
def uintB (n : Nat) : Bool := decide (n < 18446744073709551616)
theorem len_two {x : Nat} (h : (dg x).length ≤ 2) : x < 18446744073709551616 := by
  have h1 := dg_len_lt x
  have h2 := Nat.pow_le_pow_right (n := 4294967296) (by omega) h
  omega
theorem len_big {x : Nat} (h : 2 < (dg x).length) : ¬ x < 18446744073709551616 := fun h1 => by
  have := dg_len_le (n := x) (k := 2) (by omega)
  omega
theorem uint_any (A : Option Addr) (n c : Nat) (xs : List Nat) (w : World) (h : Rd w A n c xs) :
    Calls Try.prog 82 #[.slice A n c] w fun e w' => e = .returned (.tuple #[.int .u64 (uintV (val xs)), .bool (uintB (val xs))]) ∧ w = w' := by
  unfold uintV uintB
  rcases Nat.lt_or_ge 2 (dg (val xs)).length with h1 | h1
  · rw [if_neg (len_big h1), decide_eq_false (len_big h1)]
    exact uint_big A n c xs w h h1
  · rw [if_pos (len_two h1), decide_eq_true (len_two h1)]
    exact uint_small A n c xs w h h1
def RetUint (w : World) (n : Nat) (e : Ending) (w' : World) : Prop := e = .returned (.tuple #[.int .u64 (uintV n), .bool (uintB n)]) ∧ Below w.heap.size w w'

set_option maxRecDepth 100000 in
set_option maxHeartbeats 1000000 in
theorem ruint_any (A : Option Addr) (n c : Nat) (xs : List Nat) (w : World) (h : Rd w A n c xs) (hn : n ≤ 1099511627776) :
    Calls Try.prog 83 #[.slice A n c] w (RetUint w (val xs)) := by
  have ta := hid (rtrim_any A n c xs w h (by omega))
  have la := dg_len_small h.2.2.2.1
  rw [h.1] at la
  obtain ⟨x, hx⟩ : ∃ x, x = val xs := ⟨_, rfl⟩
  rw [← hx] at ta la ⊢
  clear h hx
  unfold RetUint uintV uintB
  rcases Nat.lt_or_ge 2 (dg x).length with h1 | h1
  · rw [if_neg (len_big h1), decide_eq_false (len_big h1)]
    go_enter Try.func83, Try.ntmps83
    go_wp2_with fail
    refine (ta.out).mono ?_
    rintro e w1 ⟨v1, rfl, ⟨A1, p, c1, rfl, d1⟩, b1⟩
    have hp : 2 < p := by rw [← d1.1]; exact h1
    have hpm := d1.2.1
    have hpc := d1.2.2.1
    have B1 := hid b1
    clear d1 b1
    go_wp2_with fail
    go_ret2
    exact ⟨rfl, B1.out⟩
  · rw [if_pos (len_two h1), decide_eq_true (len_two h1)]
    go_enter Try.func83, Try.ntmps83
    go_wp2_with fail
    refine (ta.out).mono ?_
    rintro e w1 ⟨v1, rfl, ⟨A1, p, c1, rfl, d1⟩, b1⟩
    have hp : p ≤ 2 := by rw [← d1.1]; exact h1
    have hpm := d1.2.1
    have hpc := d1.2.2.1
    have B1 := hid b1
    have D1 := hid d1
    clear d1 b1
    go_wp2_with fail
    go_loop [4, 5] (fun s i => ∃ k t : Nat, k ≤ p ∧ i = .int .i64 ((k : Int) - 1) ∧ s = .int .u64 t ∧ (1 ≤ k → t < 4294967296) ∧ Hid (t = val (seg (dg x) k (p - k)))) (fun _ i => (intOf i + 1).toNat)
    case atStart => exact ⟨p, 0, Nat.le_refl _, rfl, rfl, fun _ => by omega, hid (by rw [Nat.sub_self]; simp [seg, val])⟩
    case round =>
      obtain ⟨k, t, hk, rfl, rfl, htb, hz⟩ := hrel
      rcases Nat.eq_zero_or_pos k with rfl | hk0
      · go_wp2_with fail
        go_ret2
        refine ⟨ret_uint ?_, B1.out⟩
        have e1 : seg (dg x) 0 (p - 0) = dg x := by unfold seg; rw [List.drop_zero, List.take_of_length_le (by have := D1.out.1; omega)]
        rw [hz.out, e1, val_dg]
      · obtain ⟨q, rfl⟩ : ∃ q, k = q + 1 := ⟨k - 1, by omega⟩
        obtain ⟨b, o, hA, ca⟩ := rd_cell D1.out (k := q) (by omega)
        subst hA
        have dx := (digs_dg x).get q
        have ht := htb (by omega)
        have hor := or_join t ((dg x).getD q 0) ht dx
        have hseg := hid (seg_cons (zs := dg x) (o := q) (n := p - q) (by have := D1.out.1; omega) (by omega))
        obtain ⟨y, hy⟩ : ∃ y, y = (dg x).getD q 0 := ⟨_, rfl⟩
        rw [← hy] at ca dx hor
        obtain ⟨u, hu⟩ : ∃ u, u = y + 4294967296 * t := ⟨_, rfl⟩
        rw [← hu] at hor
        have U := hid (show u = val (seg (dg x) q (p - q)) from by rw [hseg.out, val, ← hy, hu, hz.out, Nat.sub_sub])
        have hub : 1 ≤ q → u < 4294967296 := fun hq => by
          have hp2 : p - q = 1 := by omega
          have := seg_val_lt (digs_dg x) (o := q) (n := p - q) (by have := D1.out.1; omega)
          rw [← U.out, hp2] at this
          omega
        have HUB := hid hub
        clear hy hu hub htb
        go_wp2_with fail
        go_round
        case rel => exact ⟨q, u, by omega, by go_num, rfl, HUB.out, U⟩
        case measure => simp [intOf]

end Go.Proofs.Ytcbbacnhnaopmaa
