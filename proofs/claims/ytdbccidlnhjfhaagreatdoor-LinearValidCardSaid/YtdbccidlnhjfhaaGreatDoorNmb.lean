/- Number of the specification: the text of a number. -/
import Derived.Test.YtdbccidlnhjfhaaGreatDoorFmz
import Derived.Test.YtdbccidlnhjfhaaGreatDoorTxx
import Derived.Deep.DeepCutAuto
import Derived.BigQuiet
namespace Go.Proofs.YtdbccidlnhjfhaaGreatDoor
open Go.RowKit
set_option maxRecDepth 100000
theorem tx_dec (u : Nat) : tx u = Lib.decDigits u := by
  induction u using Nat.strongRecOn with
  | ind u ih =>
    rw [Lib.decDigits]
    by_cases h : u < 10
    · rw [dif_pos h]
      unfold tx
      by_cases h0 : u = 0
      · subst h0; rfl
      · rw [if_neg h0, dg_pos_t (by omega), Nat.div_eq_of_lt h, dg_zero_t, Nat.mod_eq_of_lt h]
        rfl
    · rw [dif_neg h, ← ih (u / 10) (by omega)]
      unfold tx
      rw [if_neg (by omega), if_neg (by omega), dg_pos_t (n := u) (by omega), List.map_cons, List.reverse_cons]
      rfl
theorem tx_pos {n : Int} (h : 0 ≤ n) : tx n.toNat = Lib.itoa n := by
  unfold Lib.itoa
  rw [if_neg (by omega), tx_dec]
theorem tx_neg {n : Int} (h : n < 0) : 45 :: tx n.natAbs = Lib.itoa n := by
  unfold Lib.itoa
  rw [if_pos h, tx_dec]
set_option maxHeartbeats 2000000 in
theorem r_number (n : Int) (w : World) (h0 : -4611686018427387904 ≤ n) (h1 : n ≤ 4611686018427387904) : Calls Tryz.prog 61 #[.int .i64 n] w (RetTx w (Lib.itoa n)) := by
  have CF := hid (fun (u : Nat) (hu : u < 18446744073709551616) (W : World) => rfrom_any u W hu)
  have CT := hid (fun (u : Nat) (hu : u < 18446744073709551616) (W : World) (A : Option Addr) (k c : Nat) (h : Rd W A k c (dg u)) => (show Calls Tryz.prog 105 #[.slice A k c] W (RetStr W (tx u)) by
    have t := rtext_any A k c (dg u) W h (by have := h.1; have := dg_len_le (k := 2) (n := u) (by omega); omega)
    rw [val_dg] at t
    exact t))
  by_cases s : n < 0
  · have t1 : decide (n < 0) = true := decide_eq_true s
    obtain ⟨u, hu⟩ : ∃ u : Nat, -n = (u : Int) := ⟨(-n).toNat, by omega⟩
    have hl := Lib.itoa_length_le n (by omega) (by omega)
    have e1 : 45 :: tx u = Lib.itoa n := by rw [← tx_neg s, show n.natAbs = u by omega]
    obtain ⟨sx, hsx⟩ : ∃ s : ByteArray, s = ⟨(tx u).toArray⟩ := ⟨_, rfl⟩
    have hz : sx.size ≤ 21 := by
      rw [hsx]
      show (tx u).toArray.size ≤ 21
      rw [← e1, List.length_cons] at hl
      simp only [List.size_toArray]
      omega
    have k1 : ¬9223372036854775807 < 1 + sx.size := by omega
    have ES := hid (show sx.data.toList = tx u by rw [hsx])
    have CT1 := hid (fun (W : World) (A : Option Addr) (k c : Nat) (h : Rd W A k c (dg u)) => (show Calls Tryz.prog 105 #[.slice A k c] W (fun e w' => e = .returned (.string sx) ∧ Below W.heap.size W w') by rw [hsx]; exact CT.out u (by omega) W A k c h))
    have CF1 := hid (CF.out u (by omega))
    have E1 := hid e1
    clear CT CF hl e1 hsx
    go_enter Tryz.func61, Tryz.ntmps61
    go_wp2_with fail
    refine (CF1.out w).mono ?_
    rintro e w1 ⟨v1, rfl, ⟨A, k, c, rfl, r⟩, b⟩
    have B1 := hid b
    have R1 := hid r
    clear b r hu
    go_wp2_with fail
    refine (CT1.out _ A k c R1.out).mono ?_
    rintro e w2 ⟨rfl, b⟩
    have B2 := hid (bx_call B1.out b)
    clear b R1 B1
    go_wp2_with fail
    go_ret
    exact ⟨_, rfl, by rw [catL, ES.out]; exact E1.out, B2.out⟩
  · have t1 : decide (n < 0) = false := decide_eq_false s
    obtain ⟨u, hu⟩ : ∃ u : Nat, n = (u : Int) := ⟨n.toNat, by omega⟩
    have E1 := hid (show tx u = Lib.itoa n by rw [← tx_pos (by omega), hu, Int.toNat_natCast])
    have CT1 := hid (fun (W : World) (A : Option Addr) (k c : Nat) (h : Rd W A k c (dg u)) => CT.out u (by omega) W A k c h)
    have CF1 := hid (CF.out u (by omega))
    subst hu
    clear CT CF
    go_enter Tryz.func61, Tryz.ntmps61
    go_wp2_with fail
    refine (CF1.out w).mono ?_
    rintro e w1 ⟨v1, rfl, ⟨A, k, c, rfl, r⟩, b⟩
    have B1 := hid b
    have R1 := hid r
    clear b r
    go_wp2_with fail
    refine (CT1.out _ A k c R1.out).mono ?_
    rintro e w2 ⟨rfl, b⟩
    have B2 := hid (bx_call B1.out b)
    clear b R1 B1
    go_wp2_with fail
    go_ret
    exact ⟨_, rfl, E1.out, B2.out⟩
end Go.Proofs.YtdbccidlnhjfhaaGreatDoor
