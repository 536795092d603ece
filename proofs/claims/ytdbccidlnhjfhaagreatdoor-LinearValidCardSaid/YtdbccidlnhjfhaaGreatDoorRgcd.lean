/- The contract of Gcd of the specification of layer 1. -/
import Derived.Test.YtdbccidlnhjfhaaGreatDoorBitR
import Derived.Test.YtdbccidlnhjfhaaGreatDoorGcd
namespace Go.Proofs.YtdbccidlnhjfhaaGreatDoor
open Go.RowKit
set_option maxRecDepth 100000
theorem rgcd_end {w wr : World} {G p : Nat} {A : Option Addr} {c : Nat} {B : Option Addr} {d x y : Nat} (h : GcdRel w G p 0 A c B d x y wr) : RetDig w (dg G) (.returned (.slice A p c)) wr := by
  obtain ⟨h1, h2, h3, h4⟩ := h
  have hy : y = 0 := dg_nil_iff.1 (List.eq_nil_of_length_eq_zero h2.1)
  rw [hy, Nat.gcd_zero_right] at h3
  subst h3
  exact ⟨_, rfl, ⟨_, _, _, rfl, h1⟩, h4⟩
set_option maxHeartbeats 2000000 in
theorem rgcd_any (A B : Option Addr) (n c m d : Nat) (xs ys : List Nat) (w : World) (ha : Rd w A n c xs) (hb : Rd w B m d ys) (hn : n ≤ 1099511627775) (hm : m ≤ 1099511627775) :
    Calls Tryz.prog 124 #[.slice A n c, .slice B m d] w (RetDig w (dg (Nat.gcd (val xs) (val ys)))) := by
  have ta := hid (rtrim_any A n c xs w ha (by omega))
  have tb := hid (fun (W : World) (hw : Below w.heap.size w W) => rtrim_any B m d ys W (hb.keep hw) (by omega))
  have la := dg_len_small ha.2.2.2.1
  have lb := dg_len_small hb.2.2.2.1
  rw [ha.1] at la
  rw [hb.1] at lb
  obtain ⟨x, hx⟩ : ∃ x, x = val xs := ⟨_, rfl⟩
  obtain ⟨y, hy⟩ : ∃ y, y = val ys := ⟨_, rfl⟩
  rw [← hx] at ta la ⊢
  rw [← hy] at tb lb ⊢
  clear ha hb hx hy
  obtain ⟨G, hG⟩ : ∃ G, G = Nat.gcd x y := ⟨_, rfl⟩
  rw [← hG]
  have HG := hid hG
  clear hG
  go_enter Tryz.func124, Tryz.ntmps124
  go_wp2_with fail
  refine (ta.out).mono ?_
  rintro e w1 ⟨v1, rfl, ⟨A1, p, c1, rfl, r1⟩, b1⟩
  have TB := hid (tb.out w1 b1)
  have hp : p ≤ 1099511627775 := by rw [← r1.1]; omega
  have R1 := hid r1
  have B1 := hid b1
  clear r1 b1 ta tb
  go_wp2_with fail
  refine (TB.out).mono ?_
  rintro e w2 ⟨v2, rfl, ⟨A2, q, c2, rfl, r2⟩, b2⟩
  have hq : q ≤ 1099511627775 := by rw [← r2.1]; omega
  have R0 := hid (show GcdRel w G p q A1 c1 A2 c2 x y w2 from ⟨R1.out.keep b2, r2, HG.out.symm, B1.out.trans (b2.mono B1.out.size)⟩)
  have k1 := R1.out.2.1
  have k2 := R1.out.2.2.1
  have k3 := r2.2.1
  have k4 := r2.2.2.1
  clear r2 b2 TB R1 B1
  go_wp2_with fail
  go_loopg [0, 1] y (fun k s0 s1 wr => ∃ (A : Option Addr) (p c : Nat) (B : Option Addr) (q d x y : Nat), p ≤ 1099511627775 ∧ q ≤ 1099511627775 ∧ p ≤ c ∧ q ≤ d ∧ c ≤ 9223372036854775807 ∧ d ≤ 9223372036854775807 ∧ s0 = .slice A p c ∧ s1 = .slice B q d ∧ y ≤ k ∧ Hid (GcdRel w G p q A c B d x y wr))
  case atStart => exact ⟨A1, p, c1, A2, q, c2, x, y, by omega, by omega, by omega, by omega, by omega, by omega, rfl, rfl, Nat.le_refl _, R0⟩
  case round =>
    clear R0 la lb hn hm HG
    obtain ⟨A, p, c, B, q, d, x, y, hp, hq, hpc, hqd, hcm, hdm, rfl, rfl, hyk, hz⟩ := hrel
    rcases Nat.eq_zero_or_pos q with rfl | hq0
    · have R := hid (rgcd_end hz.out)
      go_wp2_with fail
      go_ret
      exact R.out
    · have dm := rdivMod_any A B p c q d (dg x) (dg y) wr hz.out.1 hz.out.2.1 (by omega) hq
      rw [val_dg, val_dg] at dm
      have DM := hid dm
      clear dm
      go_wp2_with fail
      refine (DM.out).mono ?_
      rintro e w1 ⟨v, u, rfl, z1, z2, z3⟩
      obtain ⟨hy, C, r, f, rfl, z4, z5, z6, z7⟩ := gcd_step hz.out z2 z3 hq0
      have Z := hid z7
      clear z1 z2 z3 z7
      go_wp2_with fail
      go_roundg (x % y)
      case measure => exact Nat.lt_of_lt_of_le (Nat.mod_lt _ hy) hyk
      case rel => exact ⟨B, q, d, C, r, f, y, x % y, by omega, by omega, by omega, by omega, by omega, by omega, rfl, rfl, Nat.le_refl _, Z⟩
end Go.Proofs.YtdbccidlnhjfhaaGreatDoor
