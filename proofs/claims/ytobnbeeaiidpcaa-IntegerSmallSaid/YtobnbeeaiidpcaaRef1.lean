/- Contracts: Trim, Valid, Same of the specification of layer 1. -/
import Derived.Test.YtobnbeeaiidpcaaApp
import Derived.Deep.QuietTactic
import Derived.BigQuiet
namespace Go.Proofs.Ytobnbeeaiidpcaa
open Go.RowKit

/-- The value lies in blocks from base on. -/
def New (base : Nat) (v : Value) : Prop := ∀ k, v.ownBlock = some k → base ≤ k
theorem New.mono {b b' : Nat} {v : Value} (h : New b v) (hb : b' ≤ b) : New b' v := fun k hk => Nat.le_trans hb (h k hk)
/-- The call returns the digits zs in new memory. -/
def RetNew (w : World) (zs : List Nat) (e : Ending) (w' : World) : Prop := ∃ v, e = .returned v ∧ Dig w' v zs ∧ Below w.heap.size w w' ∧ New w.heap.size v

set_option maxHeartbeats 1000000 in
theorem rtrim_new (A : Option Addr) (n c : Nat) (xs : List Nat) (w : World) (h : Rd w A n c xs) (hn : n ≤ 2199023255552) :
    Calls Try.prog 103 #[.slice A n c] w (RetNew w (dg (val xs))) := by
  have H := hid h
  have h1 : n ≤ c := h.2.1
  have h2 : c ≤ 9223372036854775807 := h.2.2.1
  obtain ⟨i0, hi, hz0, hz1, hz2⟩ := Try.infoU32'
  clear h
  go_enter Try.func103, Try.ntmps103
  go_wp2_with fail
  go_loop [3] (fun i => ∃ k : Nat, k ≤ n ∧ i = .int .i64 k ∧ Hid (∀ j, k ≤ j → xs.getD j 0 = 0)) (fun i => (intOf i).toNat)
  case atStart => exact ⟨n, Nat.le_refl _, rfl, hid (fun j hj => by have := H.out.1; simp [List.getD, List.getElem?_eq_none (by omega : xs.length ≤ j)])⟩
  case round =>
    obtain ⟨k, hk, rfl, hz⟩ := hrel
    rcases Nat.eq_zero_or_pos k with rfl | hp
    · have hr := hid ((H.out.cut (k := 0) (c' := c) (by omega) (by omega) h2).keep (w' := w.alloc (.cells #[] 79)) ((Below.refl _ _).alloc (Nat.le_refl _) _))
      have hv := hid (by rw [← dg_take hz.out]; rfl : dg (val xs) = [])
      go_wp2_with (at_builtin; refine wpList_append_rd rfl _ _ 23 79 rfl w.heap.size i0 (.int .u32 0) Try.underlying23 hi hz0 hz1 hz2 rfl _ _ _ rfl (own_empty w) A 0 c (xs.take 0) rfl hr.out (by omega) (by simp) ?_)
      intro v' w' g1 g2
      have R := hid (show RetNew w (dg (val xs)) (.returned v') w' from ⟨v', rfl, dig_own (xs := dg (val xs)) (by rw [hv.out]; exact g1) (digs_dg _), ((Below.refl _ _).alloc (Nat.le_refl _) _).grown g2 (by simp) (fun k hk => by cases hk; exact Nat.le_refl _), fun k hk => (g1.lt k hk).1⟩)
      clear g1 g2
      go_wp2_with fail
      go_ret
      exact R.out
    · obtain ⟨b, o, rfl, hlt, hc⟩ := H.out.2.2.2.2 (by omega)
      have hcell : w.cell? ⟨b, o + (k - 1), none⟩ = some (.int .u32 (xs.getD (k - 1) 0)) := hc _ (by omega)
      clear hc
      by_cases h0 : xs.getD (k - 1) 0 = 0
      · rw [h0] at hcell
        have hz2 : Hid (∀ j, k - 1 ≤ j → xs.getD j 0 = 0) := fun j hj => by
          rcases Nat.lt_or_ge j k with h | h
          · obtain rfl : j = k - 1 := by omega
            exact h0
          · exact hz.out j h
        clear h0
        go_wp2_with fail
        go_round
        case rel => exact ⟨k - 1, by omega, by go_num, hz2⟩
        case measure => simp [intOf]; omega
      · have h0' := hid h0
        have hl' := hid (show xs.length = n from H.out.1)
        obtain ⟨x, hx⟩ : ∃ x, x = xs.getD (k - 1) 0 := ⟨_, rfl⟩
        rw [← hx] at hcell h0
        have hb : ((x : Int) == 0) = false := by rw [beq_eq_false_iff_ne]; omega
        have hr := hid ((H.out.cut (k := k) (c' := c) hk (by omega) h2).keep (w' := w.alloc (.cells #[] 79)) ((Below.refl _ _).alloc (Nat.le_refl _) _))
        have hv := hid (take_is_dg H.out.2.2.2.1 (by have := hl'.out; omega) hz.out (.inr h0'.out))
        clear h0 hx
        go_wp2_with (at_builtin; refine wpList_append_rd rfl _ _ 23 79 rfl w.heap.size i0 (.int .u32 0) Try.underlying23 hi hz0 hz1 hz2 rfl _ _ _ rfl (own_empty w) (some ⟨b, o, none⟩) k c (xs.take k) rfl hr.out (by omega) (by simp) ?_)
        intro v' w' g1 g2
        have R := hid (show RetNew w (dg (val xs)) (.returned v') w' from ⟨v', rfl, dig_own (base := w.heap.size) (n := k) (xs := dg (val xs)) (by rw [← hv.out]; simpa using g1) (digs_dg _), ((Below.refl _ _).alloc (Nat.le_refl _) _).grown g2 (by simp) (fun k hk => by cases hk; exact Nat.le_refl _), fun k hk => (g1.lt k hk).1⟩)
        clear g1 g2
        go_wp2_with fail
        go_ret
        exact R.out

theorem rtrim_any (A : Option Addr) (n c : Nat) (xs : List Nat) (w : World) (h : Rd w A n c xs) (hn : n ≤ 2199023255552) :
    Calls Try.prog 103 #[.slice A n c] w (RetDig w (dg (val xs))) := (rtrim_new A n c xs w h hn).mono fun _ _ ⟨v, a, b, c, _⟩ => ⟨v, a, b, c⟩

end Go.Proofs.Ytobnbeeaiidpcaa
