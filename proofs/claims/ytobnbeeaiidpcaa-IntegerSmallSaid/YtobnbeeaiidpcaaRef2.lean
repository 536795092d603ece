/- Contracts: Valid, Same, Cmp of the specification of layer 1. -/
import Derived.Test.YtobnbeeaiidpcaaRef1
import Derived.Deep.QuietTactic
import Derived.BigQuiet
namespace Go.Proofs.Ytobnbeeaiidpcaa
open Go.RowKit

theorem fullB_nil : fullB [] = true := rfl
theorem fullB_last {xs : List Nat} {q : Nat} (hd : Digs xs) (hl : xs.length = q + 1) : fullB xs = decide (xs.getD q 0 ≠ 0) := by
  unfold fullB
  by_cases h : xs.getD q 0 = 0
  · have h1 := dg_len_le (n := val xs) (k := q) (by
      have h2 := val_take_succ xs q
      rw [List.take_of_length_le (by omega), h, Nat.mul_zero] at h2
      have h3 := val_lt (hd.take q)
      rw [List.length_take, Nat.min_eq_left (by omega)] at h3
      omega)
    rw [decide_eq_false (by omega), decide_eq_false (by simpa using h)]
  · have h1 := dg_of_full hd (.inr (by rw [hl]; exact h))
    rw [h1]
    simp only [decide_true]
    rw [decide_eq_true h]

set_option maxHeartbeats 400000 in
theorem rvalid_any (A : Option Addr) (n c : Nat) (xs : List Nat) (w : World) (h : Rd w A n c xs) :
    Calls Try.prog 87 #[.slice A n c] w fun e w' => e = .returned (.bool (fullB xs)) ∧ w = w' := by
  have h1 : n ≤ c := h.2.1
  have h2 : c ≤ 9223372036854775807 := h.2.2.1
  rcases Nat.eq_zero_or_pos n with rfl | hp
  · obtain rfl : xs = [] := List.eq_nil_of_length_eq_zero h.1
    rw [fullB_nil]
    clear h
    go_enter Try.func87, Try.ntmps87
    go_wp2_with fail
    go_ret
    exact ⟨rfl, rfl⟩
  · obtain ⟨q, rfl⟩ : ∃ q, n = q + 1 := ⟨n - 1, by omega⟩
    obtain ⟨b, o, rfl, hlt, hc⟩ := h.2.2.2.2 (by omega)
    have hcell := hc q (by omega)
    rw [fullB_last h.2.2.2.1 h.1]
    obtain ⟨x, hx⟩ : ∃ x, x = xs.getD q 0 := ⟨_, rfl⟩
    rw [← hx] at hcell ⊢
    clear hc hx h
    by_cases h0 : x = 0
    · subst h0
      go_enter Try.func87, Try.ntmps87
      go_wp2_with fail
      go_ret
      exact ⟨rfl, rfl⟩
    · have hb : ((x : Int) == 0) = false := by rw [beq_eq_false_iff_ne]; omega
      have hb2 : ((x : Int) != 0) = true := by simp; omega
      rw [decide_eq_true h0]
      clear h0
      go_enter Try.func87, Try.ntmps87
      go_wp2_with fail
      go_ret
      exact ⟨rfl, rfl⟩

/-- The answer, and nothing old has changed. -/
def RetB (w : World) (b : Bool) (e : Ending) (w' : World) : Prop := e = .returned (.bool b) ∧ Below w.heap.size w w'
def RetI (w : World) (i : Int) (e : Ending) (w' : World) : Prop := e = .returned (.int .i64 i) ∧ Below w.heap.size w w'

theorem Rd.drewN {w : World} {A : Option Addr} {n c : Nat} {xs : List Nat} (h : Rd w A n c xs) (k : Nat) : Rd (w.drewN k) A n c xs := h
theorem Dig.drewN {w : World} {v : Value} {xs : List Nat} (h : Dig w v xs) (k : Nat) : Dig (w.drewN k) v xs := h
theorem below_drew0 {B : Nat} {a w : World} (h : Below B a w) (k : Nat) : Below B a (w.drewN k) := ⟨h.os, h.tape, h.output, h.size, h.block⟩
theorem rd_cell {w : World} {A : Option Addr} {n c : Nat} {xs : List Nat} (h : Rd w A n c xs) {k : Nat} (hk : k < n) : ∃ b o, A = some ⟨b, o, none⟩ ∧ w.cell? ⟨b, o + k, none⟩ = some (.int .u32 (xs.getD k 0 : Nat)) := by
  obtain ⟨b, o, hA, _, hc⟩ := h.2.2.2.2 (by omega)
  exact ⟨b, o, hA, hc k hk⟩

set_option maxRecDepth 100000 in
set_option maxHeartbeats 1000000 in
theorem rsame_any (A B : Option Addr) (n c m d : Nat) (xs ys : List Nat) (w : World) (ha : Rd w A n c xs) (hb : Rd w B m d ys) :
    Calls Try.prog 88 #[.slice A n c, .slice B m d] w (RetB w (decide (xs = ys))) := by
  have HA := hid ha
  have HB := hid hb
  have h1 := ha.2.1
  have h2 := ha.2.2.1
  have h3 := hb.2.1
  have h4 := hb.2.2.1
  by_cases hnm : n = m
  · subst hnm
    clear ha hb
    go_enter Try.func88, Try.ntmps88
    go_wp2_with fail
    go_loopw [5] (fun i wr => ∃ k : Nat, k ≤ n ∧ i = .int .i64 k ∧ Hid ((∀ j, j < k → xs.getD j 0 = ys.getD j 0) ∧ Below w.heap.size w wr)) (fun i _ => n - (intOf i).toNat)
    case atStart => exact ⟨0, Nat.zero_le _, rfl, hid ⟨fun j hj => absurd hj (by omega), Below.refl _ _⟩⟩
    case round =>
      obtain ⟨k, hk, rfl, hz⟩ := hrel
      rcases Nat.lt_or_ge k n with hlt | hge
      · obtain ⟨b, o, hA, ca⟩ := rd_cell (HA.out.keep hz.out.2) hlt
        obtain ⟨b2, o2, hB, cb⟩ := rd_cell (HB.out.keep hz.out.2) hlt
        subst hA hB
        obtain ⟨x, hx⟩ : ∃ x, x = xs.getD k 0 := ⟨_, rfl⟩
        obtain ⟨y, hy⟩ : ∃ y, y = ys.getD k 0 := ⟨_, rfl⟩
        rw [← hx] at ca
        rw [← hy] at cb
        by_cases hxy : x = y
        · subst hxy
          have HZ := hid (show (∀ j, j < k + 1 → xs.getD j 0 = ys.getD j 0) ∧ Below w.heap.size w wr from ⟨fun j hj => by
            rcases Nat.lt_or_ge j k with h | h
            · exact hz.out.1 j h
            · obtain rfl : j = k := by omega
              rw [← hx, ← hy], hz.out.2⟩)
          clear hx hy hz
          go_wp2_with fail
          go_quiet (fail)
          go_wp2_with fail
          go_roundw
          case rel => exact ⟨k + 1, by omega, by go_num, hid ⟨HZ.out.1, below_drew0 HZ.out.2 _⟩⟩
          case measure => simp [intOf]; omega
        · have e1 : ((x : Int) == (y : Int)) = false := by rw [beq_eq_false_iff_ne]; omega
          have e2 : ((x : Int) != (y : Int)) = true := by simp; omega
          have HN := hid (show xs ≠ ys from fun e => hxy (by rw [hx, hy, e]))
          clear hx hy hxy
          go_wp2_with fail
          go_quiet (fail)
          go_wp2_with fail
          go_ret
          exact ⟨by rw [decide_eq_false HN.out]; rfl, below_drew0 hz.out.2 _⟩
      · go_wp2_with fail
        go_ret
        refine ⟨?_, hz.out.2⟩
        have : xs = ys := ext_getD (by rw [HA.out.1, HB.out.1]) fun j => by
          rcases Nat.lt_or_ge j k with h | h
          · exact hz.out.1 j h
          · have := HA.out.1
            have := HB.out.1
            simp [List.getD, List.getElem?_eq_none (by omega : xs.length ≤ j), List.getElem?_eq_none (by omega : ys.length ≤ j)]
        rw [decide_eq_true this]
        rfl
  · have e1 : ((n : Int) == (m : Int)) = false := by rw [beq_eq_false_iff_ne]; omega
    have e2 : ((n : Int) != (m : Int)) = true := by simp; omega
    have HN := hid (show xs ≠ ys from fun e => hnm (by rw [← ha.1, ← hb.1, e]))
    clear ha hb hnm
    go_enter Try.func88, Try.ntmps88
    go_wp2_with fail
    go_ret
    exact ⟨by rw [decide_eq_false HN.out]; rfl, Below.refl _ _⟩

end Go.Proofs.Ytobnbeeaiidpcaa
