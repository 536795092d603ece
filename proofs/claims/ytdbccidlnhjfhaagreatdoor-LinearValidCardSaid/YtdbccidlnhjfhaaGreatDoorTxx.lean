/- Txx. -/
import Derived.Test.YtdbccidlnhjfhaaGreatDoorRefT
import Derived.Test.YtdbccidlnhjfhaaGreatDoorGcd
namespace Go.Proofs.YtdbccidlnhjfhaaGreatDoor
open Go.RowKit
set_option maxRecDepth 100000
def val10 : List Nat → Nat
  | [] => 0
  | x :: xs => x + 10 * val10 xs
theorem dgF_more_t (n : Nat) : ∀ f, n ≤ f → ddF f n = ddF n n := by
  induction n using Nat.strongRecOn with
  | ind n ih =>
    intro f hf
    cases f with
    | zero => have : n = 0 := by omega
              subst this; rfl
    | succ f =>
      cases n with
      | zero => simp [ddF]
      | succ n =>
        simp only [ddF, Nat.add_one_ne_zero, if_false]
        have hlt : (n + 1) / 10 < n + 1 := Nat.div_lt_self (by omega) (by omega)
        rw [ih _ hlt f (by omega), ih _ hlt n (by omega)]
theorem dg_zero_t : dd 0 = [] := rfl
theorem dg_pos_t {n : Nat} (h : 0 < n) : dd n = n % 10 :: dd (n / 10) := by
  obtain ⟨m, rfl⟩ : ∃ m, n = m + 1 := ⟨n - 1, by omega⟩
  have hlt : (m + 1) / 10 < m + 1 := Nat.div_lt_self (by omega) (by omega)
  show ddF (m + 1) (m + 1) = _
  simp only [ddF, Nat.add_one_ne_zero, if_false]
  rw [dgF_more_t _ m (by omega)]
  rfl
theorem val_dg_t (n : Nat) : val10 (dd n) = n := by
  induction n using Nat.strongRecOn with
  | ind n ih =>
    rcases Nat.eq_zero_or_pos n with rfl | h
    · rfl
    · rw [dg_pos_t h, val10, ih _ (Nat.div_lt_self h (by omega))]
      omega
theorem dg_nil_iff_t {n : Nat} : dd n = [] ↔ n = 0 := ⟨fun h => by rw [← val_dg_t n, h]; rfl, fun h => by rw [h]; rfl⟩
theorem dg_len_le_t {n k : Nat} (h : n < 10 ^ k) : (dd n).length ≤ k := by
  induction k generalizing n with
  | zero => have : n = 0 := by simpa using h
            subst this; simp [dg_zero_t]
  | succ k ih =>
    rcases Nat.eq_zero_or_pos n with rfl | hp
    · simp [dg_zero_t]
    · rw [dg_pos_t hp]
      have : n / 10 < 10 ^ k := by
        rw [Nat.div_lt_iff_lt_mul (by omega)]
        rwa [Nat.pow_succ] at h
      have := ih this
      simp
      omega
def BRd (w : World) (A : Option Addr) (n c : Nat) (l : List UInt8) : Prop :=
  l.length = n ∧ n ≤ c ∧ c ≤ 9223372036854775807 ∧ (0 < n → ∃ b o, A = some ⟨b, o, none⟩ ∧ b < w.heap.size ∧ ∀ j, j < n → w.cell? ⟨b, o + j, none⟩ = some (bc (l.getD j 0)))
theorem ch_nat {d : Nat} (h : d < 10) : (ch d).toNat = 48 + d := by unfold ch; rw [UInt8.toNat_ofNat']; omega
def tx (n : Nat) : List UInt8 := if n = 0 then [48] else ((dd n).map ch).reverse
def RetStr (w : World) (l : List UInt8) (e : Ending) (w' : World) : Prop := e = .returned (.string ⟨l.toArray⟩) ∧ Below w.heap.size w w'
theorem conv_bytes {w : World} {A : Option Addr} {n c : Nat} {l : List UInt8} (h : BRd w A n c l) (hn : 0 < n) : (convert 151 9 (.slice A n c)).run Tryz.prog w = .ok (.string ⟨l.toArray⟩) w := by
  obtain ⟨h1, h2, h3, h4⟩ := h
  obtain ⟨b, o, hA, hlt, hc⟩ := h4 hn
  subst hA h1
  refine run_convert_bytes_back w _ _ 5 ⟨b, o, none⟩ c l Tryz.underlying151 Tryz.underlying5 Tryz.underlying9 fun j hj => ?_
  have h5 := hc j hj
  have e : (⟨b, o, none⟩ : Addr).add j = ⟨b, o + j, none⟩ := by unfold Addr.add; split <;> simp_all
  rw [e, h5]
  simp [bc, List.getD, List.getElem?_eq_getElem hj]
def RTxt (w : World) (x X : Nat) (s : ByteArray) (A : Option Addr) (p c : Nat) (wr : World) : Prop := ∃ ds, Rd wr A p c (dg X) ∧ dd x = ds ++ dd X ∧ s = bs (ds.map ch).reverse ∧ Below w.heap.size w wr
theorem ten_rd (w : World) : Rd (w.alloc (.cells #[.int .u32 10] 127)) (some ⟨w.heap.size, 0, none⟩) 1 1 [10] := one_rd w 10 (by omega) 10 rfl
theorem rtxt_pos {w wr : World} {x X : Nat} {s : ByteArray} {A : Option Addr} {p c : Nat} (h : RTxt w x X s A p c wr) (hp : 0 < p) : 0 < X := by
  obtain ⟨ds, h1, _, _, _⟩ := h
  rcases Nat.eq_zero_or_pos X with h0 | h0
  · have := h1.1; rw [h0] at this; simp [dg_zero] at this; omega
  · exact h0
theorem rtxt_next {x X : Nat} {ds : List Nat} (h : dd x = ds ++ dd X) (hX : 0 < X) : dd x = (ds ++ [X % 10]) ++ dd (X / 10) := by
  rw [h, dg_pos_t hX, List.append_assoc]; rfl
theorem bs_cons (ds : List Nat) (d : Nat) : (⟨#[ch d]⟩ : ByteArray) ++ bs (ds.map ch).reverse = bs ((ds ++ [d]).map ch).reverse := by
  unfold bs
  apply ByteArray.ext
  simp [ByteArray.data_append]
theorem dd_len {x n : Nat} (h : (dg x).length ≤ n) : (dd x).length ≤ 10 * n := by
  refine dg_len_le_t ?_
  have h1 := dg_len_lt x
  have h2 := Nat.pow_le_pow_right (n := 4294967296) (by omega) h
  have h3 : 4294967296 ^ n ≤ (10 ^ 10) ^ n := Nat.pow_le_pow_left (by omega) n
  rw [← Nat.pow_mul] at h3
  omega
theorem bs_size (l : List UInt8) : (bs l).size = l.length := by simp [bs, ByteArray.size]
theorem bs_nonempty {l : List UInt8} (h : l ≠ []) : (bs l).toList.isEmpty = false := by
  unfold bs
  rw [ByteArray.toList_mk]
  cases l with
  | nil => exact absurd rfl h
  | cons a l => rfl
theorem rem_digit (X : Nat) : (remD X 10).getD 0 0 = X % 10 := by
  unfold remD
  rw [if_neg (by omega)]
  rcases Nat.eq_zero_or_pos (X % 10) with h | h
  · rw [h]; rfl
  · rw [dg_pos h]
    simp
    omega
theorem one_conv (w : World) (b : UInt8) (z : Int) (hz : z = (b.toNat : Int)) : (convert 151 9 (.slice (some ⟨w.heap.size, 0, none⟩) 1 1)).run Tryz.prog (w.alloc (.cells #[.int .u8 z] 5)) = .ok (.string ⟨#[b]⟩) (w.alloc (.cells #[.int .u8 z] 5)) := by
  subst hz
  have h := Blk.new w [bc b] 5
  exact conv_bytes (l := [b]) ⟨rfl, Nat.le_refl _, by omega, fun _ => ⟨w.heap.size, 0, rfl, Blk.lt h, fun j hj => by
    obtain rfl : j = 0 := by omega
    exact Blk.cell h 0⟩⟩ (by omega)
set_option maxHeartbeats 2000000 in
theorem rtext_any (A : Option Addr) (n c : Nat) (xs : List Nat) (w : World) (h : Rd w A n c xs) (hn : n ≤ 1099511627776) :
    Calls Tryz.prog 105 #[.slice A n c] w (RetStr w (tx (val xs))) := by
  have ta := hid (rtrim_any A n c xs w h (by omega))
  have la := dg_len_small h.2.2.2.1
  rw [h.1] at la
  obtain ⟨x, hx⟩ : ∃ x, x = val xs := ⟨_, rfl⟩
  rw [← hx] at ta la ⊢
  clear h hx
  go_enter Tryz.func105, Tryz.ntmps105
  go_wp2_with fail
  refine (ta.out).mono ?_
  rintro e w1 ⟨v1, rfl, ⟨A1, p, c1, rfl, d1⟩, b1⟩
  have hpn : p ≤ n := by have := d1.1; omega
  have R0 := hid (show RTxt w x x ⟨#[]⟩ A1 p c1 w1 from ⟨[], d1, rfl, rfl, b1⟩)
  clear d1 b1 ta
  go_wp2_with fail
  go_loopg [0, 3] x (fun X s0 s3 wr => ∃ (A : Option Addr) (p c : Nat) (s : ByteArray), p ≤ n ∧ s.size ≤ 10995116277760 ∧ s0 = .slice A p c ∧ s3 = .string s ∧ Hid (RTxt w x X s A p c wr))
  case atStart => exact ⟨A1, p, c1, _, hpn, by show (0 : Nat) ≤ _; omega, rfl, rfl, R0⟩
  case round =>
    clear R0
    obtain ⟨A2, p2, c2, s, hp2, hss, rfl, rfl, hz⟩ := hrel
    obtain ⟨X, rfl⟩ : ∃ X, X = gk := ⟨_, rfl⟩
    have l1 := hz.out.choose_spec.1.2.1
    have l2 := hz.out.choose_spec.1.2.2.1
    rcases Nat.eq_zero_or_pos p2 with rfl | hp0
    · obtain ⟨ds, r1, r2, r3, r4⟩ := hz.out
      have hX0 : X = 0 := dg_nil_iff.1 (List.eq_nil_of_length_eq_zero r1.1)
      rw [hX0, dg_zero_t, List.append_nil] at r2
      rw [← r2] at r3
      have B4 := hid r4
      by_cases hx0 : x = 0
      · have hs : s = ⟨#[]⟩ := by rw [r3, hx0]; rfl
        subst hs
        clear r1 r2 r3 r4 hX0 hz
        go_wp2_with fail
        go_ret
        exact ⟨by rw [hx0]; rfl, B4.out⟩
      · have hne : s.toList.isEmpty = false := by
          rw [r3]
          exact bs_nonempty (by simp; exact fun e => hx0 (dg_nil_iff_t.1 e))
        have R3 := hid r3
        clear r1 r2 r3 r4 hX0 hz
        go_wp2_with fail
        go_ret
        refine ⟨?_, B4.out⟩
        rw [R3.out]
        unfold tx
        rw [if_neg hx0]
        rfl
    · have hX := hid (rtxt_pos hz.out hp0)
      have dm := hid (rdivMod_any A2 _ p2 c2 1 1 (dg X) [10] _ (hz.out.choose_spec.1.keep ((Below.refl _ _).alloc (Nat.le_refl _) _)) (ten_rd wr) (by omega) (by omega))
      rw [val_dg, show val [10] = 10 from rfl] at dm
      go_wp2_with fail
      refine (dm.out).mono ?_
      rintro e w3 ⟨v, u, rfl, ⟨A3, p3, c3, rfl, q1⟩, ⟨A4, p4, c4, rfl, q2⟩, q3⟩
      have dgt := hid (rdigit_any A4 p4 c4 _ 0 w3 q2)
      have Q := hid (show Rd w3 A3 p3 c3 (quoD X 10) ∧ Below wr.heap.size (wr.alloc (.cells #[.int .u32 10] 127)) w3 from ⟨q1, q3.mono (by simp)⟩)
      rw [rem_digit] at dgt
      clear q1 q2 q3 dm
      go_wp2_with fail
      refine (dgt.out).mono ?_
      rintro e w' ⟨rfl, rfl⟩
      have hcv := one_conv w3 (ch (X % 10)) (48 + (X : Int) % 10) (by rw [ch_nat (Nat.mod_lt _ (by omega))]; omega)
      go_wp2_with fail
      go_roundg (X / 10)
      case measure => exact Nat.div_lt_self hX.out (by omega)
      case rel =>
        obtain ⟨ds, r1, r2, r3, r4⟩ := hz.out
        have hq : quoD X 10 = dg (X / 10) := by unfold quoD; rw [if_neg (by omega)]
        rw [hq] at Q
        have N := rtxt_next r2 hX.out (X := X)
        have hs3 := bs_cons ds (X % 10)
        rw [← r3] at hs3
        exact ⟨A3, p3, c3, _, by have := Q.out.1.1; have := r1.1; have := dg_len_mono (Nat.div_le_self X 10); omega, by rw [hs3, bs_size]; have := dd_len la; rw [N] at this; simp at this ⊢; omega, rfl, rfl, hid ⟨ds ++ [X % 10], Q.out.1.keep ((Below.refl _ _).alloc (Nat.le_refl _) _), N, hs3, (r4.trans (((Below.refl wr.heap.size wr).alloc (Nat.le_refl _) _).trans Q.out.2 |>.mono r4.size)).alloc (Nat.le_trans r4.size (Nat.le_trans (by simp) Q.out.2.size)) _⟩⟩
end Go.Proofs.YtdbccidlnhjfhaaGreatDoor
