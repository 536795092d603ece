/- Contracts: Text of the specification of layer 1. -/
import Derived.Test.YtlgdlabhaehdpaaGreatTxt
import Derived.Test.YtlgdlabhaehdpaaGreatRef9
namespace Go.Proofs.YtlgdlabhaehdpaaGreat
open Go.RowKit

def bs (l : List UInt8) : ByteArray := ⟨l.toArray⟩
def RTxt (w : World) (x X : Nat) (s : ByteArray) (A : Option Addr) (p c : Nat) (wr : World) : Prop := ∃ ds, Rd wr A p c (dg X) ∧ dd x = ds ++ dd X ∧ s = bs (ds.map ch).reverse ∧ Below w.heap.size w wr
theorem ten_rd (w : World) : Rd (w.alloc (.cells #[.int .u32 10] 112)) (some ⟨w.heap.size, 0, none⟩) 1 1 [10] := one_rd w 10 (by omega) 10 rfl

theorem rtxt_pos {w wr : World} {x X : Nat} {s : ByteArray} {A : Option Addr} {p c : Nat} (h : RTxt w x X s A p c wr) (hp : 0 < p) : 0 < X := by
  obtain ⟨ds, h1, _, _, _⟩ := h
  rcases Nat.eq_zero_or_pos X with h0 | h0
  · have := h1.1; rw [h0] at this; simp [dg_zero] at this; omega
  · exact h0
theorem rtxt_next {x X : Nat} {ds : List Nat} (h : dd x = ds ++ dd X) (hX : 0 < X) : dd x = (ds ++ [X % 10]) ++ dd (X / 10) := by
  rw [h, dg_pos_t hX, List.append_assoc]; rfl
theorem bs_cons (ds : List Nat) (d : Nat) : (⟨#[ch d]⟩ : ByteArray) ++ bs (ds.map ch).reverse = bs ((ds ++ [d]).map ch).reverse := by
  unfold bs
  apply ByteArray.ext
  simp [ByteArray.data_append]
theorem dd_len {x n : Nat} (h : (dg x).length ≤ n) : (dd x).length ≤ 10 * n := by
  refine dg_len_le_t ?_
  have h1 := dg_len_lt x
  have h2 := Nat.pow_le_pow_right (n := 4294967296) (by omega) h
  have h3 : 4294967296 ^ n ≤ (10 ^ 10) ^ n := Nat.pow_le_pow_left (by omega) n
  rw [← Nat.pow_mul] at h3
  omega
theorem bs_size (l : List UInt8) : (bs l).size = l.length := by simp [bs, ByteArray.size]
theorem bs_nonempty {l : List UInt8} (h : l ≠ []) : (bs l).toList.isEmpty = false := by
  unfold bs
  rw [ByteArray.toList_mk]
  cases l with
  | nil => exact absurd rfl h
  | cons a l => rfl
theorem rem_digit (X : Nat) : (remD X 10).getD 0 0 = X % 10 := by
  unfold remD
  rw [if_neg (by omega)]
  rcases Nat.eq_zero_or_pos (X % 10) with h | h
  · rw [h]; rfl
  · rw [dg_pos h]
    simp
    omega
end Go.Proofs.YtlgdlabhaehdpaaGreat
