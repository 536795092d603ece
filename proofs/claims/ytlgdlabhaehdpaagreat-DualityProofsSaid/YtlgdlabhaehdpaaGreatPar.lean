/- Reading decimal texts; contracts: isText, readChunk of package natural. -/
import Derived.Test.YtlgdlabhaehdpaaGreatTxt
namespace Go.Proofs.YtlgdlabhaehdpaaGreat
open Go.RowKit

def isDig (c : UInt8) : Bool := decide (48 ≤ c.toNat ∧ c.toNat ≤ 57)
/-- The text of a value, of at most 4000 bytes. -/
def isT (l : List UInt8) : Bool := !l.isEmpty && decide (l.length ≤ 4000) && !(decide (1 < l.length) && decide (l.getD 0 0 = 48)) && l.all isDig
/-- The value of a text. -/
def numT (l : List UInt8) : Nat := l.foldl (fun a c => 10 * a + (c.toNat - 48)) 0
theorem numT_snoc (l : List UInt8) (c : UInt8) : numT (l ++ [c]) = 10 * numT l + (c.toNat - 48) := by simp [numT]
theorem numT_from (l : List UInt8) : ∀ a, l.foldl (fun a c => 10 * a + (c.toNat - 48)) a = a * 10 ^ l.length + numT l := by
  induction l with
  | nil => intro a; simp [numT]
  | cons c l ih =>
    intro a
    have h1 := ih (10 * a + (c.toNat - 48))
    have h2 := ih (10 * 0 + (c.toNat - 48))
    unfold numT
    simp only [List.foldl_cons, List.length_cons, Nat.pow_succ]
    rw [h1, h2, Nat.add_mul, Nat.add_mul, Nat.mul_zero, Nat.zero_mul, Nat.mul_comm 10 a, Nat.mul_assoc, Nat.mul_comm 10 (10 ^ l.length)]
    omega
theorem numT_append (l m : List UInt8) : numT (l ++ m) = numT l * 10 ^ m.length + numT m := by
  have : numT (l ++ m) = m.foldl (fun a c => 10 * a + (c.toNat - 48)) (numT l) := by unfold numT; rw [List.foldl_append]
  rw [this, numT_from]
theorem numT_cons (c : UInt8) (l : List UInt8) : numT (c :: l) = (c.toNat - 48) * 10 ^ l.length + numT l := by
  have := numT_append [c] l
  simpa [numT] using this
theorem numT_lt {l : List UInt8} (h : l.all isDig = true) : numT l < 10 ^ l.length := by
  induction l with
  | nil => simp [numT]
  | cons c l ih =>
    rw [List.all_cons, Bool.and_eq_true] at h
    have h1 := ih h.2
    have h2 := h.1
    simp [isDig] at h2
    rw [numT_cons, List.length_cons, Nat.pow_succ]
    have := Nat.mul_le_mul_right (10 ^ l.length) (show c.toNat - 48 ≤ 9 by omega)
    omega

theorem all_take_succ {l : List UInt8} {k : Nat} (hk : k < l.length) (h : (l.take k).all isDig = true) (hc : isDig l[k] = true) : (l.take (k + 1)).all isDig = true := by
  rw [List.take_succ_eq_append_getElem hk, List.all_append, h]
  simp [hc]
theorem all_false {l : List UInt8} {k : Nat} (hk : k < l.length) (hc : isDig l[k] = false) : l.all isDig = false := by
  rw [List.all_eq_false]
  exact ⟨l[k], List.getElem_mem hk, by rw [hc]; decide⟩

theorem ret_bool {a b : Bool} (h : b = a) : Ending.returned (.bool a) = .returned (.bool b) := by rw [h]
theorem isT_all {l : List UInt8} (h0 : 0 < l.length) (h1 : l.length ≤ 4000) (h2 : ¬ (1 < l.length ∧ l.getD 0 0 = 48)) : isT l = l.all isDig := by
  unfold isT
  have e : l.isEmpty = false := by
    cases l with
    | nil => simp at h0
    | cons a l => rfl
  rw [e, decide_eq_true h1]
  have e2 : (decide (1 < l.length) && decide (l.getD 0 0 = 48)) = false := by
    rw [← Bool.decide_and]
    exact decide_eq_false h2
  rw [e2]
  simp

end Go.Proofs.YtlgdlabhaehdpaaGreat
