/- Plain mathematics: natural numbers as lists of digits in base 2^32, least significant first. -/
import Derived.WalkKit
namespace Go.Proofs.YtdbccidlnhjfhaaGreatDoor
theorem hid {p : Prop} (h : p) : RowKit.Hid p := h
def val : List Nat → Nat
  | [] => 0
  | x :: xs => x + 4294967296 * val xs
def dgF : Nat → Nat → List Nat
  | 0, _ => []
  | f + 1, n => if n = 0 then [] else n % 4294967296 :: dgF f (n / 4294967296)
def dg (n : Nat) : List Nat := dgF n n
def Digs (xs : List Nat) : Prop := ∀ x ∈ xs, x < 4294967296
theorem Digs.nil : Digs [] := fun _ h => by cases h
theorem Digs.cons {x : Nat} {xs : List Nat} (hx : x < 4294967296) (h : Digs xs) : Digs (x :: xs) := fun y hy => by
  rcases List.mem_cons.1 hy with rfl | hy
  · exact hx
  · exact h y hy
theorem Digs.head {x : Nat} {xs : List Nat} (h : Digs (x :: xs)) : x < 4294967296 := h x (by simp)
theorem Digs.tail {x : Nat} {xs : List Nat} (h : Digs (x :: xs)) : Digs xs := fun y hy => h y (by simp [hy])
theorem Digs.append {xs ys : List Nat} (h : Digs xs) (k : Digs ys) : Digs (xs ++ ys) := fun y hy => by
  rcases List.mem_append.1 hy with hy | hy
  · exact h y hy
  · exact k y hy
theorem Digs.take {xs : List Nat} (h : Digs xs) (n : Nat) : Digs (xs.take n) := fun y hy => h y (List.mem_of_mem_take hy)
theorem Digs.drop {xs : List Nat} (h : Digs xs) (n : Nat) : Digs (xs.drop n) := fun y hy => h y (List.mem_of_mem_drop hy)
theorem Digs.get {xs : List Nat} (h : Digs xs) (n : Nat) : xs.getD n 0 < 4294967296 := by
  rw [List.getD_eq_getElem?_getD]
  rcases hx : xs[n]? with _ | x
  · simp
  · exact h x (List.mem_of_getElem? hx)
theorem Digs.zeros (n : Nat) : Digs (List.replicate n 0) := fun y hy => by
  have := List.eq_of_mem_replicate hy
  omega
theorem val_append (xs ys : List Nat) : val (xs ++ ys) = val xs + 4294967296 ^ xs.length * val ys := by
  induction xs with
  | nil => simp [val]
  | cons x xs ih =>
    simp only [List.cons_append, val, ih, List.length_cons, Nat.pow_succ, Nat.mul_add]
    rw [Nat.mul_comm (4294967296 ^ xs.length) 4294967296, Nat.mul_assoc]
    omega
theorem val_snoc (xs : List Nat) (y : Nat) : val (xs ++ [y]) = val xs + 4294967296 ^ xs.length * y := by
  rw [val_append]; simp [val]
theorem val_lt {xs : List Nat} (h : Digs xs) : val xs < 4294967296 ^ xs.length := by
  induction xs with
  | nil => simp [val]
  | cons x xs ih =>
    have h1 := h.head
    have h2 := ih h.tail
    simp only [val, List.length_cons, Nat.pow_succ]
    have : 4294967296 * (val xs + 1) ≤ 4294967296 * 4294967296 ^ xs.length := Nat.mul_le_mul_left _ h2
    rw [Nat.mul_comm (4294967296 ^ xs.length)]
    omega
theorem val_zeros (n : Nat) : val (List.replicate n 0) = 0 := by
  induction n with
  | zero => rfl
  | succ n ih => simp [List.replicate_succ, val, ih]
theorem val_take_succ (xs : List Nat) (k : Nat) : val (xs.take (k + 1)) = val (xs.take k) + 4294967296 ^ k * xs.getD k 0 := by
  rcases Nat.lt_or_ge k xs.length with h | h
  · rw [List.take_succ_eq_append_getElem h, val_snoc]
    simp [List.getD, List.getElem?_eq_getElem h, Nat.min_eq_left (Nat.le_of_lt h)]
  · rw [List.take_of_length_le (by omega), List.take_of_length_le h]
    simp [List.getD, List.getElem?_eq_none h]
theorem ext_getD {l k : List Nat} (h : l.length = k.length) (hj : ∀ j, l.getD j 0 = k.getD j 0) : l = k := by
  apply List.ext_getElem h
  intro i h1 h2
  have := hj i
  simpa [List.getD, List.getElem?_eq_getElem h1, List.getElem?_eq_getElem h2] using this
theorem dgF_more (n : Nat) : ∀ f, n ≤ f → dgF f n = dgF n n := by
  induction n using Nat.strongRecOn with
  | ind n ih =>
    intro f hf
    cases f with
    | zero => have : n = 0 := by omega
              subst this; rfl
    | succ f =>
      cases n with
      | zero => simp [dgF]
      | succ n =>
        simp only [dgF, Nat.add_one_ne_zero, if_false]
        have hlt : (n + 1) / 4294967296 < n + 1 := Nat.div_lt_self (by omega) (by omega)
        rw [ih _ hlt f (by omega), ih _ hlt n (by omega)]
theorem dg_zero : dg 0 = [] := rfl
theorem dg_pos {n : Nat} (h : 0 < n) : dg n = n % 4294967296 :: dg (n / 4294967296) := by
  obtain ⟨m, rfl⟩ : ∃ m, n = m + 1 := ⟨n - 1, by omega⟩
  have hlt : (m + 1) / 4294967296 < m + 1 := Nat.div_lt_self (by omega) (by omega)
  show dgF (m + 1) (m + 1) = _
  simp only [dgF, Nat.add_one_ne_zero, if_false]
  rw [dgF_more _ m (by omega)]
  rfl
theorem digs_dg (n : Nat) : Digs (dg n) := by
  induction n using Nat.strongRecOn with
  | ind n ih =>
    rcases Nat.eq_zero_or_pos n with rfl | h
    · exact Digs.nil
    · rw [dg_pos h]
      exact Digs.cons (Nat.mod_lt _ (by omega)) (ih _ (Nat.div_lt_self h (by omega)))
theorem val_dg (n : Nat) : val (dg n) = n := by
  induction n using Nat.strongRecOn with
  | ind n ih =>
    rcases Nat.eq_zero_or_pos n with rfl | h
    · rfl
    · rw [dg_pos h, val, ih _ (Nat.div_lt_self h (by omega))]
      omega
theorem dg_inj {m n : Nat} (h : dg m = dg n) : m = n := by rw [← val_dg m, h, val_dg]
theorem dg_nil_iff {n : Nat} : dg n = [] ↔ n = 0 := ⟨fun h => by rw [← val_dg n, h]; rfl, fun h => by rw [h]; rfl⟩
theorem dg_len_pos {n : Nat} (h : 0 < n) : 0 < (dg n).length := by rw [dg_pos h]; simp
theorem dg_len_le {n k : Nat} (h : n < 4294967296 ^ k) : (dg n).length ≤ k := by
  induction k generalizing n with
  | zero => have : n = 0 := by simpa using h
            subst this; simp [dg_zero]
  | succ k ih =>
    rcases Nat.eq_zero_or_pos n with rfl | hp
    · simp [dg_zero]
    · rw [dg_pos hp]
      have : n / 4294967296 < 4294967296 ^ k := by
        rw [Nat.div_lt_iff_lt_mul (by omega)]
        rwa [Nat.pow_succ] at h
      have := ih this
      simp
      omega
theorem dg_len_lt (n : Nat) : n < 4294967296 ^ (dg n).length := by
  have := val_lt (digs_dg n)
  rwa [val_dg] at this
theorem dg_len_ge {n k : Nat} (h : 4294967296 ^ k ≤ n) : k < (dg n).length := by
  rcases Nat.lt_or_ge k (dg n).length with h1 | h1
  · exact h1
  · have h2 := dg_len_lt n
    have := Nat.pow_le_pow_right (n := 4294967296) (by omega) h1
    omega
theorem dg_len_mono {m n : Nat} (h : m ≤ n) : (dg m).length ≤ (dg n).length := dg_len_le (Nat.lt_of_le_of_lt h (dg_len_lt n))
def Full (xs : List Nat) : Prop := xs = [] ∨ xs.getD (xs.length - 1) 0 ≠ 0
theorem full_lower {xs : List Nat} (h : xs.getD (xs.length - 1) 0 ≠ 0) : 4294967296 ^ (xs.length - 1) ≤ val xs := by
  have hl : 0 < xs.length := by
    rcases Nat.eq_zero_or_pos xs.length with h0 | h0
    · rw [List.eq_nil_of_length_eq_zero h0] at h; simp at h
    · exact h0
  have := val_take_succ xs (xs.length - 1)
  rw [List.take_of_length_le (by omega)] at this
  rw [this]
  have h1 : 1 ≤ xs.getD (xs.length - 1) 0 := by omega
  have := Nat.mul_le_mul_left (4294967296 ^ (xs.length - 1)) h1
  omega
theorem val_eq_digs {xs ys : List Nat} (hx : Digs xs) (hy : Digs ys) (hl : xs.length = ys.length) (h : val xs = val ys) : xs = ys := by
  induction xs generalizing ys with
  | nil => cases ys with
    | nil => rfl
    | cons y ys => simp at hl
  | cons x xs ih =>
    cases ys with
    | nil => simp at hl
    | cons y ys =>
      have h1 := hx.head
      have h2 := hy.head
      simp only [val] at h
      have : x = y := by omega
      subst this
      rw [ih hx.tail hy.tail (by simpa using hl) (by omega)]
theorem dg_of_full {xs : List Nat} (h : Digs xs) (hf : Full xs) : dg (val xs) = xs := by
  rcases hf with rfl | hf
  · rfl
  · have h1 := full_lower hf
    have h2 := dg_len_ge h1
    have h3 := dg_len_le (val_lt h)
    exact val_eq_digs (digs_dg _) h (by omega) (val_dg _)
theorem full_dg (n : Nat) : Full (dg n) := by
  induction n using Nat.strongRecOn with
  | ind n ih =>
    rcases Nat.eq_zero_or_pos n with rfl | h
    · left; rfl
    · right
      have hk := ih (n / 4294967296) (Nat.div_lt_self h (by omega))
      rw [dg_pos h]
      rcases hk with hk | hk
      · rw [hk]
        have : n / 4294967296 = 0 := dg_nil_iff.1 hk
        simp
        omega
      · have hl : 0 < (dg (n / 4294967296)).length := by
          rcases Nat.eq_zero_or_pos (dg (n / 4294967296)).length with h0 | h0
          · rw [List.eq_nil_of_length_eq_zero h0] at hk; simp at hk
          · exact h0
        obtain ⟨k, hk2⟩ : ∃ k, (dg (n / 4294967296)).length = k + 1 := ⟨_, (by omega : _ = ((dg (n / 4294967296)).length - 1) + 1)⟩
        rw [hk2] at hk
        simp only [List.length_cons, hk2]
        simpa using hk
theorem dg_take {xs : List Nat} {k : Nat} (hz : ∀ j, k ≤ j → xs.getD j 0 = 0) : val (xs.take k) = val xs := by
  have : ∀ m, val (xs.take (k + m)) = val (xs.take k) := by
    intro m
    induction m with
    | zero => rfl
    | succ m ih => rw [← Nat.add_assoc, val_take_succ, ih, hz (k + m) (by omega)]; simp
  have h1 := this xs.length
  rw [List.take_of_length_le (by omega)] at h1
  exact h1.symm
theorem take_is_dg {xs : List Nat} {k : Nat} (h : Digs xs) (hk : k ≤ xs.length) (hz : ∀ j, k ≤ j → xs.getD j 0 = 0) (hf : k = 0 ∨ xs.getD (k - 1) 0 ≠ 0) : xs.take k = dg (val xs) := by
  rw [← dg_take hz, dg_of_full (h.take k)]
  rcases hf with rfl | hf
  · left; simp
  · rcases Nat.eq_zero_or_pos k with rfl | hp
    · left; simp
    · right
      have hlen : (xs.take k).length = k := by simp [hk]
      rw [hlen]
      rw [List.getD_eq_getElem?_getD] at hf ⊢
      rw [List.getElem?_take, if_pos (by omega)]
      exact hf
theorem dg_getD_zero {xs : List Nat} : ∀ j, (dg (val xs)).length ≤ j → xs.getD j 0 = 0 := by
  intro j hj
  have h1 := dg_len_lt (val xs)
  rcases Nat.eq_zero_or_pos (xs.getD j 0) with h0 | h0
  · exact h0
  · exfalso
    have hjl : j < xs.length := by
      rcases Nat.lt_or_ge j xs.length with h | h
      · exact h
      · simp [List.getD, List.getElem?_eq_none h] at h0
    have h2 := val_take_succ xs j
    have h3 : val (xs.take (j + 1)) ≤ val xs := by
      have := val_append (xs.take (j + 1)) (xs.drop (j + 1))
      rw [List.take_append_drop] at this
      omega
    have h4 : 4294967296 ^ j * 1 ≤ 4294967296 ^ j * xs.getD j 0 := Nat.mul_le_mul_left _ h0
    have h5 := Nat.pow_le_pow_right (n := 4294967296) (by omega) hj
    omega
end Go.Proofs.YtdbccidlnhjfhaaGreatDoor
