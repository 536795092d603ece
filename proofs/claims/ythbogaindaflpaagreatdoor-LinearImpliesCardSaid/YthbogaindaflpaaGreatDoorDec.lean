/- Plain mathematics: natural numbers as lists of digits in base 10, least significant first. -/
import Derived.Test.YthbogaindaflpaaGreatDoorDig
namespace Go.Proofs.YthbogaindaflpaaGreatDoor

/-- The value of a list of digits. -/
def val10 : List Nat → Nat
  | [] => 0
  | x :: xs => x + 10 * val10 xs

/-- The digits of a value, without leading zeros; the first argument is fuel. -/
def ddF : Nat → Nat → List Nat
  | 0, _ => []
  | f + 1, n => if n = 0 then [] else n % 10 :: ddF f (n / 10)
def dd (n : Nat) : List Nat := ddF n n

def Decs_t (xs : List Nat) : Prop := ∀ x ∈ xs, x < 10

theorem Decs_t.nil : Decs_t [] := fun _ h => by cases h
theorem Decs_t.cons {x : Nat} {xs : List Nat} (hx : x < 10) (h : Decs_t xs) : Decs_t (x :: xs) := fun y hy => by
  rcases List.mem_cons.1 hy with rfl | hy
  · exact hx
  · exact h y hy
theorem Decs_t.head {x : Nat} {xs : List Nat} (h : Decs_t (x :: xs)) : x < 10 := h x (by simp)
theorem Decs_t.tail {x : Nat} {xs : List Nat} (h : Decs_t (x :: xs)) : Decs_t xs := fun y hy => h y (by simp [hy])
theorem Decs_t.append {xs ys : List Nat} (h : Decs_t xs) (k : Decs_t ys) : Decs_t (xs ++ ys) := fun y hy => by
  rcases List.mem_append.1 hy with hy | hy
  · exact h y hy
  · exact k y hy
theorem Decs_t.take {xs : List Nat} (h : Decs_t xs) (n : Nat) : Decs_t (xs.take n) := fun y hy => h y (List.mem_of_mem_take hy)
theorem Decs_t.drop {xs : List Nat} (h : Decs_t xs) (n : Nat) : Decs_t (xs.drop n) := fun y hy => h y (List.mem_of_mem_drop hy)
theorem Decs_t.get {xs : List Nat} (h : Decs_t xs) (n : Nat) : xs.getD n 0 < 10 := by
  rw [List.getD_eq_getElem?_getD]
  rcases hx : xs[n]? with _ | x
  · simp
  · exact h x (List.mem_of_getElem? hx)
theorem Decs_t.zeros (n : Nat) : Decs_t (List.replicate n 0) := fun y hy => by
  have := List.eq_of_mem_replicate hy
  omega

theorem val_append_t (xs ys : List Nat) : val10 (xs ++ ys) = val10 xs + 10 ^ xs.length * val10 ys := by
  induction xs with
  | nil => simp [val10]
  | cons x xs ih =>
    simp only [List.cons_append, val10, ih, List.length_cons, Nat.pow_succ, Nat.mul_add]
    rw [Nat.mul_comm (10 ^ xs.length) 10, Nat.mul_assoc]
    omega
theorem val_snoc_t (xs : List Nat) (y : Nat) : val10 (xs ++ [y]) = val10 xs + 10 ^ xs.length * y := by
  rw [val_append_t]; simp [val10]
theorem val_lt_t {xs : List Nat} (h : Decs_t xs) : val10 xs < 10 ^ xs.length := by
  induction xs with
  | nil => simp [val10]
  | cons x xs ih =>
    have h1 := h.head
    have h2 := ih h.tail
    simp only [val10, List.length_cons, Nat.pow_succ]
    have : 10 * (val10 xs + 1) ≤ 10 * 10 ^ xs.length := Nat.mul_le_mul_left _ h2
    rw [Nat.mul_comm (10 ^ xs.length)]
    omega
theorem val_zeros_t (n : Nat) : val10 (List.replicate n 0) = 0 := by
  induction n with
  | zero => rfl
  | succ n ih => simp [List.replicate_succ, val10, ih]
theorem val_take_succ_t (xs : List Nat) (k : Nat) : val10 (xs.take (k + 1)) = val10 (xs.take k) + 10 ^ k * xs.getD k 0 := by
  rcases Nat.lt_or_ge k xs.length with h | h
  · rw [List.take_succ_eq_append_getElem h, val_snoc_t]
    simp [List.getD, List.getElem?_eq_getElem h, Nat.min_eq_left (Nat.le_of_lt h)]
  · rw [List.take_of_length_le (by omega), List.take_of_length_le h]
    simp [List.getD, List.getElem?_eq_none h]

theorem dgF_zero_t (f : Nat) : ddF f 0 = [] := by cases f <;> simp [ddF]
theorem dgF_more_t (n : Nat) : ∀ f, n ≤ f → ddF f n = ddF n n := by
  induction n using Nat.strongRecOn with
  | ind n ih =>
    intro f hf
    cases f with
    | zero => have : n = 0 := by omega
              subst this; rfl
    | succ f =>
      cases n with
      | zero => simp [ddF]
      | succ n =>
        simp only [ddF, Nat.add_one_ne_zero, if_false]
        have hlt : (n + 1) / 10 < n + 1 := Nat.div_lt_self (by omega) (by omega)
        rw [ih _ hlt f (by omega), ih _ hlt n (by omega)]
theorem dg_zero_t : dd 0 = [] := rfl
theorem dg_pos_t {n : Nat} (h : 0 < n) : dd n = n % 10 :: dd (n / 10) := by
  obtain ⟨m, rfl⟩ : ∃ m, n = m + 1 := ⟨n - 1, by omega⟩
  have hlt : (m + 1) / 10 < m + 1 := Nat.div_lt_self (by omega) (by omega)
  show ddF (m + 1) (m + 1) = _
  simp only [ddF, Nat.add_one_ne_zero, if_false]
  rw [dgF_more_t _ m (by omega)]
  rfl
theorem digs_dg_t (n : Nat) : Decs_t (dd n) := by
  induction n using Nat.strongRecOn with
  | ind n ih =>
    rcases Nat.eq_zero_or_pos n with rfl | h
    · exact Decs_t.nil
    · rw [dg_pos_t h]
      exact Decs_t.cons (Nat.mod_lt _ (by omega)) (ih _ (Nat.div_lt_self h (by omega)))
theorem val_dg_t (n : Nat) : val10 (dd n) = n := by
  induction n using Nat.strongRecOn with
  | ind n ih =>
    rcases Nat.eq_zero_or_pos n with rfl | h
    · rfl
    · rw [dg_pos_t h, val10, ih _ (Nat.div_lt_self h (by omega))]
      omega
theorem dg_inj_t {m n : Nat} (h : dd m = dd n) : m = n := by rw [← val_dg_t m, h, val_dg_t]
theorem dg_nil_iff_t {n : Nat} : dd n = [] ↔ n = 0 := ⟨fun h => by rw [← val_dg_t n, h]; rfl, fun h => by rw [h]; rfl⟩
theorem dg_len_pos_t {n : Nat} (h : 0 < n) : 0 < (dd n).length := by rw [dg_pos_t h]; simp
theorem dg_len_le_t {n k : Nat} (h : n < 10 ^ k) : (dd n).length ≤ k := by
  induction k generalizing n with
  | zero => have : n = 0 := by simpa using h
            subst this; simp [dg_zero_t]
  | succ k ih =>
    rcases Nat.eq_zero_or_pos n with rfl | hp
    · simp [dg_zero_t]
    · rw [dg_pos_t hp]
      have : n / 10 < 10 ^ k := by
        rw [Nat.div_lt_iff_lt_mul (by omega)]
        rwa [Nat.pow_succ] at h
      have := ih this
      simp
      omega
theorem dg_len_lt_t (n : Nat) : n < 10 ^ (dd n).length := by
  have := val_lt_t (digs_dg_t n)
  rwa [val_dg_t] at this
theorem dg_len_ge_t {n k : Nat} (h : 10 ^ k ≤ n) : k < (dd n).length := by
  rcases Nat.lt_or_ge k (dd n).length with h1 | h1
  · exact h1
  · have h2 := dg_len_lt_t n
    have := Nat.pow_le_pow_right (n := 10) (by omega) h1
    omega
theorem dg_len_mono_t {m n : Nat} (h : m ≤ n) : (dd m).length ≤ (dd n).length := dg_len_le_t (Nat.lt_of_le_of_lt h (dg_len_lt_t n))

/-- No leading zero digit. -/
def Full10 (xs : List Nat) : Prop := xs = [] ∨ xs.getD (xs.length - 1) 0 ≠ 0

theorem full_lower_t {xs : List Nat} (h : xs.getD (xs.length - 1) 0 ≠ 0) : 10 ^ (xs.length - 1) ≤ val10 xs := by
  have hl : 0 < xs.length := by
    rcases Nat.eq_zero_or_pos xs.length with h0 | h0
    · rw [List.eq_nil_of_length_eq_zero h0] at h; simp at h
    · exact h0
  have := val_take_succ_t xs (xs.length - 1)
  rw [List.take_of_length_le (by omega)] at this
  rw [this]
  have h1 : 1 ≤ xs.getD (xs.length - 1) 0 := by omega
  have := Nat.mul_le_mul_left (10 ^ (xs.length - 1)) h1
  omega
theorem val_eq_digs_t {xs ys : List Nat} (hx : Decs_t xs) (hy : Decs_t ys) (hl : xs.length = ys.length) (h : val10 xs = val10 ys) : xs = ys := by
  induction xs generalizing ys with
  | nil => cases ys with
    | nil => rfl
    | cons y ys => simp at hl
  | cons x xs ih =>
    cases ys with
    | nil => simp at hl
    | cons y ys =>
      have h1 := hx.head
      have h2 := hy.head
      simp only [val10] at h
      have : x = y := by omega
      subst this
      rw [ih hx.tail hy.tail (by simpa using hl) (by omega)]
theorem dg_of_full_t {xs : List Nat} (h : Decs_t xs) (hf : Full10 xs) : dd (val10 xs) = xs := by
  rcases hf with rfl | hf
  · rfl
  · have h1 := full_lower_t hf
    have h2 := dg_len_ge_t h1
    have h3 := dg_len_le_t (val_lt_t h)
    exact val_eq_digs_t (digs_dg_t _) h (by omega) (val_dg_t _)
theorem full_dg_t (n : Nat) : Full10 (dd n) := by
  induction n using Nat.strongRecOn with
  | ind n ih =>
    rcases Nat.eq_zero_or_pos n with rfl | h
    · left; rfl
    · right
      have hk := ih (n / 10) (Nat.div_lt_self h (by omega))
      rw [dg_pos_t h]
      rcases hk with hk | hk
      · rw [hk]
        have : n / 10 = 0 := dg_nil_iff_t.1 hk
        simp
        omega
      · have hl : 0 < (dd (n / 10)).length := by
          rcases Nat.eq_zero_or_pos (dd (n / 10)).length with h0 | h0
          · rw [List.eq_nil_of_length_eq_zero h0] at hk; simp at hk
          · exact h0
        obtain ⟨k, hk2⟩ : ∃ k, (dd (n / 10)).length = k + 1 := ⟨_, (by omega : _ = ((dd (n / 10)).length - 1) + 1)⟩
        rw [hk2] at hk
        simp only [List.length_cons, hk2]
        simpa using hk
/-- What is left without leading zero digits. -/
theorem dg_take_t {xs : List Nat} {k : Nat} (hz : ∀ j, k ≤ j → xs.getD j 0 = 0) : val10 (xs.take k) = val10 xs := by
  have : ∀ m, val10 (xs.take (k + m)) = val10 (xs.take k) := by
    intro m
    induction m with
    | zero => rfl
    | succ m ih => rw [← Nat.add_assoc, val_take_succ_t, ih, hz (k + m) (by omega)]; simp
  have h1 := this xs.length
  rw [List.take_of_length_le (by omega)] at h1
  exact h1.symm
theorem take_is_dg_t {xs : List Nat} {k : Nat} (h : Decs_t xs) (hk : k ≤ xs.length) (hz : ∀ j, k ≤ j → xs.getD j 0 = 0) (hf : k = 0 ∨ xs.getD (k - 1) 0 ≠ 0) : xs.take k = dd (val10 xs) := by
  rw [← dg_take_t hz, dg_of_full_t (h.take k)]
  rcases hf with rfl | hf
  · left; simp
  · rcases Nat.eq_zero_or_pos k with rfl | hp
    · left; simp
    · right
      have hlen : (xs.take k).length = k := by simp [hk]
      rw [hlen]
      rw [List.getD_eq_getElem?_getD] at hf ⊢
      rw [List.getElem?_take, if_pos (by omega)]
      exact hf
theorem dg_getD_zero_t {xs : List Nat} : ∀ j, (dd (val10 xs)).length ≤ j → xs.getD j 0 = 0 := by
  intro j hj
  have h1 := dg_len_lt_t (val10 xs)
  rcases Nat.eq_zero_or_pos (xs.getD j 0) with h0 | h0
  · exact h0
  · exfalso
    have hjl : j < xs.length := by
      rcases Nat.lt_or_ge j xs.length with h | h
      · exact h
      · simp [List.getD, List.getElem?_eq_none h] at h0
    have h2 := val_take_succ_t xs j
    have h3 : val10 (xs.take (j + 1)) ≤ val10 xs := by
      have := val_append_t (xs.take (j + 1)) (xs.drop (j + 1))
      rw [List.take_append_drop] at this
      omega
    have h4 : 10 ^ j * 1 ≤ 10 ^ j * xs.getD j 0 := Nat.mul_le_mul_left _ h0
    have h5 := Nat.pow_le_pow_right (n := 10) (by omega) hj
    omega

end Go.Proofs.YthbogaindaflpaaGreatDoor
