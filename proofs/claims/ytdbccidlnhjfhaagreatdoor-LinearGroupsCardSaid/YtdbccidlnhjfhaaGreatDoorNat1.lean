/- Contracts: trim, digit, Cmp, Valid, Uint, From of package natural. -/
import Derived.Test.YtdbccidlnhjfhaaGreatDoorMem
namespace Go.Proofs.YtdbccidlnhjfhaaGreatDoor
open Go.RowKit
theorem ret_slice {A : Option Addr} {n k : Nat} (h : n = k) : Ending.returned (.slice A n n) = .returned (.slice A k k) := by rw [h]
theorem trim_len {xs : List Nat} {k : Nat} (h : Digs xs) (hk : k ≤ xs.length) (hz : ∀ j, k ≤ j → xs.getD j 0 = 0) (hf : k = 0 ∨ xs.getD (k - 1) 0 ≠ 0) : k = (dg (val xs)).length := by
  rw [← take_is_dg h hk hz hf]; simp [hk]
set_option maxHeartbeats 400000 in
theorem trim_any (A : Option Addr) (n c : Nat) (xs : List Nat) (w : World) (h : Rd w A n c xs) :
    Calls Tryz.prog 163 #[.slice A n c] w fun e w' => e = .returned (.slice A (dg (val xs)).length (dg (val xs)).length) ∧ w = w' := by
  have H := hid h
  have h1 : n ≤ c := h.2.1
  have h2 : c ≤ 9223372036854775807 := h.2.2.1
  clear h
  go_enter Tryz.func163, Tryz.ntmps163
  go_wp2
  go_loop [3] (fun i => ∃ k : Nat, k ≤ n ∧ i = .int .i64 k ∧ Hid (∀ j, k ≤ j → xs.getD j 0 = 0)) (fun i => (intOf i).toNat)
  case atStart => exact ⟨n, Nat.le_refl _, rfl, hid (fun j hj => by have := H.out.1; simp [List.getD, List.getElem?_eq_none (by omega : xs.length ≤ j)])⟩
  case round =>
    obtain ⟨k, hk, rfl, hz⟩ := hrel
    rcases Nat.eq_zero_or_pos k with rfl | hp
    · go_wp2
      go_ret
      exact ⟨ret_slice (trim_len H.out.2.2.2.1 (by omega) hz.out (.inl rfl)), rfl⟩
    · obtain ⟨b, o, rfl, hlt, hc⟩ := H.out.2.2.2.2 (by omega)
      have hcell : w.cell? ⟨b, o + (k - 1), none⟩ = some (.int .u32 (xs.getD (k - 1) 0)) := hc _ (by omega)
      clear hc
      by_cases h0 : xs.getD (k - 1) 0 = 0
      · rw [h0] at hcell
        have hz2 : Hid (∀ j, k - 1 ≤ j → xs.getD j 0 = 0) := fun j hj => by
          rcases Nat.lt_or_ge j k with h | h
          · obtain rfl : j = k - 1 := by omega
            exact h0
          · exact hz.out j h
        clear h0
        go_wp2
        go_round
        case rel => exact ⟨k - 1, by omega, by go_num, hz2⟩
        case measure => simp [intOf]; omega
      · have h0' := hid h0
        have hl : xs.length = n := H.out.1
        have hl' := hid hl
        obtain ⟨x, hx⟩ : ∃ x, x = xs.getD (k - 1) 0 := ⟨_, rfl⟩
        rw [← hx] at hcell h0
        have hb : ((x : Int) == 0) = false := by rw [beq_eq_false_iff_ne]; omega
        clear h0 hx hl
        go_wp2
        go_ret
        exact ⟨ret_slice (trim_len H.out.2.2.2.1 (by have := hl'.out; omega) hz.out (.inr h0'.out)), rfl⟩
set_option maxHeartbeats 400000 in
theorem digit_cell (A : Option Addr) (n c i x : Nat) (w : World) (_h1 : n ≤ c) (_h2 : c ≤ 9223372036854775807) (h : i < n → ∃ b o, A = some ⟨b, o, none⟩ ∧ w.cell? ⟨b, o + i, none⟩ = some (.int .u32 x)) (h0 : n ≤ i → x = 0) (hx : x < 4294967296) :
    Calls Tryz.prog 147 #[.slice A n c, .int .i64 i] w fun e w' => e = .returned (.int .u64 x) ∧ w = w' := by
  rcases Nat.lt_or_ge i n with hi | hi
  · obtain ⟨b, o, rfl, hc⟩ := h hi
    clear h h0
    go_enter Tryz.func147, Tryz.ntmps147
    go_wp2
    go_ret
    exact ⟨rfl, rfl⟩
  · obtain rfl := h0 hi
    clear h h0
    go_enter Tryz.func147, Tryz.ntmps147
    go_wp2
    go_ret
    exact ⟨rfl, rfl⟩
set_option maxHeartbeats 400000 in
theorem digit_any (A : Option Addr) (n c : Nat) (xs : List Nat) (i : Nat) (w : World) (h : Rd w A n c xs) :
    Calls Tryz.prog 147 #[.slice A n c, .int .i64 i] w fun e w' => e = .returned (.int .u64 (xs.getD i 0 : Nat)) ∧ w = w' := by
  have H := hid h
  have h1 : n ≤ c := h.2.1
  have h2 : c ≤ 9223372036854775807 := h.2.2.1
  clear h
  rcases Nat.lt_or_ge i n with hi | hi
  · obtain ⟨b, o, rfl, hlt, hc⟩ := H.out.2.2.2.2 (by omega)
    have hcell : w.cell? ⟨b, o + i, none⟩ = some (.int .u32 (xs.getD i 0 : Nat)) := hc _ (by omega)
    have hd := H.out.2.2.2.1.get i
    obtain ⟨x, hx⟩ : ∃ x, x = xs.getD i 0 := ⟨_, rfl⟩
    rw [← hx] at hcell hd ⊢
    clear hc hx
    go_enter Tryz.func147, Tryz.ntmps147
    go_wp2
    go_ret
    exact ⟨rfl, rfl⟩
  · have h0 : xs.getD i 0 = 0 := by have := H.out.1; simp [List.getD, List.getElem?_eq_none (by omega : xs.length ≤ i)]
    rw [h0]
    clear h0
    go_enter Tryz.func147, Tryz.ntmps147
    go_wp2
    go_ret
    exact ⟨rfl, rfl⟩
def cmpN (m n : Nat) : Int := if m < n then -1 else if n < m then 1 else 0
theorem cmpN_step {xs ys : List Nat} (hx : Digs xs) (hy : Digs ys) (k : Nat) :
    cmpN (val (xs.take (k + 1))) (val (ys.take (k + 1))) = if xs.getD k 0 < ys.getD k 0 then -1 else if ys.getD k 0 < xs.getD k 0 then 1 else cmpN (val (xs.take k)) (val (ys.take k)) := by
  have h1 := val_lt (hx.take k)
  have h2 := val_lt (hy.take k)
  have l1 : (xs.take k).length ≤ k := by simp; omega
  have l2 : (ys.take k).length ≤ k := by simp; omega
  have p1 := Nat.pow_le_pow_right (n := 4294967296) (by omega) l1
  have p2 := Nat.pow_le_pow_right (n := 4294967296) (by omega) l2
  rw [val_take_succ, val_take_succ]
  rcases Nat.lt_trichotomy (xs.getD k 0) (ys.getD k 0) with h | h | h
  · rw [if_pos h]
    have := Nat.mul_le_mul_left (4294967296 ^ k) (show xs.getD k 0 + 1 ≤ ys.getD k 0 from h)
    rw [Nat.mul_add] at this
    unfold cmpN
    rw [if_pos (by omega)]
  · rw [h, if_neg (by omega), if_neg (by omega)]
    unfold cmpN
    simp
  · rw [if_neg (by omega), if_pos h]
    have := Nat.mul_le_mul_left (4294967296 ^ k) (show ys.getD k 0 + 1 ≤ xs.getD k 0 from h)
    rw [Nat.mul_add] at this
    unfold cmpN
    rw [if_neg (by omega), if_pos (by omega)]
theorem ret_i64 {a b : Int} (h : a = b) : Ending.returned (.int .i64 a) = .returned (.int .i64 b) := by rw [h]
theorem cmp_start {xs ys : List Nat} {n m k : Nat} (h1 : xs.length = n) (h2 : ys.length = m) (hn : n ≤ k) (hm : m ≤ k) : cmpN (val (xs.take k)) (val (ys.take k)) = cmpN (val xs) (val ys) := by
  rw [List.take_of_length_le (by omega), List.take_of_length_le (by omega)]
set_option maxHeartbeats 1000000 in
theorem cmp_any (A B : Option Addr) (n c m d : Nat) (xs ys : List Nat) (w : World) (h : Rd w A n c xs) (k : Rd w B m d ys) :
    Calls Tryz.prog 117 #[.slice A n c, .slice B m d] w fun e w' => e = .returned (.int .i64 (cmpN (val xs) (val ys))) ∧ w = w' := by
  have H := hid h
  have K := hid k
  have h1 : n ≤ c := h.2.1
  have h2 : c ≤ 9223372036854775807 := h.2.2.1
  have k1 : m ≤ d := k.2.1
  have k2 : d ≤ 9223372036854775807 := k.2.2.1
  clear h k
  go_enter Tryz.func117, Tryz.ntmps117
  go_wp2
  all_goals
    go_loop [5] (fun i => ∃ k : Nat, k ≤ 9223372036854775807 ∧ i = .int .i64 ((k : Int) - 1) ∧ Hid (cmpN (val (xs.take k)) (val (ys.take k)) = cmpN (val xs) (val ys))) (fun i => (intOf i + 1).toNat)
    case atStart => first | exact ⟨m, by omega, rfl, hid (cmp_start H.out.1 K.out.1 (by omega) (by omega))⟩ | exact ⟨n, by omega, rfl, hid (cmp_start H.out.1 K.out.1 (by omega) (by omega))⟩
    case round =>
      obtain ⟨k, hk, rfl, hz⟩ := hrel
      rcases Nat.eq_zero_or_pos k with rfl | hp
      · go_wp2
        go_ret
        exact ⟨ret_i64 (by rw [← hz.out]; rfl), rfl⟩
      · obtain ⟨q, rfl⟩ : ∃ q, k = q + 1 := ⟨k - 1, by omega⟩
        have cx := hid (digit_any A n c xs q w H.out)
        have cy := hid (digit_any B m d ys q w K.out)
        have st := hid (cmpN_step H.out.2.2.2.1 K.out.2.2.2.1 q)
        have dx := H.out.2.2.2.1.get q
        have dy := K.out.2.2.2.1.get q
        obtain ⟨x, hx⟩ : ∃ x, x = xs.getD q 0 := ⟨_, rfl⟩
        obtain ⟨y, hy⟩ : ∃ y, y = ys.getD q 0 := ⟨_, rfl⟩
        rw [← hx] at cx dx st
        rw [← hy] at cy dy st
        clear hx hy
        rcases Nat.lt_trichotomy x y with hxy | rfl | hxy
        · go_wp2_with fail
          refine (cx.out).mono ?_
          rintro e w' ⟨rfl, rfl⟩
          go_wp2_with fail
          refine (cy.out).mono ?_
          rintro e w' ⟨rfl, rfl⟩
          go_wp2_with fail
          go_ret
          exact ⟨ret_i64 (by rw [← hz.out, st.out, if_pos hxy]), rfl⟩
        · go_wp2_with fail
          refine (cx.out).mono ?_
          rintro e w' ⟨rfl, rfl⟩
          go_wp2_with fail
          refine (cy.out).mono ?_
          rintro e w' ⟨rfl, rfl⟩
          go_wp2_with fail
          go_round
          case rel => exact ⟨q, by omega, by go_num, hid (by rw [← hz.out, st.out, if_neg (Nat.lt_irrefl _), if_neg (Nat.lt_irrefl _)])⟩
          case measure => simp [intOf]
        · go_wp2_with fail
          refine (cx.out).mono ?_
          rintro e w' ⟨rfl, rfl⟩
          go_wp2_with fail
          refine (cy.out).mono ?_
          rintro e w' ⟨rfl, rfl⟩
          go_wp2_with fail
          go_ret
          exact ⟨ret_i64 (by rw [← hz.out, st.out, if_neg (by omega), if_pos hxy]), rfl⟩
end Go.Proofs.YtdbccidlnhjfhaaGreatDoor
