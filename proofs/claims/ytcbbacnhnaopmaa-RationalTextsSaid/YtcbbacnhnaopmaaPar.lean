/- Reading decimal texts; contracts: isText, readChunk of package natural. -/
import Derived.Test.YtcbbacnhnaopmaaTxt
namespace Go.Proofs.Ytcbbacnhnaopmaa
open Go.RowKit

def isDig (c : UInt8) : Bool := decide (48 ≤ c.toNat ∧ c.toNat ≤ 57)
/-- The text of a value, of at most 4000 bytes. -/
def isT (l : List UInt8) : Bool := !l.isEmpty && decide (l.length ≤ 4000) && !(decide (1 < l.length) && decide (l.getD 0 0 = 48)) && l.all isDig
/-- The value of a text. -/
def numT (l : List UInt8) : Nat := l.foldl (fun a c => 10 * a + (c.toNat - 48)) 0
theorem numT_snoc (l : List UInt8) (c : UInt8) : numT (l ++ [c]) = 10 * numT l + (c.toNat - 48) := by simp [numT]
theorem numT_from (l : List UInt8) : ∀ a, l.foldl (fun a c => 10 * a + (c.toNat - 48)) a = a * 10 ^ l.length + numT l := by
  induction l with
  | nil => intro a; simp [numT]
  | cons c l ih =>
    intro a
    have h1 := ih (10 * a + (c.toNat - 48))
    have h2 := ih (10 * 0 + (c.toNat - 48))
    unfold numT
    simp only [List.foldl_cons, List.length_cons, Nat.pow_succ]
    rw [h1, h2, Nat.add_mul, Nat.add_mul, Nat.mul_zero, Nat.zero_mul, Nat.mul_comm 10 a, Nat.mul_assoc, Nat.mul_comm 10 (10 ^ l.length)]
    omega
theorem numT_append (l m : List UInt8) : numT (l ++ m) = numT l * 10 ^ m.length + numT m := by
  have : numT (l ++ m) = m.foldl (fun a c => 10 * a + (c.toNat - 48)) (numT l) := by unfold numT; rw [List.foldl_append]
  rw [this, numT_from]
theorem numT_cons (c : UInt8) (l : List UInt8) : numT (c :: l) = (c.toNat - 48) * 10 ^ l.length + numT l := by
  have := numT_append [c] l
  simpa [numT] using this
theorem numT_lt {l : List UInt8} (h : l.all isDig = true) : numT l < 10 ^ l.length := by
  induction l with
  | nil => simp [numT]
  | cons c l ih =>
    rw [List.all_cons, Bool.and_eq_true] at h
    have h1 := ih h.2
    have h2 := h.1
    simp [isDig] at h2
    rw [numT_cons, List.length_cons, Nat.pow_succ]
    have := Nat.mul_le_mul_right (10 ^ l.length) (show c.toNat - 48 ≤ 9 by omega)
    omega

theorem all_take_succ {l : List UInt8} {k : Nat} (hk : k < l.length) (h : (l.take k).all isDig = true) (hc : isDig l[k] = true) : (l.take (k + 1)).all isDig = true := by
  rw [List.take_succ_eq_append_getElem hk, List.all_append, h]
  simp [hc]
theorem all_false {l : List UInt8} {k : Nat} (hk : k < l.length) (hc : isDig l[k] = false) : l.all isDig = false := by
  rw [List.all_eq_false]
  exact ⟨l[k], List.getElem_mem hk, by rw [hc]; decide⟩

theorem ret_bool {a b : Bool} (h : b = a) : Ending.returned (.bool a) = .returned (.bool b) := by rw [h]
theorem isT_all {l : List UInt8} (h0 : 0 < l.length) (h1 : l.length ≤ 4000) (h2 : ¬ (1 < l.length ∧ l.getD 0 0 = 48)) : isT l = l.all isDig := by
  unfold isT
  have e : l.isEmpty = false := by
    cases l with
    | nil => simp at h0
    | cons a l => rfl
  rw [e, decide_eq_true h1]
  have e2 : (decide (1 < l.length) && decide (l.getD 0 0 = 48)) = false := by
    rw [← Bool.decide_and]
    exact decide_eq_false h2
  rw [e2]
  simp

set_option maxRecDepth 100000 in
set_option maxHeartbeats 1000000 in
theorem isText_any (s : ByteArray) (w : World) (hs : s.size ≤ 9223372036854775807) :
    Calls Try.prog 129 #[.string s] w fun e w' => e = .returned (.bool (isT s.data.toList)) ∧ w = w' := by
  have hl : s.data.toList.length = s.size := rfl
  by_cases h0 : s.size = 0
  · have hT : isT s.data.toList = false := by
      have : s.data.toList = [] := List.eq_nil_of_length_eq_zero h0
      rw [this]; rfl
    rw [hT]
    have e0 : ((s.size : Int) == 0) = true := by rw [beq_iff_eq]; omega
    clear h0 hT hl
    go_enter Try.func129, Try.ntmps129
    go_wp2_with fail
    go_ret
    exact ⟨rfl, rfl⟩
  · have e0 : ((s.size : Int) == 0) = false := by rw [beq_eq_false_iff_ne]; omega
    by_cases h1 : 4000 < s.size
    · have hT : isT s.data.toList = false := by
        unfold isT
        rw [decide_eq_false (show ¬ s.data.toList.length ≤ 4000 by omega)]
        simp
      rw [hT]
      have e1 : decide (4000 < (s.size : Int)) = true := decide_eq_true (by omega)
      clear h0 hT hl h1
      go_enter Try.func129, Try.ntmps129
      go_wp2_with fail
      go_ret
      exact ⟨rfl, rfl⟩
    · have e1 : decide (4000 < (s.size : Int)) = false := decide_eq_false (by omega)
      have hp : 0 < s.size := by omega
      have g0 : s.data.toList.getD 0 0 = s[0] := by
        have : s.data.toList.getD 0 0 = s.data.toList[0]'(by omega) := by simp [List.getD, List.getElem?_eq_getElem (by omega : 0 < s.data.toList.length)]
        rw [this]; rfl
      by_cases h2 : 1 < s.size ∧ s[0] = 48
      · have hT : isT s.data.toList = false := by
          unfold isT
          rw [g0, h2.2, decide_eq_true (show 1 < s.data.toList.length from h2.1)]
          simp
        rw [hT]
        have e2 : decide (1 < (s.size : Int)) = true := decide_eq_true (by omega)
        have e3 : (((s[0]).toNat : Int) == 48) = true := by rw [h2.2]; rfl
        clear h0 hT hl h1 g0 h2
        go_enter Try.func129, Try.ntmps129
        go_wp2_with fail
        go_ret
        exact ⟨rfl, rfl⟩
      · have HT := hid (isT_all (l := s.data.toList) (by omega) (by omega) (by rw [g0]; rw [hl]; exact h2))
        rcases (by omega : ¬ 1 < s.size ∨ 1 < s.size) with h3 | h3
        · have e2 : decide (1 < (s.size : Int)) = false := decide_eq_false (by omega)
          obtain ⟨T, hT⟩ : ∃ T, T = isT s.data.toList := ⟨_, rfl⟩
          rw [← hT] at HT ⊢
          clear h0 hl h1 g0 h2 h3 hT
          go_enter Try.func129, Try.ntmps129
          go_wp2_with fail
          go_loop [24] (fun i => ∃ k : Nat, k ≤ s.size ∧ i = .int .i64 k ∧ Hid ((s.data.toList.take k).all isDig = true)) (fun i => s.size - (intOf i).toNat)
          case atStart => exact ⟨0, Nat.zero_le _, rfl, hid rfl⟩
          case round =>
            obtain ⟨k, hk, rfl, hz⟩ := hrel
            rcases Nat.lt_or_ge k s.size with hlt | hge
            · by_cases c1 : s[k].toNat < 48
              · have A1 := hid (all_false (l := s.data.toList) (k := k) hlt (by simp only [isDig]; exact decide_eq_false (fun h => absurd h.1 (by have : s.data.toList[k]'hlt = s[k] := rfl; rw [this]; omega))))
                go_wp2_with fail
                go_ret
                exact ⟨ret_bool (by rw [HT.out, A1.out]), rfl⟩
              · by_cases c2 : 57 < s[k].toNat
                · have A1 := hid (all_false (l := s.data.toList) (k := k) hlt (by simp only [isDig]; exact decide_eq_false (fun h => absurd h.2 (by have : s.data.toList[k]'hlt = s[k] := rfl; rw [this]; omega))))
                  go_wp2_with fail
                  go_ret
                  exact ⟨ret_bool (by rw [HT.out, A1.out]), rfl⟩
                · have A1 := hid (all_take_succ (l := s.data.toList) (k := k) hlt hz.out (by simp only [isDig]; exact decide_eq_true (by have : s.data.toList[k]'hlt = s[k] := rfl; rw [this]; omega)))
                  go_wp2_with fail
                  go_round
                  case rel => exact ⟨k + 1, by omega, by go_num, A1⟩
                  case measure => simp [intOf]; omega
            · obtain rfl : k = s.size := by omega
              go_wp2_with fail
              go_ret
              have h5 := hz.out
              rw [show s.data.toList.take s.size = s.data.toList from List.take_of_length_le (Nat.le_refl _)] at h5
              exact ⟨ret_bool (by rw [HT.out, h5]), rfl⟩
        · have e2 : decide (1 < (s.size : Int)) = true := decide_eq_true (by omega)
          have e3 : (((s[0]).toNat : Int) == 48) = false := by
            rw [beq_eq_false_iff_ne]
            intro e
            refine h2 ⟨h3, UInt8.toNat_inj.1 ?_⟩
            show _ = 48
            omega
          obtain ⟨T, hT⟩ : ∃ T, T = isT s.data.toList := ⟨_, rfl⟩
          rw [← hT] at HT ⊢
          clear h0 hl h1 g0 h2 h3 hT
          go_enter Try.func129, Try.ntmps129
          go_wp2_with fail
          go_loop [24] (fun i => ∃ k : Nat, k ≤ s.size ∧ i = .int .i64 k ∧ Hid ((s.data.toList.take k).all isDig = true)) (fun i => s.size - (intOf i).toNat)
          case atStart => exact ⟨0, Nat.zero_le _, rfl, hid rfl⟩
          case round =>
            obtain ⟨k, hk, rfl, hz⟩ := hrel
            rcases Nat.lt_or_ge k s.size with hlt | hge
            · by_cases c1 : s[k].toNat < 48
              · have A1 := hid (all_false (l := s.data.toList) (k := k) hlt (by simp only [isDig]; exact decide_eq_false (fun h => absurd h.1 (by have : s.data.toList[k]'hlt = s[k] := rfl; rw [this]; omega))))
                go_wp2_with fail
                go_ret
                exact ⟨ret_bool (by rw [HT.out, A1.out]), rfl⟩
              · by_cases c2 : 57 < s[k].toNat
                · have A1 := hid (all_false (l := s.data.toList) (k := k) hlt (by simp only [isDig]; exact decide_eq_false (fun h => absurd h.2 (by have : s.data.toList[k]'hlt = s[k] := rfl; rw [this]; omega))))
                  go_wp2_with fail
                  go_ret
                  exact ⟨ret_bool (by rw [HT.out, A1.out]), rfl⟩
                · have A1 := hid (all_take_succ (l := s.data.toList) (k := k) hlt hz.out (by simp only [isDig]; exact decide_eq_true (by have : s.data.toList[k]'hlt = s[k] := rfl; rw [this]; omega)))
                  go_wp2_with fail
                  go_round
                  case rel => exact ⟨k + 1, by omega, by go_num, A1⟩
                  case measure => simp [intOf]; omega
            · obtain rfl : k = s.size := by omega
              go_wp2_with fail
              go_ret
              have h5 := hz.out
              rw [show s.data.toList.take s.size = s.data.toList from List.take_of_length_le (Nat.le_refl _)] at h5
              exact ⟨ret_bool (by rw [HT.out, h5]), rfl⟩

end Go.Proofs.Ytcbbacnhnaopmaa
