/- Small facts of the numbers of layer 1, used by several laws. -/
import Derived.Test.YthbogaindaflpaaGreatDoorRefT
import Derived.Test.YthbogaindaflpaaGreatDoorLit
namespace Go.Proofs.YthbogaindaflpaaGreatDoor
open Go.RowKit

theorem two_len : (dg 14285714285714285714).length ≤ 100 := Nat.le_trans (dg_len_le (k := 3) (by omega)) (by omega)
theorem lit2_rd (w : World) (d e : Nat) (hd : d < 4294967296) (he : e < 4294967296) (x y : Int) (hx : x = (d : Int)) (hy : y = (e : Int)) : Rd (w.alloc (.cells #[.int .u32 x, .int .u32 y] 127)) (some ⟨w.heap.size, 0, none⟩) 2 2 [d, e] := by
  subst hx hy
  exact (show Row (w.alloc (.cells #[.int .u32 (d : Int), .int .u32 (e : Int)] 127)) w.heap.size [d, e] from Blk.new w [dv d, dv e] _).rd0 (Digs.cons hd (Digs.cons he Digs.nil)) (Nat.le_refl _) (by simp)

theorem lt_pow12 {w : World} {A : Option Addr} {n c : Nat} {xs : List Nat} (h : Rd w A n c xs) (hn : n ≤ 12) : val xs < 4294967296 ^ 12 := by
  have h1 := val_lt h.2.2.2.1
  rw [h.1] at h1
  exact Nat.lt_of_lt_of_le h1 (Nat.pow_le_pow_right (by omega) hn)
theorem bd_add {x y k : Nat} (hx : x < 4294967296 ^ k) (hy : y < 4294967296 ^ k) : x + y < 4294967296 ^ (k + 1) := by
  rw [Nat.pow_succ]
  generalize 4294967296 ^ k = P at *
  omega
theorem bd_mul {x y j k : Nat} (hx : x < 4294967296 ^ j) (hy : y < 4294967296 ^ k) : x * y < 4294967296 ^ (j + k) := by
  rw [Nat.pow_add]
  exact Nat.mul_lt_mul'' hx hy
theorem bd_le {x y k : Nat} (hx : x < 4294967296 ^ k) (h : y ≤ x) : y < 4294967296 ^ k := Nat.lt_of_le_of_lt h hx
theorem bd_up {x j k : Nat} (hx : x < 4294967296 ^ j) (h : j ≤ k) : x < 4294967296 ^ k := Nat.lt_of_lt_of_le hx (Nat.pow_le_pow_right (by omega) h)
theorem len_sub {x y k : Nat} (hx : x < 4294967296 ^ k) : (subD x y).length ≤ k := by
  unfold subD
  split
  · simp
  · exact dg_len_le (bd_le hx (Nat.sub_le x y))

theorem subD_add (x y : Nat) : subD (x + y) y = dg x := by
  unfold subD
  rw [if_neg (by omega)]
  congr 1
  omega
theorem subE_add (x y : Nat) : subE (x + y) y = 0 := by
  unfold subE
  rw [if_neg (by omega)]
theorem cmpN_self (x : Nat) : cmpN x x = 0 := by
  unfold cmpN
  rw [if_neg (Nat.lt_irrefl _), if_neg (Nat.lt_irrefl _)]
theorem fullB_dg (n : Nat) : fullB (dg n) = true := by
  unfold fullB
  rw [val_dg]
  exact decide_eq_true rfl

theorem numT_rev (m : List UInt8) : numT m.reverse = val10 (m.map fun c => c.toNat - 48) := by
  induction m with
  | nil => rfl
  | cons c m ih => rw [List.reverse_cons, numT_snoc, ih, List.map_cons, val10]; omega
theorem ch_dig {c : UInt8} (h : isDig c = true) : ch (c.toNat - 48) = c := by
  simp only [isDig, decide_eq_true_eq] at h
  unfold ch
  apply UInt8.toNat_inj.1
  rw [UInt8.toNat_ofNat']
  omega
theorem tx_numT {l : List UInt8} (h : isT l = true) : tx (numT l) = l := by
  obtain ⟨_, hall⟩ := isT_parts h
  have hT := h
  unfold isT at hT
  simp only [Bool.and_eq_true, Bool.not_eq_true', decide_eq_true_eq, Bool.and_eq_false_iff, decide_eq_false_iff_not] at hT
  obtain ⟨⟨⟨h1, _⟩, h2⟩, _⟩ := hT
  cases l with
  | nil => simp at h1
  | cons c l =>
    have hv : numT (c :: l) = val10 ((c :: l).reverse.map fun c => c.toNat - 48) := by
      have := numT_rev (c :: l).reverse
      rwa [List.reverse_reverse] at this
    have hds : Decs_t ((c :: l).reverse.map fun c => c.toNat - 48) := by
      intro x hx
      obtain ⟨a, ha, rfl⟩ := List.mem_map.1 hx
      rw [List.all_eq_true] at hall
      have := hall a (List.mem_reverse.1 ha)
      simp only [isDig, decide_eq_true_eq] at this
      omega
    have hback : (((c :: l).reverse.map fun c => c.toNat - 48).map ch).reverse = c :: l := by
      rw [List.map_map, ← List.map_reverse, List.reverse_reverse]
      rw [List.all_eq_true] at hall
      calc (c :: l).map (ch ∘ fun c => c.toNat - 48) = (c :: l).map id := List.map_congr_left fun a ha => ch_dig (hall a ha)
        _ = c :: l := List.map_id _
    have hlast : ((c :: l).reverse.map fun c => c.toNat - 48).getD (((c :: l).reverse.map fun c => c.toNat - 48).length - 1) 0 = c.toNat - 48 := by
      simp [List.getD]
    have hc := hall
    rw [List.all_cons, Bool.and_eq_true] at hc
    have hcd := hc.1
    simp only [isDig, decide_eq_true_eq] at hcd
    by_cases h0 : c.toNat = 48
    · rcases h2 with h2 | h2
      · have hl : l = [] := by simpa using h2
        subst hl
        have : numT [c] = 0 := by rw [numT_cons, h0]; rfl
        rw [this]
        unfold tx
        rw [if_pos rfl]
        congr 1
        apply UInt8.toNat_inj.1
        rw [h0]; rfl
      · exfalso
        refine h2 ?_
        simp
        apply UInt8.toNat_inj.1
        rw [h0]; rfl
    · have hf : Full10 ((c :: l).reverse.map fun c => c.toNat - 48) := .inr (by rw [hlast]; omega)
      have hne : numT (c :: l) ≠ 0 := by
        rw [hv]
        have h3 := full_lower_t (xs := (c :: l).reverse.map fun c => c.toNat - 48) (by rw [hlast]; omega)
        have := Nat.pow_pos (n := ((c :: l).reverse.map fun c => c.toNat - 48).length - 1) (show 0 < 10 by omega)
        omega
      rw [tx_lit hds hf hv.symm hne, hback]
theorem uintV_small {n : Nat} (h : n < 18446744073709551616) : uintV n = n := by unfold uintV; rw [if_pos h]
theorem uintB_small {n : Nat} (h : n < 18446744073709551616) : uintB n = true := by unfold uintB; rw [decide_eq_true h]
def mk_bs (s : ByteArray) : List UInt8 := s.data.toList
theorem par_len {l : List UInt8} : (parD l).length ≤ 900 := by
  unfold parD
  split
  · rename_i h
    obtain ⟨h1, h2⟩ := isT_parts h
    have := num_len 900 (l := l) (k := l.length) (by rw [List.take_of_length_le (Nat.le_refl _)]; exact h2) (by omega)
    rwa [List.take_of_length_le (Nat.le_refl _)] at this
  · simp

theorem quoD_zero (x : Nat) : quoD x 0 = [] := rfl
theorem remD_zero (x : Nat) : remD x 0 = [] := rfl
theorem divE_zero : divE 0 = 2 := rfl
theorem quoD_pos {x y : Nat} (h : 0 < y) : quoD x y = dg (x / y) := by unfold quoD; rw [if_neg (by omega)]
theorem remD_pos {x y : Nat} (h : 0 < y) : remD x y = dg (x % y) := by unfold remD; rw [if_neg (by omega)]
theorem divE_pos {y : Nat} (h : 0 < y) : divE y = 0 := by unfold divE; rw [if_neg (by omega)]
theorem back_div (x y : Nat) : x / y * y + x % y = x := by rw [Nat.mul_comm]; exact Nat.div_add_mod x y
theorem nil_len {k : Nat} : ([] : List Nat).length ≤ k := Nat.zero_le _

end Go.Proofs.YthbogaindaflpaaGreatDoor
