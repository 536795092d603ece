/- ParA: Par, Par2 in one text. -/
import Derived.Test.YthbogaindaflpaaGreatDoorTxt

namespace Go.Proofs.YthbogaindaflpaaGreatDoor
open Go.RowKit

def isDig (c : UInt8) : Bool := decide (48 ≤ c.toNat ∧ c.toNat ≤ 57)
/-- The text of a value, of at most 4000 bytes. -/
def isT (l : List UInt8) : Bool := !l.isEmpty && decide (l.length ≤ 4000) && !(decide (1 < l.length) && decide (l.getD 0 0 = 48)) && l.all isDig
/-- The value of a text. -/
def numT (l : List UInt8) : Nat := l.foldl (fun a c => 10 * a + (c.toNat - 48)) 0
theorem numT_snoc (l : List UInt8) (c : UInt8) : numT (l ++ [c]) = 10 * numT l + (c.toNat - 48) := by simp [numT]
theorem numT_from (l : List UInt8) : ∀ a, l.foldl (fun a c => 10 * a + (c.toNat - 48)) a = a * 10 ^ l.length + numT l := by
  induction l with
  | nil => intro a; simp [numT]
  | cons c l ih =>
    intro a
    have h1 := ih (10 * a + (c.toNat - 48))
    have h2 := ih (10 * 0 + (c.toNat - 48))
    unfold numT
    simp only [List.foldl_cons, List.length_cons, Nat.pow_succ]
    rw [h1, h2, Nat.add_mul, Nat.add_mul, Nat.mul_zero, Nat.zero_mul, Nat.mul_comm 10 a, Nat.mul_assoc, Nat.mul_comm 10 (10 ^ l.length)]
    omega
theorem numT_append (l m : List UInt8) : numT (l ++ m) = numT l * 10 ^ m.length + numT m := by
  have : numT (l ++ m) = m.foldl (fun a c => 10 * a + (c.toNat - 48)) (numT l) := by unfold numT; rw [List.foldl_append]
  rw [this, numT_from]
theorem numT_cons (c : UInt8) (l : List UInt8) : numT (c :: l) = (c.toNat - 48) * 10 ^ l.length + numT l := by
  have := numT_append [c] l
  simpa [numT] using this
theorem numT_lt {l : List UInt8} (h : l.all isDig = true) : numT l < 10 ^ l.length := by
  induction l with
  | nil => simp [numT]
  | cons c l ih =>
    rw [List.all_cons, Bool.and_eq_true] at h
    have h1 := ih h.2
    have h2 := h.1
    simp [isDig] at h2
    rw [numT_cons, List.length_cons, Nat.pow_succ]
    have := Nat.mul_le_mul_right (10 ^ l.length) (show c.toNat - 48 ≤ 9 by omega)
    omega

theorem all_take_succ {l : List UInt8} {k : Nat} (hk : k < l.length) (h : (l.take k).all isDig = true) (hc : isDig l[k] = true) : (l.take (k + 1)).all isDig = true := by
  rw [List.take_succ_eq_append_getElem hk, List.all_append, h]
  simp [hc]
theorem all_false {l : List UInt8} {k : Nat} (hk : k < l.length) (hc : isDig l[k] = false) : l.all isDig = false := by
  rw [List.all_eq_false]
  exact ⟨l[k], List.getElem_mem hk, by rw [hc]; decide⟩

theorem ret_bool {a b : Bool} (h : b = a) : Ending.returned (.bool a) = .returned (.bool b) := by rw [h]
theorem isT_all {l : List UInt8} (h0 : 0 < l.length) (h1 : l.length ≤ 4000) (h2 : ¬ (1 < l.length ∧ l.getD 0 0 = 48)) : isT l = l.all isDig := by
  unfold isT
  have e : l.isEmpty = false := by
    cases l with
    | nil => simp at h0
    | cons a l => rfl
  rw [e, decide_eq_true h1]
  have e2 : (decide (1 < l.length) && decide (l.getD 0 0 = 48)) = false := by
    rw [← Bool.decide_and]
    exact decide_eq_false h2
  rw [e2]
  simp

end Go.Proofs.YthbogaindaflpaaGreatDoor

namespace Go.Proofs.YthbogaindaflpaaGreatDoor
open Go.RowKit

theorem ret_two {a b c d : Nat} (h : a = c) (k : b = d) : Ending.returned (.tuple #[.int .u64 (c : Int), .int .u64 (d : Int)]) = .returned (.tuple #[.int .u64 (a : Int), .int .u64 (b : Int)]) := by rw [h, k]
theorem isT_parts {l : List UInt8} (h : isT l = true) : l.length ≤ 4000 ∧ l.all isDig = true := by
  unfold isT at h
  simp only [Bool.and_eq_true, decide_eq_true_eq] at h
  exact ⟨h.1.1.2, h.2⟩
theorem take_succ_numT {l : List UInt8} {k : Nat} (hk : k < l.length) : numT (l.take (k + 1)) = 10 * numT (l.take k) + (l[k].toNat - 48) := by
  rw [List.take_succ_eq_append_getElem hk, numT_snoc]
theorem all_take {l : List UInt8} (h : l.all isDig = true) (k : Nat) : (l.take k).all isDig = true := by
  rw [List.all_eq_true] at h ⊢
  exact fun x hx => h x (List.mem_of_mem_take hx)
theorem all_drop {l : List UInt8} (h : l.all isDig = true) (k : Nat) : (l.drop k).all isDig = true := by
  rw [List.all_eq_true] at h ⊢
  exact fun x hx => h x (List.mem_of_mem_drop hx)
theorem all_at {l : List UInt8} (h : l.all isDig = true) {k : Nat} (hk : k < l.length) : 48 ≤ l[k].toNat ∧ l[k].toNat ≤ 57 := by
  rw [List.all_eq_true] at h
  have := h l[k] (List.getElem_mem hk)
  simpa [isDig] using this
theorem numT_take_lt {l : List UInt8} (h : l.all isDig = true) {k : Nat} (hk : k ≤ l.length) : numT (l.take k) < 10 ^ k := by
  have := numT_lt (all_take h k)
  rwa [List.length_take, Nat.min_eq_left hk] at this

theorem extract_list (t : ByteArray) (a b : Nat) : (t.extract a b).data.toList = (t.data.toList.take b).drop a := by
  rw [ByteArray.data_extract, Array.toList_extract]
  simp [List.extract, List.drop_take]
theorem extract_size {t : ByteArray} {a b : Nat} (hb : b ≤ t.size) : (t.extract a b).size = b - a := by
  have h := congrArg List.length (extract_list t a b)
  rw [List.length_drop, List.length_take, Nat.min_eq_left (show b ≤ t.data.toList.length from hb)] at h
  exact h

def ParRel (w : World) (Vb K : Nat) (l : List UInt8) (t : ByteArray) (wr : World) : Prop := ∃ i zs, i ≤ l.length ∧ Row wr Vb zs ∧ Digs zs ∧ zs.length = K ∧ val zs = numT (l.take i) ∧ Below w.heap.size w wr ∧ t.data.toList = l.drop i
theorem par_add {w wr : World} {Vb K : Nat} {l : List UInt8} {t : ByteArray} {q a b : Nat} (h : ParRel w Vb K l t wr) (hd : l.all isDig = true) (hq : q ≤ t.size) (ha : a < 4294967296) (hb : b < 4294967296) (hab : a = numT (t.data.toList.take q) ∧ b = 10 ^ q) (hK : l.length / 9 + 1 = K) (hVb : w.heap.size ≤ Vb) (hK2 : K ≤ 9223372036854775807) :
    Calls Tryz.prog 166 #[.slice (some ⟨Vb, 0, none⟩) K K, .slice none 0 0, .slice (some ⟨Vb, 0, none⟩) K K, .int .u64 b, .int .u64 a] wr fun e w' => (∃ s : Nat, e = .returned (.int .u64 s)) ∧ Hid (ParRel w Vb K l (t.extract q t.size) w') := by
  obtain ⟨i, zs, hi, z1, z2, z3, z4, z5, ht⟩ := h
  have hrd : Rd wr (some ⟨Vb, 0, none⟩) K K zs := by
    have := z1.rd0 z2 (Nat.le_refl _) (by omega)
    rwa [z3] at this
  refine (addTimes_any b a Vb 0 K K 0 0 K K none _ [] zs zs wr hb ha z1 (by omega) (Nat.le_refl _) hK2 (Rd.nil _ _) hrd (Src.nil _ _) (Src.same _ _ _)).mono ?_
  rintro e w' ⟨rfl, us, u1, u2, u3⟩
  have hl : t.size = l.length - i := by
    have := congrArg List.length ht
    rw [List.length_drop] at this
    exact this
  have htk : l.take (i + q) = l.take i ++ t.data.toList.take q := by rw [ht, List.take_add]
  have hv : numT (l.take (i + q)) = val zs * b + a := by
    rw [htk, numT_append, z4, hab.1, hab.2, List.length_take, Nat.min_eq_left (show q ≤ t.data.toList.length from hq)]
  refine ⟨⟨_, rfl⟩, hid ⟨i + q, us, by omega, u1, u2.digs (add_inv b hb) ha Digs.nil z2 z2, by rw [u2.1, z3], ?_, z5.trans (u3.below z5.size (fun k hk => by omega)), ?_⟩⟩
  · have h1 := add_all u2 z3 (by simp) (by omega)
    have h2 : val ([] : List Nat) = 0 := rfl
    rw [h2, Nat.zero_add, ← hv] at h1
    have h3 : numT (l.take (i + q)) < 4294967296 ^ K := by
      have h4 := numT_take_lt hd (k := i + q) (by omega)
      have h5 : 10 ^ (i + q) ≤ 10 ^ (9 * K) := Nat.pow_le_pow_right (by omega) (by omega)
      have h6 : (10 ^ 9) ^ K ≤ 4294967296 ^ K := Nat.pow_le_pow_left (by omega) K
      rw [← Nat.pow_mul] at h6
      omega
    exact no_carry h1 h3
  · rw [extract_list, show t.data.toList.take t.size = t.data.toList from List.take_of_length_le (Nat.le_refl _), ht, List.drop_drop]

def parD (l : List UInt8) : List Nat := if isT l then dg (numT l) else []
def parE (l : List UInt8) : Int := if isT l then 0 else 3

end Go.Proofs.YthbogaindaflpaaGreatDoor
