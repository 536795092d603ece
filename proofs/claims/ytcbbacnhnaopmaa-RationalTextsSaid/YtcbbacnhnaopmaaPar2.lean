/- Contracts: readChunk, Parse of package natural. -/
import Derived.Test.YtcbbacnhnaopmaaPar
namespace Go.Proofs.Ytcbbacnhnaopmaa
open Go.RowKit

theorem ret_two {a b c d : Nat} (h : a = c) (k : b = d) : Ending.returned (.tuple #[.int .u64 (c : Int), .int .u64 (d : Int)]) = .returned (.tuple #[.int .u64 (a : Int), .int .u64 (b : Int)]) := by rw [h, k]
theorem isT_parts {l : List UInt8} (h : isT l = true) : l.length ≤ 4000 ∧ l.all isDig = true := by
  unfold isT at h
  simp only [Bool.and_eq_true, decide_eq_true_eq] at h
  exact ⟨h.1.1.2, h.2⟩
theorem take_succ_numT {l : List UInt8} {k : Nat} (hk : k < l.length) : numT (l.take (k + 1)) = 10 * numT (l.take k) + (l[k].toNat - 48) := by
  rw [List.take_succ_eq_append_getElem hk, numT_snoc]
theorem all_take {l : List UInt8} (h : l.all isDig = true) (k : Nat) : (l.take k).all isDig = true := by
  rw [List.all_eq_true] at h ⊢
  exact fun x hx => h x (List.mem_of_mem_take hx)
theorem all_drop {l : List UInt8} (h : l.all isDig = true) (k : Nat) : (l.drop k).all isDig = true := by
  rw [List.all_eq_true] at h ⊢
  exact fun x hx => h x (List.mem_of_mem_drop hx)
theorem all_at {l : List UInt8} (h : l.all isDig = true) {k : Nat} (hk : k < l.length) : 48 ≤ l[k].toNat ∧ l[k].toNat ≤ 57 := by
  rw [List.all_eq_true] at h
  have := h l[k] (List.getElem_mem hk)
  simpa [isDig] using this
theorem numT_take_lt {l : List UInt8} (h : l.all isDig = true) {k : Nat} (hk : k ≤ l.length) : numT (l.take k) < 10 ^ k := by
  have := numT_lt (all_take h k)
  rwa [List.length_take, Nat.min_eq_left hk] at this

set_option maxRecDepth 100000 in
set_option maxHeartbeats 1000000 in
theorem readChunk_any (s : ByteArray) (w : World) (hs : s.size ≤ 9) (hd : s.data.toList.all isDig = true) :
    Calls Try.prog 130 #[.string s] w fun e w' => e = .returned (.tuple #[.int .u64 (numT s.data.toList : Nat), .int .u64 (10 ^ s.size : Nat)]) ∧ w = w' := by
  have HD := hid hd
  have hl : s.data.toList.length = s.size := rfl
  obtain ⟨V, hV⟩ : ∃ V, V = numT s.data.toList := ⟨_, rfl⟩
  obtain ⟨W, hW⟩ : ∃ W, W = 10 ^ s.size := ⟨_, rfl⟩
  rw [← hV, ← hW]
  have HV := hid hV
  have HW := hid hW
  clear hd hV hW hl
  go_enter Try.func130, Try.ntmps130
  go_wp2_with fail
  go_loop [4, 5, 9] (fun a b i => ∃ k v t : Nat, k ≤ s.size ∧ v < 1000000000 ∧ t ≤ 1000000000 ∧ a = .int .u64 v ∧ b = .int .u64 t ∧ i = .int .i64 k ∧ Hid (v = numT (s.data.toList.take k) ∧ t = 10 ^ k)) (fun _ _ i => s.size - (intOf i).toNat)
  case atStart => exact ⟨0, 0, 1, Nat.zero_le _, by omega, by omega, rfl, rfl, rfl, hid ⟨rfl, rfl⟩⟩
  case round =>
    obtain ⟨k, v, t, hk, hv, ht, rfl, rfl, rfl, hz⟩ := hrel
    rcases Nat.lt_or_ge k s.size with hlt | hge
    · obtain ⟨c1, c2⟩ : 48 ≤ s[k].toNat ∧ s[k].toNat ≤ 57 := all_at HD.out (k := k) hlt
      have N := hid (show 10 * v + (s[k].toNat - 48) = numT (s.data.toList.take (k + 1)) ∧ t * 10 = 10 ^ (k + 1) from ⟨by rw [take_succ_numT (show k < s.data.toList.length from hlt), ← hz.out.1]; rfl, by rw [hz.out.2, Nat.pow_succ]⟩)
      have b1 : 10 * v + (s[k].toNat - 48) < 1000000000 := by
        rw [N.out.1]
        refine Nat.lt_of_lt_of_le (numT_take_lt HD.out (show k + 1 ≤ s.data.toList.length from hlt)) ?_
        exact Nat.pow_le_pow_right (n := 10) (i := k + 1) (j := 9) (by omega) (by omega)
      have b2 : t * 10 ≤ 1000000000 := by
        rw [N.out.2]
        exact Nat.pow_le_pow_right (n := 10) (i := k + 1) (j := 9) (by omega) (by omega)
      go_wp2_with fail
      go_round
      case rel => exact ⟨k + 1, 10 * v + (s[k].toNat - 48), t * 10, by omega, b1, b2, by go_num, by go_num, by go_num, N⟩
      case measure => simp [intOf]; omega
    · obtain rfl : k = s.size := by omega
      go_wp2_with fail
      go_ret2
      have h5 := hz.out
      rw [show s.data.toList.take s.size = s.data.toList from List.take_of_length_le (Nat.le_refl _)] at h5
      exact ⟨ret_two (by rw [HV.out, h5.1]) (by rw [HW.out, h5.2]), rfl⟩

theorem extract_list (t : ByteArray) (a b : Nat) : (t.extract a b).data.toList = (t.data.toList.take b).drop a := by
  rw [ByteArray.data_extract, Array.toList_extract]
  simp [List.extract, List.drop_take]
theorem extract_size {t : ByteArray} {a b : Nat} (hb : b ≤ t.size) : (t.extract a b).size = b - a := by
  have h := congrArg List.length (extract_list t a b)
  rw [List.length_drop, List.length_take, Nat.min_eq_left (show b ≤ t.data.toList.length from hb)] at h
  exact h

def ParRel (w : World) (Vb K : Nat) (l : List UInt8) (t : ByteArray) (wr : World) : Prop := ∃ i zs, i ≤ l.length ∧ Row wr Vb zs ∧ Digs zs ∧ zs.length = K ∧ val zs = numT (l.take i) ∧ Below w.heap.size w wr ∧ t.data.toList = l.drop i
theorem par_chunk {w wr : World} {Vb K : Nat} {l : List UInt8} {t : ByteArray} (h : ParRel w Vb K l t wr) (hd : l.all isDig = true) {q : Nat} (hq : q ≤ t.size) (hq9 : q ≤ 9) :
    Calls Try.prog 130 #[.string (t.extract 0 q)] wr fun e w' => ∃ a b : Nat, e = .returned (.tuple #[.int .u64 a, .int .u64 b]) ∧ a < 4294967296 ∧ b < 4294967296 ∧ Hid (a = numT (t.data.toList.take q) ∧ b = 10 ^ q) ∧ wr = w' := by
  obtain ⟨i, zs, _, _, _, _, _, _, ht⟩ := h
  have e1 : (t.extract 0 q).data.toList = t.data.toList.take q := by rw [extract_list, List.drop_zero]
  have e2 : (t.extract 0 q).size = q := by rw [extract_size hq, Nat.sub_zero]
  have hall : (t.data.toList.take q).all isDig = true := by rw [ht]; exact all_take (all_drop hd i) q
  refine (readChunk_any (t.extract 0 q) wr (by omega) (by rw [e1]; exact hall)).mono ?_
  rintro e w' ⟨rfl, rfl⟩
  rw [e1, e2]
  have h1 := numT_lt hall
  have h2 : 10 ^ (t.data.toList.take q).length ≤ 10 ^ 9 := Nat.pow_le_pow_right (by omega) (by simp; omega)
  have h3 : 10 ^ q ≤ 10 ^ 9 := Nat.pow_le_pow_right (by omega) hq9
  exact ⟨_, _, rfl, by omega, by omega, hid ⟨rfl, rfl⟩, rfl⟩
theorem par_add {w wr : World} {Vb K : Nat} {l : List UInt8} {t : ByteArray} {q a b : Nat} (h : ParRel w Vb K l t wr) (hd : l.all isDig = true) (hq : q ≤ t.size) (ha : a < 4294967296) (hb : b < 4294967296) (hab : a = numT (t.data.toList.take q) ∧ b = 10 ^ q) (hK : l.length / 9 + 1 = K) (hVb : w.heap.size ≤ Vb) (hK2 : K ≤ 9223372036854775807) :
    Calls Try.prog 122 #[.slice (some ⟨Vb, 0, none⟩) K K, .slice none 0 0, .slice (some ⟨Vb, 0, none⟩) K K, .int .u64 b, .int .u64 a] wr fun e w' => (∃ s : Nat, e = .returned (.int .u64 s)) ∧ Hid (ParRel w Vb K l (t.extract q t.size) w') := by
  obtain ⟨i, zs, hi, z1, z2, z3, z4, z5, ht⟩ := h
  have hrd : Rd wr (some ⟨Vb, 0, none⟩) K K zs := by
    have := z1.rd0 z2 (Nat.le_refl _) (by omega)
    rwa [z3] at this
  refine (addTimes_any b a Vb 0 K K 0 0 K K none _ [] zs zs wr hb ha z1 (by omega) (Nat.le_refl _) hK2 (Rd.nil _ _) hrd (Src.nil _ _) (Src.same _ _ _)).mono ?_
  rintro e w' ⟨rfl, us, u1, u2, u3⟩
  have hl : t.size = l.length - i := by
    have := congrArg List.length ht
    rw [List.length_drop] at this
    exact this
  have htk : l.take (i + q) = l.take i ++ t.data.toList.take q := by rw [ht, List.take_add]
  have hv : numT (l.take (i + q)) = val zs * b + a := by
    rw [htk, numT_append, z4, hab.1, hab.2, List.length_take, Nat.min_eq_left (show q ≤ t.data.toList.length from hq)]
  refine ⟨⟨_, rfl⟩, hid ⟨i + q, us, by omega, u1, u2.digs (add_inv b hb) ha Digs.nil z2 z2, by rw [u2.1, z3], ?_, z5.trans (u3.below z5.size (fun k hk => by omega)), ?_⟩⟩
  · have h1 := add_all u2 z3 (by simp) (by omega)
    have h2 : val ([] : List Nat) = 0 := rfl
    rw [h2, Nat.zero_add, ← hv] at h1
    have h3 : numT (l.take (i + q)) < 4294967296 ^ K := by
      have h4 := numT_take_lt hd (k := i + q) (by omega)
      have h5 : 10 ^ (i + q) ≤ 10 ^ (9 * K) := Nat.pow_le_pow_right (by omega) (by omega)
      have h6 : (10 ^ 9) ^ K ≤ 4294967296 ^ K := Nat.pow_le_pow_left (by omega) K
      rw [← Nat.pow_mul] at h6
      omega
    exact no_carry h1 h3
  · rw [extract_list, show t.data.toList.take t.size = t.data.toList from List.take_of_length_le (Nat.le_refl _), ht, List.drop_drop]

def parD (l : List UInt8) : List Nat := if isT l then dg (numT l) else []
def parE (l : List UInt8) : Int := if isT l then 0 else 3

set_option maxRecDepth 100000 in
set_option maxHeartbeats 1000000 in
theorem parse_any (s : ByteArray) (w : World) (hs : s.size ≤ 9223372036854775807) :
    Calls Try.prog 104 #[.string s] w (Ret2 w (parD s.data.toList) (parE s.data.toList)) := by
  have it := isText_any s w hs
  unfold parD parE
  by_cases hT : isT s.data.toList = true
  · rw [if_pos hT, if_pos hT]
    rw [hT] at it
    have IT := hid it
    obtain ⟨hlen, hdig⟩ := isT_parts hT
    have hlen2 : s.size ≤ 4000 := hlen
    have HD := hid hdig
    have ek : ((s.size / 9 + 1 : Nat) : Int) = (s.size : Int) / 9 + 1 := by omega
    have hmk : ∀ W, (Instr.makeSlice 23 (.int .i64 ((s.size : Int) / 9 + 1)) (.int .i64 ((s.size : Int) / 9 + 1))).run Try.prog W = .ok (.slice (some ⟨W.heap.size, 0, none⟩) (s.size / 9 + 1) (s.size / 9 + 1)) (W.alloc (.cells (zrow (s.size / 9 + 1)) 79)) := fun W => by rw [← ek]; exact run_make_nat (s.size / 9 + 1) (by omega) W
    have R0 := hid (show ParRel w w.heap.size (s.size / 9 + 1) s.data.toList s (w.alloc (.cells (zrow (s.size / 9 + 1)) 79)) from ⟨0, _, Nat.zero_le _, row_new w _, Digs.zeros _, by simp, by rw [val_zeros]; rfl, (Below.refl _ _).alloc (Nat.le_refl _) _, rfl⟩)
    have LT := hid (show s.data.toList.length = s.size from rfl)
    clear it hT hlen hdig ek hs
    go_enter Try.func104, Try.ntmps104
    go_wp2_with fail
    refine (IT.out).mono ?_
    rintro e w' ⟨rfl, rfl⟩
    go_wp2_with fail
    go_loopg [0] s.size (fun g s0 wr => ∃ t : ByteArray, s0 = .string t ∧ t.size ≤ 4000 ∧ Hid (t.size = g) ∧ Hid (ParRel w w.heap.size (s.size / 9 + 1) s.data.toList t wr))
    case atStart => exact ⟨s, rfl, hlen2, hid rfl, R0⟩
    case round =>
      clear R0
      obtain ⟨t, rfl, ht, hg, hz⟩ := hrel
      rcases Nat.eq_zero_or_pos t.size with h0 | h0
      · have F := hid (show ∃ zs, Row wr w.heap.size zs ∧ Digs zs ∧ zs.length = s.size / 9 + 1 ∧ val zs = numT s.data.toList ∧ Below w.heap.size w wr from by
          obtain ⟨i, zs, hi, z1, z2, z3, z4, z5, z6⟩ := hz.out
          have hl := congrArg List.length z6
          rw [List.length_drop] at hl
          have h0' : t.data.toList.length = 0 := h0
          rw [List.take_of_length_le (by omega)] at z4
          exact ⟨zs, z1, z2, z3, z4, z5⟩)
        have h0' : t.size ≤ 0 := by omega
        clear h0 hz hg
        go_wp2_with fail
        obtain ⟨zs, z1, z2, z3, z4, z5⟩ := F.out
        refine (trim_row z1 z2 z3 (by omega)).mono ?_
        rintro e w' ⟨rfl, rfl⟩
        have R := hid (ret2_row z1 z2 (by omega) z5 0)
        rw [z4] at R ⊢
        clear z1 z2 z3 z4 z5
        go_wp2_with fail
        go_ret2
        exact R.out
      · obtain ⟨q, hq⟩ : ∃ q, q = (t.size - 1) % 9 + 1 := ⟨_, rfl⟩
        have eq1 : ((t.size : Int) - 1) % 9 + 1 = (q : Int) := by omega
        have hq1 : q ≤ t.size := by omega
        have hq2 : q ≤ 9 := by omega
        have hq3 : 1 ≤ q := by omega
        have PC := hid (par_chunk hz.out HD.out hq1 hq2)
        have PA := hid (fun (a b : Nat) (h1 : a < 4294967296) (h2 : b < 4294967296) h3 => par_add hz.out HD.out hq1 h1 h2 h3 (by rw [LT.out]) (Nat.le_refl _) (by omega))
        have ES := hid (extract_size (t := t) (a := q) (Nat.le_refl t.size))
        clear hq
        go_wp2_with fail
        refine (PC.out).mono ?_
        rintro e w' ⟨a, b, rfl, ha, hb, hab, rfl⟩
        go_wp2_with fail
        refine (PA.out a b ha hb hab.out).mono ?_
        rintro e w2 ⟨⟨z, rfl⟩, hy⟩
        go_wp2_with fail
        go_roundg (t.size - q)
        case measure => have := hg.out; omega
        case rel => exact ⟨_, rfl, by rw [ES.out]; omega, ES, hy⟩
  · have hF : isT s.data.toList = false := by simpa using hT
    rw [if_neg hT, if_neg hT]
    rw [hF] at it
    have IT := hid it
    clear it hT hF
    go_enter Try.func104, Try.ntmps104
    go_wp2_with fail
    refine (IT.out).mono ?_
    rintro e w' ⟨rfl, rfl⟩
    go_wp2_with fail
    go_ret2
    exact ⟨_, rfl, Dig.nil _, Below.refl _ _⟩

end Go.Proofs.Ytcbbacnhnaopmaa
