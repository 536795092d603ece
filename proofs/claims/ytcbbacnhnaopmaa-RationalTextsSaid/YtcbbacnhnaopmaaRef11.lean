/- Contracts: Parse of the specification of layer 1. -/
import Derived.Test.YtcbbacnhnaopmaaPar2
import Derived.Test.YtcbbacnhnaopmaaRef10
import Derived.Deep.RegionWith
namespace Go.Proofs.Ytcbbacnhnaopmaa
open Go.RowKit

def RPar (w : World) (l : List UInt8) (k : Nat) (A : Option Addr) (p c : Nat) (wr : World) : Prop := Rd wr A p c (dg (numT (l.take k))) ∧ (l.take k).all isDig = true ∧ Below w.heap.size w wr
def RMid (w : World) (X : Nat) (A : Option Addr) (p c : Nat) (w1 : World) : Prop := Rd w1 A p c (dg (10 * X)) ∧ p ≤ 1000 ∧ Below w.heap.size w w1
theorem RPar.drew {w wr : World} {l : List UInt8} {k : Nat} {A : Option Addr} {p c : Nat} (h : RPar w l k A p c wr) : RPar w l k A p c wr.drew := ⟨h.1, h.2.1, h.2.2.drew⟩
theorem num_len (K : Nat) {l : List UInt8} {k : Nat} (h : (l.take k).all isDig = true) (hk : k ≤ 9 * K) : (dg (numT (l.take k))).length ≤ K := by
  refine dg_len_le ?_
  have h1 := numT_lt h
  have h2 : 10 ^ (l.take k).length ≤ 10 ^ (9 * K) := Nat.pow_le_pow_right (by omega) (by simp; omega)
  have h3 : (10 ^ 9) ^ K ≤ 4294967296 ^ K := Nat.pow_le_pow_left (by omega) K
  rw [← Nat.pow_mul] at h3
  exact Nat.lt_of_lt_of_le h1 (Nat.le_trans h2 h3)
theorem ten_len {x K : Nat} (h : (dg x).length ≤ K) : (dg (10 * x)).length ≤ K + 1 := by
  refine dg_len_le ?_
  have h3 := dg_len_lt x
  have h4 := Nat.pow_le_pow_right (n := 4294967296) (by omega) h
  rw [Nat.pow_succ]
  generalize 4294967296 ^ K = P at *
  omega
/-- The product, in a world in which 10 lies at g. -/
theorem par_mul {w wr W : World} {l : List UInt8} {k : Nat} {A : Option Addr} {p c g : Nat} (h : RPar w l k A p c wr) (hk : k ≤ 4000) (hb : Below wr.heap.size wr W) (ht : Rd W (some ⟨g, 0, none⟩) 1 1 [10]) :
    Calls Try.prog 99 #[.slice A p c, .slice (some ⟨g, 0, none⟩) 1 1] W fun e w1 => ∃ A1 p1 c1, e = .returned (.slice A1 p1 c1) ∧ Hid (RMid w (numT (l.take k)) A1 p1 c1 w1) ∧ Below W.heap.size W w1 := by
  have hl := num_len 900 h.2.1 (by omega)
  refine (rmul_any A _ p c 1 1 _ [10] W (h.1.keep hb) ht (by have := h.1.1; omega) (by omega)).mono ?_
  rintro e w1 ⟨v, rfl, ⟨A1, p1, c1, rfl, r1⟩, b1⟩
  rw [val_dg, show val [10] = 10 from rfl, Nat.mul_comm] at r1
  refine ⟨A1, p1, c1, rfl, hid ⟨r1, ?_, h.2.2.trans ((hb.trans (b1.mono hb.size)).mono h.2.2.size)⟩, b1⟩
  rw [← r1.1]
  have h2 := ten_len hl
  omega
theorem par_add2 {w wr W : World} {l : List UInt8} {k : Nat} {A1 : Option Addr} {p1 c1 g d : Nat} (h : RMid w (numT (l.take k)) A1 p1 c1 wr) (hk : k < l.length) (hk2 : k < 4000) (hd : d = l[k].toNat - 48) (ha : (l.take (k + 1)).all isDig = true) (hb : Below wr.heap.size wr W) (ht : Rd W (some ⟨g, 0, none⟩) 1 1 [d]) :
    Calls Try.prog 90 #[.slice A1 p1 c1, .slice (some ⟨g, 0, none⟩) 1 1] W fun e w2 => ∃ A2 p2 c2, e = .returned (.slice A2 p2 c2) ∧ p2 ≤ 65536 ∧ Hid (RPar w l (k + 1) A2 p2 c2 w2) := by
  refine (radd_any A1 _ p1 c1 1 1 _ [d] W (h.1.keep hb) ht (by have := h.2.1; omega) (by omega)).mono ?_
  rintro e w2 ⟨v, rfl, ⟨A2, p2, c2, rfl, r2⟩, b2⟩
  rw [val_dg, show val [d] = d from by simp [val], hd, ← take_succ_numT hk] at r2
  refine ⟨A2, p2, c2, rfl, ?_, hid ⟨r2, ha, h.2.2.trans ((hb.trans (b2.mono hb.size)).mono h.2.2.size)⟩⟩
  have := num_len 900 ha (by omega)
  rw [← r2.1]
  omega

theorem dig_wrap {c : UInt8} (h1 : 48 ≤ c.toNat) (h2 : c.toNat ≤ 57) : IntKind.u32.wrap (IntKind.u8.wrap ((c.toNat : Int) - 48)) = ((c.toNat - 48 : Nat) : Int) := by
  simp only [IntKind.wrap, IntKind.bits, IntKind.signed]
  simp
  omega
theorem below_two (w : World) (o o2 : Obj) : Below w.heap.size w ((w.alloc o).alloc o2).drew := (((Below.refl _ _).alloc (Nat.le_refl _) _).alloc (by simp) _).drew
theorem rd_drew {w : World} {A : Option Addr} {n c : Nat} {xs : List Nat} (h : Rd w A n c xs) : Rd w.drew A n c xs := h
theorem one_rd2 (w : World) (o : Obj) (d : Nat) (hd : d < 4294967296) : Rd ((w.alloc o).alloc (.cells #[.int .u32 (d : Int)] 79)) (some ⟨w.heap.size + 1, 0, none⟩) 1 1 [d] := by
  have := one_rd (w.alloc o) d hd (d : Int) rfl
  rwa [World.size_alloc] at this

set_option maxRecDepth 100000 in
set_option maxHeartbeats 4000000 in
theorem rparse_good (s : ByteArray) (w : World) (hs : s.size ≤ 4000) (h0 : 0 < s.size) (b2 b3 : Bool) (e2 : decide (1 < (s.size : Int)) = b2) (e3 : (((s[0]).toNat : Int) == 48) = b3) (hb : (b2 && b3) = false) :
    Calls Try.prog 105 #[.string s] w (Ret2 w (if s.data.toList.all isDig then dg (numT s.data.toList) else []) (if s.data.toList.all isDig then 0 else 3)) := by
  have ne : s.toList.isEmpty = false := by
    rw [ByteArray.toList_eq]
    cases h : s.data.toList with
    | nil => have h1 : s.data.toList.length = 0 := by rw [h]; rfl
             have h2 : s.size = 0 := h1
             omega
    | cons a l => rfl
  have e1 : decide (4000 < (s.size : Int)) = false := decide_eq_false (by omega)
  obtain ⟨D, hD⟩ : ∃ D, D = if s.data.toList.all isDig then dg (numT s.data.toList) else [] := ⟨_, rfl⟩
  obtain ⟨E, hE⟩ : ∃ E, E = if s.data.toList.all isDig then (0 : Int) else 3 := ⟨_, rfl⟩
  rw [← hD, ← hE]
  have HD := hid hD
  have HE := hid hE
  have LT := hid (show s.data.toList.length = s.size from rfl)
  have R0 := hid (show RPar w s.data.toList 0 (some ⟨w.heap.size, 0, none⟩) 0 0 (w.alloc (.cells #[] 79)) from ⟨⟨rfl, Nat.le_refl _, by omega, Digs.nil, fun h => absurd h (by omega)⟩, rfl, (Below.refl _ _).alloc (Nat.le_refl _) _⟩)
  clear hD hE
  have key : ∀ (k : Nat) (A : Option Addr) (p c : Nat) (wr : World) (hlt : k < s.size) (c1 : ¬ s[k].toNat < 48) (c2 : ¬ 57 < s[k].toNat), RPar w s.data.toList k A p c wr → (s.data.toList.take (k + 1)).all isDig = true := fun k A p c wr hlt c1 c2 hz =>
    all_take_succ (l := s.data.toList) (k := k) hlt hz.2.1 (by simp only [isDig]; exact decide_eq_true (by have : s.data.toList[k]'hlt = s[k] := rfl; rw [this]; omega))
  have KEY := hid key
  clear key
  rcases (show (b2 = false ∧ b3 = false) ∨ (b2 = false ∧ b3 = true) ∨ (b2 = true ∧ b3 = false) by cases b2 <;> cases b3 <;> simp_all) with ⟨rfl, rfl⟩ | ⟨rfl, rfl⟩ | ⟨rfl, rfl⟩
  all_goals
    clear hb
    go_enter Try.func105, Try.ntmps105
    go_wp2_with fail
    go_loopw [4, 5] (fun a i wr => ∃ (A : Option Addr) (p c : Nat) (k : Nat), k ≤ s.size ∧ p ≤ 65536 ∧ a = .slice A p c ∧ i = .int .i64 k ∧ Hid (RPar w s.data.toList k A p c wr)) (fun _ i _ => s.size - (intOf i).toNat)
    case atStart => exact ⟨_, 0, 0, 0, Nat.zero_le _, by omega, rfl, rfl, R0⟩
    case round =>
      clear R0
      obtain ⟨A, p, c, k, hk, hp, rfl, rfl, hz⟩ := hrel
      rcases Nat.lt_or_ge k s.size with hlt | hge
      · by_cases c1 : s[k].toNat < 48
        · have A1 := hid (all_false (l := s.data.toList) (k := k) hlt (by simp only [isDig]; exact decide_eq_false (fun h => absurd h.1 (by have : s.data.toList[k]'hlt = s[k] := rfl; rw [this]; omega))))
          go_wp2_with fail
          go_ret2
          exact ⟨_, by rw [HE.out, A1.out]; rfl, by rw [HD.out, A1.out]; exact Dig.nil _, hz.out.2.2⟩
        · by_cases c2 : 57 < s[k].toNat
          · have A1 := hid (all_false (l := s.data.toList) (k := k) hlt (by simp only [isDig]; exact decide_eq_false (fun h => absurd h.2 (by have : s.data.toList[k]'hlt = s[k] := rfl; rw [this]; omega))))
            go_wp2_with fail
            go_ret2
            exact ⟨_, by rw [HE.out, A1.out]; rfl, by rw [HD.out, A1.out]; exact Dig.nil _, hz.out.2.2⟩
          · have hall := KEY.out k A p c wr hlt c1 c2 hz.out
            have hw := dig_wrap (c := s[k]) (by omega) (by omega)
            obtain ⟨d, hd⟩ : ∃ d, d = s[k].toNat - 48 := ⟨_, rfl⟩
            rw [← hd] at hw
            have hdb : d < 4294967296 := by omega
            have cm1 := hid (par_mul hz.out (by omega) ((Below.refl wr.heap.size wr).alloc (Nat.le_refl _) (.cells #[.int .u32 10] 79)).drew (rd_drew (ten_rd wr)))
            have cm2 := hid ((par_mul hz.out (by omega) (below_two wr (.cells #[.int .u32 10] 79) (.cells #[.int .u32 (d : Int)] 79)) (rd_drew ((ten_rd wr).keep ((Below.refl _ _).alloc (Nat.le_refl _) _)))).mono fun e w1 ⟨A1, p1, c1, h1, h2, h3⟩ => (⟨A1, p1, c1, h1, hid ⟨h2.out, (rd_drew (one_rd2 wr (.cells #[.int .u32 10] 79) d hdb)).keep h3⟩⟩ : ∃ A1 p1 c1, e = Ending.returned (.slice A1 p1 c1) ∧ Hid (RMid w (numT (s.data.toList.take k)) A1 p1 c1 w1 ∧ Rd w1 (some ⟨wr.heap.size + 1, 0, none⟩) 1 1 [d])))
            have cm3 := hid ((par_mul hz.out (by omega) (below_two wr (.cells #[.int .u32 (d : Int)] 79) (.cells #[.int .u32 10] 79)) (rd_drew (one_rd2 wr (.cells #[.int .u32 (d : Int)] 79) 10 (by omega)))).mono fun e w1 ⟨A1, p1, c1, h1, h2, h3⟩ => (⟨A1, p1, c1, h1, hid ⟨h2.out, (rd_drew ((one_rd wr d hdb (d : Int) rfl).keep ((Below.refl _ _).alloc (Nat.le_refl _) _))).keep h3⟩⟩ : ∃ A1 p1 c1, e = Ending.returned (.slice A1 p1 c1) ∧ Hid (RMid w (numT (s.data.toList.take k)) A1 p1 c1 w1 ∧ Rd w1 (some ⟨wr.heap.size, 0, none⟩) 1 1 [d])))
            have ca1 := hid (fun (w1 : World) (A1 : Option Addr) (p1 c1 : Nat) (h : Hid (RMid w (numT (s.data.toList.take k)) A1 p1 c1 w1)) => par_add2 h.out (l := s.data.toList) (k := k) hlt (by omega) hd hall ((Below.refl w1.heap.size w1).alloc (Nat.le_refl _) (.cells #[.int .u32 (d : Int)] 79)) (one_rd w1 d hdb (d : Int) rfl))
            have ca2 := hid (fun (w1 : World) (A1 : Option Addr) (p1 c1 g : Nat) (h : Hid (RMid w (numT (s.data.toList.take k)) A1 p1 c1 w1 ∧ Rd w1 (some ⟨g, 0, none⟩) 1 1 [d])) => par_add2 h.out.1 (l := s.data.toList) (k := k) hlt (by omega) hd hall (Below.refl w1.heap.size w1) h.out.2)
            clear hd hall hz
            go_wp2_with fail
            go_region_with (first | (go_at_call 99; (first | (with_reducible refine cm1.out.mono ?_; rintro e w1 ⟨A1, p1, c1', rfl, r1, _⟩) | (with_reducible refine cm2.out.mono ?_; rintro e w1 ⟨A1, p1, c1', rfl, r1⟩) | (with_reducible refine cm3.out.mono ?_; rintro e w1 ⟨A1, p1, c1', rfl, r1⟩))) | (go_at_call 90; (first | (with_reducible refine (ca1.out _ _ _ _ (by assumption)).mono ?_) | (with_reducible refine (ca2.out _ _ _ _ _ (by assumption)).mono ?_)); rintro e w2 ⟨A2, p2, c2', rfl, l2, r2⟩))
            all_goals
              go_wp2_with fail
              go_roundw
              case rel => first | exact ⟨_, _, _, k + 1, by omega, by assumption, rfl, by go_num, by assumption⟩ | exact ⟨_, _, _, k + 1, by omega, by assumption, rfl, by go_num, hid (RPar.drew (Hid.out (by assumption)))⟩
              case measure => simp [intOf]; omega
      · obtain rfl : k = s.size := by omega
        have A1 := hid (show s.data.toList.all isDig = true from by have := hz.out.2.1; rwa [show s.data.toList.take s.size = s.data.toList from List.take_of_length_le (Nat.le_refl _)] at this)
        go_wp2_with fail
        go_ret2
        have h6 := hz.out.1
        rw [show s.data.toList.take s.size = s.data.toList from List.take_of_length_le (Nat.le_refl _)] at h6
        exact ⟨_, by rw [HE.out, A1.out]; rfl, by rw [HD.out, A1.out]; exact ⟨_, _, _, rfl, h6⟩, hz.out.2.2⟩

end Go.Proofs.Ytcbbacnhnaopmaa
