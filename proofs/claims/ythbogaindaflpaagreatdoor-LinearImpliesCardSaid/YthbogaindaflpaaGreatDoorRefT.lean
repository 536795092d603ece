/- RefT: Ref10, Ref11, Ref12 in one text. -/
import Derived.Test.YthbogaindaflpaaGreatDoorTxt
import Derived.Test.YthbogaindaflpaaGreatDoorBitR
import Derived.Test.YthbogaindaflpaaGreatDoorParA
import Derived.Deep.RegionWith

namespace Go.Proofs.YthbogaindaflpaaGreatDoor
open Go.RowKit

def bs (l : List UInt8) : ByteArray := ⟨l.toArray⟩
def RTxt (w : World) (x X : Nat) (s : ByteArray) (A : Option Addr) (p c : Nat) (wr : World) : Prop := ∃ ds, Rd wr A p c (dg X) ∧ dd x = ds ++ dd X ∧ s = bs (ds.map ch).reverse ∧ Below w.heap.size w wr
theorem ten_rd (w : World) : Rd (w.alloc (.cells #[.int .u32 10] 127)) (some ⟨w.heap.size, 0, none⟩) 1 1 [10] := one_rd w 10 (by omega) 10 rfl

theorem rtxt_pos {w wr : World} {x X : Nat} {s : ByteArray} {A : Option Addr} {p c : Nat} (h : RTxt w x X s A p c wr) (hp : 0 < p) : 0 < X := by
  obtain ⟨ds, h1, _, _, _⟩ := h
  rcases Nat.eq_zero_or_pos X with h0 | h0
  · have := h1.1; rw [h0] at this; simp [dg_zero] at this; omega
  · exact h0
theorem rtxt_next {x X : Nat} {ds : List Nat} (h : dd x = ds ++ dd X) (hX : 0 < X) : dd x = (ds ++ [X % 10]) ++ dd (X / 10) := by
  rw [h, dg_pos_t hX, List.append_assoc]; rfl
theorem bs_cons (ds : List Nat) (d : Nat) : (⟨#[ch d]⟩ : ByteArray) ++ bs (ds.map ch).reverse = bs ((ds ++ [d]).map ch).reverse := by
  unfold bs
  apply ByteArray.ext
  simp [ByteArray.data_append]
theorem dd_len {x n : Nat} (h : (dg x).length ≤ n) : (dd x).length ≤ 10 * n := by
  refine dg_len_le_t ?_
  have h1 := dg_len_lt x
  have h2 := Nat.pow_le_pow_right (n := 4294967296) (by omega) h
  have h3 : 4294967296 ^ n ≤ (10 ^ 10) ^ n := Nat.pow_le_pow_left (by omega) n
  rw [← Nat.pow_mul] at h3
  omega
theorem bs_size (l : List UInt8) : (bs l).size = l.length := by simp [bs, ByteArray.size]
theorem bs_nonempty {l : List UInt8} (h : l ≠ []) : (bs l).toList.isEmpty = false := by
  unfold bs
  rw [ByteArray.toList_mk]
  cases l with
  | nil => exact absurd rfl h
  | cons a l => rfl
theorem rem_digit (X : Nat) : (remD X 10).getD 0 0 = X % 10 := by
  unfold remD
  rw [if_neg (by omega)]
  rcases Nat.eq_zero_or_pos (X % 10) with h | h
  · rw [h]; rfl
  · rw [dg_pos h]
    simp
    omega
theorem one_conv (w : World) (b : UInt8) (z : Int) (hz : z = (b.toNat : Int)) : (convert 151 9 (.slice (some ⟨w.heap.size, 0, none⟩) 1 1)).run Tryz.prog (w.alloc (.cells #[.int .u8 z] 5)) = .ok (.string ⟨#[b]⟩) (w.alloc (.cells #[.int .u8 z] 5)) := by
  subst hz
  have h := Blk.new w [bc b] 5
  exact conv_bytes (l := [b]) ⟨rfl, Nat.le_refl _, by omega, fun _ => ⟨w.heap.size, 0, rfl, Blk.lt h, fun j hj => by
    obtain rfl : j = 0 := by omega
    exact Blk.cell h 0⟩⟩ (by omega)

set_option maxRecDepth 100000 in
set_option maxHeartbeats 2000000 in
theorem rtext_any (A : Option Addr) (n c : Nat) (xs : List Nat) (w : World) (h : Rd w A n c xs) (hn : n ≤ 1099511627776) :
    Calls Tryz.prog 105 #[.slice A n c] w (RetStr w (tx (val xs))) := by
  have ta := hid (rtrim_any A n c xs w h (by omega))
  have la := dg_len_small h.2.2.2.1
  rw [h.1] at la
  obtain ⟨x, hx⟩ : ∃ x, x = val xs := ⟨_, rfl⟩
  rw [← hx] at ta la ⊢
  clear h hx
  go_enter Tryz.func105, Tryz.ntmps105
  go_wp2_with fail
  refine (ta.out).mono ?_
  rintro e w1 ⟨v1, rfl, ⟨A1, p, c1, rfl, d1⟩, b1⟩
  have hpn : p ≤ n := by have := d1.1; omega
  have R0 := hid (show RTxt w x x ⟨#[]⟩ A1 p c1 w1 from ⟨[], d1, rfl, rfl, b1⟩)
  clear d1 b1 ta
  go_wp2_with fail
  go_loopg [0, 3] x (fun X s0 s3 wr => ∃ (A : Option Addr) (p c : Nat) (s : ByteArray), p ≤ n ∧ s.size ≤ 10995116277760 ∧ s0 = .slice A p c ∧ s3 = .string s ∧ Hid (RTxt w x X s A p c wr))
  case atStart => exact ⟨A1, p, c1, _, hpn, by show (0 : Nat) ≤ _; omega, rfl, rfl, R0⟩
  case round =>
    clear R0
    obtain ⟨A2, p2, c2, s, hp2, hss, rfl, rfl, hz⟩ := hrel
    obtain ⟨X, rfl⟩ : ∃ X, X = gk := ⟨_, rfl⟩
    have l1 := hz.out.choose_spec.1.2.1
    have l2 := hz.out.choose_spec.1.2.2.1
    rcases Nat.eq_zero_or_pos p2 with rfl | hp0
    · obtain ⟨ds, r1, r2, r3, r4⟩ := hz.out
      have hX0 : X = 0 := dg_nil_iff.1 (List.eq_nil_of_length_eq_zero r1.1)
      rw [hX0, dg_zero_t, List.append_nil] at r2
      rw [← r2] at r3
      have B4 := hid r4
      by_cases hx0 : x = 0
      · have hs : s = ⟨#[]⟩ := by rw [r3, hx0]; rfl
        subst hs
        clear r1 r2 r3 r4 hX0 hz
        go_wp2_with fail
        go_ret
        exact ⟨by rw [hx0]; rfl, B4.out⟩
      · have hne : s.toList.isEmpty = false := by
          rw [r3]
          exact bs_nonempty (by simp; exact fun e => hx0 (dg_nil_iff_t.1 e))
        have R3 := hid r3
        clear r1 r2 r3 r4 hX0 hz
        go_wp2_with fail
        go_ret
        refine ⟨?_, B4.out⟩
        rw [R3.out]
        unfold tx
        rw [if_neg hx0]
        rfl
    · have hX := hid (rtxt_pos hz.out hp0)
      have dm := hid (rdivMod_any A2 _ p2 c2 1 1 (dg X) [10] _ (hz.out.choose_spec.1.keep ((Below.refl _ _).alloc (Nat.le_refl _) _)) (ten_rd wr) (by omega) (by omega))
      rw [val_dg, show val [10] = 10 from rfl] at dm
      go_wp2_with fail
      refine (dm.out).mono ?_
      rintro e w3 ⟨v, u, rfl, ⟨A3, p3, c3, rfl, q1⟩, ⟨A4, p4, c4, rfl, q2⟩, q3⟩
      have dgt := hid (rdigit_any A4 p4 c4 _ 0 w3 q2)
      have Q := hid (show Rd w3 A3 p3 c3 (quoD X 10) ∧ Below wr.heap.size (wr.alloc (.cells #[.int .u32 10] 127)) w3 from ⟨q1, q3.mono (by simp)⟩)
      rw [rem_digit] at dgt
      clear q1 q2 q3 dm
      go_wp2_with fail
      refine (dgt.out).mono ?_
      rintro e w' ⟨rfl, rfl⟩
      have hcv := one_conv w3 (ch (X % 10)) (48 + (X : Int) % 10) (by rw [ch_nat (Nat.mod_lt _ (by omega))]; omega)
      go_wp2_with fail
      go_roundg (X / 10)
      case measure => exact Nat.div_lt_self hX.out (by omega)
      case rel =>
        obtain ⟨ds, r1, r2, r3, r4⟩ := hz.out
        have hq : quoD X 10 = dg (X / 10) := by unfold quoD; rw [if_neg (by omega)]
        rw [hq] at Q
        have N := rtxt_next r2 hX.out (X := X)
        have hs3 := bs_cons ds (X % 10)
        rw [← r3] at hs3
        exact ⟨A3, p3, c3, _, by have := Q.out.1.1; have := r1.1; have := dg_len_mono (Nat.div_le_self X 10); omega, by rw [hs3, bs_size]; have := dd_len la; rw [N] at this; simp at this ⊢; omega, rfl, rfl, hid ⟨ds ++ [X % 10], Q.out.1.keep ((Below.refl _ _).alloc (Nat.le_refl _) _), N, hs3, (r4.trans (((Below.refl wr.heap.size wr).alloc (Nat.le_refl _) _).trans Q.out.2 |>.mono r4.size)).alloc (Nat.le_trans r4.size (Nat.le_trans (by simp) Q.out.2.size)) _⟩⟩

end Go.Proofs.YthbogaindaflpaaGreatDoor

namespace Go.Proofs.YthbogaindaflpaaGreatDoor
open Go.RowKit

def RPar (w : World) (l : List UInt8) (k : Nat) (A : Option Addr) (p c : Nat) (wr : World) : Prop := Rd wr A p c (dg (numT (l.take k))) ∧ (l.take k).all isDig = true ∧ Below w.heap.size w wr
def RMid (w : World) (X : Nat) (A : Option Addr) (p c : Nat) (w1 : World) : Prop := Rd w1 A p c (dg (10 * X)) ∧ p ≤ 1000 ∧ Below w.heap.size w w1
theorem RPar.drew {w wr : World} {l : List UInt8} {k : Nat} {A : Option Addr} {p c : Nat} (h : RPar w l k A p c wr) : RPar w l k A p c wr.drew := ⟨h.1, h.2.1, h.2.2.drew⟩
theorem num_len (K : Nat) {l : List UInt8} {k : Nat} (h : (l.take k).all isDig = true) (hk : k ≤ 9 * K) : (dg (numT (l.take k))).length ≤ K := by
  refine dg_len_le ?_
  have h1 := numT_lt h
  have h2 : 10 ^ (l.take k).length ≤ 10 ^ (9 * K) := Nat.pow_le_pow_right (by omega) (by simp; omega)
  have h3 : (10 ^ 9) ^ K ≤ 4294967296 ^ K := Nat.pow_le_pow_left (by omega) K
  rw [← Nat.pow_mul] at h3
  exact Nat.lt_of_lt_of_le h1 (Nat.le_trans h2 h3)
theorem ten_len {x K : Nat} (h : (dg x).length ≤ K) : (dg (10 * x)).length ≤ K + 1 := by
  refine dg_len_le ?_
  have h3 := dg_len_lt x
  have h4 := Nat.pow_le_pow_right (n := 4294967296) (by omega) h
  rw [Nat.pow_succ]
  generalize 4294967296 ^ K = P at *
  omega
/-- The product, in a world in which 10 lies at g. -/
theorem par_mul {w wr W : World} {l : List UInt8} {k : Nat} {A : Option Addr} {p c g : Nat} (h : RPar w l k A p c wr) (hk : k ≤ 4000) (hb : Below wr.heap.size wr W) (ht : Rd W (some ⟨g, 0, none⟩) 1 1 [10]) :
    Calls Tryz.prog 88 #[.slice A p c, .slice (some ⟨g, 0, none⟩) 1 1] W fun e w1 => ∃ A1 p1 c1, e = .returned (.slice A1 p1 c1) ∧ Hid (RMid w (numT (l.take k)) A1 p1 c1 w1) ∧ Below W.heap.size W w1 := by
  have hl := num_len 900 h.2.1 (by omega)
  refine (rmul_any A _ p c 1 1 _ [10] W (h.1.keep hb) ht (by have := h.1.1; omega) (by omega)).mono ?_
  rintro e w1 ⟨v, rfl, ⟨A1, p1, c1, rfl, r1⟩, b1⟩
  rw [val_dg, show val [10] = 10 from rfl, Nat.mul_comm] at r1
  refine ⟨A1, p1, c1, rfl, hid ⟨r1, ?_, h.2.2.trans ((hb.trans (b1.mono hb.size)).mono h.2.2.size)⟩, b1⟩
  rw [← r1.1]
  have h2 := ten_len hl
  omega
theorem par_add2 {w wr W : World} {l : List UInt8} {k : Nat} {A1 : Option Addr} {p1 c1 g d : Nat} (h : RMid w (numT (l.take k)) A1 p1 c1 wr) (hk : k < l.length) (hk2 : k < 4000) (hd : d = l[k].toNat - 48) (ha : (l.take (k + 1)).all isDig = true) (hb : Below wr.heap.size wr W) (ht : Rd W (some ⟨g, 0, none⟩) 1 1 [d]) :
    Calls Tryz.prog 126 #[.slice A1 p1 c1, .slice (some ⟨g, 0, none⟩) 1 1] W fun e w2 => ∃ A2 p2 c2, e = .returned (.slice A2 p2 c2) ∧ p2 ≤ 65536 ∧ Hid (RPar w l (k + 1) A2 p2 c2 w2) := by
  refine (radd_any A1 _ p1 c1 1 1 _ [d] W (h.1.keep hb) ht (by have := h.2.1; omega) (by omega)).mono ?_
  rintro e w2 ⟨v, rfl, ⟨A2, p2, c2, rfl, r2⟩, b2⟩
  rw [val_dg, show val [d] = d from by simp [val], hd, ← take_succ_numT hk] at r2
  refine ⟨A2, p2, c2, rfl, ?_, hid ⟨r2, ha, h.2.2.trans ((hb.trans (b2.mono hb.size)).mono h.2.2.size)⟩⟩
  have := num_len 900 ha (by omega)
  rw [← r2.1]
  omega

theorem dig_wrap {c : UInt8} (h1 : 48 ≤ c.toNat) (h2 : c.toNat ≤ 57) : IntKind.u32.wrap (IntKind.u8.wrap ((c.toNat : Int) - 48)) = ((c.toNat - 48 : Nat) : Int) := by
  simp only [IntKind.wrap, IntKind.bits, IntKind.signed]
  simp
  omega
theorem below_two (w : World) (o o2 : Obj) : Below w.heap.size w ((w.alloc o).alloc o2).drew := (((Below.refl _ _).alloc (Nat.le_refl _) _).alloc (by simp) _).drew
theorem rd_drew {w : World} {A : Option Addr} {n c : Nat} {xs : List Nat} (h : Rd w A n c xs) : Rd w.drew A n c xs := h
theorem one_rd2 (w : World) (o : Obj) (d : Nat) (hd : d < 4294967296) : Rd ((w.alloc o).alloc (.cells #[.int .u32 (d : Int)] 127)) (some ⟨w.heap.size + 1, 0, none⟩) 1 1 [d] := by
  have := one_rd (w.alloc o) d hd (d : Int) rfl
  rwa [World.size_alloc] at this

end Go.Proofs.YthbogaindaflpaaGreatDoor

namespace Go.Proofs.YthbogaindaflpaaGreatDoor
open Go.RowKit

theorem nonempty_bytes {s : ByteArray} (h0 : 0 < s.size) : s.toList.isEmpty = false := by
  rw [ByteArray.toList_eq]
  cases h : s.data.toList with
  | nil => have h1 : s.data.toList.length = 0 := by rw [h]; rfl
           have h2 : s.size = 0 := h1
           omega
  | cons a l => rfl

end Go.Proofs.YthbogaindaflpaaGreatDoor
