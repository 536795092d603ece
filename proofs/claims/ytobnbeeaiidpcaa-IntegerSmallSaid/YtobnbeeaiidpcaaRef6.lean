/- Contracts: Mul of the specification of layer 1. -/
import Derived.Test.YtobnbeeaiidpcaaRef5
namespace Go.Proofs.Ytobnbeeaiidpcaa
open Go.RowKit

theorem val_set {us : List Nat} {p v : Nat} (hp : p < us.length) : val (us.set p v) + 4294967296 ^ p * us.getD p 0 = val us + 4294967296 ^ p * v := by
  induction us generalizing p with
  | nil => simp at hp
  | cons u us ih =>
    cases p with
    | zero => simp [val, List.getD]; omega
    | succ p =>
      have h := ih (p := p) (by simpa using hp)
      simp only [List.set_cons_succ, val, List.getD_cons_succ, Nat.pow_succ]
      have h2 := congrArg (4294967296 * ·) h
      simp only [Nat.mul_add] at h2
      have e1 : 4294967296 ^ p * 4294967296 * us.getD p 0 = 4294967296 * (4294967296 ^ p * us.getD p 0) := by rw [Nat.mul_comm (4294967296 ^ p), Nat.mul_assoc]
      have e2 : 4294967296 ^ p * 4294967296 * v = 4294967296 * (4294967296 ^ p * v) := by rw [Nat.mul_comm (4294967296 ^ p), Nat.mul_assoc]
      rw [e1, e2]
      omega
theorem digs_set {us : List Nat} {p v : Nat} (h : Digs us) (hv : v < 4294967296) : Digs (us.set p v) := by
  intro z hz
  rcases List.mem_or_eq_of_mem_set hz with h1 | h1
  · exact h z h1
  · rw [h1]; exact hv

def RMul (w : World) (xs ys : List Nat) (n m i : Nat) (wr : World) : Prop := ∃ zs, Row wr w.heap.size zs ∧ Digs zs ∧ zs.length = n + m + 1 ∧ val zs = val (xs.take i) * val ys ∧ (∀ j, i + m ≤ j → zs.getD j 0 = 0) ∧ Below w.heap.size w wr
def RMulIn (w : World) (xs ys : List Nat) (n m i k c : Nat) (us : List Nat) (wr : World) : Prop := Row wr w.heap.size us ∧ Digs us ∧ us.length = n + m + 1 ∧ val us + 4294967296 ^ (i + k) * c = val (xs.take i) * val ys + 4294967296 ^ i * (xs.getD i 0 * val (ys.take k)) ∧ (∀ j, i + m ≤ j → us.getD j 0 = 0) ∧ Below w.heap.size w wr
theorem rmul_in {w wr : World} {xs ys : List Nat} {n m i : Nat} (h : RMul w xs ys n m i wr) : ∃ us, RMulIn w xs ys n m i 0 0 us wr := by
  obtain ⟨zs, h1, h2, h3, h4, h5, h6⟩ := h
  exact ⟨zs, h1, h2, h3, by rw [h4]; simp [val], h5, h6⟩
theorem rmul_drew {w wr : World} {xs ys us : List Nat} {n m i k c : Nat} (h : RMulIn w xs ys n m i k c us wr) (q : Nat) : RMulIn w xs ys n m i k c us (wr.drewN q) := ⟨h.1, h.2.1, h.2.2.1, h.2.2.2.1, h.2.2.2.2.1, below_drew0 h.2.2.2.2.2 q⟩
theorem rmul_step {w wr : World} {xs ys us : List Nat} {n m i k c s : Nat} (h : RMulIn w xs ys n m i k c us wr) (hi : i < n) (hk : k < m) (hs : s = c + xs.getD i 0 * ys.getD k 0 + us.getD (i + k) 0) :
    RMulIn w xs ys n m i (k + 1) (s / 4294967296) (us.set (i + k) (s % 4294967296)) (wr.setCell ⟨w.heap.size, i + k, none⟩ (.int .u32 (s % 4294967296 : Nat))) := by
  obtain ⟨h1, h2, h3, h4, h5, h6⟩ := h
  refine ⟨h1.set_ _ _, digs_set h2 (Nat.mod_lt _ (by omega)), by simp [h3], ?_, ?_, h6.setCell (Nat.le_refl _) _⟩
  · have e := val_set (us := us) (p := i + k) (v := s % 4294967296) (by omega)
    rw [val_take_succ, Nat.mul_add, Nat.mul_add, ← Nat.add_assoc (val (xs.take i) * val ys), ← h4]
    have e2 : 4294967296 ^ i * (xs.getD i 0 * (4294967296 ^ k * ys.getD k 0)) = 4294967296 ^ (i + k) * (xs.getD i 0 * ys.getD k 0) := by rw [Nat.pow_add, Nat.mul_left_comm (xs.getD i 0), Nat.mul_assoc]
    rw [e2, ← Nat.add_assoc i k 1, Nat.pow_succ, Nat.mul_assoc]
    have e3 : s % 4294967296 + 4294967296 * (s / 4294967296) = c + xs.getD i 0 * ys.getD k 0 + us.getD (i + k) 0 := by omega
    have e4 := congrArg (4294967296 ^ (i + k) * ·) e3
    simp only [Nat.mul_add] at e4
    omega
  · intro j hj
    rw [getD_set _ _ _ _ (by omega), if_neg (by omega)]
    exact h5 j hj
theorem rmul_out {w wr : World} {xs ys us : List Nat} {n m i c : Nat} (h : RMulIn w xs ys n m i m c us wr) (hi : i < n) (hl : ys.length = m) (hc : c < 4294967296) :
    RMul w xs ys n m (i + 1) (wr.setCell ⟨w.heap.size, i + m, none⟩ (.int .u32 (c : Nat))) := by
  obtain ⟨h1, h2, h3, h4, h5, h6⟩ := h
  refine ⟨us.set (i + m) c, h1.set_ _ _, digs_set h2 hc, by simp [h3], ?_, ?_, h6.setCell (Nat.le_refl _) _⟩
  · have e := val_set (us := us) (p := i + m) (v := c) (by omega)
    rw [h5 (i + m) (Nat.le_refl _), Nat.mul_zero, Nat.add_zero] at e
    rw [e, h4, val_take_succ, show ys.take m = ys from List.take_of_length_le (by omega), Nat.add_mul, Nat.mul_assoc]
  · intro j hj
    rw [getD_set _ _ _ _ (by omega), if_neg (by omega)]
    exact h5 j (by omega)

set_option maxRecDepth 100000 in
set_option maxHeartbeats 2000000 in
theorem rmul_any (A B : Option Addr) (n c m d : Nat) (xs ys : List Nat) (w : World) (ha : Rd w A n c xs) (hb : Rd w B m d ys) (hn : n ≤ 1099511627776) (hm : m ≤ 1099511627775) :
    Calls Try.prog 99 #[.slice A n c, .slice B m d] w (RetDig w (dg (val xs * val ys))) := by
  have HA := hid ha
  have HB := hid hb
  have h1 := ha.2.1
  have h2 := ha.2.2.1
  have h3 := hb.2.1
  have h4 := hb.2.2.1
  have hmk : ∀ W, (Instr.makeSlice 23 (.int .i64 ((n : Int) + (m : Int) + 1)) (.int .i64 ((n : Int) + (m : Int) + 1))).run Try.prog W = .ok (.slice (some ⟨W.heap.size, 0, none⟩) (n + m + 1) (n + m + 1)) (W.alloc (.cells (zrow (n + m + 1)) 79)) := fun W => run_make_nat (n + m + 1) (by omega) W
  have R0 := hid (show RMul w xs ys n m 0 (w.alloc (.cells (zrow (n + m + 1)) 79)) from ⟨_, row_new w (n + m + 1), Digs.zeros _, by simp, by rw [val_zeros]; simp [val], fun j _ => by simp [List.getD, List.getElem?_replicate]; split <;> rfl, (Below.refl _ _).alloc (Nat.le_refl _) _⟩)
  clear ha hb
  go_enter Try.func99, Try.ntmps99
  go_wp2_with fail
  go_loopw [6] (fun s6 wr => ∃ i : Nat, i ≤ n ∧ s6 = .int .i64 i ∧ Hid (RMul w xs ys n m i wr)) (fun s6 _ => n - (intOf s6).toNat)
  case atStart => exact ⟨0, Nat.zero_le _, rfl, R0⟩
  case round =>
    obtain ⟨i, hi, rfl, hz⟩ := hrel
    rcases Nat.lt_or_ge i n with hlt | hge
    · obtain ⟨us0, hin⟩ := rmul_in hz.out
      have HI := hid hin
      clear hin
      obtain ⟨b, o, hA, _⟩ := rd_cell HA.out hlt
      have CA := hid (fun (w1 : World) (h : Below w.heap.size w w1) => rd_cell (HA.out.keep h) hlt)
      subst hA
      have dx := HA.out.2.2.2.1.get i
      go_wp2_with fail
      obtain ⟨wo, rfl⟩ : ∃ wo : World, wo = wr := ⟨_, rfl⟩
      go_loopw [7, 8] (fun s7 s8 wi => ∃ (k c : Nat) (us : List Nat), k ≤ m ∧ c < 4294967296 ∧ s7 = .int .u64 c ∧ s8 = .int .i64 k ∧ Hid (RMulIn w xs ys n m i k c us wi)) (fun _ s8 _ => m - (intOf s8).toNat)
      case atStart => exact ⟨0, 0, us0, Nat.zero_le _, by omega, rfl, rfl, HI⟩
      case round =>
        clear HI R0
        obtain ⟨k, c', us, hk, hc, rfl, rfl, hy⟩ := hrel
        rcases Nat.lt_or_ge k m with hkm | hkm
        · obtain ⟨b2, o2, hB, cb⟩ := rd_cell (HB.out.keep hy.out.2.2.2.2.2) hkm
          obtain ⟨b1, o1, hA, ca⟩ := CA.out wr hy.out.2.2.2.2.2
          injection hA with hA
          injection hA with e1 e2 _
          subst hB e1 e2
          have hrow := hy.out.1
          have hul := hy.out.2.2.1
          have co := hrow.cell (i := i + k) (by omega)
          have fo := Blk.free hrow (i + k)
          have dy := HB.out.2.2.2.1.get k
          have du := hy.out.2.1.get (i + k)
          have st := hid (fun (s q : Nat) => rmul_step (s := s) (rmul_drew hy.out q) hlt hkm)
          have pl := prod_le dx dy
          obtain ⟨x, hx⟩ : ∃ x, x = xs.getD i 0 := ⟨_, rfl⟩
          obtain ⟨y, hyy⟩ : ∃ y, y = ys.getD k 0 := ⟨_, rfl⟩
          obtain ⟨u, hu⟩ : ∃ u, u = us.getD (i + k) 0 := ⟨_, rfl⟩
          rw [← hx] at ca st pl
          rw [← hyy] at cb dy st pl
          rw [← hu] at co du st
          have pl0 : (x : Int) * y ≤ 18446744065119617025 := by rw [← Int.natCast_mul]; omega
          have pl1 : 0 ≤ (x : Int) * y := by rw [← Int.natCast_mul]; exact Int.natCast_nonneg _
          have dx' : x < 4294967296 := by rw [hx]; exact dx
          clear hx hyy hu hrow hul
          go_wp2_with fail
          go_quiet (fail)
          go_wp2_with fail
          go_roundw
          case rel =>
            have e3 : ((c' : Int) + (x : Int) * (y : Int) + (u : Int)) = ((c' + x * y + u : Nat) : Int) := by simp
            refine ⟨k + 1, (c' + x * y + u) / 4294967296, us.set (i + k) ((c' + x * y + u) % 4294967296), by omega, by omega, by rw [e3]; rfl, by go_num, ?_⟩
            have := st.out (c' + x * y + u) nq rfl
            rw [e3]
            exact hid this
          case measure => simp [intOf]; omega
        · obtain rfl : k = m := by omega
          have hrow := hy.out.1
          have hul := hy.out.2.2.1
          have co := hrow.cell (i := i + k) (by omega)
          have fo := Blk.free hrow (i + k)
          obtain ⟨u, hu⟩ : ∃ u, u = us.getD (i + k) 0 := ⟨_, rfl⟩
          rw [← hu] at co
          have RO := hid (rmul_out hy.out hlt HB.out.1 hc)
          clear hu hrow hul
          go_wp2_with fail
          go_roundw
          case rel => exact ⟨i + 1, by omega, by go_num, RO⟩
          case measure => simp [intOf]; omega
    · obtain rfl : i = n := by omega
      obtain ⟨zs, z1, z2, z3, z4, z5, z6⟩ := hz.out
      have hrd := z1.rd0 z2 (Nat.le_refl _) (by omega)
      rw [z3] at hrd
      rw [List.take_of_length_le (by have := HA.out.1; omega)] at z4
      have T := hid (rtrim_any (some ⟨w.heap.size, 0, none⟩) (i + m + 1) (i + m + 1) zs wr hrd (by omega))
      rw [z4] at T
      have Z6 := hid z6
      clear z1 z2 z3 z4 z5 z6 hrd
      go_wp2_with fail
      refine (T.out).mono ?_
      rintro e w3 ⟨u, rfl, u1, u2⟩
      have R := hid (show RetDig w (dg (val xs * val ys)) (.returned u) w3 from ⟨u, rfl, u1, Z6.out.trans (u2.mono Z6.out.size)⟩)
      clear u1 u2
      go_wp2_with fail
      go_ret
      exact R.out

end Go.Proofs.Ytobnbeeaiidpcaa
