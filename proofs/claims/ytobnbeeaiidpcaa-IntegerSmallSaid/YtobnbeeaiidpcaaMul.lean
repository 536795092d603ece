/- Contracts: Sub, Mul of package natural. -/
import Derived.Test.YtobnbeeaiidpcaaAdd
namespace Go.Proofs.Ytobnbeeaiidpcaa
open Go.RowKit

/-- The call returns the digits zs and a code. -/
def Ret2 (w : World) (zs : List Nat) (k : Int) (e : Ending) (w' : World) : Prop := ∃ v, e = .returned (.tuple #[v, .int .i64 k]) ∧ Dig w' v zs ∧ Below w.heap.size w w'
def subD (m n : Nat) : List Nat := if m < n then [] else dg (m - n)
def subE (m n : Nat) : Int := if m < n then 2 else 0

theorem sub_all {t n : Nat} {xs ys ds zs : List Nat} (h : Part (subStep t) 0 xs ys ds 0 n zs) (hn : ds.length = n) (hd : Digs xs) (hx : xs.length ≤ n) (hy : ys.length ≤ n) :
    val zs + val ys * t = val xs + 4294967296 ^ n * (subStep t).st 0 xs ys n := by
  have := sub_sum t 0 xs ys ds 0 n zs h hd n (Nat.le_refl _)
  rwa [h.all hn, List.take_of_length_le hx, List.take_of_length_le hy, Nat.add_zero] at this
theorem no_borrow {v p s a b : Nat} (h : v + b = a + p * s) (hv : v < p) (hab : b ≤ a) : v = a - b := by
  rcases Nat.eq_zero_or_pos s with rfl | hs
  · rw [Nat.mul_zero] at h; omega
  · have := Nat.mul_le_mul_left p hs
    omega
theorem val_drop_zero {xs : List Nat} {k : Nat} (h : val xs < 4294967296 ^ k) : val (xs.take k) = val xs := by
  refine dg_take fun j hj => dg_getD_zero j ?_
  have := dg_len_le h
  omega

set_option maxHeartbeats 400000 in
theorem sub_lt (A B : Option Addr) (n c m d : Nat) (xs ys : List Nat) (w : World) (ha : Rd w A n c xs) (hb : Rd w B m d ys) (hlt : val xs < val ys) :
    Calls Try.prog 96 #[.slice A n c, .slice B m d] w fun e w' => e = .returned (.tuple #[.slice none 0 0, .int .i64 2]) ∧ w = w' := by
  have cc := cmp_any A B n c m d xs ys w ha hb
  have e1 : cmpN (val xs) (val ys) = -1 := by unfold cmpN; rw [if_pos hlt]
  rw [e1] at cc
  have CC := hid cc
  clear cc e1 ha hb hlt
  go_enter Try.func96, Try.ntmps96
  go_wp2_with fail
  refine (CC.out).mono ?_
  rintro e w' ⟨rfl, rfl⟩
  go_wp2_with fail
  go_ret2
  exact ⟨rfl, rfl⟩

theorem ret2_row {w w' : World} {zs : List Nat} {b : Nat} (h : Row w' b zs) (hd : Digs zs) (hl : zs.length ≤ 9223372036854775807) (hb : Below w.heap.size w w') (k : Int) : Ret2 w (dg (val zs)) k (.returned (.tuple #[.slice (some ⟨b, 0, none⟩) (dg (val zs)).length (dg (val zs)).length, .int .i64 k])) w' :=
  ⟨_, rfl, ⟨_, _, _, rfl, (h.rd0 hd (Nat.le_refl _) hl).trim⟩, hb⟩

set_option maxHeartbeats 400000 in
theorem sub_ge (A B : Option Addr) (n c m d : Nat) (xs ys : List Nat) (w : World) (ha : Rd w A n c xs) (hb : Rd w B m d ys) (hn : n ≤ 1099511627776) (_hm : m ≤ 1099511627776) (hge : val ys ≤ val xs) :
    Calls Try.prog 96 #[.slice A n c, .slice B m d] w (Ret2 w (dg (val xs - val ys)) 0) := by
  have cc := hid (cmp_any A B n c m d xs ys w ha hb)
  have e1 : 0 ≤ cmpN (val xs) (val ys) := by unfold cmpN; rw [if_neg (by omega)]; split <;> omega
  obtain ⟨z, hz⟩ : ∃ z, z = cmpN (val xs) (val ys) := ⟨_, rfl⟩
  rw [← hz] at cc e1
  clear hz
  have hbw : Below w.heap.size w (w.alloc (.cells (zrow n) 79)) := (Below.refl _ _).alloc (Nat.le_refl _) _
  have key : Hid (Calls Try.prog 127 #[.slice (some ⟨w.heap.size, 0, none⟩) n n, .slice A n c, .slice B m d, .int .u64 1] (w.alloc (.cells (zrow n) 79))
      (fun e w' => (∃ s : Nat, e = .returned (.int .u64 s)) ∧ Hid (∃ zs, Row w' w.heap.size zs ∧ Digs zs ∧ zs.length = n ∧ val zs = val xs - val ys ∧ Below w.heap.size w w'))) := by
    refine hid ((subTimes_any 1 w.heap.size 0 n n n c m d A B xs ys _ _ (by omega) (row_new w n) (by simp) (Nat.le_refl _) (by have := ha.2.1; have := ha.2.2.1; omega) (ha.keep hbw) (hb.keep hbw) (Src.old ha (Nat.le_refl _)) (Src.old hb (Nat.le_refl _))).mono ?_)
    rintro e w' ⟨rfl, zs, z1, z2, z3⟩
    have hdz : Digs zs := z2.digs (sub_inv 1 (by omega)) (by omega) ha.2.2.2.1 hb.2.2.2.1 (Digs.zeros _)
    have hlz : zs.length = n := by rw [z2.1]; simp
    refine ⟨⟨_, rfl⟩, hid ⟨zs, z1, hdz, hlz, ?_, ?_⟩⟩
    · have h4 := sub_sum 1 0 xs ys _ 0 n zs z2 ha.2.2.2.1 n (Nat.le_refl _)
      have h0 : val (ys.take n) = val ys := val_drop_zero (by have := val_lt ha.2.2.2.1; rw [ha.1] at this; omega)
      rw [z2.all (by simp), h0, List.take_of_length_le (by have := ha.1; omega), Nat.mul_one, Nat.add_zero] at h4
      exact no_borrow h4 (by have := val_lt hdz; rwa [hlz] at this) hge
    · exact ⟨z3.os.trans hbw.os, z3.tape.trans hbw.tape, z3.output.trans hbw.output, Nat.le_trans hbw.size z3.size, fun k hk => (z3.block k (Nat.lt_of_lt_of_le hk hbw.size) (by omega)).trans (hbw.block k hk)⟩
  have hmk := fun W => run_make_nat n (by omega) W
  have h1 := ha.2.1
  have h2 := ha.2.2.1
  clear ha hb hge hbw
  go_enter Try.func96, Try.ntmps96
  go_wp2_with fail
  refine (cc.out).mono ?_
  rintro e w' ⟨rfl, rfl⟩
  go_wp2_with fail
  refine (key.out).mono ?_
  rintro e w1 ⟨⟨s, rfl⟩, hz⟩
  go_wp2_with fail
  obtain ⟨zs, z1, z2, z3, z4, z5⟩ := hz.out
  refine (trim_row z1 z2 z3 (by omega)).mono ?_
  rintro e w' ⟨rfl, rfl⟩
  have R := hid (ret2_row z1 z2 (by omega) z5 0)
  rw [z4] at R ⊢
  clear z1 z2 z3 z4 z5 hz
  go_wp2_with fail
  go_ret2
  exact R.out

theorem sub_any (A B : Option Addr) (n c m d : Nat) (xs ys : List Nat) (w : World) (ha : Rd w A n c xs) (hb : Rd w B m d ys) (hn : n ≤ 1099511627776) (hm : m ≤ 1099511627776) :
    Calls Try.prog 96 #[.slice A n c, .slice B m d] w (Ret2 w (subD (val xs) (val ys)) (subE (val xs) (val ys))) := by
  unfold subD subE
  by_cases h : val xs < val ys
  · rw [if_pos h, if_pos h]
    exact (sub_lt A B n c m d xs ys w ha hb h).mono fun e w' ⟨he, hw⟩ => ⟨_, he, by rw [← hw]; exact Dig.nil w, by rw [← hw]; exact Below.refl _ _⟩
  · rw [if_neg h, if_neg h]
    exact sub_ge A B n c m d xs ys w ha hb hn hm (by omega)

theorem val_split (zs : List Nat) (o n : Nat) (h : o + n ≤ zs.length) : val zs = val (zs.take o) + 4294967296 ^ o * (val (seg zs o n) + 4294967296 ^ n * val (zs.drop (o + n))) := by
  have h1 := val_append (zs.take o) (zs.drop o)
  rw [List.take_append_drop] at h1
  have h2 := val_append (seg zs o n) ((zs.drop o).drop n)
  rw [seg, List.take_append_drop, ← seg, seg_len h, List.drop_drop] at h2
  have h3 : (zs.take o).length = o := by simp; omega
  rw [h1, h2, h3]
theorem Part.swap {T : Step} {s : Nat} {xs ys ds zs : List Nat} {oo n : Nat} (h : Part T s xs ys ds oo n zs) (hl : oo + n ≤ ds.length) :
    val zs + 4294967296 ^ oo * val (seg ds oo n) = val ds + 4294967296 ^ oo * val (seg zs oo n) := by
  have e1 : zs.take oo = ds.take oo := by
    refine ext_getD (by simp [h.1]) fun j => ?_
    rw [List.getD_eq_getElem?_getD, List.getD_eq_getElem?_getD, List.getElem?_take, List.getElem?_take]
    by_cases hj : j < oo
    · rw [if_pos hj, if_pos hj, ← List.getD_eq_getElem?_getD, ← List.getD_eq_getElem?_getD, h.2, if_neg (by omega)]
    · rw [if_neg hj, if_neg hj]
  have e2 : zs.drop (oo + n) = ds.drop (oo + n) := by
    refine ext_getD (by simp [h.1]) fun j => ?_
    rw [List.getD_eq_getElem?_getD, List.getD_eq_getElem?_getD, List.getElem?_drop, List.getElem?_drop, ← List.getD_eq_getElem?_getD, ← List.getD_eq_getElem?_getD, h.2, if_neg (by omega)]
  rw [val_split zs oo n (by rw [h.1]; exact hl), val_split ds oo n hl, e1, e2, Nat.mul_add, Nat.mul_add]
  omega

/-- What has been multiplied behind k rounds. -/
def MulRel (w : World) (n m : Nat) (xs ys : List Nat) (k : Nat) (wr : World) : Prop := ∃ zs, Row wr w.heap.size zs ∧ Digs zs ∧ zs.length = n + m ∧ val zs = val xs * val (ys.take k) ∧ Below w.heap.size w wr

theorem mul_step {w wr : World} {n m k c oc : Nat} {A : Option Addr} {xs ys : List Nat} (ha : Rd w A n c xs) (hy : Digs ys) (hl : ys.length = m) (hk : k < m) (hr : MulRel w n m xs ys k wr) (hoc : n + 1 ≤ oc) (hom : oc ≤ 9223372036854775807) :
    Calls Try.prog 122 #[.slice (some ⟨w.heap.size, k, none⟩) (n + 1) oc, .slice (some ⟨w.heap.size, k, none⟩) (n + 1) oc, .slice A n c, .int .u64 (ys.getD k 0), .int .u64 0] wr
      (fun e w' => (∃ s : Nat, e = .returned (.int .u64 s)) ∧ Hid (MulRel w n m xs ys (k + 1) w')) := by
  obtain ⟨zs, z1, z2, z3, z4, z5⟩ := hr
  have hrd : Rd wr (some ⟨w.heap.size, k, none⟩) (n + 1) oc (seg zs k (n + 1)) := z1.rd z2 (by omega) hoc hom
  refine (addTimes_any (ys.getD k 0) 0 w.heap.size k (n + 1) oc (n + 1) oc n c _ A (seg zs k (n + 1)) xs zs wr (hy.get k) (by omega) z1 (by omega) hoc hom hrd (ha.keep z5) (fun _ b o hA => by injection hA with e; injection e with _ e2 _; right; exact e2.symm) (Src.old ha (Nat.le_refl _))).mono ?_
  rintro e w' ⟨rfl, us, u1, u2, u3⟩
  have hd := u2.digs (add_inv _ (hy.get k)) (by omega) (z2.seg k (n + 1)) ha.2.2.2.1 z2
  refine ⟨⟨_, rfl⟩, hid ⟨us, u1, hd, by rw [u2.1, z3], ?_, ?_⟩⟩
  · have h1 := u2.swap (by omega)
    have h2 := add_sum (ys.getD k 0) 0 _ xs zs k (n + 1) us u2 (n + 1) (Nat.le_refl _)
    rw [List.take_of_length_le (by rw [seg_len (by omega)]; omega), List.take_of_length_le (by have := ha.1; omega), Nat.add_zero] at h2
    have hlt : val (ys.take (k + 1)) < 4294967296 ^ (k + 1) := by
      have := val_lt (hy.take (k + 1))
      rwa [List.length_take, Nat.min_eq_left (by omega)] at this
    have hxl : val xs < 4294967296 ^ n := by have := val_lt ha.2.2.2.1; rwa [ha.1] at this
    have htot : val us + 4294967296 ^ (k + (n + 1)) * (addStep (ys.getD k 0)).st 0 (seg zs k (n + 1)) xs (n + 1) = val xs * val (ys.take (k + 1)) := by
      rw [val_take_succ, Nat.mul_add, ← z4, Nat.pow_add]
      have h3 := congrArg (4294967296 ^ k * ·) h2
      simp only [Nat.mul_add] at h3
      have e1 : 4294967296 ^ k * (4294967296 ^ (n + 1) * (addStep (ys.getD k 0)).st 0 (seg zs k (n + 1)) xs (n + 1)) = 4294967296 ^ k * 4294967296 ^ (n + 1) * (addStep (ys.getD k 0)).st 0 (seg zs k (n + 1)) xs (n + 1) := (Nat.mul_assoc _ _ _).symm
      have e2 : val xs * (4294967296 ^ k * ys.getD k 0) = 4294967296 ^ k * (val xs * ys.getD k 0) := by rw [Nat.mul_left_comm]
      rw [e2]
      omega
    have hsm : val xs * val (ys.take (k + 1)) < 4294967296 ^ (k + (n + 1)) := by
      have e3 : 4294967296 ^ (k + (n + 1)) = 4294967296 ^ n * 4294967296 ^ (k + 1) := by rw [← Nat.pow_add]; congr 1; omega
      rw [e3]
      exact Nat.mul_lt_mul'' hxl hlt
    exact no_carry htot hsm
  · exact ⟨u3.os.trans z5.os, u3.tape.trans z5.tape, u3.output.trans z5.output, Nat.le_trans z5.size u3.size, fun i hi => (u3.block i (Nat.lt_of_lt_of_le hi z5.size) (by omega)).trans (z5.block i hi)⟩

set_option maxRecDepth 100000 in
set_option maxHeartbeats 1000000 in
theorem mul_any (A B : Option Addr) (n c m d : Nat) (xs ys : List Nat) (w : World) (ha : Rd w A n c xs) (hb : Rd w B m d ys) (hn : n ≤ 1099511627776) (hm : m ≤ 1099511627776) :
    Calls Try.prog 98 #[.slice A n c, .slice B m d] w (RetDig w (dg (val xs * val ys))) := by
  have HA := hid ha
  have HB := hid hb
  have h1 := ha.2.1
  have h2 := ha.2.2.1
  have h3 := hb.2.1
  have h4 := hb.2.2.1
  have hmk : ∀ W, (Instr.makeSlice 23 (.int .i64 ((n : Int) + (m : Int))) (.int .i64 ((n : Int) + (m : Int)))).run Try.prog W = .ok (.slice (some ⟨W.heap.size, 0, none⟩) (n + m) (n + m)) (W.alloc (.cells (zrow (n + m)) 79)) := fun W => run_make_nat (n + m) (by omega) W
  have R0 := hid (show MulRel w n m xs ys 0 (w.alloc (.cells (zrow (n + m)) 79)) from ⟨_, row_new w (n + m), Digs.zeros _, by simp, by rw [val_zeros]; simp [val], (Below.refl _ _).alloc (Nat.le_refl _) _⟩)
  clear ha hb
  go_enter Try.func98, Try.ntmps98
  go_wp2_with fail
  go_loopw [17] (fun i wr => ∃ k : Nat, k ≤ m ∧ i = .int .i64 k ∧ Hid (MulRel w n m xs ys k wr)) (fun i _ => m - (intOf i).toNat)
  case atStart => exact ⟨0, Nat.zero_le _, rfl, R0⟩
  case round =>
    obtain ⟨k, hk, rfl, hz⟩ := hrel
    rcases Nat.lt_or_ge k m with hlt | hge
    · obtain ⟨b, o, hB, hbl, hc⟩ := HB.out.2.2.2.2 (by omega)
      subst hB
      have hcell : wr.cell? ⟨b, o + k, none⟩ = some (.int .u32 (ys.getD k 0 : Nat)) := by
        obtain ⟨zs, _, _, _, _, z5⟩ := hz.out
        rw [z5.cell (p := ⟨b, o + k, none⟩) hbl]
        exact hc k hlt
      clear hc
      have hy := HB.out.2.2.2.1.get k
      have ms := hid (fun (oc : Nat) (h5 : n + 1 ≤ oc) (h6 : oc ≤ 9223372036854775807) => mul_step HA.out HB.out.2.2.2.1 HB.out.1 hlt hz.out h5 h6)
      obtain ⟨y, hyy⟩ : ∃ y, y = ys.getD k 0 := ⟨_, rfl⟩
      rw [← hyy] at hcell hy ms
      clear hyy
      go_wp2_with fail
      rw [show k + n + 1 - k = n + 1 by omega]
      refine (ms.out _ (by omega) (by omega)).mono ?_
      rintro e w1 ⟨⟨s, rfl⟩, hz1⟩
      go_wp2_with fail
      go_roundw
      case rel => exact ⟨k + 1, by omega, by go_num, hz1⟩
      case measure => simp [intOf]; omega
    · obtain rfl : k = m := by omega
      go_wp2_with fail
      obtain ⟨zs, z1, z2, z3, z4, z5⟩ := hz.out
      refine (trim_row z1 z2 z3 (by omega)).mono ?_
      rintro e w' ⟨rfl, rfl⟩
      have R := hid (ret_row z1 z2 (by omega) z5)
      rw [z4, List.take_of_length_le (by have := HB.out.1; omega)] at R
      rw [z4, List.take_of_length_le (by have := HB.out.1; omega)]
      clear z1 z2 z3 z4 z5 hz
      go_wp2_with fail
      go_ret
      exact R.out

end Go.Proofs.Ytobnbeeaiidpcaa
