/- Contracts: addTimes, subTimes, Add, Sub, Mul of package natural. -/
import Derived.Test.YtobnbeeaiidpcaaComb
namespace Go.Proofs.Ytobnbeeaiidpcaa
open Go.RowKit

/-- The digits of zs from place o on, n of them. -/
def seg (zs : List Nat) (o n : Nat) : List Nat := (zs.drop o).take n
theorem seg_getD {zs : List Nat} {o n j : Nat} (hj : j < n) : (seg zs o n).getD j 0 = zs.getD (o + j) 0 := by
  unfold seg
  rw [List.getD_eq_getElem?_getD, List.getD_eq_getElem?_getD, List.getElem?_take, if_pos hj, List.getElem?_drop]
theorem seg_take {zs : List Nat} {o n k : Nat} (hk : k ≤ n) : (seg zs o n).take k = seg zs o k := by
  unfold seg
  rw [List.take_take, Nat.min_eq_left hk]
theorem seg_len {zs : List Nat} {o n : Nat} (h : o + n ≤ zs.length) : (seg zs o n).length = n := by
  unfold seg; simp; omega
theorem Digs.seg {zs : List Nat} (h : Digs zs) (o n : Nat) : Digs (seg zs o n) := (h.drop o).take n

theorem Part.digs {T : Step} (hT : Ok T) {s : Nat} {xs ys ds : List Nat} {oo k : Nat} {zs : List Nat} (h : Part T s xs ys ds oo k zs) (hs : s < 4294967296) (hx : Digs xs) (hy : Digs ys) (hd : Digs ds) : Digs zs := by
  intro z hz
  obtain ⟨j, hj, rfl⟩ := List.getElem_of_mem hz
  have e : zs[j] = zs.getD j 0 := by simp [List.getD, List.getElem?_eq_getElem hj]
  rw [e, h.2 j]
  split
  · exact hT.out hs hx hy _
  · exact hd.get j
/-- Adding: the digits that were written, and what is carried beyond them. -/
theorem add_sum (t s : Nat) (xs ys ds : List Nat) (oo n : Nat) (zs : List Nat) (h : Part (addStep t) s xs ys ds oo n zs) : ∀ k, k ≤ n →
    val (seg zs oo k) + 4294967296 ^ k * (addStep t).st s xs ys k = val (xs.take k) + val (ys.take k) * t + s := by
  intro k
  induction k with
  | zero => intro _; simp [seg, Step.st, val]
  | succ k ih =>
    intro hk
    have h1 := ih (by omega)
    have h2 : val (seg zs oo (k + 1)) = val (seg zs oo k) + 4294967296 ^ k * (addStep t).out s xs ys k := by
      have := val_take_succ (seg zs oo n) k
      rw [seg_take (by omega), seg_take (by omega), seg_getD (by omega), h.2, if_pos (by omega)] at this
      rw [this, show oo + k - oo = k by omega]
    rw [h2, val_take_succ, val_take_succ, Nat.pow_succ]
    have h3 : (addStep t).out s xs ys k + 4294967296 * (addStep t).st s xs ys (k + 1) = (addStep t).st s xs ys k + (xs.getD k 0 + ys.getD k 0 * t) := by
      show ((addStep t).st s xs ys k + (xs.getD k 0 + ys.getD k 0 * t)) % 4294967296 + 4294967296 * (((addStep t).st s xs ys k + (xs.getD k 0 + ys.getD k 0 * t)) / 4294967296) = _
      omega
    have h4 := congrArg (4294967296 ^ k * ·) h3
    simp only [Nat.mul_add] at h4
    have e1 : 4294967296 ^ k * 4294967296 * (addStep t).st s xs ys (k + 1) = 4294967296 ^ k * (4294967296 * (addStep t).st s xs ys (k + 1)) := Nat.mul_assoc _ _ _
    have e2 : (val (ys.take k) + 4294967296 ^ k * ys.getD k 0) * t = val (ys.take k) * t + 4294967296 ^ k * (ys.getD k 0 * t) := by rw [Nat.add_mul, Nat.mul_assoc]
    rw [e1, e2]
    omega
/-- Subtracting: the digits that were written, and what is borrowed from beyond them. -/
theorem sub_sum (t s : Nat) (xs ys ds : List Nat) (oo n : Nat) (zs : List Nat) (h : Part (subStep t) s xs ys ds oo n zs) (hx : Digs xs) : ∀ k, k ≤ n →
    val (seg zs oo k) + val (ys.take k) * t + s = val (xs.take k) + 4294967296 ^ k * (subStep t).st s xs ys k := by
  intro k
  induction k with
  | zero => intro _; simp [seg, Step.st, val]
  | succ k ih =>
    intro hk
    have h1 := ih (by omega)
    have h2 : val (seg zs oo (k + 1)) = val (seg zs oo k) + 4294967296 ^ k * (subStep t).out s xs ys k := by
      have := val_take_succ (seg zs oo n) k
      rw [seg_take (by omega), seg_take (by omega), seg_getD (by omega), h.2, if_pos (by omega)] at this
      rw [this, show oo + k - oo = k by omega]
    rw [h2, val_take_succ, val_take_succ, Nat.pow_succ]
    have hxk := hx.get k
    have h3 : (subStep t).out s xs ys k + ((subStep t).st s xs ys k + ys.getD k 0 * t) = xs.getD k 0 + 4294967296 * (subStep t).st s xs ys (k + 1) := by
      show (xs.getD k 0 + 4294967296 - ((subStep t).st s xs ys k + ys.getD k 0 * t) % 4294967296) % 4294967296 + _ = _ + 4294967296 * (((subStep t).st s xs ys k + ys.getD k 0 * t) / 4294967296 + (if xs.getD k 0 < ((subStep t).st s xs ys k + ys.getD k 0 * t) % 4294967296 then 1 else 0))
      split <;> omega
    have h4 := congrArg (4294967296 ^ k * ·) h3
    simp only [Nat.mul_add] at h4
    have e1 : 4294967296 ^ k * 4294967296 * (subStep t).st s xs ys (k + 1) = 4294967296 ^ k * (4294967296 * (subStep t).st s xs ys (k + 1)) := Nat.mul_assoc _ _ _
    have e2 : (val (ys.take k) + 4294967296 ^ k * ys.getD k 0) * t = val (ys.take k) * t + 4294967296 ^ k * (ys.getD k 0 * t) := by rw [Nat.add_mul, Nat.mul_assoc]
    rw [e1, e2]
    omega

def TimesPost (T : Step) (w : World) (s ob oo on_ : Nat) (xs ys ds : List Nat) (e : Ending) (w' : World) : Prop :=
  e = .returned (.int .u64 (T.st s xs ys on_ : Nat)) ∧ ∃ zs, Row w' ob zs ∧ Part T s xs ys ds oo on_ zs ∧ Upd (fun i => i = ob) w w'

set_option maxHeartbeats 400000 in
theorem addTimes_any (t s ob oo on_ oc n c m d : Nat) (A B : Option Addr) (xs ys ds : List Nat) (w : World) (ht : t < 4294967296) (hs : s < 4294967296)
    (hr : Row w ob ds) (ho : oo + on_ ≤ ds.length) (hoc : on_ ≤ oc) (hom : oc ≤ 9223372036854775807)
    (ha : Rd w A n c xs) (hb : Rd w B m d ys) (sa : Src A n ob oo) (sb : Src B m ob oo) :
    Calls Try.prog 122 #[.slice (some ⟨ob, oo, none⟩) on_ oc, .slice A n c, .slice B m d, .int .u64 t, .int .u64 s] w (TimesPost (addStep t) w s ob oo on_ xs ys ds) := by
  have hbw : Below w.heap.size w ((w.alloc (.cells #[.int .u64 t] 71)).alloc (.cells #[.int .u64 s] 71)) := ((Below.refl _ _).alloc (Nat.le_refl _) _).alloc (by simp) _
  have hh : One ((w.alloc (.cells #[.int .u64 t] 71)).alloc (.cells #[.int .u64 s] 71)) w.heap.size t := Blk.alloc (Blk.new w [.int .u64 t] _) _
  have hg : One ((w.alloc (.cells #[.int .u64 t] 71)).alloc (.cells #[.int .u64 s] 71)) (w.heap.size + 1) s := by
    have := Blk.new (w.alloc (.cells #[.int .u64 t] 71)) [.int .u64 s] 71
    rw [World.size_alloc] at this
    exact this
  have hob := Blk.lt hr
  have cc := hid (combine_any (addStep t) (add_inv t ht) 136 (w.heap.size + 1) w.heap.size t s ob oo on_ oc n c m d A B xs ys ds _ (.inl rfl) (add_clos t _ _ ht) (by omega) hs hg hh (Blk.below hr hbw hob) ho hoc hom (ha.keep hbw) (hb.keep hbw) sa sb)
  have HB := hid hbw
  clear hbw hh hg hr ha hb sa sb
  go_enter Try.func122, Try.ntmps122
  go_wp2_with fail
  refine (cc.out).mono ?_
  rintro e w1 ⟨rfl, zs, z1, z2, z3, z4⟩
  have hcell := z3.cell
  have Z := hid (show Row w1 ob zs ∧ Part (addStep t) s xs ys ds oo on_ zs ∧ Upd (fun i => i = ob ∨ i = w.heap.size + 1) _ w1 from ⟨z1, z2, z4⟩)
  clear z1 z2 z3 z4
  go_wp2_with fail
  go_ret
  obtain ⟨z1, z2, z4⟩ := Z.out
  refine ⟨rfl, zs, z1, z2, ?_⟩
  refine ⟨z4.os.trans HB.out.os, z4.tape.trans HB.out.tape, z4.output.trans HB.out.output, Nat.le_trans HB.out.size z4.size, fun k hk hne => (z4.block k (Nat.lt_of_lt_of_le hk HB.out.size) (by omega)).trans (HB.out.block k hk)⟩

set_option maxHeartbeats 400000 in
theorem subTimes_any (t ob oo on_ oc n c m d : Nat) (A B : Option Addr) (xs ys ds : List Nat) (w : World) (ht : t < 4294967296)
    (hr : Row w ob ds) (ho : oo + on_ ≤ ds.length) (hoc : on_ ≤ oc) (hom : oc ≤ 9223372036854775807)
    (ha : Rd w A n c xs) (hb : Rd w B m d ys) (sa : Src A n ob oo) (sb : Src B m ob oo) :
    Calls Try.prog 127 #[.slice (some ⟨ob, oo, none⟩) on_ oc, .slice A n c, .slice B m d, .int .u64 t] w (TimesPost (subStep t) w 0 ob oo on_ xs ys ds) := by
  have hbw : Below w.heap.size w ((w.alloc (.cells #[.int .u64 t] 71)).alloc (.cells #[.int .u64 0] 71)) := ((Below.refl _ _).alloc (Nat.le_refl _) _).alloc (by simp) _
  have hh : One ((w.alloc (.cells #[.int .u64 t] 71)).alloc (.cells #[.int .u64 0] 71)) w.heap.size t := Blk.alloc (Blk.new w [.int .u64 t] _) _
  have hg : One ((w.alloc (.cells #[.int .u64 t] 71)).alloc (.cells #[.int .u64 0] 71)) (w.heap.size + 1) 0 := by
    have := Blk.new (w.alloc (.cells #[.int .u64 t] 71)) [.int .u64 0] 71
    rw [World.size_alloc] at this
    exact this
  have hob := Blk.lt hr
  have cc := hid (combine_any (subStep t) (sub_inv t ht) 138 (w.heap.size + 1) w.heap.size t 0 ob oo on_ oc n c m d A B xs ys ds _ (.inr rfl) (sub_clos t _ _ ht) (by omega) (by omega) hg hh (Blk.below hr hbw hob) ho hoc hom (ha.keep hbw) (hb.keep hbw) sa sb)
  have HB := hid hbw
  clear hbw hh hg hr ha hb sa sb
  go_enter Try.func127, Try.ntmps127
  go_wp2_with fail
  refine (cc.out).mono ?_
  rintro e w1 ⟨rfl, zs, z1, z2, z3, z4⟩
  have hcell := z3.cell
  have Z := hid (show Row w1 ob zs ∧ Part (subStep t) 0 xs ys ds oo on_ zs ∧ Upd (fun i => i = ob ∨ i = w.heap.size + 1) _ w1 from ⟨z1, z2, z4⟩)
  clear z1 z2 z3 z4
  go_wp2_with fail
  go_ret
  obtain ⟨z1, z2, z4⟩ := Z.out
  refine ⟨rfl, zs, z1, z2, ?_⟩
  refine ⟨z4.os.trans HB.out.os, z4.tape.trans HB.out.tape, z4.output.trans HB.out.output, Nat.le_trans HB.out.size z4.size, fun k hk hne => (z4.block k (Nat.lt_of_lt_of_le hk HB.out.size) (by omega)).trans (HB.out.block k hk)⟩

end Go.Proofs.Ytobnbeeaiidpcaa
