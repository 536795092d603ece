/- Contracts: divideLong of package natural. -/
import Derived.Test.YtobnbeeaiidpcaaNext
namespace Go.Proofs.Ytobnbeeaiidpcaa
open Go.RowKit

theorem lt_bitN (n : Nat) : n < 2 ^ bitN n := by
  unfold bitN
  split
  · rename_i h; rw [h]; decide
  · exact Nat.lt_log2_self
theorem bitN_le {n k : Nat} (h : n < 2 ^ k) : bitN n ≤ k := by
  unfold bitN
  split
  · omega
  · rename_i h0
    have := (Nat.log2_lt h0).2 h
    omega
theorem bitN_ge {n k : Nat} (h : 2 ^ k ≤ n) : k + 1 ≤ bitN n := by
  have h1 := lt_bitN n
  rcases Nat.lt_or_ge (bitN n) (k + 1) with h2 | h2
  · have := Nat.pow_le_pow_right (n := 2) (by omega) (show bitN n ≤ k by omega)
    omega
  · exact h2
theorem base_pow (m : Nat) : (4294967296 : Nat) ^ m = 2 ^ (32 * m) := by rw [Nat.pow_mul]
/-- The scale: a power of 2 below the base; the scaled divisor still fits. -/
theorem scale_fits {v m : Nat} (h1 : 4294967296 ^ (m - 1) ≤ v) (h2 : v < 4294967296 ^ m) (hm : 0 < m) : bitN v ≤ 32 * m ∧ 32 * m - bitN v ≤ 31 ∧ v * 2 ^ (32 * m - bitN v) < 4294967296 ^ m := by
  rw [base_pow] at h1 h2
  have a := bitN_ge h1
  have b := bitN_le h2
  refine ⟨b, by omega, ?_⟩
  rw [base_pow]
  have c := lt_bitN v
  have d := Nat.mul_lt_mul_of_pos_right c (Nat.two_pow_pos (32 * m - bitN v))
  rwa [← Nat.pow_add, Nat.add_sub_cancel' b] at d
theorem scale_small {e : Nat} (h : e ≤ 31) : 2 ^ e < 4294967296 := by
  have := Nat.pow_le_pow_right (n := 2) (by omega) h
  omega
theorem top_pos {vs : List Nat} {q : Nat} (hd : Digs vs) (hl : vs.length = q + 1) (h : 4294967296 ^ q ≤ val vs) : 0 < vs.getD q 0 := by
  rcases Nat.eq_zero_or_pos (vs.getD q 0) with h0 | h0
  · exfalso
    have h1 := val_take_succ vs q
    rw [List.take_of_length_le (by omega), h0, Nat.mul_zero] at h1
    have h2 := val_lt (hd.take q)
    rw [List.length_take, Nat.min_eq_left (by omega)] at h2
    omega
  · exact h0
/-- Digits that are 0 add nothing. -/
theorem seg_short {zs : List Nat} {o k n : Nat} (hk : k ≤ n) (h : val (seg zs o n) < 4294967296 ^ k) : val (seg zs o k) = val (seg zs o n) := by
  have := val_drop_zero h
  rwa [seg_take hk] at this
theorem seg_high {zs : List Nat} {o k n : Nat} (h : val (seg zs o n) < 4294967296 ^ k) : ∀ j, o + k ≤ j → j < o + n → zs.getD j 0 = 0 := by
  intro j h1 h2
  have h3 := dg_getD_zero (xs := seg zs o n) (j - o) (by have := dg_len_le h; omega)
  rw [seg_getD (by omega)] at h3
  rwa [show o + (j - o) = j by omega] at h3

/-- The long division with the places from k on done. -/
def LongRel (w : World) (D R Q n m : Nat) (us vs : List Nat) (k : Nat) (wr : World) : Prop :=
  ∃ rs qs, Row wr D vs ∧ Row wr R rs ∧ Row wr Q qs ∧ Digs rs ∧ Digs qs ∧ rs.length = n + 1 ∧ qs.length = n - m + 1 ∧ (∀ j, j < k → rs.getD j 0 = us.getD j 0) ∧ val (seg us k (n + 1 - k)) = val (seg qs k (n - m + 1 - k)) * val vs + val (seg rs k (n + 1 - k)) ∧ val (seg rs k (n + 1 - k)) < val vs ∧ Below w.heap.size w wr

theorem long_step {w wr : World} {D R Q n m q oc : Nat} {us vs : List Nat} (h : LongRel w D R Q n m us vs (q + 1) wr) (hD : w.heap.size ≤ D) (hDR : D < R) (hRQ : R < Q) (hul : us.length = n + 1) (hvl : vs.length = m) (hvd : Digs vs) (hm : 0 < m) (hmn : m ≤ n) (hq : q ≤ n - m) (hoc : m + 1 ≤ oc) (hom : oc ≤ 9223372036854775807) (hv1 : 0 < vs.getD (m - 1) 0) :
    Calls Try.prog 142 #[.slice (some ⟨R, q, none⟩) (m + 1) oc, .slice (some ⟨D, 0, none⟩) m m] wr fun e w' =>
      ∃ d : Nat, e = .returned (.int .u32 d) ∧ (∃ x : Nat, w'.cell? ⟨Q, q, none⟩ = some (.int .u32 x)) ∧ w'.frozen? ⟨Q, q, none⟩ = false ∧ Hid (LongRel w D R Q n m us vs q (w'.setCell ⟨Q, q, none⟩ (.int .u32 d))) := by
  obtain ⟨rs, qs, z1, z2, z3, z4, z5, z6, z7, z8, z9, z10, z11⟩ := h
  obtain ⟨p, rfl⟩ : ∃ p, m = p + 1 := ⟨m - 1, by omega⟩
  have hV := val_lt hvd
  rw [hvl] at hV
  have e1 : seg rs q (n + 1 - q) = rs.getD q 0 :: seg rs (q + 1) (n + 1 - (q + 1)) := by rw [seg_cons (by omega) (by omega), Nat.sub_sub]
  have hx := z4.get q
  have hlt : val (seg rs q (n + 1 - q)) < val vs * 4294967296 := by
    rw [e1, val]; omega
  have hlt2 : val (seg rs q (n + 1 - q)) < 4294967296 ^ (p + 2) := by
    have : val vs * 4294967296 ≤ 4294967296 ^ (p + 1) * 4294967296 := Nat.mul_le_mul_right _ (by omega)
    rw [← Nat.pow_succ] at this
    exact Nat.lt_of_lt_of_le hlt this
  have hsh := seg_short (by omega) hlt2
  have hhi := seg_high hlt2
  refine (next_any R q p oc D rs vs wr z2 z4 z1 hvd hvl (by omega) (by omega) hoc hom hv1 (by rw [hsh]; exact hlt)).mono ?_
  rintro e w' ⟨rfl, ts, t1, t2, t3, t4, t5, t6⟩
  have y1 : Row w' D vs := Blk.upd z1 t6 (by omega)
  have y3 : Row w' Q qs := Blk.upd z3 t6 (by omega)
  rw [hsh] at t5 ⊢
  refine ⟨_, rfl, ⟨_, y3.cell (by omega)⟩, Blk.free y3 q, hid ⟨ts, qs.set q (val (seg rs q (n + 1 - q)) / val vs), Blk.far y1 (by omega) _, Blk.far t1 (by omega) _, y3.set_ q _, t3, ?_, by omega, by simp [z7], ?_, ?_, ?_, ?_⟩⟩
  · have hdig : val (seg rs q (n + 1 - q)) / val vs < 4294967296 := by
      rw [Nat.div_lt_iff_lt_mul (by omega)]
      omega
    intro z hz
    obtain ⟨j, hj, rfl⟩ := List.getElem_of_mem hz
    have e : (qs.set q (val (seg rs q (n + 1 - q)) / val vs))[j] = (qs.set q (val (seg rs q (n + 1 - q)) / val vs)).getD j 0 := by simp [List.getD, List.getElem?_eq_getElem hj]
    rw [e, getD_set _ _ _ _ (by omega)]
    split
    · exact hdig
    · exact z5.get j
  · intro j hj
    rw [t4 j (by omega), z8 j (by omega)]
  · have f1 : seg us q (n + 1 - q) = us.getD q 0 :: seg us (q + 1) (n + 1 - (q + 1)) := by rw [seg_cons (by omega) (by omega), Nat.sub_sub]
    have f2 : seg (qs.set q (val (seg rs q (n + 1 - q)) / val vs)) q (n - (p + 1) + 1 - q) = val (seg rs q (n + 1 - q)) / val vs :: seg qs (q + 1) (n - (p + 1) + 1 - (q + 1)) := by
      rw [seg_cons (by simp; omega) (by omega), Nat.sub_sub, getD_set _ _ _ _ (by omega), if_pos rfl]
      congr 1
      exact seg_ext (by simp) fun j h1 _ => by rw [getD_set _ _ _ _ (by omega), if_neg (by omega)]
    have f3 : val (seg ts q (n + 1 - q)) = val (seg rs q (n + 1 - q)) % val vs := by
      have hz : ∀ j, q + (p + 2) ≤ j → j < q + (n + 1 - q) → ts.getD j 0 = 0 := fun j h1 h2 => by rw [t4 j (by omega), hhi j h1 h2]
      have g := dg_take (xs := seg ts q (n + 1 - q)) (k := p + 2) (fun j hj => by
        rcases Nat.lt_or_ge j (n + 1 - q) with h1 | h1
        · rw [seg_getD h1]; exact hz _ (by omega) (by omega)
        · rw [List.getD_eq_getElem?_getD, List.getElem?_eq_none (by rw [seg_len (by omega)]; exact h1)]; rfl)
      rw [seg_take (by omega)] at g
      rw [← g]
      exact t5
    rw [f1, f2, f3, val, val, z9, ← z8 q (by omega)]
    have g := Nat.div_add_mod (val (seg rs q (n + 1 - q))) (val vs)
    rw [Nat.mul_comm] at g
    have g2 : val (seg rs q (n + 1 - q)) = rs.getD q 0 + 4294967296 * val (seg rs (q + 1) (n + 1 - (q + 1))) := by rw [e1, val]
    rw [Nat.add_mul, Nat.mul_add, Nat.mul_assoc]
    omega
  · have hz : ∀ j, q + (p + 2) ≤ j → j < q + (n + 1 - q) → ts.getD j 0 = 0 := fun j h1 h2 => by rw [t4 j (by omega), hhi j h1 h2]
    have g := dg_take (xs := seg ts q (n + 1 - q)) (k := p + 2) (fun j hj => by
      rcases Nat.lt_or_ge j (n + 1 - q) with h1 | h1
      · rw [seg_getD h1]; exact hz _ (by omega) (by omega)
      · rw [List.getD_eq_getElem?_getD, List.getElem?_eq_none (by rw [seg_len (by omega)]; exact h1)]; rfl)
    rw [seg_take (by omega)] at g
    rw [← g]
    have : val (seg ts q (p + 2)) = val (seg rs q (n + 1 - q)) % val vs := t5
    rw [this]
    exact Nat.mod_lt _ (by omega)
  · exact (z11.trans (t6.below (B := w.heap.size) z11.size (fun k hk => by omega))).setCell (by show w.heap.size ≤ Q; omega) _

/-- A row of zeros becomes a multiple. -/
theorem times_row {W : World} {m d k t : Nat} {B : Option Addr} {ys : List Nat} (hb : Rd W B m d ys) (ht : t < 4294967296) (hmk : m ≤ k) (hkm : k ≤ 9223372036854775807) (hv : val ys * t < 4294967296 ^ k) :
    Calls Try.prog 122 #[.slice (some ⟨W.heap.size, 0, none⟩) k k, .slice none 0 0, .slice B m d, .int .u64 t, .int .u64 0] (W.alloc (.cells (zrow k) 79)) fun e w' =>
      (∃ s : Nat, e = .returned (.int .u64 s)) ∧ ∃ zs, Row w' W.heap.size zs ∧ Digs zs ∧ zs.length = k ∧ val zs = val ys * t ∧ Below W.heap.size W w' ∧ W.heap.size < w'.heap.size := by
  have hbw : Below W.heap.size W (W.alloc (.cells (zrow k) 79)) := (Below.refl _ _).alloc (Nat.le_refl _) _
  refine (addTimes_any t 0 W.heap.size 0 k k 0 0 m d none B [] ys _ _ ht (by omega) (row_new W k) (by simp) (Nat.le_refl _) hkm (Rd.nil _ _) (hb.keep hbw) (Src.nil _ _) (Src.old hb (Nat.le_refl _))).mono ?_
  rintro e w' ⟨rfl, zs, z1, z2, z3⟩
  refine ⟨⟨_, rfl⟩, zs, z1, z2.digs (add_inv t ht) (by omega) Digs.nil hb.2.2.2.1 (Digs.zeros _), by rw [z2.1]; simp, ?_, ?_, Blk.lt z1⟩
  · have h1 := add_all z2 (by simp) (by simp) (by have := hb.1; omega)
    rw [Nat.add_zero] at h1
    have h2 : val ([] : List Nat) = 0 := rfl
    rw [h2, Nat.zero_add] at h1
    exact no_carry h1 hv
  · exact ⟨z3.os.trans hbw.os, z3.tape.trans hbw.tape, z3.output.trans hbw.output, Nat.le_trans hbw.size z3.size, fun i hi => (z3.block i (Nat.lt_of_lt_of_le hi hbw.size) (by omega)).trans (hbw.block i hi)⟩

end Go.Proofs.Ytobnbeeaiidpcaa
