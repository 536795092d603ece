/- Contracts: divideByDigit, clone of package natural. -/
import Derived.Test.YtobnbeeaiidpcaaMul
import Derived.Test.YtobnbeeaiidpcaaNat2
import Derived.Laws.CopyOwn
namespace Go.Proofs.Ytobnbeeaiidpcaa
open Go.RowKit

theorem seg_cons {zs : List Nat} {o n : Nat} (h : o < zs.length) (hn : 0 < n) : seg zs o n = zs.getD o 0 :: seg zs (o + 1) (n - 1) := by
  unfold seg
  obtain ⟨m, rfl⟩ : ∃ m, n = m + 1 := ⟨n - 1, by omega⟩
  rw [List.drop_eq_getElem_cons h, List.take_succ_cons]
  simp [List.getD, List.getElem?_eq_getElem h]
theorem seg_ext {zs us : List Nat} {o n : Nat} (hl : zs.length = us.length) (h : ∀ j, o ≤ j → j < o + n → zs.getD j 0 = us.getD j 0) : seg zs o n = seg us o n := by
  refine ext_getD (by simp [seg, hl]) fun j => ?_
  rcases Nat.lt_or_ge j n with hj | hj
  · rw [seg_getD hj, seg_getD hj, h _ (by omega) (by omega)]
  · have e : ∀ vs : List Nat, (seg vs o n).getD j 0 = 0 := fun vs => by
      rw [List.getD_eq_getElem?_getD, List.getElem?_eq_none (by simp [seg]; omega)]; rfl
    rw [e, e]

def DivRel (w : World) (ob n d : Nat) (ds : List Nat) (k r : Nat) (wr : World) : Prop := ∃ zs, Row wr ob zs ∧ zs.length = ds.length ∧ Digs zs ∧ (∀ j, j < k ∨ n ≤ j → zs.getD j 0 = ds.getD j 0) ∧ val (seg ds k (n - k)) = val (seg zs k (n - k)) * d + r ∧ r < d ∧ Upd (fun i => i = ob) w wr

theorem div_part {r d x p : Nat} (hr : r < d) (hx : x < 4294967296) (hp : p = x + 4294967296 * r) : p / d < 4294967296 ∧ p % d < d := by
  refine ⟨?_, Nat.mod_lt _ (by omega)⟩
  rw [Nat.div_lt_iff_lt_mul (by omega)]
  have := Nat.mul_le_mul_left 4294967296 (show r + 1 ≤ d from hr)
  rw [Nat.mul_add] at this
  omega
theorem div_next {w wr : World} {ob n d q r p : Nat} {ds : List Nat} (h : DivRel w ob n d ds (q + 1) r wr) (hq : q < n) (hn : n ≤ ds.length) (hp : p = ds.getD q 0 + 4294967296 * r) (hds : Digs ds) :
    DivRel w ob n d ds q (p % d) (wr.setCell ⟨ob, q, none⟩ (.int .u32 (p / d : Nat))) := by
  obtain ⟨zs, z1, z2, z3, z4, z5, z6, z7⟩ := h
  have hb := div_part z6 (hds.get q) hp
  have g : ∀ j, (zs.set q (p / d)).getD j 0 = if j = q then p / d else zs.getD j 0 := fun j => getD_set zs q j _ (by omega)
  refine ⟨zs.set q (p / d), z1.set_ q _, by simp [z2], ?_, ?_, ?_, hb.2, z7.setCell ob q (fun _ => rfl) _⟩
  · intro z hz
    obtain ⟨j, hj, rfl⟩ := List.getElem_of_mem hz
    have e : (zs.set q (p / d))[j] = (zs.set q (p / d)).getD j 0 := by simp [List.getD, List.getElem?_eq_getElem hj]
    rw [e, g]
    split
    · exact hb.1
    · exact z3.get j
  · intro j hj
    rw [g, if_neg (by omega)]
    exact z4 j (by omega)
  · have e1 : seg ds q (n - q) = ds.getD q 0 :: seg ds (q + 1) (n - (q + 1)) := by rw [seg_cons (by omega) (by omega), Nat.sub_sub]
    have e2 : seg (zs.set q (p / d)) q (n - q) = p / d :: seg zs (q + 1) (n - (q + 1)) := by
      rw [seg_cons (by simp; omega) (by omega), Nat.sub_sub, g, if_pos rfl]
      congr 1
      exact seg_ext (by simp) fun j h1 _ => by rw [g, if_neg (by omega)]
    rw [e1, e2, val, val, z5, Nat.add_mul]
    have h1 := Nat.div_add_mod p d
    rw [Nat.mul_comm] at h1
    rw [Nat.mul_add, Nat.mul_assoc]
    omega

set_option maxRecDepth 100000 in
set_option maxHeartbeats 1000000 in
theorem divDigit_any (ob n oc d : Nat) (ds : List Nat) (w : World) (hr : Row w ob ds) (hds : Digs ds) (hn : n ≤ ds.length) (hoc : n ≤ oc) (hom : oc ≤ 9223372036854775807) (hd : 0 < d) (hd2 : d < 4294967296) :
    Calls Try.prog 124 #[.slice (some ⟨ob, 0, none⟩) n oc, .int .u64 d] w fun e w' => ∃ r : Nat, e = .returned (.int .u64 r) ∧ DivRel w ob n d ds 0 r w' := by
  have R0 := hid (show DivRel w ob n d ds n 0 w from ⟨ds, hr, rfl, hds, fun _ _ => rfl, by rw [Nat.sub_self]; simp [seg, val], hd, Upd.refl _ _⟩)
  have HD := hid hds
  clear hr hds
  go_enter Try.func124, Try.ntmps124
  go_wp2_with fail
  go_loopw [5, 6] (fun s i wr => ∃ k r : Nat, k ≤ n ∧ i = .int .i64 ((k : Int) - 1) ∧ s = .int .u64 r ∧ Hid (DivRel w ob n d ds k r wr)) (fun _ i _ => (intOf i + 1).toNat)
  case atStart => exact ⟨n, 0, Nat.le_refl _, rfl, rfl, R0⟩
  case round =>
    obtain ⟨k, r, hk, rfl, rfl, hz⟩ := hrel
    rcases Nat.eq_zero_or_pos k with rfl | hp
    · go_wp2_with fail
      go_ret
      exact ⟨r, rfl, hz.out⟩
    · obtain ⟨q, rfl⟩ : ∃ q, k = q + 1 := ⟨k - 1, by omega⟩
      obtain ⟨zs, z1, z2, z3, z4, z5, z6, z7⟩ := hz.out
      have hcell := z1.cell (i := q) (by omega)
      rw [z4 q (by omega)] at hcell
      have hfree := Blk.free z1 q
      have hx := HD.out.get q
      have hor := or_join r (ds.getD q 0) (by omega) hx
      obtain ⟨p, hp⟩ : ∃ p, p = ds.getD q 0 + 4294967296 * r := ⟨_, rfl⟩
      have hb := div_part z6 hx hp
      have nx := hid (div_next hz.out (by omega) hn hp HD.out)
      rw [← hp] at hor
      obtain ⟨x, hxx⟩ : ∃ x, x = ds.getD q 0 := ⟨_, rfl⟩
      rw [← hxx] at hcell hx hor
      have b1 : (p : Int) / (d : Int) < 4294967296 := by rw [← Int.natCast_ediv]; omega
      have b2 : 0 ≤ (p : Int) / (d : Int) := by rw [← Int.natCast_ediv]; exact Int.natCast_nonneg _
      have b3 : p < 18446744073709551616 := by omega
      have HR : r < d := z6
      have E1 := hid (Int.natCast_ediv p d)
      have E2 := hid (Int.natCast_emod p d)
      clear z1 z2 z3 z4 z5 z6 z7 hb hp hxx
      go_wp2_with fail
      go_roundw
      case rel =>
        refine ⟨q, p % d, by omega, by go_num, by rw [E2.out], ?_⟩
        have := nx.out
        rw [E1.out] at this
        exact hid this
      case measure => simp [intOf]

theorem Try.sizeU32 : (Try.prog.info? 79).map (·.size) = some 1 := by kernel_rfl
theorem block_add_ (a : Addr) (n : Nat) : (a.add n).block = a.block := by unfold Addr.add; split <;> rfl
theorem oneCell_dv (x : Nat) : (dv x).oneCell' = true := rfl
theorem rd_cells {w : World} {A : Option Addr} {n c : Nat} {xs : List Nat} (h : Rd w A n c xs) (hn : 0 < n) : ∃ ad, A = some ad ∧ ad.block < w.heap.size ∧ ∀ j v, (xs.map dv)[j]? = some v → w.cell? (ad.add j) = some v := by
  obtain ⟨b, o, hA, hlt, hc⟩ := h.2.2.2.2 hn
  refine ⟨_, hA, hlt, fun j v hv => ?_⟩
  have hj : j < xs.length := by
    rcases Nat.lt_or_ge j xs.length with h1 | h1
    · exact h1
    · rw [List.getElem?_eq_none (by simp; omega)] at hv; cases hv
  have h1 := hc j (by have := h.1; omega)
  have e : (⟨b, o, none⟩ : Addr).add j = ⟨b, o + j, none⟩ := by unfold Addr.add; split <;> simp_all
  rw [e, h1, ← hv]
  simp [List.getElem?_eq_getElem hj, List.getD, dv]

set_option maxHeartbeats 400000 in
theorem clone_any (A : Option Addr) (n c : Nat) (xs : List Nat) (w : World) (h : Rd w A n c xs) (hn : n ≤ 1099511627776) :
    Calls Try.prog 123 #[.slice A n c] w fun e w' => e = .returned (.slice (some ⟨w.heap.size, 0, none⟩) n n) ∧ Row w' w.heap.size xs ∧ Below w.heap.size w w' := by
  have hmk := fun W => run_make_nat n (by omega) W
  have H := hid h
  have h1 := h.2.1
  have h2 := h.2.2.1
  clear h
  go_enter Try.func123, Try.ntmps123
  go_wp2_with (with_reducible refine wpList_copy_splice rfl (.tmp 7) (.tmp 8) 23 23 rfl 79 Try.underlying23 Try.sizeU32 (some ⟨w.heap.size, 0, none⟩) A n n n c rfl rfl w.heap.size 0 ((List.replicate n 0).map dv) 79 ?c1 (xs.map dv) ?c2 ?c3 ?c4 ?c5 w.heap.size w ?c6 (Nat.le_refl _) ?_)
  case c1 => exact Blk.new w _ _
  case c2 => have := H.out.1; simp [this]
  case c3 =>
    intro hp
    have hp2 : 0 < n := by have := H.out.1; omega
    obtain ⟨ad, hA, hlt, hc⟩ := rd_cells H.out hp2
    exact ⟨ad, hA, fun j x hx => (World.cell?_alloc_lt w _ _ (by rw [block_add_]; exact hlt)).trans (hc j (dv x) (by simp [hx]))⟩
  case c4 => have := H.out.1; simp; omega
  case c5 =>
    intro v hv
    obtain ⟨x, _, rfl⟩ := List.mem_map.1 hv
    exact oneCell_dv x
  case c6 => exact (Below.refl _ _).alloc (Nat.le_refl _) _
  intro w1 h3 h4
  go_wp2_with fail
  go_ret
  refine ⟨rfl, ?_, h4⟩
  have h5 := h3.out
  have e : splice ((List.replicate n 0).map dv) 0 (xs.map dv) = xs.map dv := by
    have := H.out.1
    simp [splice, this]
  rw [List.map_replicate] at e
  rw [e] at h5
  exact h5

end Go.Proofs.Ytobnbeeaiidpcaa
