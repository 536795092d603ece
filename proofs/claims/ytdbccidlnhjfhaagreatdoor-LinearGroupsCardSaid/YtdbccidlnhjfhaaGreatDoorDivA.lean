/- DivA: DivD, Next, Long, DivL, DivM in one text. -/
import Derived.Test.YtdbccidlnhjfhaaGreatDoorNatS
import Derived.Test.YtdbccidlnhjfhaaGreatDoorNat2
import Derived.Laws.CopyOwn
import Derived.Deep.QuietTactic
import Derived.BigQuiet
namespace Go.Proofs.YtdbccidlnhjfhaaGreatDoor
open Go.RowKit
set_option maxRecDepth 100000
theorem seg_cons {zs : List Nat} {o n : Nat} (h : o < zs.length) (hn : 0 < n) : seg zs o n = zs.getD o 0 :: seg zs (o + 1) (n - 1) := by
  unfold seg
  obtain ⟨m, rfl⟩ : ∃ m, n = m + 1 := ⟨n - 1, by omega⟩
  rw [List.drop_eq_getElem_cons h, List.take_succ_cons]
  simp [List.getD, List.getElem?_eq_getElem h]
theorem seg_ext {zs us : List Nat} {o n : Nat} (hl : zs.length = us.length) (h : ∀ j, o ≤ j → j < o + n → zs.getD j 0 = us.getD j 0) : seg zs o n = seg us o n := by
  refine ext_getD (by simp [seg, hl]) fun j => ?_
  rcases Nat.lt_or_ge j n with hj | hj
  · rw [seg_getD hj, seg_getD hj, h _ (by omega) (by omega)]
  · have e : ∀ vs : List Nat, (seg vs o n).getD j 0 = 0 := fun vs => by
      rw [List.getD_eq_getElem?_getD, List.getElem?_eq_none (by simp [seg]; omega)]; rfl
    rw [e, e]
def DivRel (w : World) (ob n d : Nat) (ds : List Nat) (k r : Nat) (wr : World) : Prop := ∃ zs, Row wr ob zs ∧ zs.length = ds.length ∧ Digs zs ∧ (∀ j, j < k ∨ n ≤ j → zs.getD j 0 = ds.getD j 0) ∧ val (seg ds k (n - k)) = val (seg zs k (n - k)) * d + r ∧ r < d ∧ Upd (fun i => i = ob) w wr
theorem div_part {r d x p : Nat} (hr : r < d) (hx : x < 4294967296) (hp : p = x + 4294967296 * r) : p / d < 4294967296 ∧ p % d < d := by
  refine ⟨?_, Nat.mod_lt _ (by omega)⟩
  rw [Nat.div_lt_iff_lt_mul (by omega)]
  have := Nat.mul_le_mul_left 4294967296 (show r + 1 ≤ d from hr)
  rw [Nat.mul_add] at this
  omega
theorem div_next {w wr : World} {ob n d q r p : Nat} {ds : List Nat} (h : DivRel w ob n d ds (q + 1) r wr) (hq : q < n) (hn : n ≤ ds.length) (hp : p = ds.getD q 0 + 4294967296 * r) (hds : Digs ds) :
    DivRel w ob n d ds q (p % d) (wr.setCell ⟨ob, q, none⟩ (.int .u32 (p / d : Nat))) := by
  obtain ⟨zs, z1, z2, z3, z4, z5, z6, z7⟩ := h
  have hb := div_part z6 (hds.get q) hp
  have g : ∀ j, (zs.set q (p / d)).getD j 0 = if j = q then p / d else zs.getD j 0 := fun j => getD_set zs q j _ (by omega)
  refine ⟨zs.set q (p / d), z1.set_ q _, by simp [z2], ?_, ?_, ?_, hb.2, z7.setCell ob q (fun _ => rfl) _⟩
  · intro z hz
    obtain ⟨j, hj, rfl⟩ := List.getElem_of_mem hz
    have e : (zs.set q (p / d))[j] = (zs.set q (p / d)).getD j 0 := by simp [List.getD, List.getElem?_eq_getElem hj]
    rw [e, g]
    split
    · exact hb.1
    · exact z3.get j
  · intro j hj
    rw [g, if_neg (by omega)]
    exact z4 j (by omega)
  · have e1 : seg ds q (n - q) = ds.getD q 0 :: seg ds (q + 1) (n - (q + 1)) := by rw [seg_cons (by omega) (by omega), Nat.sub_sub]
    have e2 : seg (zs.set q (p / d)) q (n - q) = p / d :: seg zs (q + 1) (n - (q + 1)) := by
      rw [seg_cons (by simp; omega) (by omega), Nat.sub_sub, g, if_pos rfl]
      congr 1
      exact seg_ext (by simp) fun j h1 _ => by rw [g, if_neg (by omega)]
    rw [e1, e2, val, val, z5, Nat.add_mul]
    have h1 := Nat.div_add_mod p d
    rw [Nat.mul_comm] at h1
    rw [Nat.mul_add, Nat.mul_assoc]
    omega
set_option maxHeartbeats 1000000 in
theorem divDigit_any (ob n oc d : Nat) (ds : List Nat) (w : World) (hr : Row w ob ds) (hds : Digs ds) (hn : n ≤ ds.length) (hoc : n ≤ oc) (hom : oc ≤ 9223372036854775807) (hd : 0 < d) (hd2 : d < 4294967296) :
    Calls Tryz.prog 188 #[.slice (some ⟨ob, 0, none⟩) n oc, .int .u64 d] w fun e w' => ∃ r : Nat, e = .returned (.int .u64 r) ∧ DivRel w ob n d ds 0 r w' := by
  have R0 := hid (show DivRel w ob n d ds n 0 w from ⟨ds, hr, rfl, hds, fun _ _ => rfl, by rw [Nat.sub_self]; simp [seg, val], hd, Upd.refl _ _⟩)
  have HD := hid hds
  clear hr hds
  go_enter Tryz.func188, Tryz.ntmps188
  go_wp2_with fail
  go_loopw [5, 6] (fun s i wr => ∃ k r : Nat, k ≤ n ∧ i = .int .i64 ((k : Int) - 1) ∧ s = .int .u64 r ∧ Hid (DivRel w ob n d ds k r wr)) (fun _ i _ => (intOf i + 1).toNat)
  case atStart => exact ⟨n, 0, Nat.le_refl _, rfl, rfl, R0⟩
  case round =>
    obtain ⟨k, r, hk, rfl, rfl, hz⟩ := hrel
    rcases Nat.eq_zero_or_pos k with rfl | hp
    · go_wp2_with fail
      go_ret
      exact ⟨r, rfl, hz.out⟩
    · obtain ⟨q, rfl⟩ : ∃ q, k = q + 1 := ⟨k - 1, by omega⟩
      obtain ⟨zs, z1, z2, z3, z4, z5, z6, z7⟩ := hz.out
      have hcell := z1.cell (i := q) (by omega)
      rw [z4 q (by omega)] at hcell
      have hfree := Blk.free z1 q
      have hx := HD.out.get q
      have hor := or_join r (ds.getD q 0) (by omega) hx
      obtain ⟨p, hp⟩ : ∃ p, p = ds.getD q 0 + 4294967296 * r := ⟨_, rfl⟩
      have hb := div_part z6 hx hp
      have nx := hid (div_next hz.out (by omega) hn hp HD.out)
      rw [← hp] at hor
      obtain ⟨x, hxx⟩ : ∃ x, x = ds.getD q 0 := ⟨_, rfl⟩
      rw [← hxx] at hcell hx hor
      have b1 : (p : Int) / (d : Int) < 4294967296 := by rw [← Int.natCast_ediv]; omega
      have b2 : 0 ≤ (p : Int) / (d : Int) := by rw [← Int.natCast_ediv]; exact Int.natCast_nonneg _
      have b3 : p < 18446744073709551616 := by omega
      have HR : r < d := z6
      have E1 := hid (Int.natCast_ediv p d)
      have E2 := hid (Int.natCast_emod p d)
      clear z1 z2 z3 z4 z5 z6 z7 hb hp hxx
      go_wp2_with fail
      go_roundw
      case rel =>
        refine ⟨q, p % d, by omega, by go_num, by rw [E2.out], ?_⟩
        have := nx.out
        rw [E1.out] at this
        exact hid this
      case measure => simp [intOf]
theorem Tryz.sizeU32 : (Tryz.prog.info? 127).map (·.size) = some 1 := by kernel_rfl
theorem block_add_ (a : Addr) (n : Nat) : (a.add n).block = a.block := by unfold Addr.add; split <;> rfl
theorem oneCell_dv (x : Nat) : (dv x).oneCell' = true := rfl
theorem rd_cells {w : World} {A : Option Addr} {n c : Nat} {xs : List Nat} (h : Rd w A n c xs) (hn : 0 < n) : ∃ ad, A = some ad ∧ ad.block < w.heap.size ∧ ∀ j v, (xs.map dv)[j]? = some v → w.cell? (ad.add j) = some v := by
  obtain ⟨b, o, hA, hlt, hc⟩ := h.2.2.2.2 hn
  refine ⟨_, hA, hlt, fun j v hv => ?_⟩
  have hj : j < xs.length := by
    rcases Nat.lt_or_ge j xs.length with h1 | h1
    · exact h1
    · rw [List.getElem?_eq_none (by simp; omega)] at hv; cases hv
  have h1 := hc j (by have := h.1; omega)
  have e : (⟨b, o, none⟩ : Addr).add j = ⟨b, o + j, none⟩ := by unfold Addr.add; split <;> simp_all
  rw [e, h1, ← hv]
  simp [List.getElem?_eq_getElem hj, List.getD, dv]
set_option maxHeartbeats 400000 in
theorem clone_any (A : Option Addr) (n c : Nat) (xs : List Nat) (w : World) (h : Rd w A n c xs) (hn : n ≤ 1099511627776) :
    Calls Tryz.prog 184 #[.slice A n c] w fun e w' => e = .returned (.slice (some ⟨w.heap.size, 0, none⟩) n n) ∧ Row w' w.heap.size xs ∧ Below w.heap.size w w' := by
  have hmk := fun W => run_make_nat n (by omega) W
  have H := hid h
  have h1 := h.2.1
  have h2 := h.2.2.1
  clear h
  go_enter Tryz.func184, Tryz.ntmps184
  go_wp2_with (with_reducible refine wpList_copy_splice rfl (.tmp 7) (.tmp 8) 37 37 rfl 127 Tryz.underlying37 Tryz.sizeU32 (some ⟨w.heap.size, 0, none⟩) A n n n c rfl rfl w.heap.size 0 ((List.replicate n 0).map dv) 127 ?c1 (xs.map dv) ?c2 ?c3 ?c4 ?c5 w.heap.size w ?c6 (Nat.le_refl _) ?_)
  case c1 => exact Blk.new w _ _
  case c2 => have := H.out.1; simp [this]
  case c3 =>
    intro hp
    have hp2 : 0 < n := by have := H.out.1; omega
    obtain ⟨ad, hA, hlt, hc⟩ := rd_cells H.out hp2
    exact ⟨ad, hA, fun j x hx => (World.cell?_alloc_lt w _ _ (by rw [block_add_]; exact hlt)).trans (hc j (dv x) (by simp [hx]))⟩
  case c4 => have := H.out.1; simp; omega
  case c5 =>
    intro v hv
    obtain ⟨x, _, rfl⟩ := List.mem_map.1 hv
    exact oneCell_dv x
  case c6 => exact (Below.refl _ _).alloc (Nat.le_refl _) _
  intro w1 h3 h4
  go_wp2_with fail
  go_ret
  refine ⟨rfl, ?_, h4⟩
  have h5 := h3.out
  have e : splice ((List.replicate n 0).map dv) 0 (xs.map dv) = xs.map dv := by
    have := H.out.1
    simp [splice, this]
  rw [List.map_replicate] at e
  rw [e] at h5
  exact h5
def NextRel (w : World) (rb i n : Nat) (ds : List Nat) (U V g : Nat) (neg : Bool) (wr : World) : Prop :=
  ∃ zs, Row wr rb zs ∧ zs.length = ds.length ∧ Digs zs ∧ (∀ j, j < i ∨ i + (n + 1) ≤ j → zs.getD j 0 = ds.getD j 0) ∧ val (seg zs i (n + 1)) + V * g = U + (if neg then 4294967296 ^ (n + 1) else 0) ∧ (neg = false → val (seg zs i (n + 1)) < V) ∧ g < 4294967296 ∧ Upd (fun k => k = rb) w wr
theorem Part.rest {T : Step} {s : Nat} {xs ys ds zs : List Nat} {oo n : Nat} (h : Part T s xs ys ds oo n zs) : ∀ j, j < oo ∨ oo + n ≤ j → zs.getD j 0 = ds.getD j 0 := fun j hj => by rw [h.2, if_neg (by omega)]
theorem seg_val_lt {zs : List Nat} (h : Digs zs) {o n : Nat} (hl : o + n ≤ zs.length) : val (seg zs o n) < 4294967296 ^ n := by
  have := val_lt (h.seg o n)
  rwa [seg_len hl] at this
theorem Src.same (b o n : Nat) : Src (some ⟨b, o, none⟩) n b o := fun _ b' o' hA => by
  injection hA with e
  injection e with _ e2 _
  right; exact e2.symm
theorem Src.row {b o n ob oo : Nat} (h : b ≠ ob) : Src (some ⟨b, o, none⟩) n ob oo := fun _ b' o' hA => by
  injection hA with e
  injection e with e1 _ _
  left; omega
theorem nx_sub {z p U P s : Nat} (h1 : z + p = U + P * s) (h2 : z < P) (h3 : p ≤ P) : (s = 0 ∧ z + p = U) ∨ (s = 1 ∧ z + p = U + P) := by
  rcases s with _ | s
  · left; exact ⟨rfl, by rw [Nat.mul_zero] at h1; omega⟩
  · right
    have hs0 : s = 0 := by
      rcases Nat.eq_zero_or_pos s with h | h
      · exact h
      · exfalso
        have := Nat.mul_le_mul_left P (show 2 ≤ s + 1 by omega)
        omega
    subst hs0
    exact ⟨rfl, by rw [Nat.zero_add, Nat.mul_one] at h1; exact h1⟩
theorem nx_f {z p U P : Nat} (h : z + p = U) : z + p = U + (if false = true then P else 0) := by rw [if_neg (by decide)]; exact h
theorem nx_t {z p U P : Nat} (h : z + p = U + P) : z + p = U + (if true = true then P else 0) := by rw [if_pos rfl]; exact h
theorem nx_lt {z V g U : Nat} (h : z + V * g = U) (hq : U < V * (g + 1)) : z < V := by rw [Nat.mul_add, Nat.mul_one] at hq; omega
theorem next_sub {w : World} {rb i n oc db g : Nat} {ds vs : List Nat} (hr : Row w rb ds) (hd : Digs ds) (hv : Row w db vs) (hvd : Digs vs) (hvl : vs.length = n) (hne : db ≠ rb) (hi : i + (n + 1) ≤ ds.length) (hoc : n + 1 ≤ oc) (hom : oc ≤ 9223372036854775807)
    (hg : g < 4294967296) (hgq : val (seg ds i (n + 1)) < val vs * (g + 1)) :
    Calls Tryz.prog 187 #[.slice (some ⟨rb, i, none⟩) (n + 1) oc, .slice (some ⟨rb, i, none⟩) (n + 1) oc, .slice (some ⟨db, 0, none⟩) n n, .int .u64 g] w fun e w' =>
      (e = .returned (.int .u64 0) ∧ Hid (NextRel w rb i n ds (val (seg ds i (n + 1))) (val vs) g false w')) ∨ (e = .returned (.int .u64 1) ∧ Hid (NextRel w rb i n ds (val (seg ds i (n + 1))) (val vs) g true w')) := by
  have hrd : Rd w (some ⟨rb, i, none⟩) (n + 1) oc (seg ds i (n + 1)) := hr.rd hd hi hoc hom
  have hvr : Rd w (some ⟨db, 0, none⟩) n n vs := by
    have := hv.rd0 hvd (Nat.le_refl _) (by omega)
    rwa [hvl] at this
  refine (subTimes_any g rb i (n + 1) oc (n + 1) oc n n _ _ _ vs ds w hg hr hi hoc hom hrd hvr (Src.same rb i _) (Src.row hne)).mono ?_
  rintro e w' ⟨rfl, zs, z1, z2, z3⟩
  have hz := z2.digs (sub_inv g hg) (by omega) (hd.seg i (n + 1)) hvd hd
  have h1 := sub_sum g 0 _ vs ds i (n + 1) zs z2 (hd.seg i (n + 1)) (n + 1) (Nat.le_refl _)
  rw [show (seg ds i (n + 1)).take (n + 1) = seg ds i (n + 1) from List.take_of_length_le (by rw [seg_len hi]; omega), show vs.take (n + 1) = vs from List.take_of_length_le (by omega), Nat.add_zero] at h1
  have h2 := seg_val_lt hz (o := i) (n := n + 1) (by rw [z2.1]; exact hi)
  have hV := val_lt hvd
  rw [hvl] at hV
  have h3 : val vs * g ≤ 4294967296 ^ (n + 1) := by
    rw [Nat.pow_succ]
    exact Nat.mul_le_mul (by omega) (by omega)
  generalize (subStep g).st 0 (seg ds i (n + 1)) vs (n + 1) = s at h1 ⊢
  rcases nx_sub h1 h2 h3 with ⟨rfl, h4⟩ | ⟨rfl, h4⟩
  · left
    exact ⟨rfl, hid ⟨zs, z1, z2.1, hz, z2.rest, nx_f h4, fun _ => nx_lt h4 hgq, hg, z3⟩⟩
  · right
    exact ⟨rfl, hid ⟨zs, z1, z2.1, hz, z2.rest, nx_t h4, (fun h => by cases h), hg, z3⟩⟩
theorem next_add {w wr : World} {rb i n oc db g U : Nat} {ds vs : List Nat} (h : NextRel w rb i n ds U (val vs) (g + 1) true wr) (hv : Row w db vs) (hvd : Digs vs) (hvl : vs.length = n) (hne : db ≠ rb) (hi : i + (n + 1) ≤ ds.length) (hoc : n + 1 ≤ oc) (hom : oc ≤ 9223372036854775807) :
    Calls Tryz.prog 166 #[.slice (some ⟨rb, i, none⟩) (n + 1) oc, .slice (some ⟨rb, i, none⟩) (n + 1) oc, .slice (some ⟨db, 0, none⟩) n n, .int .u64 1, .int .u64 0] wr fun e w' =>
      (e = .returned (.int .u64 0) ∧ Hid (NextRel w rb i n ds U (val vs) g true w')) ∨ (e = .returned (.int .u64 1) ∧ Hid (NextRel w rb i n ds U (val vs) g false w')) := by
  obtain ⟨zs, z1, z2, z3, z4, z5, _, z6, z7⟩ := h
  have hrd : Rd wr (some ⟨rb, i, none⟩) (n + 1) oc (seg zs i (n + 1)) := z1.rd z3 (by omega) hoc hom
  have hv1 : Row wr db vs := Blk.upd hv z7 hne
  have hvr : Rd wr (some ⟨db, 0, none⟩) n n vs := by
    have := hv1.rd0 hvd (Nat.le_refl _) (by omega)
    rwa [hvl] at this
  refine (addTimes_any 1 0 rb i (n + 1) oc (n + 1) oc n n _ _ _ vs zs wr (by omega) (by omega) z1 (by omega) hoc hom hrd hvr (Src.same rb i _) (Src.row hne)).mono ?_
  rintro e w' ⟨rfl, us, u1, u2, u3⟩
  have hz := u2.digs (add_inv 1 (by omega)) (by omega) (z3.seg i (n + 1)) hvd z3
  have h1 := add_sum 1 0 _ vs zs i (n + 1) us u2 (n + 1) (Nat.le_refl _)
  rw [show (seg zs i (n + 1)).take (n + 1) = seg zs i (n + 1) from List.take_of_length_le (by rw [seg_len (by omega)]; omega), show vs.take (n + 1) = vs from List.take_of_length_le (by omega), Nat.add_zero, Nat.mul_one] at h1
  have h2 := seg_val_lt hz (o := i) (n := n + 1) (by rw [u2.1]; omega)
  have h2z := seg_val_lt z3 (o := i) (n := n + 1) (by omega)
  have hV := val_lt hvd
  rw [hvl] at hV
  have h3 : 4294967296 ^ n ≤ 4294967296 ^ (n + 1) := Nat.pow_le_pow_right (by omega) (by omega)
  have hrest : ∀ j, j < i ∨ i + (n + 1) ≤ j → us.getD j 0 = ds.getD j 0 := fun j hj => by rw [u2.rest j hj, z4 j hj]
  rw [Nat.mul_add, Nat.mul_one, if_pos rfl] at z5
  generalize hs : (addStep 1).st 0 (seg zs i (n + 1)) vs (n + 1) = s at h1 ⊢
  rcases s with _ | s
  · left
    refine ⟨rfl, hid ⟨us, u1, by rw [u2.1, z2], hz, hrest, ?_, fun h => (by cases h), by omega, z7.trans u3⟩⟩
    rw [if_pos rfl]
    rw [Nat.mul_zero] at h1
    omega
  · have hs0 : s = 0 := by
      rcases Nat.eq_zero_or_pos s with h | h
      · exact h
      · exfalso
        have := Nat.mul_le_mul_left (4294967296 ^ (n + 1)) (show 2 ≤ s + 1 by omega)
        omega
    subst hs0
    right
    rw [Nat.zero_add, Nat.mul_one] at h1
    exact ⟨rfl, hid ⟨us, u1, by rw [u2.1, z2], hz, hrest, by simp; omega, fun _ => by omega, by omega, z7.trans u3⟩⟩
theorem NextRel.done {w wr : World} {rb i n U V g : Nat} {ds : List Nat} (h : NextRel w rb i n ds U V g false wr) : g = U / V ∧ ∃ zs, Row wr rb zs ∧ zs.length = ds.length ∧ Digs zs ∧ (∀ j, j < i ∨ i + (n + 1) ≤ j → zs.getD j 0 = ds.getD j 0) ∧ val (seg zs i (n + 1)) = U % V ∧ Upd (fun k => k = rb) w wr := by
  obtain ⟨zs, z1, z2, z3, z4, z5, z6, _, z7⟩ := h
  have h1 := z6 rfl
  simp only [Bool.false_eq_true, if_false, Nat.add_zero] at z5
  have h2 : U / V = g := by
    rw [← z5, Nat.add_mul_div_left _ _ (by omega), Nat.div_eq_of_lt h1, Nat.zero_add]
  have h3 : U % V = val (seg zs i (n + 1)) := by
    rw [← z5, Nat.add_mul_mod_self_left, Nat.mod_eq_of_lt h1]
  exact ⟨h2.symm, zs, z1, z2, z3, z4, h3.symm, z7⟩
theorem guess_ge {us vs : List Nat} {n : Nat} (hu : Digs us) (hul : us.length = n + 2) (hvl : vs.length = n + 1) (hv1 : 0 < vs.getD n 0) :
    val us < val vs * ((us.getD n 0 + 4294967296 * us.getD (n + 1) 0) / vs.getD n 0 + 1) := by
  have e1 := val_take_succ us (n + 1)
  have e2 := val_take_succ us n
  rw [List.take_of_length_le (by omega)] at e1
  have l1 := val_lt (hu.take n)
  rw [List.length_take, Nat.min_eq_left (by omega)] at l1
  have e3 := val_take_succ vs n
  rw [List.take_of_length_le (by omega)] at e3
  generalize hp : us.getD n 0 + 4294967296 * us.getD (n + 1) 0 = p
  generalize hq : vs.getD n 0 = q at *
  have h1 : p < q * (p / q + 1) := by
    have := Nat.div_add_mod p q
    have := Nat.mod_lt p hv1
    rw [Nat.mul_add]
    omega
  have h2 := Nat.mul_le_mul_left (4294967296 ^ n) (show p + 1 ≤ q * (p / q + 1) from h1)
  rw [← Nat.mul_assoc] at h2
  have h3 : 4294967296 ^ n * q * (p / q + 1) ≤ val vs * (p / q + 1) := Nat.mul_le_mul_right _ (by omega)
  have h4 : val us = val (us.take n) + 4294967296 ^ n * p := by
    rw [e1, e2, ← hp, Nat.pow_succ, Nat.mul_add, Nat.mul_assoc]
    omega
  rw [Nat.mul_add, Nat.mul_one] at h2
  omega
def NextPost (w : World) (rb i n : Nat) (ds vs : List Nat) (e : Ending) (w' : World) : Prop :=
  e = .returned (.int .u32 (val (seg ds i (n + 1)) / val vs : Nat)) ∧ ∃ zs, Row w' rb zs ∧ zs.length = ds.length ∧ Digs zs ∧ (∀ j, j < i ∨ i + (n + 1) ≤ j → zs.getD j 0 = ds.getD j 0) ∧ val (seg zs i (n + 1)) = val (seg ds i (n + 1)) % val vs ∧ Upd (fun k => k = rb) w w'
theorem NextRel.pos {w wr : World} {rb i n U V g : Nat} {ds : List Nat} (h : NextRel w rb i n ds U V g true wr) (hi : i + (n + 1) ≤ ds.length) : 0 < g := by
  obtain ⟨zs, _, z2, z3, _, z5, _, _, _⟩ := h
  have := seg_val_lt z3 (o := i) (n := n + 1) (by omega)
  rw [if_pos rfl] at z5
  rcases Nat.eq_zero_or_pos g with h0 | h0
  · rw [h0, Nat.mul_zero] at z5
    exfalso
    generalize 4294967296 ^ (n + 1) = P at *
    omega
  · exact h0
theorem Upd.undraw {S : Nat → Prop} {w w' : World} {k : Nat} (h : Upd S (w.drewN k) w') : Upd S w w' := ⟨h.os, h.tape, h.output, h.size, h.block⟩
theorem NextRel.undraw {w wr : World} {rb i n U V g k : Nat} {neg : Bool} {ds : List Nat} (h : NextRel (w.drewN k) rb i n ds U V g neg wr) : NextRel w rb i n ds U V g neg wr := by
  obtain ⟨zs, z1, z2, z3, z4, z5, z6, z7, z8⟩ := h
  exact ⟨zs, z1, z2, z3, z4, z5, z6, z7, z8.undraw⟩
theorem next_sub0 {w : World} {rb i n oc db g : Nat} {ds vs : List Nat} (hr : Row w rb ds) (hd : Digs ds) (hv : Row w db vs) (hvd : Digs vs) (hvl : vs.length = n) (hne : db ≠ rb) (hi : i + (n + 1) ≤ ds.length) (hoc : n + 1 ≤ oc) (hom : oc ≤ 9223372036854775807) (k : Nat) (t : Int) (ht : t = (g : Int))
    (hg : g < 4294967296) (hgq : val (seg ds i (n + 1)) < val vs * (g + 1)) :
    Calls Tryz.prog 187 #[.slice (some ⟨rb, i, none⟩) (n + 1) oc, .slice (some ⟨rb, i, none⟩) (n + 1) oc, .slice (some ⟨db, 0, none⟩) n n, .int .u64 t] (w.drewN k) fun e w' =>
      (e = .returned (.int .u64 0) ∧ Hid (NextRel w rb i n ds (val (seg ds i (n + 1))) (val vs) g false w')) ∨ (e = .returned (.int .u64 1) ∧ Hid (NextRel w rb i n ds (val (seg ds i (n + 1))) (val vs) g true w')) := by
  subst ht
  exact (next_sub (w := w.drewN k) hr hd hv hvd hvl hne hi hoc hom hg hgq).mono fun _ _ h => h.imp (fun ⟨a, b⟩ => ⟨a, hid b.out.undraw⟩) (fun ⟨a, b⟩ => ⟨a, hid b.out.undraw⟩)
set_option maxHeartbeats 1000000 in
theorem next_any (rb i q oc db : Nat) (ds vs : List Nat) (w : World) (hr : Row w rb ds) (hd : Digs ds) (hv : Row w db vs) (hvd : Digs vs) (hvl : vs.length = q + 1) (hne : db ≠ rb) (hi : i + (q + 2) ≤ ds.length) (hoc : q + 2 ≤ oc) (hom : oc ≤ 9223372036854775807)
    (hv1 : 0 < vs.getD q 0) (hU : val (seg ds i (q + 2)) < val vs * 4294967296) :
    Calls Tryz.prog 204 #[.slice (some ⟨rb, i, none⟩) (q + 2) oc, .slice (some ⟨db, 0, none⟩) (q + 1) (q + 1)] w (NextPost w rb i (q + 1) ds vs) := by
  have c1 := hr.cell (i := i + (q + 1)) (by omega)
  have c0 := hr.cell (i := i + q) (by omega)
  have cv := hv.cell (i := q) (by omega)
  have g1 := hd.get (i + (q + 1))
  have g0 := hd.get (i + q)
  have gv := hvd.get q
  have gg := guess_ge (us := seg ds i (q + 2)) (hd.seg _ _) (seg_len (by omega)) hvl hv1
  rw [seg_getD (by omega), seg_getD (by omega)] at gg
  have st := hid (fun (k g : Nat) (t : Int) (ht : t = (g : Int)) (a : g < 4294967296) (b : val (seg ds i (q + 2)) < val vs * (g + 1)) => next_sub0 (w := w) (rb := rb) (i := i) (n := q + 1) (oc := oc) (db := db) (g := g) hr hd hv hvd hvl hne hi hoc hom k t ht a b)
  have ad := hid (fun (wr : World) (g : Nat) (h : NextRel w rb i (q + 1) ds (val (seg ds i (q + 2))) (val vs) (g + 1) true wr) => next_add h hv hvd hvl hne hi hoc hom)
  obtain ⟨x1, hx1⟩ : ∃ x, x = ds.getD (i + (q + 1)) 0 := ⟨_, rfl⟩
  obtain ⟨x0, hx0⟩ : ∃ x, x = ds.getD (i + q) 0 := ⟨_, rfl⟩
  obtain ⟨v, hvv⟩ : ∃ x, x = vs.getD q 0 := ⟨_, rfl⟩
  rw [← hx1] at c1 g1 gg
  rw [← hx0] at c0 g0 gg
  rw [← hvv] at cv gv gg hv1
  have hor := or_join x1 x0 g1 g0
  obtain ⟨p, hp⟩ : ∃ p, p = x0 + 4294967296 * x1 := ⟨_, rfl⟩
  rw [← hp] at hor gg
  have hpb : p < 18446744073709551616 := by omega
  obtain ⟨g, hg⟩ : ∃ g, g = p / v := ⟨_, rfl⟩
  have hgb0 : g < 18446744073709551616 := by rw [hg]; exact Nat.lt_of_le_of_lt (Nat.div_le_self _ _) hpb
  rw [← hg] at gg
  have hdiv : (p : Int) / (v : Int) = (g : Int) := by rw [hg]; exact (Int.natCast_ediv p v).symm
  have stA := hid (fun (h : g < 4294967296) k => st.out k g _ rfl h gg)
  have stB := hid (fun (h : 4294967295 ≤ g) k => st.out k 4294967295 4294967295 rfl (by omega) (by omega))
  clear hx1 hx0 hvv hp hg hr hd hv hvd hvl hU gg st
  go_enter Tryz.func204, Tryz.ntmps204
  go_wp2_with fail
  go_quiet (fail)
  go_wp2_with fail
  all_goals
    first | (with_reducible refine (stA.out ?h1 _).mono ?_) | (with_reducible refine (stB.out ?h1 _).mono ?_)
    case h1 => omega
    rintro e w1 (⟨rfl, hz⟩ | ⟨rfl, hz⟩)
    all_goals
      go_wp2_with fail
      go_loopw [7, 8] (fun gv nv wr => ∃ (g : Nat) (neg : Bool), g < 4294967296 ∧ gv = .int .u64 g ∧ nv = .bool neg ∧ Hid (NextRel w rb i (q + 1) ds (val (seg ds i (q + 2))) (val vs) g neg wr)) (fun gv _ _ => (intOf gv).toNat)
      case atStart => first | exact ⟨4294967295, _, by omega, rfl, rfl, hz⟩ | exact ⟨g, _, by omega, rfl, rfl, hz⟩
      case round =>
        clear hz
        obtain ⟨g', neg, hgb, rfl, rfl, hz⟩ := hrel
        rcases neg with _ | _
        · go_wp2_with fail
          go_ret
          obtain ⟨d1, d2⟩ := hz.out.done
          exact ⟨by rw [d1]; rfl, d2⟩
        · obtain ⟨h, rfl⟩ : ∃ h, g' = h + 1 := ⟨g' - 1, by have := hz.out.pos hi; omega⟩
          have AD := hid (ad.out _ h hz.out)
          go_wp2_with fail
          refine (AD.out).mono ?_
          rintro e w2 (⟨rfl, hy⟩ | ⟨rfl, hy⟩)
          all_goals
            go_wp2_with fail
            go_roundw
            case rel => exact ⟨h, _, by omega, by go_num, rfl, hy⟩
            case measure => simp [intOf]
theorem lt_bitN (n : Nat) : n < 2 ^ bitN n := by
  unfold bitN
  split
  · rename_i h; rw [h]; decide
  · exact Nat.lt_log2_self
theorem bitN_le {n k : Nat} (h : n < 2 ^ k) : bitN n ≤ k := by
  unfold bitN
  split
  · omega
  · rename_i h0
    have := (Nat.log2_lt h0).2 h
    omega
theorem bitN_ge {n k : Nat} (h : 2 ^ k ≤ n) : k + 1 ≤ bitN n := by
  have h1 := lt_bitN n
  rcases Nat.lt_or_ge (bitN n) (k + 1) with h2 | h2
  · have := Nat.pow_le_pow_right (n := 2) (by omega) (show bitN n ≤ k by omega)
    omega
  · exact h2
theorem base_pow (m : Nat) : (4294967296 : Nat) ^ m = 2 ^ (32 * m) := by rw [Nat.pow_mul]
theorem scale_fits {v m : Nat} (h1 : 4294967296 ^ (m - 1) ≤ v) (h2 : v < 4294967296 ^ m) (hm : 0 < m) : bitN v ≤ 32 * m ∧ 32 * m - bitN v ≤ 31 ∧ v * 2 ^ (32 * m - bitN v) < 4294967296 ^ m := by
  rw [base_pow] at h1 h2
  have a := bitN_ge h1
  have b := bitN_le h2
  refine ⟨b, by omega, ?_⟩
  rw [base_pow]
  have c := lt_bitN v
  have d := Nat.mul_lt_mul_of_pos_right c (Nat.two_pow_pos (32 * m - bitN v))
  rwa [← Nat.pow_add, Nat.add_sub_cancel' b] at d
theorem scale_small {e : Nat} (h : e ≤ 31) : 2 ^ e < 4294967296 := by
  have := Nat.pow_le_pow_right (n := 2) (by omega) h
  omega
theorem top_pos {vs : List Nat} {q : Nat} (hd : Digs vs) (hl : vs.length = q + 1) (h : 4294967296 ^ q ≤ val vs) : 0 < vs.getD q 0 := by
  rcases Nat.eq_zero_or_pos (vs.getD q 0) with h0 | h0
  · exfalso
    have h1 := val_take_succ vs q
    rw [List.take_of_length_le (by omega), h0, Nat.mul_zero] at h1
    have h2 := val_lt (hd.take q)
    rw [List.length_take, Nat.min_eq_left (by omega)] at h2
    omega
  · exact h0
theorem seg_short {zs : List Nat} {o k n : Nat} (hk : k ≤ n) (h : val (seg zs o n) < 4294967296 ^ k) : val (seg zs o k) = val (seg zs o n) := by
  have := val_drop_zero h
  rwa [seg_take hk] at this
theorem seg_high {zs : List Nat} {o k n : Nat} (h : val (seg zs o n) < 4294967296 ^ k) : ∀ j, o + k ≤ j → j < o + n → zs.getD j 0 = 0 := by
  intro j h1 h2
  have h3 := dg_getD_zero (xs := seg zs o n) (j - o) (by have := dg_len_le h; omega)
  rw [seg_getD (by omega)] at h3
  rwa [show o + (j - o) = j by omega] at h3
def LongRel (w : World) (D R Q n m : Nat) (us vs : List Nat) (k : Nat) (wr : World) : Prop :=
  ∃ rs qs, Row wr D vs ∧ Row wr R rs ∧ Row wr Q qs ∧ Digs rs ∧ Digs qs ∧ rs.length = n + 1 ∧ qs.length = n - m + 1 ∧ (∀ j, j < k → rs.getD j 0 = us.getD j 0) ∧ val (seg us k (n + 1 - k)) = val (seg qs k (n - m + 1 - k)) * val vs + val (seg rs k (n + 1 - k)) ∧ val (seg rs k (n + 1 - k)) < val vs ∧ Below w.heap.size w wr
theorem long_step {w wr : World} {D R Q n m q oc : Nat} {us vs : List Nat} (h : LongRel w D R Q n m us vs (q + 1) wr) (hD : w.heap.size ≤ D) (hDR : D < R) (hRQ : R < Q) (hul : us.length = n + 1) (hvl : vs.length = m) (hvd : Digs vs) (hm : 0 < m) (hmn : m ≤ n) (hq : q ≤ n - m) (hoc : m + 1 ≤ oc) (hom : oc ≤ 9223372036854775807) (hv1 : 0 < vs.getD (m - 1) 0) :
    Calls Tryz.prog 204 #[.slice (some ⟨R, q, none⟩) (m + 1) oc, .slice (some ⟨D, 0, none⟩) m m] wr fun e w' =>
      ∃ d : Nat, e = .returned (.int .u32 d) ∧ (∃ x : Nat, w'.cell? ⟨Q, q, none⟩ = some (.int .u32 x)) ∧ w'.frozen? ⟨Q, q, none⟩ = false ∧ Hid (LongRel w D R Q n m us vs q (w'.setCell ⟨Q, q, none⟩ (.int .u32 d))) := by
  obtain ⟨rs, qs, z1, z2, z3, z4, z5, z6, z7, z8, z9, z10, z11⟩ := h
  obtain ⟨p, rfl⟩ : ∃ p, m = p + 1 := ⟨m - 1, by omega⟩
  have hV := val_lt hvd
  rw [hvl] at hV
  have e1 : seg rs q (n + 1 - q) = rs.getD q 0 :: seg rs (q + 1) (n + 1 - (q + 1)) := by rw [seg_cons (by omega) (by omega), Nat.sub_sub]
  have hx := z4.get q
  have hlt : val (seg rs q (n + 1 - q)) < val vs * 4294967296 := by
    rw [e1, val]; omega
  have hlt2 : val (seg rs q (n + 1 - q)) < 4294967296 ^ (p + 2) := by
    have : val vs * 4294967296 ≤ 4294967296 ^ (p + 1) * 4294967296 := Nat.mul_le_mul_right _ (by omega)
    rw [← Nat.pow_succ] at this
    exact Nat.lt_of_lt_of_le hlt this
  have hsh := seg_short (by omega) hlt2
  have hhi := seg_high hlt2
  refine (next_any R q p oc D rs vs wr z2 z4 z1 hvd hvl (by omega) (by omega) hoc hom hv1 (by rw [hsh]; exact hlt)).mono ?_
  rintro e w' ⟨rfl, ts, t1, t2, t3, t4, t5, t6⟩
  have y1 : Row w' D vs := Blk.upd z1 t6 (by omega)
  have y3 : Row w' Q qs := Blk.upd z3 t6 (by omega)
  rw [hsh] at t5 ⊢
  refine ⟨_, rfl, ⟨_, y3.cell (by omega)⟩, Blk.free y3 q, hid ⟨ts, qs.set q (val (seg rs q (n + 1 - q)) / val vs), Blk.far y1 (by omega) _, Blk.far t1 (by omega) _, y3.set_ q _, t3, ?_, by omega, by simp [z7], ?_, ?_, ?_, ?_⟩⟩
  · have hdig : val (seg rs q (n + 1 - q)) / val vs < 4294967296 := by
      rw [Nat.div_lt_iff_lt_mul (by omega)]
      omega
    intro z hz
    obtain ⟨j, hj, rfl⟩ := List.getElem_of_mem hz
    have e : (qs.set q (val (seg rs q (n + 1 - q)) / val vs))[j] = (qs.set q (val (seg rs q (n + 1 - q)) / val vs)).getD j 0 := by simp [List.getD, List.getElem?_eq_getElem hj]
    rw [e, getD_set _ _ _ _ (by omega)]
    split
    · exact hdig
    · exact z5.get j
  · intro j hj
    rw [t4 j (by omega), z8 j (by omega)]
  · have f1 : seg us q (n + 1 - q) = us.getD q 0 :: seg us (q + 1) (n + 1 - (q + 1)) := by rw [seg_cons (by omega) (by omega), Nat.sub_sub]
    have f2 : seg (qs.set q (val (seg rs q (n + 1 - q)) / val vs)) q (n - (p + 1) + 1 - q) = val (seg rs q (n + 1 - q)) / val vs :: seg qs (q + 1) (n - (p + 1) + 1 - (q + 1)) := by
      rw [seg_cons (by simp; omega) (by omega), Nat.sub_sub, getD_set _ _ _ _ (by omega), if_pos rfl]
      congr 1
      exact seg_ext (by simp) fun j h1 _ => by rw [getD_set _ _ _ _ (by omega), if_neg (by omega)]
    have f3 : val (seg ts q (n + 1 - q)) = val (seg rs q (n + 1 - q)) % val vs := by
      have hz : ∀ j, q + (p + 2) ≤ j → j < q + (n + 1 - q) → ts.getD j 0 = 0 := fun j h1 h2 => by rw [t4 j (by omega), hhi j h1 h2]
      have g := dg_take (xs := seg ts q (n + 1 - q)) (k := p + 2) (fun j hj => by
        rcases Nat.lt_or_ge j (n + 1 - q) with h1 | h1
        · rw [seg_getD h1]; exact hz _ (by omega) (by omega)
        · rw [List.getD_eq_getElem?_getD, List.getElem?_eq_none (by rw [seg_len (by omega)]; exact h1)]; rfl)
      rw [seg_take (by omega)] at g
      rw [← g]
      exact t5
    rw [f1, f2, f3, val, val, z9, ← z8 q (by omega)]
    have g := Nat.div_add_mod (val (seg rs q (n + 1 - q))) (val vs)
    rw [Nat.mul_comm] at g
    have g2 : val (seg rs q (n + 1 - q)) = rs.getD q 0 + 4294967296 * val (seg rs (q + 1) (n + 1 - (q + 1))) := by rw [e1, val]
    rw [Nat.add_mul, Nat.mul_add, Nat.mul_assoc]
    omega
  · have hz : ∀ j, q + (p + 2) ≤ j → j < q + (n + 1 - q) → ts.getD j 0 = 0 := fun j h1 h2 => by rw [t4 j (by omega), hhi j h1 h2]
    have g := dg_take (xs := seg ts q (n + 1 - q)) (k := p + 2) (fun j hj => by
      rcases Nat.lt_or_ge j (n + 1 - q) with h1 | h1
      · rw [seg_getD h1]; exact hz _ (by omega) (by omega)
      · rw [List.getD_eq_getElem?_getD, List.getElem?_eq_none (by rw [seg_len (by omega)]; exact h1)]; rfl)
    rw [seg_take (by omega)] at g
    rw [← g]
    have : val (seg ts q (p + 2)) = val (seg rs q (n + 1 - q)) % val vs := t5
    rw [this]
    exact Nat.mod_lt _ (by omega)
  · exact (z11.trans (t6.below (B := w.heap.size) z11.size (fun k hk => by omega))).setCell (by show w.heap.size ≤ Q; omega) _
theorem times_row {W : World} {m d k t : Nat} {B : Option Addr} {ys : List Nat} (hb : Rd W B m d ys) (ht : t < 4294967296) (hmk : m ≤ k) (hkm : k ≤ 9223372036854775807) (hv : val ys * t < 4294967296 ^ k) :
    Calls Tryz.prog 166 #[.slice (some ⟨W.heap.size, 0, none⟩) k k, .slice none 0 0, .slice B m d, .int .u64 t, .int .u64 0] (W.alloc (.cells (zrow k) 127)) fun e w' =>
      (∃ s : Nat, e = .returned (.int .u64 s)) ∧ ∃ zs, Row w' W.heap.size zs ∧ Digs zs ∧ zs.length = k ∧ val zs = val ys * t ∧ Below W.heap.size W w' ∧ W.heap.size < w'.heap.size := by
  have hbw : Below W.heap.size W (W.alloc (.cells (zrow k) 127)) := (Below.refl _ _).alloc (Nat.le_refl _) _
  refine (addTimes_any t 0 W.heap.size 0 k k 0 0 m d none B [] ys _ _ ht (by omega) (row_new W k) (by simp) (Nat.le_refl _) hkm (Rd.nil _ _) (hb.keep hbw) (Src.nil _ _) (Src.old hb (Nat.le_refl _))).mono ?_
  rintro e w' ⟨rfl, zs, z1, z2, z3⟩
  refine ⟨⟨_, rfl⟩, zs, z1, z2.digs (add_inv t ht) (by omega) Digs.nil hb.2.2.2.1 (Digs.zeros _), by rw [z2.1]; simp, ?_, ?_, Blk.lt z1⟩
  · have h1 := add_all z2 (by simp) (by simp) (by have := hb.1; omega)
    rw [Nat.add_zero] at h1
    have h2 : val ([] : List Nat) = 0 := rfl
    rw [h2, Nat.zero_add] at h1
    exact no_carry h1 hv
  · exact ⟨z3.os.trans hbw.os, z3.tape.trans hbw.tape, z3.output.trans hbw.output, Nat.le_trans hbw.size z3.size, fun i hi => (z3.block i (Nat.lt_of_lt_of_le hi hbw.size) (by omega)).trans (hbw.block i hi)⟩
def RetPair (w : World) (xs ys : List Nat) (e : Ending) (w' : World) : Prop := ∃ v u, e = .returned (.tuple #[v, u]) ∧ Dig w' v xs ∧ Dig w' u ys ∧ Below w.heap.size w w'
theorem wrap_scale {e t : Nat} (ht : t = 2 ^ e) (h : t < 4294967296) : IntKind.u64.wrap ((2 : Int) ^ e) = (t : Int) := by
  have e1 : ((2 : Int) ^ e) = ((2 ^ e : Nat) : Int) := by simp
  rw [e1, ← ht]
  simp only [IntKind.wrap, IntKind.bits, IntKind.signed]
  simp
  omega
theorem xs_fits {x n t : Nat} (hx : x < 4294967296 ^ n) (ht : t < 4294967296) : x * t < 4294967296 ^ (n + 1) := by
  rw [Nat.pow_succ]
  exact Nat.mul_lt_mul'' hx ht
def LongStart (w : World) (R Q n m : Nat) (t x y : Nat) (us vs : List Nat) (W : World) : Prop :=
  Digs us ∧ us.length = n + 1 ∧ val us = x * t ∧ Digs vs ∧ vs.length = m ∧ val vs = y * t ∧ w.heap.size < R ∧ R < Q ∧ 0 < vs.getD (m - 1) 0 ∧ LongRel w w.heap.size R Q n m us vs (n - m + 1) W
theorem long_start {w w1 w2 : World} {n m t x y : Nat} {us vs : List Nat} (hm : 0 < m) (hmn : m ≤ n) (ht : 0 < t) (hx : x < 4294967296 ^ n) (hy : 4294967296 ^ (m - 1) ≤ y)
    (z1 : Row w1 w.heap.size vs) (z2 : Digs vs) (z3 : vs.length = m) (z4 : val vs = y * t) (z5 : Below w.heap.size w w1) (z6 : w.heap.size < w1.heap.size)
    (u1 : Row w2 w1.heap.size us) (u2 : Digs us) (u3 : us.length = n + 1) (u4 : val us = x * t) (u5 : Below w1.heap.size w1 w2) (u6 : w1.heap.size < w2.heap.size) :
    LongStart w w1.heap.size w2.heap.size n m t x y us vs (w2.alloc (.cells (zrow (n - m + 1)) 127)) := by
  have hyt : 4294967296 ^ (m - 1) ≤ y * t := Nat.le_trans hy (Nat.le_mul_of_pos_right y ht)
  refine ⟨u2, u3, u4, z2, z3, z4, z6, u6, top_pos z2 (by omega) (by rw [z4]; exact hyt), ?_⟩
  have hb3 : Below w.heap.size w (w2.alloc (.cells (zrow (n - m + 1)) 127)) := (z5.trans (u5.mono (by omega))).alloc (by have := u5.size; omega) _
  refine ⟨us, List.replicate (n - m + 1) 0, Blk.alloc (Blk.below z1 u5 z6) _, Blk.alloc u1 _, row_new _ _, u2, Digs.zeros _, u3, by simp, fun _ _ => rfl, ?_, ?_, hb3⟩
  · rw [Nat.sub_self]
    have : seg (List.replicate (n - m + 1) 0) (n - m + 1) 0 = [] := by simp [seg]
    rw [this]
    simp [val]
  · have h1 := val_append (us.take (n - m + 1)) (us.drop (n - m + 1))
    rw [List.take_append_drop, List.length_take, Nat.min_eq_left (by omega)] at h1
    have h2 : seg us (n - m + 1) (n + 1 - (n - m + 1)) = us.drop (n - m + 1) := by
      unfold seg
      rw [List.take_of_length_le (by simp; omega)]
    rw [h2]
    have h3 : 4294967296 ^ (n - m + 1) * val (us.drop (n - m + 1)) < 4294967296 ^ (n - m + 1) * val vs := by
      refine Nat.lt_of_le_of_lt (m := x * t) (by omega) ?_
      have h4 : 4294967296 ^ n * t ≤ 4294967296 ^ (n - m + 1) * val vs := by
        rw [z4, ← Nat.mul_assoc]
        refine Nat.mul_le_mul_right _ ?_
        have : 4294967296 ^ n = 4294967296 ^ (n - m + 1) * 4294967296 ^ (m - 1) := by rw [← Nat.pow_add]; congr 1; omega
        rw [this]
        exact Nat.mul_le_mul_left _ hy
      exact Nat.lt_of_lt_of_le (Nat.mul_lt_mul_of_pos_right hx ht) h4
    exact Nat.lt_of_mul_lt_mul_left h3
theorem scale_back {X Y t Q r : Nat} (ht : 0 < t) (h : X * t = Q * (Y * t) + r) (hr : r < Y * t) : Q = X / Y ∧ r / t = X % Y := by
  have hY : 0 < Y := by
    rcases Nat.eq_zero_or_pos Y with h0 | h0
    · rw [h0] at hr; omega
    · exact h0
  have h1 : X * t / (Y * t) = Q := by
    rw [h, Nat.mul_comm Q, Nat.mul_add_div (by omega), Nat.div_eq_of_lt hr, Nat.add_zero]
  have h2 : X * t % (Y * t) = r := by
    rw [h, Nat.mul_comm Q, Nat.mul_add_mod, Nat.mod_eq_of_lt hr]
  rw [Nat.mul_div_mul_right _ _ ht] at h1
  rw [Nat.mul_mod_mul_right] at h2
  exact ⟨h1.symm, by rw [← h2, Nat.mul_div_cancel _ ht]⟩
theorem long_done {w wr : World} {R Q n m t x y : Nat} {us vs : List Nat} (ht : 0 < t) (hu : us.length = n + 1) (hux : val us = x * t) (hvy : val vs = y * t) (_hmn : m ≤ n) (h : LongRel w w.heap.size R Q n m us vs 0 wr) :
    ∃ rs qs, Row wr R rs ∧ Row wr Q qs ∧ Digs rs ∧ Digs qs ∧ rs.length = n + 1 ∧ qs.length = n - m + 1 ∧ val qs = x / y ∧ val rs / t = x % y ∧ Below w.heap.size w wr := by
  obtain ⟨rs, qs, _, z2, z3, z4, z5, z6, z7, _, z9, z10, z11⟩ := h
  have e1 : seg us 0 (n + 1 - 0) = us := by unfold seg; rw [List.drop_zero, List.take_of_length_le (by omega)]
  have e2 : seg rs 0 (n + 1 - 0) = rs := by unfold seg; rw [List.drop_zero, List.take_of_length_le (by omega)]
  have e3 : seg qs 0 (n - m + 1 - 0) = qs := by unfold seg; rw [List.drop_zero, List.take_of_length_le (by omega)]
  rw [e1, e2, e3, hux, hvy] at z9
  rw [e2, hvy] at z10
  obtain ⟨a, b⟩ := scale_back ht z9 z10
  exact ⟨rs, qs, z2, z3, z4, z5, z6, z7, a, b, z11⟩
theorem long_end {w wr w3 : World} {R Q n m t r x y : Nat} {rs qs : List Nat} (h : DivRel wr R (n + 1) t rs 0 r w3) (hY : Row wr Q qs ∧ Digs qs ∧ qs.length = n - m + 1 ∧ rs.length = n + 1 ∧ val qs = x / y ∧ val rs / t = x % y ∧ Below w.heap.size w wr) (hR : w.heap.size < R) (hRQ : R < Q) :
    ∃ zs, Row w3 R zs ∧ Digs zs ∧ zs.length = n + 1 ∧ val zs = x % y ∧ Row w3 Q qs ∧ Below w.heap.size w w3 ∧ True := by
  obtain ⟨zs, z1, z2, z3, _, z5, z6, z7⟩ := h
  obtain ⟨y1, y2, y3, y4, y5, y6, y7⟩ := hY
  have e1 : seg rs 0 (n + 1 - 0) = rs := by unfold seg; rw [List.drop_zero, List.take_of_length_le (by omega)]
  have e2 : seg zs 0 (n + 1 - 0) = zs := by unfold seg; rw [List.drop_zero, List.take_of_length_le (by omega)]
  rw [e1, e2] at z5
  refine ⟨zs, z1, z3, by omega, ?_, Blk.upd y1 z7 (by omega), y7.trans (z7.below y7.size (fun k hk => by omega)), trivial⟩
  rw [← y6, z5, Nat.mul_comm, Nat.mul_add_div (by omega), Nat.div_eq_of_lt z6, Nat.add_zero]
theorem pair_rows {w w' : World} {Q R : Nat} {qs zs : List Nat} (h1 : Row w' Q qs) (h2 : Digs qs) (h3 : qs.length ≤ 9223372036854775807) (h4 : Row w' R zs) (h5 : Digs zs) (h6 : zs.length ≤ 9223372036854775807) (hb : Below w.heap.size w w') :
    RetPair w (dg (val qs)) (dg (val zs)) (.returned (.tuple #[.slice (some ⟨Q, 0, none⟩) (dg (val qs)).length (dg (val qs)).length, .slice (some ⟨R, 0, none⟩) (dg (val zs)).length (dg (val zs)).length])) w' :=
  ⟨_, _, rfl, ⟨_, _, _, rfl, (h1.rd0 h2 (Nat.le_refl _) h3).trim⟩, ⟨_, _, _, rfl, (h4.rd0 h5 (Nat.le_refl _) h6).trim⟩, hb⟩
set_option maxHeartbeats 1000000 in
theorem divLong_any (A B : Option Addr) (n c m d : Nat) (xs ys : List Nat) (w : World) (ha : Rd w A n c xs) (hb : Rd w B m d ys) (hn : n ≤ 1099511627776) (hm : 0 < m) (hmn : m ≤ n) (hy : 4294967296 ^ (m - 1) ≤ val ys) :
    Calls Tryz.prog 189 #[.slice A n c, .slice B m d] w (RetPair w (dg (val xs / val ys)) (dg (val xs % val ys))) := by
  have hx2 := val_lt ha.2.2.2.1
  have hy2 := val_lt hb.2.2.2.1
  rw [ha.1] at hx2
  rw [hb.1] at hy2
  obtain ⟨f1, f2, f3⟩ := scale_fits hy hy2 hm
  have f4 := scale_small f2
  have cb := hid (bits_any B m d ys w hb (by omega))
  obtain ⟨t, ht⟩ : ∃ t, t = 2 ^ (32 * m - bitN (val ys)) := ⟨_, rfl⟩
  obtain ⟨bn, hbn⟩ : ∃ b, b = bitN (val ys) := ⟨_, rfl⟩
  rw [← hbn] at f1 f2 f3 f4 cb ht
  rw [← ht] at f3 f4
  have mk1 := fun W => run_make_nat m (by omega) W
  have mk2 : ∀ W, (Instr.makeSlice 37 (.int .i64 ((n : Int) + 1)) (.int .i64 ((n : Int) + 1))).run Tryz.prog W = .ok (.slice (some ⟨W.heap.size, 0, none⟩) (n + 1) (n + 1)) (W.alloc (.cells (zrow (n + 1)) 127)) := fun W => run_make_nat (n + 1) (by omega) W
  have ec : ((n - m + 1 : Nat) : Int) = (n : Int) - (m : Int) + 1 := by omega
  have mk3 : ∀ W, (Instr.makeSlice 37 (.int .i64 ((n : Int) - (m : Int) + 1)) (.int .i64 ((n : Int) - (m : Int) + 1))).run Tryz.prog W = .ok (.slice (some ⟨W.heap.size, 0, none⟩) (n - m + 1) (n - m + 1)) (W.alloc (.cells (zrow (n - m + 1)) 127)) := fun W => by rw [← ec]; exact run_make_nat (n - m + 1) (by omega) W
  have c1 := hid (times_row (W := w) hb f4 (Nat.le_refl m) (by omega) f3)
  have c2 := hid (fun (w1 : World) (h : Below w.heap.size w w1) => times_row (W := w1) (k := n + 1) (ha.keep h) f4 (by omega) (by omega) (xs_fits hx2 f4))
  have ws := wrap_scale ht f4
  have htp : 0 < t := by rw [ht]; exact Nat.two_pow_pos _
  have ls := hid (fun (w1 w2 : World) (us vs : List Nat) => long_start (w := w) (w1 := w1) (w2 := w2) (us := us) (vs := vs) hm hmn htp hx2 hy)
  have h1 := ha.2.1
  have h2 := ha.2.2.1
  have h3 := hb.2.1
  have h4 := hb.2.2.1
  clear ha hb hy hx2 hy2 f3 ht hbn ec
  go_enter Tryz.func189, Tryz.ntmps189
  go_wp2_with fail
  refine (cb.out).mono ?_
  rintro e w' ⟨rfl, rfl⟩
  go_wp2_with fail
  refine (c1.out).mono ?_
  rintro e w1 ⟨⟨s1, rfl⟩, hz⟩
  have HZ := hid hz
  clear hz
  go_wp2_with fail
  have c2' := hid (c2.out w1 (by obtain ⟨_, _, _, _, _, h, _⟩ := HZ.out; exact h))
  refine (c2'.out).mono ?_
  rintro e w2 ⟨⟨s2, rfl⟩, hz⟩
  have HY := hid hz
  clear hz
  go_wp2_with fail
  obtain ⟨vs, us, hs⟩ : ∃ vs us, Hid (LongStart w w1.heap.size w2.heap.size n m t (val xs) (val ys) us vs (w2.alloc (.cells (zrow (n - m + 1)) 127))) := by
    obtain ⟨vs, z1, z2, z3, z4, z5, z6⟩ := HZ.out
    obtain ⟨us, u1, u2, u3, u4, u5, u6⟩ := HY.out
    exact ⟨vs, us, hid (ls.out w1 w2 us vs z1 z2 z3 z4 z5 z6 u1 u2 u3 u4 u5 u6)⟩
  clear HZ HY c1 c2 c2' ls cb
  go_loopw [10] (fun i wr => ∃ k : Nat, k ≤ n - m + 1 ∧ i = .int .i64 ((k : Int) - 1) ∧ Hid (LongRel w w.heap.size w1.heap.size w2.heap.size n m us vs k wr)) (fun i _ => (intOf i + 1).toNat)
  case atStart => exact ⟨n - m + 1, Nat.le_refl _, by go_num, hid hs.out.2.2.2.2.2.2.2.2.2⟩
  case round =>
    obtain ⟨k, hk, rfl, hz⟩ := hrel
    obtain ⟨g1, g2, g3, g4, g5, g6, g7, g8, g9, _⟩ := hs.out
    have G2 := hid g2
    have G5 := hid g5
    rcases Nat.eq_zero_or_pos k with rfl | hp
    · obtain ⟨rs, qs, y1, y2, y3, y4, y5, y6, y7, y8, y9⟩ := long_done htp g2 g3 g6 hmn hz.out
      have dd := hid (divDigit_any w1.heap.size (n + 1) (n + 1) t rs wr y1 y3 (by omega) (Nat.le_refl _) (by omega) htp f4)
      have Y := hid (show Row wr w2.heap.size qs ∧ Digs qs ∧ qs.length = n - m + 1 ∧ rs.length = n + 1 ∧ val qs = val xs / val ys ∧ val rs / t = val xs % val ys ∧ Below w.heap.size w wr from ⟨y2, y4, y6, y5, y7, y8, y9⟩)
      clear y1 y2 y3 y4 y5 y6 y7 y8 y9 g1 g2 g3 g4 g5 g6 g9
      go_wp2_with fail
      refine (dd.out).mono ?_
      rintro e w3 ⟨r, rfl, hr⟩
      have HR := hid (long_end hr Y.out g7 g8)
      clear hr dd
      go_wp2_with fail
      obtain ⟨zs, v1, v2, v3, v4, v5, v6, v7⟩ := HR.out
      have T1 := hid (trim_row v5 Y.out.2.1 Y.out.2.2.1 (by omega))
      have T2 := hid (trim_row v1 v2 v3 (by omega))
      have R := hid (pair_rows v5 Y.out.2.1 (by have := Y.out.2.2.1; omega) v1 v2 (by omega) v6)
      rw [v4] at T2 R
      rw [Y.out.2.2.2.2.1] at T1 R
      clear v1 v2 v3 v4 v5 v6 v7
      refine (T1.out).mono ?_
      rintro e w' ⟨rfl, rfl⟩
      go_wp2_with fail
      refine (T2.out).mono ?_
      rintro e w' ⟨rfl, rfl⟩
      go_wp2_with fail
      go_ret2
      exact R.out
    · obtain ⟨q, rfl⟩ : ∃ q, k = q + 1 := ⟨k - 1, by omega⟩
      have stp := hid (fun (oc : Nat) (a : m + 1 ≤ oc) (b : oc ≤ 9223372036854775807) => long_step hz.out (Nat.le_refl _) g7 g8 g2 g5 g4 hm hmn (by omega) a b g9)
      clear g1 g2 g3 g4 g5 g6 g9
      go_wp2_with fail
      rw [show q + m + 1 - q = m + 1 by omega]
      refine (stp.out _ (by omega) (by omega)).mono ?_
      rintro e w3 ⟨dgt, rfl, ⟨x, hcell⟩, hfree, hl⟩
      go_wp2_with fail
      go_roundw
      case rel => exact ⟨q, by omega, by go_num, hl⟩
      case measure => simp [intOf]
def Ret3 (w : World) (xs ys : List Nat) (k : Int) (e : Ending) (w' : World) : Prop := ∃ v u, e = .returned (.tuple #[v, u, .int .i64 k]) ∧ Dig w' v xs ∧ Dig w' u ys ∧ Below w.heap.size w w'
def quoD (x y : Nat) : List Nat := if y = 0 then [] else dg (x / y)
def remD (x y : Nat) : List Nat := if y = 0 then [] else dg (x % y)
def divE (y : Nat) : Int := if y = 0 then 2 else 0
theorem cmpN_lt {a b : Nat} (h : a < b) : cmpN a b = -1 := by unfold cmpN; rw [if_pos h]
theorem cmpN_ge {a b : Nat} (h : b ≤ a) : 0 ≤ cmpN a b := by unfold cmpN; rw [if_neg (by omega)]; split <;> omega
theorem full_ge {x n : Nat} (hn : (dg x).length = n) (hp : 0 < n) : 4294967296 ^ (n - 1) ≤ x := by
  rcases full_dg x with h | h
  · rw [h] at hn; simp at hn; omega
  · have := full_lower h
    rwa [val_dg, hn] at this
theorem dig_single {x v : Nat} (h : (dg x).length = 1) (hv : v = (dg x).getD 0 0) : x = v := by
  have h1 := val_two (val_dg x) (by omega)
  rw [h1, hv]
  have : (dg x).getD 1 0 = 0 := by rw [List.getD_eq_getElem?_getD, List.getElem?_eq_none (by omega)]; rfl
  rw [this, Nat.mul_zero, Nat.add_zero]
theorem short_end {w wr w3 : World} {R n t r : Nat} {ds : List Nat} (h : DivRel wr R n t ds 0 r w3) (hl : n ≤ ds.length) (hl2 : ds.length ≤ n) (hb : Below R w wr) (hR : w.heap.size ≤ R := by exact Nat.le_refl _) :
    ∃ zs, Row w3 R zs ∧ Digs zs ∧ zs.length = n ∧ val zs = val ds / t ∧ r = val ds % t ∧ Below w.heap.size w w3 ∧ r < t := by
  obtain ⟨zs, z1, z2, z3, _, z5, z6, z7⟩ := h
  have e1 : seg ds 0 (n - 0) = ds := by unfold seg; rw [List.drop_zero, List.take_of_length_le (by omega)]
  have e2 : seg zs 0 (n - 0) = zs := by unfold seg; rw [List.drop_zero, List.take_of_length_le (by omega)]
  rw [e1, e2] at z5
  refine ⟨zs, z1, z3, by omega, ?_, ?_, (hb.mono hR).trans (z7.below (Nat.le_trans (Nat.le_refl _) hb.size) (fun k hk => by omega)), z6⟩
  · rw [z5, Nat.mul_comm, Nat.mul_add_div (by omega), Nat.div_eq_of_lt z6, Nat.add_zero]
  · rw [z5, Nat.mul_comm, Nat.mul_add_mod, Nat.mod_eq_of_lt z6]
set_option maxHeartbeats 1000000 in
theorem divMod_any (A B : Option Addr) (n c m d : Nat) (xs ys : List Nat) (w : World) (ha : Rd w A n c xs) (hb : Rd w B m d ys) (hn : n ≤ 1099511627776) (_hm : m ≤ 1099511627776) :
    Calls Tryz.prog 164 #[.slice A n c, .slice B m d] w (Ret3 w (quoD (val xs) (val ys)) (remD (val xs) (val ys)) (divE (val ys))) := by
  have ta := hid (trim_any A n c xs w ha)
  have tb := hid (trim_any B m d ys w hb)
  have la := dg_len_small ha.2.2.2.1
  have lb := dg_len_small hb.2.2.2.1
  rw [ha.1] at la
  rw [hb.1] at lb
  have ra := ha.trim
  have rb := hb.trim
  obtain ⟨x, hx⟩ : ∃ x, x = val xs := ⟨_, rfl⟩
  obtain ⟨y, hy⟩ : ∃ y, y = val ys := ⟨_, rfl⟩
  rw [← hx] at ta la ra ⊢
  rw [← hy] at tb lb rb ⊢
  clear ha hb hx hy
  obtain ⟨p, hp⟩ : ∃ p, p = (dg x).length := ⟨_, rfl⟩
  obtain ⟨q, hq⟩ : ∃ q, q = (dg y).length := ⟨_, rfl⟩
  have cc := cmp_any A B _ _ _ _ _ _ w ra rb
  have cl := hid (clone_any A _ _ _ w ra (by omega))
  rw [val_dg, val_dg] at cc
  rw [← hp] at ta la ra cc cl
  rw [← hq] at tb lb rb cc
  have RA := hid ra
  have RB := hid rb
  rcases Nat.eq_zero_or_pos y with h0 | hy0
  · subst h0
    obtain rfl : q = 0 := by rw [hq]; rfl
    unfold quoD remD divE
    rw [if_pos rfl, if_pos rfl, if_pos rfl]
    clear hq ra rb cc cl
    go_enter Tryz.func164, Tryz.ntmps164
    go_wp2_with fail
    refine (ta.out).mono ?_
    rintro e w' ⟨rfl, rfl⟩
    go_wp2_with fail
    refine (tb.out).mono ?_
    rintro e w' ⟨rfl, rfl⟩
    go_wp2_with fail
    go_ret3
    exact ⟨_, _, rfl, Dig.nil _, Dig.nil _, Below.refl _ _⟩
  · have hq0 : 0 < q := by rw [hq]; exact dg_len_pos hy0
    have hQ : quoD x y = dg (x / y) := by unfold quoD; rw [if_neg (by omega)]
    have hR : remD x y = dg (x % y) := by unfold remD; rw [if_neg (by omega)]
    have hE : divE y = 0 := by unfold divE; rw [if_neg (by omega)]
    rw [hQ, hR, hE]
    clear hQ hR hE
    rcases Nat.lt_or_ge x y with hlt | hge
    · rw [cmpN_lt hlt] at cc
      have CC := hid cc
      have V := hid (show x / y = 0 ∧ x % y = x from ⟨Nat.div_eq_of_lt hlt, Nat.mod_eq_of_lt hlt⟩)
      have HP := hid hp
      clear ra rb cc hp hq
      go_enter Tryz.func164, Tryz.ntmps164
      go_wp2_with fail
      refine (ta.out).mono ?_
      rintro e w' ⟨rfl, rfl⟩
      go_wp2_with fail
      refine (tb.out).mono ?_
      rintro e w' ⟨rfl, rfl⟩
      go_wp2_with fail
      refine (CC.out).mono ?_
      rintro e w' ⟨rfl, rfl⟩
      go_wp2_with fail
      refine (cl.out).mono ?_
      rintro e w1 ⟨rfl, z1, z2⟩
      have Z := hid (show Row w1 w.heap.size (dg x) ∧ Below w.heap.size w w1 from ⟨z1, z2⟩)
      clear z1 z2
      go_wp2_with fail
      go_ret3
      obtain ⟨z1, z2⟩ := Z.out
      rw [V.out.1, V.out.2]
      have := z1.rd0 (digs_dg x) (Nat.le_refl _) (by have := HP.out; omega)
      rw [← HP.out] at this
      exact ⟨_, _, rfl, Dig.nil _, ⟨_, _, _, rfl, this⟩, z2⟩
    · have c0 := cmpN_ge hge
      obtain ⟨z, hz⟩ : ∃ z, z = cmpN x y := ⟨_, rfl⟩
      rw [← hz] at cc c0
      have CC := hid cc
      by_cases h1 : q = 1
      · subst h1
        obtain ⟨b, o, hB, hlt, hc⟩ := RB.out.2.2.2.2 (by omega)
        have hcell := hc 0 (by omega)
        obtain ⟨v, hv⟩ : ∃ v, v = (dg y).getD 0 0 := ⟨_, rfl⟩
        obtain rfl : y = v := dig_single hq.symm hv
        rw [← hv] at hcell
        have hyb : y < 4294967296 := by rw [hv]; exact (digs_dg y).get 0
        have dd := hid (fun (w1 : World) (h : Row w1 w.heap.size (dg x)) => divDigit_any w.heap.size p p y (dg x) w1 h (digs_dg x) (by omega) (Nat.le_refl _) (by omega) hy0 hyb)
        have HP := hid hp
        have ff := hid (fun (r : Nat) (w1 : World) (h : r < y) => from_any r w1 (by omega))
        subst hB
        clear ra rb cc hz hc hv hp hq
        go_enter Tryz.func164, Tryz.ntmps164
        go_wp2_with fail
        refine (ta.out).mono ?_
        rintro e w' ⟨rfl, rfl⟩
        go_wp2_with fail
        refine (tb.out).mono ?_
        rintro e w' ⟨rfl, rfl⟩
        go_wp2_with fail
        refine (CC.out).mono ?_
        rintro e w' ⟨rfl, rfl⟩
        go_wp2_with fail
        refine (cl.out).mono ?_
        rintro e w1 ⟨rfl, z1, z2⟩
        have hcell1 : w1.cell? ⟨b, o, none⟩ = some (.int .u32 y) := by rw [z2.cell (p := ⟨b, o, none⟩) hlt]; exact hcell
        have Z1 := hid z1
        have Z2 := hid z2
        clear z1 z2 hcell
        go_wp2_with fail
        refine (dd.out w1 Z1.out).mono ?_
        rintro e w2 ⟨r, rfl, hr⟩
        have HR := hid (short_end (n := p) hr (Nat.le_of_eq HP.out) (Nat.le_of_eq HP.out.symm) Z2.out)
        clear hr
        go_wp2_with fail
        obtain ⟨zs, v1, v2, v3, v4, v5, v6, v7⟩ := HR.out
        rw [val_dg] at v4 v5
        have T1 := hid (trim_row v1 v2 v3 (by omega))
        rw [v4] at T1
        refine (T1.out).mono ?_
        rintro e w' ⟨rfl, rfl⟩
        have F := hid (ff.out r w2 v7)
        have D1 := hid (show Dig w2 (.slice (some ⟨w.heap.size, 0, none⟩) (dg (x / y)).length (dg (x / y)).length) (dg (x / y)) from ⟨_, _, _, rfl, by rw [← v4]; exact (v1.rd0 v2 (Nat.le_refl _) (by omega)).trim⟩)
        have B1 := hid v6
        have E1 := hid v5
        clear v1 v2 v3 v4 v5 v6 v7
        go_wp2_with fail
        refine (F.out).mono ?_
        rintro e w3 ⟨u, rfl, u1, u2⟩
        have U1 := hid u1
        have U2 := hid u2
        clear u1 u2
        go_wp2_with fail
        go_ret3
        exact ⟨_, _, rfl, D1.out.keep U2.out, by rw [← E1.out]; exact U1.out, B1.out.trans (U2.out.mono B1.out.size)⟩
      · have hpq : q ≤ p := by rw [hp, hq]; exact dg_len_mono hge
        have dl := divLong_any A B p p q q (dg x) (dg y) w RA.out RB.out (by omega) hq0 hpq (by rw [val_dg]; exact full_ge hq.symm hq0)
        rw [val_dg, val_dg] at dl
        have DL := hid dl
        have hq1 : ((q : Int) == 1) = false := by rw [beq_eq_false_iff_ne]; omega
        have hq2 : 1 < q := by omega
        clear ra rb cc hz dl hp hq h1
        go_enter Tryz.func164, Tryz.ntmps164
        go_wp2_with fail
        refine (ta.out).mono ?_
        rintro e w' ⟨rfl, rfl⟩
        go_wp2_with fail
        refine (tb.out).mono ?_
        rintro e w' ⟨rfl, rfl⟩
        go_wp2_with fail
        refine (CC.out).mono ?_
        rintro e w' ⟨rfl, rfl⟩
        go_wp2_with fail
        refine (DL.out).mono ?_
        rintro e w1 ⟨v, u, rfl, h1, h2, h3⟩
        have H1 := hid h1
        have H2 := hid h2
        have H3 := hid h3
        clear h1 h2 h3
        go_wp2_with fail
        go_ret3
        exact ⟨_, _, rfl, H1.out, H2.out, H3.out⟩
end Go.Proofs.YtdbccidlnhjfhaaGreatDoor
