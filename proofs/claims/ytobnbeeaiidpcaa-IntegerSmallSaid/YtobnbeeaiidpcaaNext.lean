/- Contracts: nextDigit of package natural. -/
import Derived.Test.YtobnbeeaiidpcaaDivD
import Derived.Deep.QuietTactic
import Derived.BigQuiet
namespace Go.Proofs.Ytobnbeeaiidpcaa
open Go.RowKit

/-- The part of the row at i, n + 1 digits, while g times V has been taken from U; neg: too much. -/
def NextRel (w : World) (rb i n : Nat) (ds : List Nat) (U V g : Nat) (neg : Bool) (wr : World) : Prop :=
  ∃ zs, Row wr rb zs ∧ zs.length = ds.length ∧ Digs zs ∧ (∀ j, j < i ∨ i + (n + 1) ≤ j → zs.getD j 0 = ds.getD j 0) ∧ val (seg zs i (n + 1)) + V * g = U + (if neg then 4294967296 ^ (n + 1) else 0) ∧ (neg = false → val (seg zs i (n + 1)) < V) ∧ g < 4294967296 ∧ Upd (fun k => k = rb) w wr

theorem Part.rest {T : Step} {s : Nat} {xs ys ds zs : List Nat} {oo n : Nat} (h : Part T s xs ys ds oo n zs) : ∀ j, j < oo ∨ oo + n ≤ j → zs.getD j 0 = ds.getD j 0 := fun j hj => by rw [h.2, if_neg (by omega)]
theorem seg_val_lt {zs : List Nat} (h : Digs zs) {o n : Nat} (hl : o + n ≤ zs.length) : val (seg zs o n) < 4294967296 ^ n := by
  have := val_lt (h.seg o n)
  rwa [seg_len hl] at this
theorem Src.same (b o n : Nat) : Src (some ⟨b, o, none⟩) n b o := fun _ b' o' hA => by
  injection hA with e
  injection e with _ e2 _
  right; exact e2.symm
theorem Src.row {b o n ob oo : Nat} (h : b ≠ ob) : Src (some ⟨b, o, none⟩) n ob oo := fun _ b' o' hA => by
  injection hA with e
  injection e with e1 _ _
  left; omega

theorem nx_sub {z p U P s : Nat} (h1 : z + p = U + P * s) (h2 : z < P) (h3 : p ≤ P) : (s = 0 ∧ z + p = U) ∨ (s = 1 ∧ z + p = U + P) := by
  rcases s with _ | s
  · left; exact ⟨rfl, by rw [Nat.mul_zero] at h1; omega⟩
  · right
    have hs0 : s = 0 := by
      rcases Nat.eq_zero_or_pos s with h | h
      · exact h
      · exfalso
        have := Nat.mul_le_mul_left P (show 2 ≤ s + 1 by omega)
        omega
    subst hs0
    exact ⟨rfl, by rw [Nat.zero_add, Nat.mul_one] at h1; exact h1⟩
theorem nx_f {z p U P : Nat} (h : z + p = U) : z + p = U + (if false = true then P else 0) := by rw [if_neg (by decide)]; exact h
theorem nx_t {z p U P : Nat} (h : z + p = U + P) : z + p = U + (if true = true then P else 0) := by rw [if_pos rfl]; exact h
theorem nx_lt {z V g U : Nat} (h : z + V * g = U) (hq : U < V * (g + 1)) : z < V := by rw [Nat.mul_add, Nat.mul_one] at hq; omega

/-- The first guess is taken away. -/
theorem next_sub {w : World} {rb i n oc db g : Nat} {ds vs : List Nat} (hr : Row w rb ds) (hd : Digs ds) (hv : Row w db vs) (hvd : Digs vs) (hvl : vs.length = n) (hne : db ≠ rb) (hi : i + (n + 1) ≤ ds.length) (hoc : n + 1 ≤ oc) (hom : oc ≤ 9223372036854775807)
    (hg : g < 4294967296) (hgq : val (seg ds i (n + 1)) < val vs * (g + 1)) :
    Calls Try.prog 127 #[.slice (some ⟨rb, i, none⟩) (n + 1) oc, .slice (some ⟨rb, i, none⟩) (n + 1) oc, .slice (some ⟨db, 0, none⟩) n n, .int .u64 g] w fun e w' =>
      (e = .returned (.int .u64 0) ∧ Hid (NextRel w rb i n ds (val (seg ds i (n + 1))) (val vs) g false w')) ∨ (e = .returned (.int .u64 1) ∧ Hid (NextRel w rb i n ds (val (seg ds i (n + 1))) (val vs) g true w')) := by
  have hrd : Rd w (some ⟨rb, i, none⟩) (n + 1) oc (seg ds i (n + 1)) := hr.rd hd hi hoc hom
  have hvr : Rd w (some ⟨db, 0, none⟩) n n vs := by
    have := hv.rd0 hvd (Nat.le_refl _) (by omega)
    rwa [hvl] at this
  refine (subTimes_any g rb i (n + 1) oc (n + 1) oc n n _ _ _ vs ds w hg hr hi hoc hom hrd hvr (Src.same rb i _) (Src.row hne)).mono ?_
  rintro e w' ⟨rfl, zs, z1, z2, z3⟩
  have hz := z2.digs (sub_inv g hg) (by omega) (hd.seg i (n + 1)) hvd hd
  have h1 := sub_sum g 0 _ vs ds i (n + 1) zs z2 (hd.seg i (n + 1)) (n + 1) (Nat.le_refl _)
  rw [show (seg ds i (n + 1)).take (n + 1) = seg ds i (n + 1) from List.take_of_length_le (by rw [seg_len hi]; omega), show vs.take (n + 1) = vs from List.take_of_length_le (by omega), Nat.add_zero] at h1
  have h2 := seg_val_lt hz (o := i) (n := n + 1) (by rw [z2.1]; exact hi)
  have hV := val_lt hvd
  rw [hvl] at hV
  have h3 : val vs * g ≤ 4294967296 ^ (n + 1) := by
    rw [Nat.pow_succ]
    exact Nat.mul_le_mul (by omega) (by omega)
  generalize (subStep g).st 0 (seg ds i (n + 1)) vs (n + 1) = s at h1 ⊢
  rcases nx_sub h1 h2 h3 with ⟨rfl, h4⟩ | ⟨rfl, h4⟩
  · left
    exact ⟨rfl, hid ⟨zs, z1, z2.1, hz, z2.rest, nx_f h4, fun _ => nx_lt h4 hgq, hg, z3⟩⟩
  · right
    exact ⟨rfl, hid ⟨zs, z1, z2.1, hz, z2.rest, nx_t h4, (fun h => by cases h), hg, z3⟩⟩

/-- The divisor is added back. -/
theorem next_add {w wr : World} {rb i n oc db g U : Nat} {ds vs : List Nat} (h : NextRel w rb i n ds U (val vs) (g + 1) true wr) (hv : Row w db vs) (hvd : Digs vs) (hvl : vs.length = n) (hne : db ≠ rb) (hi : i + (n + 1) ≤ ds.length) (hoc : n + 1 ≤ oc) (hom : oc ≤ 9223372036854775807) :
    Calls Try.prog 122 #[.slice (some ⟨rb, i, none⟩) (n + 1) oc, .slice (some ⟨rb, i, none⟩) (n + 1) oc, .slice (some ⟨db, 0, none⟩) n n, .int .u64 1, .int .u64 0] wr fun e w' =>
      (e = .returned (.int .u64 0) ∧ Hid (NextRel w rb i n ds U (val vs) g true w')) ∨ (e = .returned (.int .u64 1) ∧ Hid (NextRel w rb i n ds U (val vs) g false w')) := by
  obtain ⟨zs, z1, z2, z3, z4, z5, _, z6, z7⟩ := h
  have hrd : Rd wr (some ⟨rb, i, none⟩) (n + 1) oc (seg zs i (n + 1)) := z1.rd z3 (by omega) hoc hom
  have hv1 : Row wr db vs := Blk.upd hv z7 hne
  have hvr : Rd wr (some ⟨db, 0, none⟩) n n vs := by
    have := hv1.rd0 hvd (Nat.le_refl _) (by omega)
    rwa [hvl] at this
  refine (addTimes_any 1 0 rb i (n + 1) oc (n + 1) oc n n _ _ _ vs zs wr (by omega) (by omega) z1 (by omega) hoc hom hrd hvr (Src.same rb i _) (Src.row hne)).mono ?_
  rintro e w' ⟨rfl, us, u1, u2, u3⟩
  have hz := u2.digs (add_inv 1 (by omega)) (by omega) (z3.seg i (n + 1)) hvd z3
  have h1 := add_sum 1 0 _ vs zs i (n + 1) us u2 (n + 1) (Nat.le_refl _)
  rw [show (seg zs i (n + 1)).take (n + 1) = seg zs i (n + 1) from List.take_of_length_le (by rw [seg_len (by omega)]; omega), show vs.take (n + 1) = vs from List.take_of_length_le (by omega), Nat.add_zero, Nat.mul_one] at h1
  have h2 := seg_val_lt hz (o := i) (n := n + 1) (by rw [u2.1]; omega)
  have h2z := seg_val_lt z3 (o := i) (n := n + 1) (by omega)
  have hV := val_lt hvd
  rw [hvl] at hV
  have h3 : 4294967296 ^ n ≤ 4294967296 ^ (n + 1) := Nat.pow_le_pow_right (by omega) (by omega)
  have hrest : ∀ j, j < i ∨ i + (n + 1) ≤ j → us.getD j 0 = ds.getD j 0 := fun j hj => by rw [u2.rest j hj, z4 j hj]
  rw [Nat.mul_add, Nat.mul_one, if_pos rfl] at z5
  generalize hs : (addStep 1).st 0 (seg zs i (n + 1)) vs (n + 1) = s at h1 ⊢
  rcases s with _ | s
  · left
    refine ⟨rfl, hid ⟨us, u1, by rw [u2.1, z2], hz, hrest, ?_, fun h => (by cases h), by omega, z7.trans u3⟩⟩
    rw [if_pos rfl]
    rw [Nat.mul_zero] at h1
    omega
  · have hs0 : s = 0 := by
      rcases Nat.eq_zero_or_pos s with h | h
      · exact h
      · exfalso
        have := Nat.mul_le_mul_left (4294967296 ^ (n + 1)) (show 2 ≤ s + 1 by omega)
        omega
    subst hs0
    right
    rw [Nat.zero_add, Nat.mul_one] at h1
    exact ⟨rfl, hid ⟨us, u1, by rw [u2.1, z2], hz, hrest, by simp; omega, fun _ => by omega, by omega, z7.trans u3⟩⟩

theorem NextRel.done {w wr : World} {rb i n U V g : Nat} {ds : List Nat} (h : NextRel w rb i n ds U V g false wr) : g = U / V ∧ ∃ zs, Row wr rb zs ∧ zs.length = ds.length ∧ Digs zs ∧ (∀ j, j < i ∨ i + (n + 1) ≤ j → zs.getD j 0 = ds.getD j 0) ∧ val (seg zs i (n + 1)) = U % V ∧ Upd (fun k => k = rb) w wr := by
  obtain ⟨zs, z1, z2, z3, z4, z5, z6, _, z7⟩ := h
  have h1 := z6 rfl
  simp only [Bool.false_eq_true, if_false, Nat.add_zero] at z5
  have h2 : U / V = g := by
    rw [← z5, Nat.add_mul_div_left _ _ (by omega), Nat.div_eq_of_lt h1, Nat.zero_add]
  have h3 : U % V = val (seg zs i (n + 1)) := by
    rw [← z5, Nat.add_mul_mod_self_left, Nat.mod_eq_of_lt h1]
  exact ⟨h2.symm, zs, z1, z2, z3, z4, h3.symm, z7⟩

/-- The guess from the first digits is never too small. -/
theorem guess_ge {us vs : List Nat} {n : Nat} (hu : Digs us) (hul : us.length = n + 2) (hvl : vs.length = n + 1) (hv1 : 0 < vs.getD n 0) :
    val us < val vs * ((us.getD n 0 + 4294967296 * us.getD (n + 1) 0) / vs.getD n 0 + 1) := by
  have e1 := val_take_succ us (n + 1)
  have e2 := val_take_succ us n
  rw [List.take_of_length_le (by omega)] at e1
  have l1 := val_lt (hu.take n)
  rw [List.length_take, Nat.min_eq_left (by omega)] at l1
  have e3 := val_take_succ vs n
  rw [List.take_of_length_le (by omega)] at e3
  generalize hp : us.getD n 0 + 4294967296 * us.getD (n + 1) 0 = p
  generalize hq : vs.getD n 0 = q at *
  have h1 : p < q * (p / q + 1) := by
    have := Nat.div_add_mod p q
    have := Nat.mod_lt p hv1
    rw [Nat.mul_add]
    omega
  have h2 := Nat.mul_le_mul_left (4294967296 ^ n) (show p + 1 ≤ q * (p / q + 1) from h1)
  rw [← Nat.mul_assoc] at h2
  have h3 : 4294967296 ^ n * q * (p / q + 1) ≤ val vs * (p / q + 1) := Nat.mul_le_mul_right _ (by omega)
  have h4 : val us = val (us.take n) + 4294967296 ^ n * p := by
    rw [e1, e2, ← hp, Nat.pow_succ, Nat.mul_add, Nat.mul_assoc]
    omega
  rw [Nat.mul_add, Nat.mul_one] at h2
  omega

/-- What nextDigit does: the digit, and the part of the row becomes the remainder. -/
def NextPost (w : World) (rb i n : Nat) (ds vs : List Nat) (e : Ending) (w' : World) : Prop :=
  e = .returned (.int .u32 (val (seg ds i (n + 1)) / val vs : Nat)) ∧ ∃ zs, Row w' rb zs ∧ zs.length = ds.length ∧ Digs zs ∧ (∀ j, j < i ∨ i + (n + 1) ≤ j → zs.getD j 0 = ds.getD j 0) ∧ val (seg zs i (n + 1)) = val (seg ds i (n + 1)) % val vs ∧ Upd (fun k => k = rb) w w'
theorem NextRel.pos {w wr : World} {rb i n U V g : Nat} {ds : List Nat} (h : NextRel w rb i n ds U V g true wr) (hi : i + (n + 1) ≤ ds.length) : 0 < g := by
  obtain ⟨zs, _, z2, z3, _, z5, _, _, _⟩ := h
  have := seg_val_lt z3 (o := i) (n := n + 1) (by omega)
  rw [if_pos rfl] at z5
  rcases Nat.eq_zero_or_pos g with h0 | h0
  · rw [h0, Nat.mul_zero] at z5
    exfalso
    generalize 4294967296 ^ (n + 1) = P at *
    omega
  · exact h0
theorem Upd.undraw {S : Nat → Prop} {w w' : World} {k : Nat} (h : Upd S (w.drewN k) w') : Upd S w w' := ⟨h.os, h.tape, h.output, h.size, h.block⟩
theorem NextRel.undraw {w wr : World} {rb i n U V g k : Nat} {neg : Bool} {ds : List Nat} (h : NextRel (w.drewN k) rb i n ds U V g neg wr) : NextRel w rb i n ds U V g neg wr := by
  obtain ⟨zs, z1, z2, z3, z4, z5, z6, z7, z8⟩ := h
  exact ⟨zs, z1, z2, z3, z4, z5, z6, z7, z8.undraw⟩

theorem next_sub0 {w : World} {rb i n oc db g : Nat} {ds vs : List Nat} (hr : Row w rb ds) (hd : Digs ds) (hv : Row w db vs) (hvd : Digs vs) (hvl : vs.length = n) (hne : db ≠ rb) (hi : i + (n + 1) ≤ ds.length) (hoc : n + 1 ≤ oc) (hom : oc ≤ 9223372036854775807) (k : Nat) (t : Int) (ht : t = (g : Int))
    (hg : g < 4294967296) (hgq : val (seg ds i (n + 1)) < val vs * (g + 1)) :
    Calls Try.prog 127 #[.slice (some ⟨rb, i, none⟩) (n + 1) oc, .slice (some ⟨rb, i, none⟩) (n + 1) oc, .slice (some ⟨db, 0, none⟩) n n, .int .u64 t] (w.drewN k) fun e w' =>
      (e = .returned (.int .u64 0) ∧ Hid (NextRel w rb i n ds (val (seg ds i (n + 1))) (val vs) g false w')) ∨ (e = .returned (.int .u64 1) ∧ Hid (NextRel w rb i n ds (val (seg ds i (n + 1))) (val vs) g true w')) := by
  subst ht
  exact (next_sub (w := w.drewN k) hr hd hv hvd hvl hne hi hoc hom hg hgq).mono fun _ _ h => h.imp (fun ⟨a, b⟩ => ⟨a, hid b.out.undraw⟩) (fun ⟨a, b⟩ => ⟨a, hid b.out.undraw⟩)

set_option maxRecDepth 100000 in
set_option maxHeartbeats 1000000 in
theorem next_any (rb i q oc db : Nat) (ds vs : List Nat) (w : World) (hr : Row w rb ds) (hd : Digs ds) (hv : Row w db vs) (hvd : Digs vs) (hvl : vs.length = q + 1) (hne : db ≠ rb) (hi : i + (q + 2) ≤ ds.length) (hoc : q + 2 ≤ oc) (hom : oc ≤ 9223372036854775807)
    (hv1 : 0 < vs.getD q 0) (hU : val (seg ds i (q + 2)) < val vs * 4294967296) :
    Calls Try.prog 142 #[.slice (some ⟨rb, i, none⟩) (q + 2) oc, .slice (some ⟨db, 0, none⟩) (q + 1) (q + 1)] w (NextPost w rb i (q + 1) ds vs) := by
  have c1 := hr.cell (i := i + (q + 1)) (by omega)
  have c0 := hr.cell (i := i + q) (by omega)
  have cv := hv.cell (i := q) (by omega)
  have g1 := hd.get (i + (q + 1))
  have g0 := hd.get (i + q)
  have gv := hvd.get q
  have gg := guess_ge (us := seg ds i (q + 2)) (hd.seg _ _) (seg_len (by omega)) hvl hv1
  rw [seg_getD (by omega), seg_getD (by omega)] at gg
  have st := hid (fun (k g : Nat) (t : Int) (ht : t = (g : Int)) (a : g < 4294967296) (b : val (seg ds i (q + 2)) < val vs * (g + 1)) => next_sub0 (w := w) (rb := rb) (i := i) (n := q + 1) (oc := oc) (db := db) (g := g) hr hd hv hvd hvl hne hi hoc hom k t ht a b)
  have ad := hid (fun (wr : World) (g : Nat) (h : NextRel w rb i (q + 1) ds (val (seg ds i (q + 2))) (val vs) (g + 1) true wr) => next_add h hv hvd hvl hne hi hoc hom)
  obtain ⟨x1, hx1⟩ : ∃ x, x = ds.getD (i + (q + 1)) 0 := ⟨_, rfl⟩
  obtain ⟨x0, hx0⟩ : ∃ x, x = ds.getD (i + q) 0 := ⟨_, rfl⟩
  obtain ⟨v, hvv⟩ : ∃ x, x = vs.getD q 0 := ⟨_, rfl⟩
  rw [← hx1] at c1 g1 gg
  rw [← hx0] at c0 g0 gg
  rw [← hvv] at cv gv gg hv1
  have hor := or_join x1 x0 g1 g0
  obtain ⟨p, hp⟩ : ∃ p, p = x0 + 4294967296 * x1 := ⟨_, rfl⟩
  rw [← hp] at hor gg
  have hpb : p < 18446744073709551616 := by omega
  obtain ⟨g, hg⟩ : ∃ g, g = p / v := ⟨_, rfl⟩
  have hgb0 : g < 18446744073709551616 := by rw [hg]; exact Nat.lt_of_le_of_lt (Nat.div_le_self _ _) hpb
  rw [← hg] at gg
  have hdiv : (p : Int) / (v : Int) = (g : Int) := by rw [hg]; exact (Int.natCast_ediv p v).symm
  have stA := hid (fun (h : g < 4294967296) k => st.out k g _ rfl h gg)
  have stB := hid (fun (h : 4294967295 ≤ g) k => st.out k 4294967295 4294967295 rfl (by omega) (by omega))
  clear hx1 hx0 hvv hp hg hr hd hv hvd hvl hU gg st
  go_enter Try.func142, Try.ntmps142
  go_wp2_with fail
  go_quiet (fail)
  go_wp2_with fail
  all_goals
    first | (with_reducible refine (stA.out ?h1 _).mono ?_) | (with_reducible refine (stB.out ?h1 _).mono ?_)
    case h1 => omega
    rintro e w1 (⟨rfl, hz⟩ | ⟨rfl, hz⟩)
    all_goals
      go_wp2_with fail
      go_loopw [7, 8] (fun gv nv wr => ∃ (g : Nat) (neg : Bool), g < 4294967296 ∧ gv = .int .u64 g ∧ nv = .bool neg ∧ Hid (NextRel w rb i (q + 1) ds (val (seg ds i (q + 2))) (val vs) g neg wr)) (fun gv _ _ => (intOf gv).toNat)
      case atStart => first | exact ⟨4294967295, _, by omega, rfl, rfl, hz⟩ | exact ⟨g, _, by omega, rfl, rfl, hz⟩
      case round =>
        clear hz
        obtain ⟨g', neg, hgb, rfl, rfl, hz⟩ := hrel
        rcases neg with _ | _
        · go_wp2_with fail
          go_ret
          obtain ⟨d1, d2⟩ := hz.out.done
          exact ⟨by rw [d1]; rfl, d2⟩
        · obtain ⟨h, rfl⟩ : ∃ h, g' = h + 1 := ⟨g' - 1, by have := hz.out.pos hi; omega⟩
          have AD := hid (ad.out _ h hz.out)
          go_wp2_with fail
          refine (AD.out).mono ?_
          rintro e w2 (⟨rfl, hy⟩ | ⟨rfl, hy⟩)
          all_goals
            go_wp2_with fail
            go_roundw
            case rel => exact ⟨h, _, by omega, by go_num, rfl, hy⟩
            case measure => simp [intOf]

end Go.Proofs.Ytobnbeeaiidpcaa
