/- Contracts: the loop that combines two lists of digits, and what Add, Sub and Mul make of it. -/
import Derived.Test.YtobnbeeaiidpcaaNat1
import Derived.Laws.BitsAllLaws
namespace Go.Proofs.Ytobnbeeaiidpcaa
open Go.RowKit

/-- What the two closures share: from the state s and the digits x, y to the next state and the digit. -/
structure Step where
  nx : Nat → Nat → Nat → Nat
  dg : Nat → Nat → Nat → Nat
def Step.st (T : Step) (s : Nat) (xs ys : List Nat) : Nat → Nat
  | 0 => s
  | k + 1 => T.nx (T.st s xs ys k) (xs.getD k 0) (ys.getD k 0)
def Step.out (T : Step) (s : Nat) (xs ys : List Nat) (k : Nat) : Nat := T.dg (T.st s xs ys k) (xs.getD k 0) (ys.getD k 0)
def Clos (T : Step) (f g h t : Nat) : Prop := ∀ (s x y : Nat) (W : World), s < 4294967296 → x < 4294967296 → y < 4294967296 → One W g s → One W h t →
  Calls Try.prog f #[.int .u64 x, .int .u64 y, .pointer (some ⟨g, 0, none⟩), .pointer (some ⟨h, 0, none⟩)] W fun e W' => e = .returned (.int .u32 (T.dg s x y : Nat)) ∧ One W' g (T.nx s x y) ∧ Upd (fun k => k = g) W W' ∧ W'.heap.size = W.heap.size

def addStep (t : Nat) : Step := { nx := fun s x y => (s + (x + y * t)) / 4294967296, dg := fun s x y => (s + (x + y * t)) % 4294967296 }
def subStep (t : Nat) : Step := { nx := fun s x y => (s + y * t) / 4294967296 + (if x < (s + y * t) % 4294967296 then 1 else 0), dg := fun s x y => (x + 4294967296 - (s + y * t) % 4294967296) % 4294967296 }

theorem prod_le {y t : Nat} (hy : y < 4294967296) (ht : t < 4294967296) : y * t ≤ 18446744065119617025 := by
  have := Nat.mul_le_mul (show y ≤ 4294967295 by omega) (show t ≤ 4294967295 by omega)
  omega

set_option maxHeartbeats 400000 in
theorem add_clos (t g h : Nat) (ht : t < 4294967296) : Clos (addStep t) 136 g h t := by
  intro s x y w hs hx hy hg hh
  have hp := prod_le hy ht
  have cg := hg.cell
  have ch := hh.cell
  have fg := Blk.free hg 0
  have HG := hid hg
  have hp1 : (y : Int) * t ≤ 18446744065119617025 := by rw [← Int.natCast_mul]; omega
  have hp0 : 0 ≤ (y : Int) * t := by rw [← Int.natCast_mul]; omega
  have hgs := Blk.lt hg
  clear hg hh hp
  go_enter Try.func136, Try.ntmps136
  go_wp2_with fail
  go_ret
  have e1 : ((s : Int) + ((x : Int) + (y : Int) * (t : Int))) = ((s + (x + y * t) : Nat) : Int) := by simp
  refine ⟨?_, ?_, ?_, by simp⟩
  · show Ending.returned (.int .u32 _) = _
    rw [e1]; rfl
  · rw [e1]
    exact (HG.out.set_ _).set_ _
  · exact ((Upd.refl (fun k => k = g) w).setCell g 0 (fun _ => rfl) _).setCell g 0 (fun _ => rfl) _

theorem u64_low (q : Nat) (h : q < 18446744073709551616) : bits .and .u64 (q : Int) 4294967295 = ((q % 4294967296 : Nat) : Int) := by
  have e : (4294967295 : Int) = ((4294967295 : Nat) : Int) := rfl
  rw [e, u64_and_nat q 4294967295 h (by omega)]
  rw [show (4294967295 : Nat) = 2 ^ 32 - 1 from rfl, Nat.and_two_pow_sub_one_eq_mod]
theorem u64_neg (x m : Nat) (hx : x < 4294967296) (hm : m < 4294967296) (h : x < m) : ∃ z : Nat, IntKind.u64.wrap ((x : Int) - m) = (z : Int) ∧ (z : Int) / 9223372036854775808 = 1 ∧ z % 4294967296 = (x + 4294967296 - m) % 4294967296 := by
  refine ⟨x + 18446744073709551616 - m, ?_, by omega, by omega⟩
  simp only [IntKind.wrap, IntKind.bits, IntKind.signed]
  simp
  omega
theorem sub_bound {s x y t : Nat} (hs : s < 4294967296) (hy : y * t ≤ 18446744065119617025) (hx : x < (s + y * t) % 4294967296) : (s + y * t) / 4294967296 + 1 < 4294967296 := by omega

set_option maxHeartbeats 400000 in
theorem sub_clos (t g h : Nat) (ht : t < 4294967296) : Clos (subStep t) 138 g h t := by
  intro s x y w hs hx hy hg hh
  have hp := prod_le hy ht
  have cg := hg.cell
  have ch := hh.cell
  have fg := Blk.free hg 0
  have HG := hid hg
  have hp1 : (y : Int) * t ≤ 18446744065119617025 := by rw [← Int.natCast_mul]; omega
  have hp0 : 0 ≤ (y : Int) * t := by rw [← Int.natCast_mul]; omega
  have hgs := Blk.lt hg
  have e1 : ((s : Int) + (y : Int) * (t : Int)) = ((s + y * t : Nat) : Int) := by simp
  have ha : bits .and .u64 ((s : Int) + (y : Int) * (t : Int)) 4294967295 = (((s + y * t) % 4294967296 : Nat) : Int) := by rw [e1]; exact u64_low _ (by omega)
  have E1 := hid e1
  have hm2 : (s + y * t) % 4294967296 < 4294967296 := by omega
  obtain ⟨m, hm⟩ : ∃ m, m = (s + y * t) % 4294967296 := ⟨_, rfl⟩
  have hb := fun hx2 : x < (s + y * t) % 4294967296 => sub_bound hs hp hx2
  rw [← hm] at ha hm2 hb
  have HM := hid hm
  clear hm e1 hg hh
  rcases Nat.lt_or_ge x m with hc | hc
  · obtain ⟨z, hz, hz1, hz2⟩ := u64_neg x m hx hm2 hc
    have hb2 := hb hc
    have HZ2 := hid hz2
    clear hz2 hb hp
    go_enter Try.func138, Try.ntmps138
    go_wp2_with fail
    go_ret
    have hm := HM.out
    refine ⟨?_, ?_, ?_, by simp⟩
    · show Ending.returned (.int .u32 ((z : Int) % 4294967296)) = _
      have : ((z : Int) % 4294967296) = ((subStep t).dg s x y : Nat) := by
        have h2 := HZ2.out
        rw [hm] at h2
        show _ = ((((x + 4294967296 - (s + y * t) % 4294967296) % 4294967296 : Nat)) : Int)
        omega
      rw [this]
    · have : ((s : Int) + (y : Int) * (t : Int)) / 4294967296 + 1 = ((subStep t).nx s x y : Nat) := by
        show _ = (((s + y * t) / 4294967296 + (if x < (s + y * t) % 4294967296 then 1 else 0) : Nat) : Int)
        rw [← hm, if_pos hc, E1.out]
        omega
      rw [this]
      exact HG.out.set_ _
    · exact (Upd.refl (fun k => k = g) w).setCell g 0 (fun _ => rfl) _
  · clear hb hp
    have e0 : ((x : Int) - (m : Int)) / 9223372036854775808 = 0 := by omega
    go_enter Try.func138, Try.ntmps138
    go_wp2_with fail
    go_ret
    have hm := HM.out
    refine ⟨?_, ?_, ?_, by simp⟩
    · show Ending.returned (.int .u32 ((x : Int) - (m : Int))) = _
      have : ((x : Int) - (m : Int)) = ((subStep t).dg s x y : Nat) := by
        show _ = ((((x + 4294967296 - (s + y * t) % 4294967296) % 4294967296 : Nat)) : Int)
        omega
      rw [this]
    · have : ((s : Int) + (y : Int) * (t : Int)) / 4294967296 = ((subStep t).nx s x y : Nat) := by
        show _ = (((s + y * t) / 4294967296 + (if x < (s + y * t) % 4294967296 then 1 else 0) : Nat) : Int)
        rw [← hm, if_neg (by omega), E1.out]
        omega
      rw [this]
      exact HG.out.set_ _
    · exact (Upd.refl (fun k => k = g) w).setCell g 0 (fun _ => rfl) _

theorem add_inv (t : Nat) (ht : t < 4294967296) (s x y : Nat) (hs : s < 4294967296) (hx : x < 4294967296) (hy : y < 4294967296) : (addStep t).nx s x y < 4294967296 ∧ (addStep t).dg s x y < 4294967296 := by
  have hp := prod_le hy ht
  exact ⟨by show (s + (x + y * t)) / 4294967296 < _; omega, Nat.mod_lt _ (by omega)⟩
theorem sub_inv (t : Nat) (ht : t < 4294967296) (s x y : Nat) (hs : s < 4294967296) (_ : x < 4294967296) (hy : y < 4294967296) : (subStep t).nx s x y < 4294967296 ∧ (subStep t).dg s x y < 4294967296 := by
  have hp := prod_le hy ht
  refine ⟨?_, Nat.mod_lt _ (by omega)⟩
  show (s + y * t) / 4294967296 + (if x < (s + y * t) % 4294967296 then 1 else 0) < _
  split
  · exact sub_bound hs hp ‹_›
  · omega

/-- A step that keeps its state and its digits small. -/
def Ok (T : Step) : Prop := ∀ s x y, s < 4294967296 → x < 4294967296 → y < 4294967296 → T.nx s x y < 4294967296 ∧ T.dg s x y < 4294967296
theorem Ok.st {T : Step} (h : Ok T) {s : Nat} {xs ys : List Nat} (hs : s < 4294967296) (hx : Digs xs) (hy : Digs ys) (k : Nat) : T.st s xs ys k < 4294967296 := by
  induction k with
  | zero => exact hs
  | succ k ih => exact (h _ _ _ ih (hx.get k) (hy.get k)).1
theorem Ok.out {T : Step} (h : Ok T) {s : Nat} {xs ys : List Nat} (hs : s < 4294967296) (hx : Digs xs) (hy : Digs ys) (k : Nat) : T.out s xs ys k < 4294967296 :=
  (h _ _ _ (h.st hs hx hy k) (hx.get k) (hy.get k)).2

/-- A source is apart from what is written, or begins where that begins. -/
def Src (A : Option Addr) (n ob oo : Nat) : Prop := 0 < n → ∀ b o, A = some ⟨b, o, none⟩ → b ≠ ob ∨ o = oo
/-- The row behind k rounds. -/
def Part (T : Step) (s : Nat) (xs ys ds : List Nat) (oo k : Nat) (zs : List Nat) : Prop := zs.length = ds.length ∧ ∀ j, zs.getD j 0 = if oo ≤ j ∧ j < oo + k then T.out s xs ys (j - oo) else ds.getD j 0
theorem Part.zero (T : Step) (s : Nat) (xs ys ds : List Nat) (oo : Nat) : Part T s xs ys ds oo 0 ds := ⟨rfl, fun j => by rw [if_neg (by omega)]⟩
theorem getD_set (zs : List Nat) (i j u : Nat) (h : i < zs.length) : (zs.set i u).getD j 0 = if j = i then u else zs.getD j 0 := by
  rw [List.getD_eq_getElem?_getD, List.getD_eq_getElem?_getD, List.getElem?_set]
  by_cases hij : i = j
  · subst hij; simp [h]
  · rw [if_neg hij, if_neg (fun e => hij e.symm)]
theorem Part.next {T : Step} {s : Nat} {xs ys ds : List Nat} {oo k : Nat} {zs : List Nat} (h : Part T s xs ys ds oo k zs) (hk : oo + k < ds.length) : Part T s xs ys ds oo (k + 1) (zs.set (oo + k) (T.out s xs ys k)) := by
  refine ⟨by simp [h.1], fun j => ?_⟩
  rw [getD_set _ _ _ _ (by rw [h.1]; exact hk), h.2 j]
  by_cases hj : j = oo + k
  · rw [if_pos hj, if_pos (by omega), hj]; congr 1; omega
  · rw [if_neg hj]
    by_cases h1 : oo ≤ j ∧ j < oo + k
    · rw [if_pos h1, if_pos (by omega)]
    · rw [if_neg h1, if_neg (by omega)]
theorem rd_cell_row {w : World} {A : Option Addr} {n c b o k : Nat} {xs ds : List Nat} (h : Rd w A n c xs) (hA : A = some ⟨b, o, none⟩) (hk : k < n) (hr : Row w b ds) : o + k < ds.length ∧ ds.getD (o + k) 0 = xs.getD k 0 := by
  obtain ⟨b', o', hA', _, hc⟩ := h.2.2.2.2 (by omega)
  rw [hA] at hA'
  injection hA' with e
  injection e with e1 e2 _
  subst e1; subst e2
  have h1 := hc k hk
  rw [Blk.cell hr (o + k)] at h1
  rcases Nat.lt_or_ge (o + k) ds.length with hl | hl
  · refine ⟨hl, ?_⟩
    rw [List.getElem?_map, List.getElem?_eq_getElem hl] at h1
    injection h1 with h1
    unfold dv at h1
    injection h1 with _ h1
    have h2 : ds[o + k] = xs.getD k 0 := by exact_mod_cast h1
    rw [← h2]
    simp [List.getD, List.getElem?_eq_getElem hl]
  · rw [List.getElem?_eq_none (by simp; omega)] at h1
    cases h1
theorem rd_ne_one {w : World} {A : Option Addr} {n c b o g s : Nat} {xs : List Nat} (h : Rd w A n c xs) (hA : A = some ⟨b, o, none⟩) (hn : 0 < n) (hg : One w g s) : b ≠ g := by
  rintro rfl
  obtain ⟨b', o', hA', _, hc⟩ := h.2.2.2.2 hn
  rw [hA] at hA'
  injection hA' with e
  injection e with e1 e2 _
  subst e1; subst e2
  have h1 := hc 0 hn
  rw [Blk.cell hg (o + 0)] at h1
  rcases Nat.eq_zero_or_pos o with rfl | ho
  · simp at h1
  · rw [List.getElem?_eq_none (by simp; omega)] at h1
    cases h1
/-- A digit of a source in the world behind k rounds. -/
theorem src_cell {w wr : World} {T : Step} {s ob oo g k n c : Nat} {A : Option Addr} {zs us vs xs ds : List Nat} (h : Rd w A n c xs) (hs : Src A n ob oo) (hr : Row w ob ds) (hg : One w g s) (hz : Row wr ob zs) (hp : Part T s us vs ds oo k zs) (hu : Upd (fun i => i = ob ∨ i = g) w wr) (hk : k < n) :
    ∃ b o, A = some ⟨b, o, none⟩ ∧ wr.cell? ⟨b, o + k, none⟩ = some (.int .u32 (xs.getD k 0 : Nat)) := by
  obtain ⟨b, o, hA, hlt, hc⟩ := h.2.2.2.2 (by omega)
  refine ⟨b, o, hA, ?_⟩
  by_cases hb : b = ob
  · subst hb
    obtain rfl : o = oo := by
      rcases hs (by omega) b o hA with h1 | h1
      · exact absurd rfl h1
      · exact h1
    obtain ⟨h1, h2⟩ := rd_cell_row h hA hk hr
    rw [hz.cell (by rw [hp.1]; exact h1), hp.2, if_neg (by omega), h2]
  · rw [← hc k hk]
    refine World.cell?_of_block (hu.block b hlt ?_)
    have := rd_ne_one h hA (by omega) hg
    omega

end Go.Proofs.Ytobnbeeaiidpcaa
