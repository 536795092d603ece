/- NatS: Sum, Comb, Times, Add, Mul in one text. -/
import Derived.Test.YtdbccidlnhjfhaaGreatDoorNat1
import Derived.Laws.BitsAllLaws
import Derived.Deep.OwnRows
namespace Go.Proofs.YtdbccidlnhjfhaaGreatDoor
open Go.RowKit
set_option maxRecDepth 100000
structure Step where
  nx : Nat → Nat → Nat → Nat
  dg : Nat → Nat → Nat → Nat
def Step.st (T : Step) (s : Nat) (xs ys : List Nat) : Nat → Nat
  | 0 => s
  | k + 1 => T.nx (T.st s xs ys k) (xs.getD k 0) (ys.getD k 0)
def Step.out (T : Step) (s : Nat) (xs ys : List Nat) (k : Nat) : Nat := T.dg (T.st s xs ys k) (xs.getD k 0) (ys.getD k 0)
def Clos (T : Step) (f g h t : Nat) : Prop := ∀ (s x y : Nat) (W : World), s < 4294967296 → x < 4294967296 → y < 4294967296 → One W g s → One W h t →
  Calls Tryz.prog f #[.int .u64 x, .int .u64 y, .pointer (some ⟨g, 0, none⟩), .pointer (some ⟨h, 0, none⟩)] W fun e W' => e = .returned (.int .u32 (T.dg s x y : Nat)) ∧ One W' g (T.nx s x y) ∧ Upd (fun k => k = g) W W' ∧ W'.heap.size = W.heap.size
def addStep (t : Nat) : Step := { nx := fun s x y => (s + (x + y * t)) / 4294967296, dg := fun s x y => (s + (x + y * t)) % 4294967296 }
def subStep (t : Nat) : Step := { nx := fun s x y => (s + y * t) / 4294967296 + (if x < (s + y * t) % 4294967296 then 1 else 0), dg := fun s x y => (x + 4294967296 - (s + y * t) % 4294967296) % 4294967296 }
theorem prod_le {y t : Nat} (hy : y < 4294967296) (ht : t < 4294967296) : y * t ≤ 18446744065119617025 := by
  have := Nat.mul_le_mul (show y ≤ 4294967295 by omega) (show t ≤ 4294967295 by omega)
  omega
set_option maxHeartbeats 400000 in
theorem add_clos (t g h : Nat) (ht : t < 4294967296) : Clos (addStep t) 191 g h t := by
  intro s x y w hs hx hy hg hh
  have hp := prod_le hy ht
  have cg := hg.cell
  have ch := hh.cell
  have fg := Blk.free hg 0
  have HG := hid hg
  have hp1 : (y : Int) * t ≤ 18446744065119617025 := by rw [← Int.natCast_mul]; omega
  have hp0 : 0 ≤ (y : Int) * t := by rw [← Int.natCast_mul]; omega
  have hgs := Blk.lt hg
  clear hg hh hp
  go_enter Tryz.func191, Tryz.ntmps191
  go_wp2_with fail
  go_ret
  have e1 : ((s : Int) + ((x : Int) + (y : Int) * (t : Int))) = ((s + (x + y * t) : Nat) : Int) := by simp
  refine ⟨?_, ?_, ?_, by simp⟩
  · show Ending.returned (.int .u32 _) = _
    rw [e1]; rfl
  · rw [e1]
    exact (HG.out.set_ _).set_ _
  · exact ((Upd.refl (fun k => k = g) w).setCell g 0 (fun _ => rfl) _).setCell g 0 (fun _ => rfl) _
theorem u64_low (q : Nat) (h : q < 18446744073709551616) : bits .and .u64 (q : Int) 4294967295 = ((q % 4294967296 : Nat) : Int) := by
  have e : (4294967295 : Int) = ((4294967295 : Nat) : Int) := rfl
  rw [e, u64_and_nat q 4294967295 h (by omega)]
  rw [show (4294967295 : Nat) = 2 ^ 32 - 1 from rfl, Nat.and_two_pow_sub_one_eq_mod]
theorem u64_neg (x m : Nat) (hx : x < 4294967296) (hm : m < 4294967296) (h : x < m) : ∃ z : Nat, IntKind.u64.wrap ((x : Int) - m) = (z : Int) ∧ (z : Int) / 9223372036854775808 = 1 ∧ z % 4294967296 = (x + 4294967296 - m) % 4294967296 := by
  refine ⟨x + 18446744073709551616 - m, ?_, by omega, by omega⟩
  simp only [IntKind.wrap, IntKind.bits, IntKind.signed]
  simp
  omega
theorem sub_bound {s x y t : Nat} (hs : s < 4294967296) (hy : y * t ≤ 18446744065119617025) (hx : x < (s + y * t) % 4294967296) : (s + y * t) / 4294967296 + 1 < 4294967296 := by omega
set_option maxHeartbeats 400000 in
theorem sub_clos (t g h : Nat) (ht : t < 4294967296) : Clos (subStep t) 202 g h t := by
  intro s x y w hs hx hy hg hh
  have hp := prod_le hy ht
  have cg := hg.cell
  have ch := hh.cell
  have fg := Blk.free hg 0
  have HG := hid hg
  have hp1 : (y : Int) * t ≤ 18446744065119617025 := by rw [← Int.natCast_mul]; omega
  have hp0 : 0 ≤ (y : Int) * t := by rw [← Int.natCast_mul]; omega
  have hgs := Blk.lt hg
  have e1 : ((s : Int) + (y : Int) * (t : Int)) = ((s + y * t : Nat) : Int) := by simp
  have ha : bits .and .u64 ((s : Int) + (y : Int) * (t : Int)) 4294967295 = (((s + y * t) % 4294967296 : Nat) : Int) := by rw [e1]; exact u64_low _ (by omega)
  have E1 := hid e1
  have hm2 : (s + y * t) % 4294967296 < 4294967296 := by omega
  obtain ⟨m, hm⟩ : ∃ m, m = (s + y * t) % 4294967296 := ⟨_, rfl⟩
  have hb := fun hx2 : x < (s + y * t) % 4294967296 => sub_bound hs hp hx2
  rw [← hm] at ha hm2 hb
  have HM := hid hm
  clear hm e1 hg hh
  rcases Nat.lt_or_ge x m with hc | hc
  · obtain ⟨z, hz, hz1, hz2⟩ := u64_neg x m hx hm2 hc
    have hb2 := hb hc
    have HZ2 := hid hz2
    clear hz2 hb hp
    go_enter Tryz.func202, Tryz.ntmps202
    go_wp2_with fail
    go_ret
    have hm := HM.out
    refine ⟨?_, ?_, ?_, by simp⟩
    · show Ending.returned (.int .u32 ((z : Int) % 4294967296)) = _
      have : ((z : Int) % 4294967296) = ((subStep t).dg s x y : Nat) := by
        have h2 := HZ2.out
        rw [hm] at h2
        show _ = ((((x + 4294967296 - (s + y * t) % 4294967296) % 4294967296 : Nat)) : Int)
        omega
      rw [this]
    · have : ((s : Int) + (y : Int) * (t : Int)) / 4294967296 + 1 = ((subStep t).nx s x y : Nat) := by
        show _ = (((s + y * t) / 4294967296 + (if x < (s + y * t) % 4294967296 then 1 else 0) : Nat) : Int)
        rw [← hm, if_pos hc, E1.out]
        omega
      rw [this]
      exact HG.out.set_ _
    · exact (Upd.refl (fun k => k = g) w).setCell g 0 (fun _ => rfl) _
  · clear hb hp
    have e0 : ((x : Int) - (m : Int)) / 9223372036854775808 = 0 := by omega
    go_enter Tryz.func202, Tryz.ntmps202
    go_wp2_with fail
    go_ret
    have hm := HM.out
    refine ⟨?_, ?_, ?_, by simp⟩
    · show Ending.returned (.int .u32 ((x : Int) - (m : Int))) = _
      have : ((x : Int) - (m : Int)) = ((subStep t).dg s x y : Nat) := by
        show _ = ((((x + 4294967296 - (s + y * t) % 4294967296) % 4294967296 : Nat)) : Int)
        omega
      rw [this]
    · have : ((s : Int) + (y : Int) * (t : Int)) / 4294967296 = ((subStep t).nx s x y : Nat) := by
        show _ = (((s + y * t) / 4294967296 + (if x < (s + y * t) % 4294967296 then 1 else 0) : Nat) : Int)
        rw [← hm, if_neg (by omega), E1.out]
        omega
      rw [this]
      exact HG.out.set_ _
    · exact (Upd.refl (fun k => k = g) w).setCell g 0 (fun _ => rfl) _
theorem add_inv (t : Nat) (ht : t < 4294967296) (s x y : Nat) (hs : s < 4294967296) (hx : x < 4294967296) (hy : y < 4294967296) : (addStep t).nx s x y < 4294967296 ∧ (addStep t).dg s x y < 4294967296 := by
  have hp := prod_le hy ht
  exact ⟨by show (s + (x + y * t)) / 4294967296 < _; omega, Nat.mod_lt _ (by omega)⟩
theorem sub_inv (t : Nat) (ht : t < 4294967296) (s x y : Nat) (hs : s < 4294967296) (_ : x < 4294967296) (hy : y < 4294967296) : (subStep t).nx s x y < 4294967296 ∧ (subStep t).dg s x y < 4294967296 := by
  have hp := prod_le hy ht
  refine ⟨?_, Nat.mod_lt _ (by omega)⟩
  show (s + y * t) / 4294967296 + (if x < (s + y * t) % 4294967296 then 1 else 0) < _
  split
  · exact sub_bound hs hp ‹_›
  · omega
def Ok (T : Step) : Prop := ∀ s x y, s < 4294967296 → x < 4294967296 → y < 4294967296 → T.nx s x y < 4294967296 ∧ T.dg s x y < 4294967296
theorem Ok.st {T : Step} (h : Ok T) {s : Nat} {xs ys : List Nat} (hs : s < 4294967296) (hx : Digs xs) (hy : Digs ys) (k : Nat) : T.st s xs ys k < 4294967296 := by
  induction k with
  | zero => exact hs
  | succ k ih => exact (h _ _ _ ih (hx.get k) (hy.get k)).1
theorem Ok.out {T : Step} (h : Ok T) {s : Nat} {xs ys : List Nat} (hs : s < 4294967296) (hx : Digs xs) (hy : Digs ys) (k : Nat) : T.out s xs ys k < 4294967296 :=
  (h _ _ _ (h.st hs hx hy k) (hx.get k) (hy.get k)).2
def Src (A : Option Addr) (n ob oo : Nat) : Prop := 0 < n → ∀ b o, A = some ⟨b, o, none⟩ → b ≠ ob ∨ o = oo
def Part (T : Step) (s : Nat) (xs ys ds : List Nat) (oo k : Nat) (zs : List Nat) : Prop := zs.length = ds.length ∧ ∀ j, zs.getD j 0 = if oo ≤ j ∧ j < oo + k then T.out s xs ys (j - oo) else ds.getD j 0
theorem Part.zero (T : Step) (s : Nat) (xs ys ds : List Nat) (oo : Nat) : Part T s xs ys ds oo 0 ds := ⟨rfl, fun j => by rw [if_neg (by omega)]⟩
theorem getD_set (zs : List Nat) (i j u : Nat) (h : i < zs.length) : (zs.set i u).getD j 0 = if j = i then u else zs.getD j 0 := by
  rw [List.getD_eq_getElem?_getD, List.getD_eq_getElem?_getD, List.getElem?_set]
  by_cases hij : i = j
  · subst hij; simp [h]
  · rw [if_neg hij, if_neg (fun e => hij e.symm)]
theorem Part.next {T : Step} {s : Nat} {xs ys ds : List Nat} {oo k : Nat} {zs : List Nat} (h : Part T s xs ys ds oo k zs) (hk : oo + k < ds.length) : Part T s xs ys ds oo (k + 1) (zs.set (oo + k) (T.out s xs ys k)) := by
  refine ⟨by simp [h.1], fun j => ?_⟩
  rw [getD_set _ _ _ _ (by rw [h.1]; exact hk), h.2 j]
  by_cases hj : j = oo + k
  · rw [if_pos hj, if_pos (by omega), hj]; congr 1; omega
  · rw [if_neg hj]
    by_cases h1 : oo ≤ j ∧ j < oo + k
    · rw [if_pos h1, if_pos (by omega)]
    · rw [if_neg h1, if_neg (by omega)]
theorem rd_cell_row {w : World} {A : Option Addr} {n c b o k : Nat} {xs ds : List Nat} (h : Rd w A n c xs) (hA : A = some ⟨b, o, none⟩) (hk : k < n) (hr : Row w b ds) : o + k < ds.length ∧ ds.getD (o + k) 0 = xs.getD k 0 := by
  obtain ⟨b', o', hA', _, hc⟩ := h.2.2.2.2 (by omega)
  rw [hA] at hA'
  injection hA' with e
  injection e with e1 e2 _
  subst e1; subst e2
  have h1 := hc k hk
  rw [Blk.cell hr (o + k)] at h1
  rcases Nat.lt_or_ge (o + k) ds.length with hl | hl
  · refine ⟨hl, ?_⟩
    rw [List.getElem?_map, List.getElem?_eq_getElem hl] at h1
    injection h1 with h1
    unfold dv at h1
    injection h1 with _ h1
    have h2 : ds[o + k] = xs.getD k 0 := by exact_mod_cast h1
    rw [← h2]
    simp [List.getD, List.getElem?_eq_getElem hl]
  · rw [List.getElem?_eq_none (by simp; omega)] at h1
    cases h1
theorem rd_ne_one {w : World} {A : Option Addr} {n c b o g s : Nat} {xs : List Nat} (h : Rd w A n c xs) (hA : A = some ⟨b, o, none⟩) (hn : 0 < n) (hg : One w g s) : b ≠ g := by
  rintro rfl
  obtain ⟨b', o', hA', _, hc⟩ := h.2.2.2.2 hn
  rw [hA] at hA'
  injection hA' with e
  injection e with e1 e2 _
  subst e1; subst e2
  have h1 := hc 0 hn
  rw [Blk.cell hg (o + 0)] at h1
  rcases Nat.eq_zero_or_pos o with rfl | ho
  · simp at h1
  · rw [List.getElem?_eq_none (by simp; omega)] at h1
    cases h1
theorem src_cell {w wr : World} {T : Step} {s ob oo g k n c : Nat} {A : Option Addr} {zs us vs xs ds : List Nat} (h : Rd w A n c xs) (hs : Src A n ob oo) (hr : Row w ob ds) (hg : One w g s) (hz : Row wr ob zs) (hp : Part T s us vs ds oo k zs) (hu : Upd (fun i => i = ob ∨ i = g) w wr) (hk : k < n) :
    ∃ b o, A = some ⟨b, o, none⟩ ∧ wr.cell? ⟨b, o + k, none⟩ = some (.int .u32 (xs.getD k 0 : Nat)) := by
  obtain ⟨b, o, hA, hlt, hc⟩ := h.2.2.2.2 (by omega)
  refine ⟨b, o, hA, ?_⟩
  by_cases hb : b = ob
  · subst hb
    obtain rfl : o = oo := by
      rcases hs (by omega) b o hA with h1 | h1
      · exact absurd rfl h1
      · exact h1
    obtain ⟨h1, h2⟩ := rd_cell_row h hA hk hr
    rw [hz.cell (by rw [hp.1]; exact h1), hp.2, if_neg (by omega), h2]
  · rw [← hc k hk]
    refine World.cell?_of_block (hu.block b hlt ?_)
    have := rd_ne_one h hA (by omega) hg
    omega
def CombPost (T : Step) (w : World) (s g ob oo on_ : Nat) (xs ys ds : List Nat) (e : Ending) (w' : World) : Prop :=
  e = .returned (.tuple #[]) ∧ ∃ zs, Row w' ob zs ∧ Part T s xs ys ds oo on_ zs ∧ One w' g (T.st s xs ys on_) ∧ Upd (fun i => i = ob ∨ i = g) w w'
set_option maxHeartbeats 1000000 in
theorem combine_any (T : Step) (hT : Ok T) (F g h t s ob oo on_ oc n c m d : Nat) (A B : Option Addr) (xs ys ds : List Nat) (w : World) (hFF : F = 191 ∨ F = 202) (hF : Clos T F g h t) (hgh : g ≠ h) (hs : s < 4294967296)
    (hg : One w g s) (hh : One w h t) (hr : Row w ob ds) (ho : oo + on_ ≤ ds.length) (hoc : on_ ≤ oc) (hom : oc ≤ 9223372036854775807)
    (ha : Rd w A n c xs) (hb : Rd w B m d ys) (sa : Src A n ob oo) (sb : Src B m ob oo) :
    Calls Tryz.prog 190 #[.slice (some ⟨ob, oo, none⟩) on_ oc, .slice A n c, .slice B m d, .func (Fn.func F) #[] #[.pointer (some ⟨g, 0, none⟩), .pointer (some ⟨h, 0, none⟩)]] w (CombPost T w s g ob oo on_ xs ys ds) := by
  rcases hFF with rfl | rfl
  all_goals
    have HA := hid ha
    have HB := hid hb
    have HG := hid hg
    have HH := hid hh
    have HR := hid hr
    have HF := hid hF
    have SA := hid sa
    have SB := hid sb
    have HT := hid hT
    have GH := hid hgh
    clear ha hb hg hh hr hF sa sb hT hgh
    go_enter Tryz.func190, Tryz.ntmps190
    go_wp2_with fail
    go_loopw [11] (fun i wr => ∃ k : Nat, k ≤ on_ ∧ i = .int .i64 k ∧ Hid (∃ zs, Row wr ob zs ∧ Part T s xs ys ds oo k zs ∧ One wr g (T.st s xs ys k) ∧ Upd (fun i => i = ob ∨ i = g) w wr)) (fun i _ => on_ - (intOf i).toNat)
    case atStart => exact ⟨0, Nat.zero_le _, rfl, hid ⟨ds, HR.out, Part.zero _ _ _ _ _ _, HG.out, Upd.refl _ _⟩⟩
    case round =>
      obtain ⟨k, hk, rfl, hz⟩ := hrel
      rcases Nat.lt_or_ge k on_ with hlt | hge
      · obtain ⟨zs, z1, z2, z3, z4⟩ := hz.out
        have cx := hid (digit_cell A n c k (xs.getD k 0) wr HA.out.2.1 HA.out.2.2.1 (fun hi => src_cell HA.out SA.out HR.out HG.out z1 z2 z4 hi) (fun hi => by have := HA.out.1; simp [List.getD, List.getElem?_eq_none (by omega : xs.length ≤ k)]) (HA.out.2.2.2.1.get k))
        have cy := hid (digit_cell B m d k (ys.getD k 0) wr HB.out.2.1 HB.out.2.2.1 (fun hi => src_cell HB.out SB.out HR.out HG.out z1 z2 z4 hi) (fun hi => by have := HB.out.1; simp [List.getD, List.getElem?_eq_none (by omega : ys.length ≤ k)]) (HB.out.2.2.2.1.get k))
        have zh : One wr h t := Blk.upd HH.out z4 (fun e => by
          have h1 := GH.out
          have h2 := HR.out.ne_one HH.out
          omega)
        have cf := hid (HF.out (T.st s xs ys k) (xs.getD k 0) (ys.getD k 0) wr (HT.out.st hs HA.out.2.2.2.1 HB.out.2.2.2.1 k) (HA.out.2.2.2.1.get k) (HB.out.2.2.2.1.get k) z3 zh)
        have hob := z1.ne_one z3
        have Z1 := hid z1
        have Z2 := hid z2
        have Z4 := hid z4
        have OB := hid hob
        obtain ⟨x, hx⟩ : ∃ x, x = xs.getD k 0 := ⟨_, rfl⟩
        obtain ⟨y, hy⟩ : ∃ y, y = ys.getD k 0 := ⟨_, rfl⟩
        rw [← hx] at cx cf
        rw [← hy] at cy cf
        have HX := hid hx
        have HY := hid hy
        clear z1 z2 z3 z4 zh hob hx hy
        go_wp2_with fail
        refine (cx.out).mono ?_
        rintro e w' ⟨rfl, rfl⟩
        go_wp2_with fail
        refine (cy.out).mono ?_
        rintro e w' ⟨rfl, rfl⟩
        go_wp2_with fail
        refine (cf.out).mono ?_
        rintro e w1 ⟨rfl, y3, y4, y5⟩
        have y1 : Row w1 ob zs := Blk.upd Z1.out y4 OB.out
        have hlen : oo + k < zs.length := by have := Z2.out.1; omega
        have hcell := y1.cell hlen
        have hfree := Blk.free y1 (oo + k)
        have Y1 := hid y1
        have Y3 := hid y3
        have Y4 := hid y4
        obtain ⟨v0, hv0⟩ : ∃ v0, v0 = zs.getD (oo + k) 0 := ⟨_, rfl⟩
        rw [← hv0] at hcell
        clear y1 y3 y4 y5 hv0
        go_wp2_with fail
        go_roundw
        case rel =>
          refine ⟨k + 1, by omega, by go_num, hid ⟨zs.set (oo + k) (T.out s xs ys k), ?_, Z2.out.next (by have := Z2.out.1; omega), ?_, ?_⟩⟩
          · have := Y1.out.set_ (oo + k) (T.dg (T.st s xs ys k) x y)
            rw [HX.out, HY.out] at this ⊢
            exact this
          · have := Blk.far (g := ob) (i := oo + k) Y3.out (fun e => OB.out e.symm) (.int .u32 (T.dg (T.st s xs ys k) x y : Nat))
            rw [HX.out, HY.out] at this ⊢
            exact this
          · exact (Z4.out.trans (Y4.out.mono fun i _ hi => .inr hi)).setCell ob (oo + k) (fun _ => .inl rfl) _
        case measure => simp [intOf]; omega
      · go_wp2_with fail
        go_end0
        obtain rfl : k = on_ := by omega
        exact ⟨rfl, hz.out⟩
def seg (zs : List Nat) (o n : Nat) : List Nat := (zs.drop o).take n
theorem seg_getD {zs : List Nat} {o n j : Nat} (hj : j < n) : (seg zs o n).getD j 0 = zs.getD (o + j) 0 := by
  unfold seg
  rw [List.getD_eq_getElem?_getD, List.getD_eq_getElem?_getD, List.getElem?_take, if_pos hj, List.getElem?_drop]
theorem seg_take {zs : List Nat} {o n k : Nat} (hk : k ≤ n) : (seg zs o n).take k = seg zs o k := by
  unfold seg
  rw [List.take_take, Nat.min_eq_left hk]
theorem seg_len {zs : List Nat} {o n : Nat} (h : o + n ≤ zs.length) : (seg zs o n).length = n := by
  unfold seg; simp; omega
theorem Digs.seg {zs : List Nat} (h : Digs zs) (o n : Nat) : Digs (seg zs o n) := (h.drop o).take n
theorem Part.digs {T : Step} (hT : Ok T) {s : Nat} {xs ys ds : List Nat} {oo k : Nat} {zs : List Nat} (h : Part T s xs ys ds oo k zs) (hs : s < 4294967296) (hx : Digs xs) (hy : Digs ys) (hd : Digs ds) : Digs zs := by
  intro z hz
  obtain ⟨j, hj, rfl⟩ := List.getElem_of_mem hz
  have e : zs[j] = zs.getD j 0 := by simp [List.getD, List.getElem?_eq_getElem hj]
  rw [e, h.2 j]
  split
  · exact hT.out hs hx hy _
  · exact hd.get j
theorem add_sum (t s : Nat) (xs ys ds : List Nat) (oo n : Nat) (zs : List Nat) (h : Part (addStep t) s xs ys ds oo n zs) : ∀ k, k ≤ n →
    val (seg zs oo k) + 4294967296 ^ k * (addStep t).st s xs ys k = val (xs.take k) + val (ys.take k) * t + s := by
  intro k
  induction k with
  | zero => intro _; simp [seg, Step.st, val]
  | succ k ih =>
    intro hk
    have h1 := ih (by omega)
    have h2 : val (seg zs oo (k + 1)) = val (seg zs oo k) + 4294967296 ^ k * (addStep t).out s xs ys k := by
      have := val_take_succ (seg zs oo n) k
      rw [seg_take (by omega), seg_take (by omega), seg_getD (by omega), h.2, if_pos (by omega)] at this
      rw [this, show oo + k - oo = k by omega]
    rw [h2, val_take_succ, val_take_succ, Nat.pow_succ]
    have h3 : (addStep t).out s xs ys k + 4294967296 * (addStep t).st s xs ys (k + 1) = (addStep t).st s xs ys k + (xs.getD k 0 + ys.getD k 0 * t) := by
      show ((addStep t).st s xs ys k + (xs.getD k 0 + ys.getD k 0 * t)) % 4294967296 + 4294967296 * (((addStep t).st s xs ys k + (xs.getD k 0 + ys.getD k 0 * t)) / 4294967296) = _
      omega
    have h4 := congrArg (4294967296 ^ k * ·) h3
    simp only [Nat.mul_add] at h4
    have e1 : 4294967296 ^ k * 4294967296 * (addStep t).st s xs ys (k + 1) = 4294967296 ^ k * (4294967296 * (addStep t).st s xs ys (k + 1)) := Nat.mul_assoc _ _ _
    have e2 : (val (ys.take k) + 4294967296 ^ k * ys.getD k 0) * t = val (ys.take k) * t + 4294967296 ^ k * (ys.getD k 0 * t) := by rw [Nat.add_mul, Nat.mul_assoc]
    rw [e1, e2]
    omega
theorem sub_sum (t s : Nat) (xs ys ds : List Nat) (oo n : Nat) (zs : List Nat) (h : Part (subStep t) s xs ys ds oo n zs) (hx : Digs xs) : ∀ k, k ≤ n →
    val (seg zs oo k) + val (ys.take k) * t + s = val (xs.take k) + 4294967296 ^ k * (subStep t).st s xs ys k := by
  intro k
  induction k with
  | zero => intro _; simp [seg, Step.st, val]
  | succ k ih =>
    intro hk
    have h1 := ih (by omega)
    have h2 : val (seg zs oo (k + 1)) = val (seg zs oo k) + 4294967296 ^ k * (subStep t).out s xs ys k := by
      have := val_take_succ (seg zs oo n) k
      rw [seg_take (by omega), seg_take (by omega), seg_getD (by omega), h.2, if_pos (by omega)] at this
      rw [this, show oo + k - oo = k by omega]
    rw [h2, val_take_succ, val_take_succ, Nat.pow_succ]
    have hxk := hx.get k
    have h3 : (subStep t).out s xs ys k + ((subStep t).st s xs ys k + ys.getD k 0 * t) = xs.getD k 0 + 4294967296 * (subStep t).st s xs ys (k + 1) := by
      show (xs.getD k 0 + 4294967296 - ((subStep t).st s xs ys k + ys.getD k 0 * t) % 4294967296) % 4294967296 + _ = _ + 4294967296 * (((subStep t).st s xs ys k + ys.getD k 0 * t) / 4294967296 + (if xs.getD k 0 < ((subStep t).st s xs ys k + ys.getD k 0 * t) % 4294967296 then 1 else 0))
      split <;> omega
    have h4 := congrArg (4294967296 ^ k * ·) h3
    simp only [Nat.mul_add] at h4
    have e1 : 4294967296 ^ k * 4294967296 * (subStep t).st s xs ys (k + 1) = 4294967296 ^ k * (4294967296 * (subStep t).st s xs ys (k + 1)) := Nat.mul_assoc _ _ _
    have e2 : (val (ys.take k) + 4294967296 ^ k * ys.getD k 0) * t = val (ys.take k) * t + 4294967296 ^ k * (ys.getD k 0 * t) := by rw [Nat.add_mul, Nat.mul_assoc]
    rw [e1, e2]
    omega
def TimesPost (T : Step) (w : World) (s ob oo on_ : Nat) (xs ys ds : List Nat) (e : Ending) (w' : World) : Prop :=
  e = .returned (.int .u64 (T.st s xs ys on_ : Nat)) ∧ ∃ zs, Row w' ob zs ∧ Part T s xs ys ds oo on_ zs ∧ Upd (fun i => i = ob) w w'
set_option maxHeartbeats 400000 in
theorem addTimes_any (t s ob oo on_ oc n c m d : Nat) (A B : Option Addr) (xs ys ds : List Nat) (w : World) (ht : t < 4294967296) (hs : s < 4294967296)
    (hr : Row w ob ds) (ho : oo + on_ ≤ ds.length) (hoc : on_ ≤ oc) (hom : oc ≤ 9223372036854775807)
    (ha : Rd w A n c xs) (hb : Rd w B m d ys) (sa : Src A n ob oo) (sb : Src B m ob oo) :
    Calls Tryz.prog 166 #[.slice (some ⟨ob, oo, none⟩) on_ oc, .slice A n c, .slice B m d, .int .u64 t, .int .u64 s] w (TimesPost (addStep t) w s ob oo on_ xs ys ds) := by
  have hbw : Below w.heap.size w ((w.alloc (.cells #[.int .u64 t] 126)).alloc (.cells #[.int .u64 s] 126)) := ((Below.refl _ _).alloc (Nat.le_refl _) _).alloc (by simp) _
  have hh : One ((w.alloc (.cells #[.int .u64 t] 126)).alloc (.cells #[.int .u64 s] 126)) w.heap.size t := Blk.alloc (Blk.new w [.int .u64 t] _) _
  have hg : One ((w.alloc (.cells #[.int .u64 t] 126)).alloc (.cells #[.int .u64 s] 126)) (w.heap.size + 1) s := by
    have := Blk.new (w.alloc (.cells #[.int .u64 t] 126)) [.int .u64 s] 126
    rw [World.size_alloc] at this
    exact this
  have hob := Blk.lt hr
  have cc := hid (combine_any (addStep t) (add_inv t ht) 191 (w.heap.size + 1) w.heap.size t s ob oo on_ oc n c m d A B xs ys ds _ (.inl rfl) (add_clos t _ _ ht) (by omega) hs hg hh (Blk.below hr hbw hob) ho hoc hom (ha.keep hbw) (hb.keep hbw) sa sb)
  have HB := hid hbw
  clear hbw hh hg hr ha hb sa sb
  go_enter Tryz.func166, Tryz.ntmps166
  go_wp2_with fail
  refine (cc.out).mono ?_
  rintro e w1 ⟨rfl, zs, z1, z2, z3, z4⟩
  have hcell := z3.cell
  have Z := hid (show Row w1 ob zs ∧ Part (addStep t) s xs ys ds oo on_ zs ∧ Upd (fun i => i = ob ∨ i = w.heap.size + 1) _ w1 from ⟨z1, z2, z4⟩)
  clear z1 z2 z3 z4
  go_wp2_with fail
  go_ret
  obtain ⟨z1, z2, z4⟩ := Z.out
  refine ⟨rfl, zs, z1, z2, ?_⟩
  refine ⟨z4.os.trans HB.out.os, z4.tape.trans HB.out.tape, z4.output.trans HB.out.output, Nat.le_trans HB.out.size z4.size, fun k hk hne => (z4.block k (Nat.lt_of_lt_of_le hk HB.out.size) (by omega)).trans (HB.out.block k hk)⟩
set_option maxHeartbeats 400000 in
theorem subTimes_any (t ob oo on_ oc n c m d : Nat) (A B : Option Addr) (xs ys ds : List Nat) (w : World) (ht : t < 4294967296)
    (hr : Row w ob ds) (ho : oo + on_ ≤ ds.length) (hoc : on_ ≤ oc) (hom : oc ≤ 9223372036854775807)
    (ha : Rd w A n c xs) (hb : Rd w B m d ys) (sa : Src A n ob oo) (sb : Src B m ob oo) :
    Calls Tryz.prog 187 #[.slice (some ⟨ob, oo, none⟩) on_ oc, .slice A n c, .slice B m d, .int .u64 t] w (TimesPost (subStep t) w 0 ob oo on_ xs ys ds) := by
  have hbw : Below w.heap.size w ((w.alloc (.cells #[.int .u64 t] 126)).alloc (.cells #[.int .u64 0] 126)) := ((Below.refl _ _).alloc (Nat.le_refl _) _).alloc (by simp) _
  have hh : One ((w.alloc (.cells #[.int .u64 t] 126)).alloc (.cells #[.int .u64 0] 126)) w.heap.size t := Blk.alloc (Blk.new w [.int .u64 t] _) _
  have hg : One ((w.alloc (.cells #[.int .u64 t] 126)).alloc (.cells #[.int .u64 0] 126)) (w.heap.size + 1) 0 := by
    have := Blk.new (w.alloc (.cells #[.int .u64 t] 126)) [.int .u64 0] 126
    rw [World.size_alloc] at this
    exact this
  have hob := Blk.lt hr
  have cc := hid (combine_any (subStep t) (sub_inv t ht) 202 (w.heap.size + 1) w.heap.size t 0 ob oo on_ oc n c m d A B xs ys ds _ (.inr rfl) (sub_clos t _ _ ht) (by omega) (by omega) hg hh (Blk.below hr hbw hob) ho hoc hom (ha.keep hbw) (hb.keep hbw) sa sb)
  have HB := hid hbw
  clear hbw hh hg hr ha hb sa sb
  go_enter Tryz.func187, Tryz.ntmps187
  go_wp2_with fail
  refine (cc.out).mono ?_
  rintro e w1 ⟨rfl, zs, z1, z2, z3, z4⟩
  have hcell := z3.cell
  have Z := hid (show Row w1 ob zs ∧ Part (subStep t) 0 xs ys ds oo on_ zs ∧ Upd (fun i => i = ob ∨ i = w.heap.size + 1) _ w1 from ⟨z1, z2, z4⟩)
  clear z1 z2 z3 z4
  go_wp2_with fail
  go_ret
  obtain ⟨z1, z2, z4⟩ := Z.out
  refine ⟨rfl, zs, z1, z2, ?_⟩
  refine ⟨z4.os.trans HB.out.os, z4.tape.trans HB.out.tape, z4.output.trans HB.out.output, Nat.le_trans HB.out.size z4.size, fun k hk hne => (z4.block k (Nat.lt_of_lt_of_le hk HB.out.size) (by omega)).trans (HB.out.block k hk)⟩
def zrow (n : Nat) : Array Value := ((List.replicate n 0).map dv).toArray
theorem madeCells_zrow (n : Nat) : madeCells #[.int .u32 0] n = zrow n := by
  apply Array.ext
  · simp [size_madeCells, zrow]
  · intro i h1 h2
    simp [madeCells, zrow, dv, Nat.mod_one]
theorem Tryz.infoU32 : (Tryz.prog.info? 127).map (fun i => (i.zero, i.size, i.bytes)) = some (some (.int .u32 0), 1, 4) := by kernel_rfl
theorem run_make_nat (n : Nat) (h : n ≤ 4398046511104) (W : World) :
    (Instr.makeSlice 37 (.int .i64 (n : Int)) (.int .i64 (n : Int))).run Tryz.prog W = .ok (.slice (some ⟨W.heap.size, 0, none⟩) n n) (W.alloc (.cells (zrow n) 127)) := by
  rw [run_make_row' (P := Tryz.prog) 37 127 (.int .u32 0) 4 Tryz.underlying37 Tryz.infoU32 rfl .i64 .i64 n (by omega) (by omega) W, madeCells_zrow]
theorem row_new (w : World) (n : Nat) : Row (w.alloc (.cells (zrow n) 127)) w.heap.size (List.replicate n 0) := Blk.new w _ _
theorem Src.old {w : World} {A : Option Addr} {n c ob oo : Nat} {xs : List Nat} (h : Rd w A n c xs) (hb : w.heap.size ≤ ob) : Src A n ob oo := fun hn b o hA => by
  obtain ⟨b', o', hA', hlt, _⟩ := h.2.2.2.2 hn
  rw [hA] at hA'
  injection hA' with e
  injection e with e1 _ _
  left; omega
theorem Src.nil (ob oo : Nat) : Src none 0 ob oo := fun h => absurd h (by omega)
theorem ret_row {w w' : World} {zs : List Nat} {b : Nat} (h : Row w' b zs) (hd : Digs zs) (hl : zs.length ≤ 9223372036854775807) (hb : Below w.heap.size w w') : RetDig w (dg (val zs)) (.returned (.slice (some ⟨b, 0, none⟩) (dg (val zs)).length (dg (val zs)).length)) w' :=
  ⟨_, rfl, ⟨_, _, _, rfl, (h.rd0 hd (Nat.le_refl _) hl).trim⟩, hb⟩
theorem trim_row {w : World} {zs : List Nat} {b n : Nat} (h : Row w b zs) (hd : Digs zs) (hn : zs.length = n) (hl : n ≤ 9223372036854775807) :
    Calls Tryz.prog 163 #[.slice (some ⟨b, 0, none⟩) n n] w fun e w' => e = .returned (.slice (some ⟨b, 0, none⟩) (dg (val zs)).length (dg (val zs)).length) ∧ w = w' := by
  subst hn
  exact trim_any _ _ _ zs w (h.rd0 hd (Nat.le_refl _) hl)
theorem Part.all {T : Step} {s : Nat} {xs ys ds zs : List Nat} {n : Nat} (h : Part T s xs ys ds 0 n zs) (hn : ds.length = n) : seg zs 0 n = zs := by
  unfold seg
  have := h.1
  rw [List.drop_zero, List.take_of_length_le (by omega)]
theorem add_all {t s n : Nat} {xs ys ds zs : List Nat} (h : Part (addStep t) s xs ys ds 0 n zs) (hn : ds.length = n) (hx : xs.length ≤ n) (hy : ys.length ≤ n) :
    val zs + 4294967296 ^ n * (addStep t).st s xs ys n = val xs + val ys * t + s := by
  have := add_sum t s xs ys ds 0 n zs h n (Nat.le_refl _)
  rwa [h.all hn, List.take_of_length_le hx, List.take_of_length_le hy] at this
theorem no_carry {v p s r : Nat} (h : v + p * s = r) (hr : r < p) : v = r := by
  rcases Nat.eq_zero_or_pos s with rfl | hs
  · simpa using h
  · have := Nat.mul_le_mul_left p hs
    omega
theorem add_small {xs ys : List Nat} {q : Nat} (hx : Digs xs) (hy : Digs ys) (h1 : xs.length ≤ q) (h2 : ys.length ≤ q) : val xs + val ys < 4294967296 ^ (q + 1) := by
  have a := val_lt hx
  have b := val_lt hy
  have c := Nat.pow_le_pow_right (n := 4294967296) (by omega) h1
  have d := Nat.pow_le_pow_right (n := 4294967296) (by omega) h2
  rw [Nat.pow_succ]
  omega
set_option maxHeartbeats 1000000 in
theorem add_any (A B : Option Addr) (n c m d : Nat) (xs ys : List Nat) (w : World) (ha : Rd w A n c xs) (hb : Rd w B m d ys) (hn : n ≤ 1099511627776) (hm : m ≤ 1099511627776) :
    Calls Tryz.prog 150 #[.slice A n c, .slice B m d] w (RetDig w (dg (val xs + val ys))) := by
  have key : ∀ q : Nat, n ≤ q → m ≤ q → q ≤ 1099511627776 → Hid (Calls Tryz.prog 166 #[.slice (some ⟨w.heap.size, 0, none⟩) (q + 1) (q + 1), .slice A n c, .slice B m d, .int .u64 1, .int .u64 0] (w.alloc (.cells (zrow (q + 1)) 127))
      (fun e w' => (∃ s : Nat, e = .returned (.int .u64 s)) ∧ Hid (∃ zs, Row w' w.heap.size zs ∧ Digs zs ∧ zs.length = q + 1 ∧ val zs = val xs + val ys ∧ Below w.heap.size w w'))) := by
    intro q h1 h2 h3
    have hbw : Below w.heap.size w (w.alloc (.cells (zrow (q + 1)) 127)) := (Below.refl _ _).alloc (Nat.le_refl _) _
    refine hid ((addTimes_any 1 0 w.heap.size 0 (q + 1) (q + 1) n c m d A B xs ys _ _ (by omega) (by omega) (row_new w (q + 1)) (by simp) (Nat.le_refl _) (by omega) (ha.keep hbw) (hb.keep hbw) (Src.old ha (Nat.le_refl _)) (Src.old hb (Nat.le_refl _))).mono ?_)
    rintro e w' ⟨rfl, zs, z1, z2, z3⟩
    refine ⟨⟨_, rfl⟩, hid ⟨zs, z1, z2.digs (add_inv 1 (by omega)) (by omega) ha.2.2.2.1 hb.2.2.2.1 (Digs.zeros _), by rw [z2.1]; simp, ?_, ?_⟩⟩
    · have h4 := add_all z2 (by simp) (by have := ha.1; omega) (by have := hb.1; omega)
      have h5 := add_small ha.2.2.2.1 hb.2.2.2.1 (q := q) (by have := ha.1; omega) (by have := hb.1; omega)
      have h6 := no_carry h4 (by rw [Nat.mul_one, Nat.add_zero]; exact h5)
      omega
    · exact ⟨z3.os.trans hbw.os, z3.tape.trans hbw.tape, z3.output.trans hbw.output, Nat.le_trans hbw.size z3.size, fun k hk => (z3.block k (Nat.lt_of_lt_of_le hk hbw.size) (by omega)).trans (hbw.block k hk)⟩
  have KEY := hid key
  have h1 := ha.2.1
  have h2 := ha.2.2.1
  have h3 := hb.2.1
  have h4 := hb.2.2.1
  clear key ha hb
  obtain ⟨q, hq⟩ : ∃ q, q = if n < m then m else n := ⟨_, rfl⟩
  have hmk : ∀ W, (Instr.makeSlice 37 (.int .i64 ((q : Int) + 1)) (.int .i64 ((q : Int) + 1))).run Tryz.prog W = .ok (.slice (some ⟨W.heap.size, 0, none⟩) (q + 1) (q + 1)) (W.alloc (.cells (zrow (q + 1)) 127)) := fun W => run_make_nat (q + 1) (by split at hq <;> omega) W
  have HMK := hid hmk
  clear hmk
  rcases Nat.lt_or_ge n m with hnm | hnm
  all_goals
    first | (rw [if_pos hnm] at hq; subst hq) | (rw [if_neg (Nat.not_lt.2 hnm)] at hq; subst hq)
    have hmk := HMK.out
    go_enter Tryz.func150, Tryz.ntmps150
    go_wp2_with fail
    refine ((KEY.out _ (by omega) (by omega) (by omega)).out).mono ?_
    rintro e w1 ⟨⟨s, rfl⟩, hz⟩
    go_wp2_with fail
    obtain ⟨zs, z1, z2, z3, z4, z5⟩ := hz.out
    refine (trim_row z1 z2 z3 (by omega)).mono ?_
    rintro e w' ⟨rfl, rfl⟩
    have R := hid (ret_row z1 z2 (by omega) z5)
    rw [z4] at R ⊢
    clear z1 z2 z3 z4 z5 hz
    go_wp2_with fail
    go_ret
    exact R.out
def Ret2 (w : World) (zs : List Nat) (k : Int) (e : Ending) (w' : World) : Prop := ∃ v, e = .returned (.tuple #[v, .int .i64 k]) ∧ Dig w' v zs ∧ Below w.heap.size w w'
def subD (m n : Nat) : List Nat := if m < n then [] else dg (m - n)
def subE (m n : Nat) : Int := if m < n then 2 else 0
theorem no_borrow {v p s a b : Nat} (h : v + b = a + p * s) (hv : v < p) (hab : b ≤ a) : v = a - b := by
  rcases Nat.eq_zero_or_pos s with rfl | hs
  · rw [Nat.mul_zero] at h; omega
  · have := Nat.mul_le_mul_left p hs
    omega
theorem val_drop_zero {xs : List Nat} {k : Nat} (h : val xs < 4294967296 ^ k) : val (xs.take k) = val xs := by
  refine dg_take fun j hj => dg_getD_zero j ?_
  have := dg_len_le h
  omega
set_option maxHeartbeats 400000 in
theorem sub_lt (A B : Option Addr) (n c m d : Nat) (xs ys : List Nat) (w : World) (ha : Rd w A n c xs) (hb : Rd w B m d ys) (hlt : val xs < val ys) :
    Calls Tryz.prog 161 #[.slice A n c, .slice B m d] w fun e w' => e = .returned (.tuple #[.slice none 0 0, .int .i64 2]) ∧ w = w' := by
  have cc := cmp_any A B n c m d xs ys w ha hb
  have e1 : cmpN (val xs) (val ys) = -1 := by unfold cmpN; rw [if_pos hlt]
  rw [e1] at cc
  have CC := hid cc
  clear cc e1 ha hb hlt
  go_enter Tryz.func161, Tryz.ntmps161
  go_wp2_with fail
  refine (CC.out).mono ?_
  rintro e w' ⟨rfl, rfl⟩
  go_wp2_with fail
  go_ret2
  exact ⟨rfl, rfl⟩
theorem ret2_row {w w' : World} {zs : List Nat} {b : Nat} (h : Row w' b zs) (hd : Digs zs) (hl : zs.length ≤ 9223372036854775807) (hb : Below w.heap.size w w') (k : Int) : Ret2 w (dg (val zs)) k (.returned (.tuple #[.slice (some ⟨b, 0, none⟩) (dg (val zs)).length (dg (val zs)).length, .int .i64 k])) w' :=
  ⟨_, rfl, ⟨_, _, _, rfl, (h.rd0 hd (Nat.le_refl _) hl).trim⟩, hb⟩
set_option maxHeartbeats 400000 in
theorem sub_ge (A B : Option Addr) (n c m d : Nat) (xs ys : List Nat) (w : World) (ha : Rd w A n c xs) (hb : Rd w B m d ys) (hn : n ≤ 1099511627776) (_hm : m ≤ 1099511627776) (hge : val ys ≤ val xs) :
    Calls Tryz.prog 161 #[.slice A n c, .slice B m d] w (Ret2 w (dg (val xs - val ys)) 0) := by
  have cc := hid (cmp_any A B n c m d xs ys w ha hb)
  have e1 : 0 ≤ cmpN (val xs) (val ys) := by unfold cmpN; rw [if_neg (by omega)]; split <;> omega
  obtain ⟨z, hz⟩ : ∃ z, z = cmpN (val xs) (val ys) := ⟨_, rfl⟩
  rw [← hz] at cc e1
  clear hz
  have hbw : Below w.heap.size w (w.alloc (.cells (zrow n) 127)) := (Below.refl _ _).alloc (Nat.le_refl _) _
  have key : Hid (Calls Tryz.prog 187 #[.slice (some ⟨w.heap.size, 0, none⟩) n n, .slice A n c, .slice B m d, .int .u64 1] (w.alloc (.cells (zrow n) 127))
      (fun e w' => (∃ s : Nat, e = .returned (.int .u64 s)) ∧ Hid (∃ zs, Row w' w.heap.size zs ∧ Digs zs ∧ zs.length = n ∧ val zs = val xs - val ys ∧ Below w.heap.size w w'))) := by
    refine hid ((subTimes_any 1 w.heap.size 0 n n n c m d A B xs ys _ _ (by omega) (row_new w n) (by simp) (Nat.le_refl _) (by have := ha.2.1; have := ha.2.2.1; omega) (ha.keep hbw) (hb.keep hbw) (Src.old ha (Nat.le_refl _)) (Src.old hb (Nat.le_refl _))).mono ?_)
    rintro e w' ⟨rfl, zs, z1, z2, z3⟩
    have hdz : Digs zs := z2.digs (sub_inv 1 (by omega)) (by omega) ha.2.2.2.1 hb.2.2.2.1 (Digs.zeros _)
    have hlz : zs.length = n := by rw [z2.1]; simp
    refine ⟨⟨_, rfl⟩, hid ⟨zs, z1, hdz, hlz, ?_, ?_⟩⟩
    · have h4 := sub_sum 1 0 xs ys _ 0 n zs z2 ha.2.2.2.1 n (Nat.le_refl _)
      have h0 : val (ys.take n) = val ys := val_drop_zero (by have := val_lt ha.2.2.2.1; rw [ha.1] at this; omega)
      rw [z2.all (by simp), h0, List.take_of_length_le (by have := ha.1; omega), Nat.mul_one, Nat.add_zero] at h4
      exact no_borrow h4 (by have := val_lt hdz; rwa [hlz] at this) hge
    · exact ⟨z3.os.trans hbw.os, z3.tape.trans hbw.tape, z3.output.trans hbw.output, Nat.le_trans hbw.size z3.size, fun k hk => (z3.block k (Nat.lt_of_lt_of_le hk hbw.size) (by omega)).trans (hbw.block k hk)⟩
  have hmk := fun W => run_make_nat n (by omega) W
  have h1 := ha.2.1
  have h2 := ha.2.2.1
  clear ha hb hge hbw
  go_enter Tryz.func161, Tryz.ntmps161
  go_wp2_with fail
  refine (cc.out).mono ?_
  rintro e w' ⟨rfl, rfl⟩
  go_wp2_with fail
  refine (key.out).mono ?_
  rintro e w1 ⟨⟨s, rfl⟩, hz⟩
  go_wp2_with fail
  obtain ⟨zs, z1, z2, z3, z4, z5⟩ := hz.out
  refine (trim_row z1 z2 z3 (by omega)).mono ?_
  rintro e w' ⟨rfl, rfl⟩
  have R := hid (ret2_row z1 z2 (by omega) z5 0)
  rw [z4] at R ⊢
  clear z1 z2 z3 z4 z5 hz
  go_wp2_with fail
  go_ret2
  exact R.out
theorem sub_any (A B : Option Addr) (n c m d : Nat) (xs ys : List Nat) (w : World) (ha : Rd w A n c xs) (hb : Rd w B m d ys) (hn : n ≤ 1099511627776) (hm : m ≤ 1099511627776) :
    Calls Tryz.prog 161 #[.slice A n c, .slice B m d] w (Ret2 w (subD (val xs) (val ys)) (subE (val xs) (val ys))) := by
  unfold subD subE
  by_cases h : val xs < val ys
  · rw [if_pos h, if_pos h]
    exact (sub_lt A B n c m d xs ys w ha hb h).mono fun e w' ⟨he, hw⟩ => ⟨_, he, by rw [← hw]; exact Dig.nil w, by rw [← hw]; exact Below.refl _ _⟩
  · rw [if_neg h, if_neg h]
    exact sub_ge A B n c m d xs ys w ha hb hn hm (by omega)
theorem val_split (zs : List Nat) (o n : Nat) (h : o + n ≤ zs.length) : val zs = val (zs.take o) + 4294967296 ^ o * (val (seg zs o n) + 4294967296 ^ n * val (zs.drop (o + n))) := by
  have h1 := val_append (zs.take o) (zs.drop o)
  rw [List.take_append_drop] at h1
  have h2 := val_append (seg zs o n) ((zs.drop o).drop n)
  rw [seg, List.take_append_drop, ← seg, seg_len h, List.drop_drop] at h2
  have h3 : (zs.take o).length = o := by simp; omega
  rw [h1, h2, h3]
theorem Part.swap {T : Step} {s : Nat} {xs ys ds zs : List Nat} {oo n : Nat} (h : Part T s xs ys ds oo n zs) (hl : oo + n ≤ ds.length) :
    val zs + 4294967296 ^ oo * val (seg ds oo n) = val ds + 4294967296 ^ oo * val (seg zs oo n) := by
  have e1 : zs.take oo = ds.take oo := by
    refine ext_getD (by simp [h.1]) fun j => ?_
    rw [List.getD_eq_getElem?_getD, List.getD_eq_getElem?_getD, List.getElem?_take, List.getElem?_take]
    by_cases hj : j < oo
    · rw [if_pos hj, if_pos hj, ← List.getD_eq_getElem?_getD, ← List.getD_eq_getElem?_getD, h.2, if_neg (by omega)]
    · rw [if_neg hj, if_neg hj]
  have e2 : zs.drop (oo + n) = ds.drop (oo + n) := by
    refine ext_getD (by simp [h.1]) fun j => ?_
    rw [List.getD_eq_getElem?_getD, List.getD_eq_getElem?_getD, List.getElem?_drop, List.getElem?_drop, ← List.getD_eq_getElem?_getD, ← List.getD_eq_getElem?_getD, h.2, if_neg (by omega)]
  rw [val_split zs oo n (by rw [h.1]; exact hl), val_split ds oo n hl, e1, e2, Nat.mul_add, Nat.mul_add]
  omega
def MulRel (w : World) (n m : Nat) (xs ys : List Nat) (k : Nat) (wr : World) : Prop := ∃ zs, Row wr w.heap.size zs ∧ Digs zs ∧ zs.length = n + m ∧ val zs = val xs * val (ys.take k) ∧ Below w.heap.size w wr
theorem mul_step {w wr : World} {n m k c oc : Nat} {A : Option Addr} {xs ys : List Nat} (ha : Rd w A n c xs) (hy : Digs ys) (hl : ys.length = m) (hk : k < m) (hr : MulRel w n m xs ys k wr) (hoc : n + 1 ≤ oc) (hom : oc ≤ 9223372036854775807) :
    Calls Tryz.prog 166 #[.slice (some ⟨w.heap.size, k, none⟩) (n + 1) oc, .slice (some ⟨w.heap.size, k, none⟩) (n + 1) oc, .slice A n c, .int .u64 (ys.getD k 0), .int .u64 0] wr
      (fun e w' => (∃ s : Nat, e = .returned (.int .u64 s)) ∧ Hid (MulRel w n m xs ys (k + 1) w')) := by
  obtain ⟨zs, z1, z2, z3, z4, z5⟩ := hr
  have hrd : Rd wr (some ⟨w.heap.size, k, none⟩) (n + 1) oc (seg zs k (n + 1)) := z1.rd z2 (by omega) hoc hom
  refine (addTimes_any (ys.getD k 0) 0 w.heap.size k (n + 1) oc (n + 1) oc n c _ A (seg zs k (n + 1)) xs zs wr (hy.get k) (by omega) z1 (by omega) hoc hom hrd (ha.keep z5) (fun _ b o hA => by injection hA with e; injection e with _ e2 _; right; exact e2.symm) (Src.old ha (Nat.le_refl _))).mono ?_
  rintro e w' ⟨rfl, us, u1, u2, u3⟩
  have hd := u2.digs (add_inv _ (hy.get k)) (by omega) (z2.seg k (n + 1)) ha.2.2.2.1 z2
  refine ⟨⟨_, rfl⟩, hid ⟨us, u1, hd, by rw [u2.1, z3], ?_, ?_⟩⟩
  · have h1 := u2.swap (by omega)
    have h2 := add_sum (ys.getD k 0) 0 _ xs zs k (n + 1) us u2 (n + 1) (Nat.le_refl _)
    rw [List.take_of_length_le (by rw [seg_len (by omega)]; omega), List.take_of_length_le (by have := ha.1; omega), Nat.add_zero] at h2
    have hlt : val (ys.take (k + 1)) < 4294967296 ^ (k + 1) := by
      have := val_lt (hy.take (k + 1))
      rwa [List.length_take, Nat.min_eq_left (by omega)] at this
    have hxl : val xs < 4294967296 ^ n := by have := val_lt ha.2.2.2.1; rwa [ha.1] at this
    have htot : val us + 4294967296 ^ (k + (n + 1)) * (addStep (ys.getD k 0)).st 0 (seg zs k (n + 1)) xs (n + 1) = val xs * val (ys.take (k + 1)) := by
      rw [val_take_succ, Nat.mul_add, ← z4, Nat.pow_add]
      have h3 := congrArg (4294967296 ^ k * ·) h2
      simp only [Nat.mul_add] at h3
      have e1 : 4294967296 ^ k * (4294967296 ^ (n + 1) * (addStep (ys.getD k 0)).st 0 (seg zs k (n + 1)) xs (n + 1)) = 4294967296 ^ k * 4294967296 ^ (n + 1) * (addStep (ys.getD k 0)).st 0 (seg zs k (n + 1)) xs (n + 1) := (Nat.mul_assoc _ _ _).symm
      have e2 : val xs * (4294967296 ^ k * ys.getD k 0) = 4294967296 ^ k * (val xs * ys.getD k 0) := by rw [Nat.mul_left_comm]
      rw [e2]
      omega
    have hsm : val xs * val (ys.take (k + 1)) < 4294967296 ^ (k + (n + 1)) := by
      have e3 : 4294967296 ^ (k + (n + 1)) = 4294967296 ^ n * 4294967296 ^ (k + 1) := by rw [← Nat.pow_add]; congr 1; omega
      rw [e3]
      exact Nat.mul_lt_mul'' hxl hlt
    exact no_carry htot hsm
  · exact ⟨u3.os.trans z5.os, u3.tape.trans z5.tape, u3.output.trans z5.output, Nat.le_trans z5.size u3.size, fun i hi => (u3.block i (Nat.lt_of_lt_of_le hi z5.size) (by omega)).trans (z5.block i hi)⟩
set_option maxHeartbeats 1000000 in
theorem mul_any (A B : Option Addr) (n c m d : Nat) (xs ys : List Nat) (w : World) (ha : Rd w A n c xs) (hb : Rd w B m d ys) (hn : n ≤ 1099511627776) (hm : m ≤ 1099511627776) :
    Calls Tryz.prog 162 #[.slice A n c, .slice B m d] w (RetDig w (dg (val xs * val ys))) := by
  have HA := hid ha
  have HB := hid hb
  have h1 := ha.2.1
  have h2 := ha.2.2.1
  have h3 := hb.2.1
  have h4 := hb.2.2.1
  have hmk : ∀ W, (Instr.makeSlice 37 (.int .i64 ((n : Int) + (m : Int))) (.int .i64 ((n : Int) + (m : Int)))).run Tryz.prog W = .ok (.slice (some ⟨W.heap.size, 0, none⟩) (n + m) (n + m)) (W.alloc (.cells (zrow (n + m)) 127)) := fun W => run_make_nat (n + m) (by omega) W
  have R0 := hid (show MulRel w n m xs ys 0 (w.alloc (.cells (zrow (n + m)) 127)) from ⟨_, row_new w (n + m), Digs.zeros _, by simp, by rw [val_zeros]; simp [val], (Below.refl _ _).alloc (Nat.le_refl _) _⟩)
  clear ha hb
  go_enter Tryz.func162, Tryz.ntmps162
  go_wp2_with fail
  go_loopw [17] (fun i wr => ∃ k : Nat, k ≤ m ∧ i = .int .i64 k ∧ Hid (MulRel w n m xs ys k wr)) (fun i _ => m - (intOf i).toNat)
  case atStart => exact ⟨0, Nat.zero_le _, rfl, R0⟩
  case round =>
    obtain ⟨k, hk, rfl, hz⟩ := hrel
    rcases Nat.lt_or_ge k m with hlt | hge
    · obtain ⟨b, o, hB, hbl, hc⟩ := HB.out.2.2.2.2 (by omega)
      subst hB
      have hcell : wr.cell? ⟨b, o + k, none⟩ = some (.int .u32 (ys.getD k 0 : Nat)) := by
        obtain ⟨zs, _, _, _, _, z5⟩ := hz.out
        rw [z5.cell (p := ⟨b, o + k, none⟩) hbl]
        exact hc k hlt
      clear hc
      have hy := HB.out.2.2.2.1.get k
      have ms := hid (fun (oc : Nat) (h5 : n + 1 ≤ oc) (h6 : oc ≤ 9223372036854775807) => mul_step HA.out HB.out.2.2.2.1 HB.out.1 hlt hz.out h5 h6)
      obtain ⟨y, hyy⟩ : ∃ y, y = ys.getD k 0 := ⟨_, rfl⟩
      rw [← hyy] at hcell hy ms
      clear hyy
      go_wp2_with fail
      rw [show k + n + 1 - k = n + 1 by omega]
      refine (ms.out _ (by omega) (by omega)).mono ?_
      rintro e w1 ⟨⟨s, rfl⟩, hz1⟩
      go_wp2_with fail
      go_roundw
      case rel => exact ⟨k + 1, by omega, by go_num, hz1⟩
      case measure => simp [intOf]; omega
    · obtain rfl : k = m := by omega
      go_wp2_with fail
      obtain ⟨zs, z1, z2, z3, z4, z5⟩ := hz.out
      refine (trim_row z1 z2 z3 (by omega)).mono ?_
      rintro e w' ⟨rfl, rfl⟩
      have R := hid (ret_row z1 z2 (by omega) z5)
      rw [z4, List.take_of_length_le (by have := HB.out.1; omega)] at R
      rw [z4, List.take_of_length_le (by have := HB.out.1; omega)]
      clear z1 z2 z3 z4 z5 hz
      go_wp2_with fail
      go_ret
      exact R.out
end Go.Proofs.YtdbccidlnhjfhaaGreatDoor
