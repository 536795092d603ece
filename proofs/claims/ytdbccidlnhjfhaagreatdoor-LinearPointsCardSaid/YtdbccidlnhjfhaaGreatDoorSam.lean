/- Lists compared: Ints, Rats. -/
import Derived.Test.YtdbccidlnhjfhaaGreatDoorAkz
import Derived.Test.YtdbccidlnhjfhaaGreatDoorLinO
import Derived.Deep.DeepCutAuto
import Derived.BigQuiet
namespace Go.Proofs.YtdbccidlnhjfhaaGreatDoor
open Go.RowKit
set_option maxRecDepth 100000
theorem int_eq {s t : Int} (h : (s != t) = false) : s = t := by simpa using h
theorem int_ne {s t : Int} (h : (s != t) = true) : ¬s = t := by simpa using h
def intsB (n m : Nat) (a b : Nat → Int) : Bool := decide (n = m ∧ ∀ i, i < n → a i = b i)
def ratsB (n m : Nat) (a b : Nat → Rat) : Bool := decide (n = m ∧ ∀ i, i < n → a i = b i)
theorem same_w {w : World} {g : Bool} {A : Option Addr} {n c : Nat} {D : Option Addr} {m d k : Nat} {p : Rat} {g2 : Bool} {B : Option Addr} {n2 c2 : Nat} {E : Option Addr} {m2 d2 k2 : Nat} {q : Rat} (h : FrW w g A n c D m d k p) (h2 : FrW w g2 B n2 c2 E m2 d2 k2 q) :
    Calls Tryz.prog 18 #[.agg #[.bool g, .slice A n c, .slice D m d], .agg #[.bool g2, .slice B n2 c2, .slice E m2 d2]] w (RetB w (decide (p = q))) := by
  obtain ⟨rfl, l⟩ := h
  obtain ⟨rfl, l2⟩ := h2
  exact vsame l l2
set_option maxHeartbeats 4000000 in
theorem l_ints (A : Option Addr) (n c : Nat) (a : Nat → Int) (B : Option Addr) (m d : Nat) (b : Nat → Int) (w : World) (hA : Il w A n c a) (hB : Il w B m d b) :
    Calls Tryz.prog 23 #[.slice A n c, .slice B m d] w (RetB w (intsB n m a b)) := by
  have a1 := hA.1
  have a2 := hA.2.1
  have b1 := hB.1
  have b2 := hB.2.1
  have HA := hid hA
  have HB := hid hB
  have BR := hid (bx_refl w)
  obtain ⟨r, hr⟩ : ∃ r, r = intsB n m a b := ⟨_, rfl⟩
  rw [← hr]
  have HRR := hid hr
  clear hA hB hr
  go_enter Tryz.func23, Tryz.ntmps23
  by_cases hnm : n = m
  · subst hnm
    have t1 : ((n : Int) != (n : Int)) = false := by simp
    go_wp2_with fail
    go_loopw [5] (fun i wr => ∃ j : Nat, j ≤ n ∧ i = .int .i64 j ∧ Hid ((∀ i, i < j → a i = b i) ∧ Below w.heap.size w wr)) (fun i _ => n - (intOf i).toNat)
    case atStart => exact ⟨0, Nat.zero_le _, rfl, hid ⟨fun i hi => absurd hi (by omega), BR.out⟩⟩
    case round =>
      clear BR
      obtain ⟨j, hj, rfl, hz⟩ := hrel
      rcases Nat.lt_or_ge j n with hlt | hge
      · obtain ⟨g, o, rfl, hg, hcell⟩ := HA.out.2.2 (by omega)
        obtain ⟨g', o', rfl, hg', hcell'⟩ := HB.out.2.2 (by omega)
        have x0 := cell_bx (hcell j hlt) hz.out.2
        have y0 := cell_bx (hcell' j hlt) hz.out.2
        obtain ⟨s, hs⟩ : ∃ s, s = a j := ⟨_, rfl⟩
        obtain ⟨t, ht⟩ : ∃ t, t = b j := ⟨_, rfl⟩
        rw [← hs] at x0
        rw [← ht] at y0
        have ES := hid hs
        have ET := hid ht
        clear hcell hcell' hs ht HA HB
        go_upto_region 6 with fail
        go_region_held3 (fun W => W.cell? ⟨g, o + j, none⟩ = some (.int .i64 s) ∧ W.cell? ⟨g', o' + j, none⟩ = some (.int .i64 t))
          (refine ⟨?_, ?_⟩ <;> repeat' (first | with_reducible assumption | with_reducible refine cell_dr ?_))
          (fail)
        clear x0 y0
        have B2 := hid (bx_drew hz.out.2)
        go_wp2_with fail
        · have hst : ¬s = t := int_ne (by assumption)
          have e : r = false := by
            rw [HRR.out]
            exact decide_eq_false (fun h => hst (by rw [ES.out, ET.out]; exact h.2 j hlt))
          go_ret
          rw [e]
          exact ⟨rfl, B2.out⟩
        · have hst : s = t := int_eq (by assumption)
          refine ⟨⟨j + 1, by omega, rfl, hid ⟨fun i hi => ?_, B2.out⟩⟩, by show n - ((j : Int) + 1).toNat < n - (j : Int).toNat; omega⟩
          rcases Nat.lt_or_ge i j with h1 | h1
          · exact hz.out.1 i h1
          · have : i = j := by omega
            rw [this, ← ES.out, ← ET.out, hst]
      · obtain rfl : n = j := by omega
        go_wp2_with fail
        go_ret
        have e : r = true := by
          rw [HRR.out]
          exact decide_eq_true ⟨rfl, hz.out.1⟩
        rw [e]
        exact ⟨rfl, hz.out.2⟩
  · have t1 : ((n : Int) != (m : Int)) = true := by
      simp
      omega
    go_wp2_with fail
    go_ret
    have e : r = false := by
      rw [HRR.out]
      exact decide_eq_false (fun h => hnm h.1)
    rw [e]
    exact ⟨rfl, BR.out⟩
set_option maxHeartbeats 4000000 in
theorem l_rats (Ca n : Nat) (a : Nat → Rat) (Cb m : Nat) (b : Nat → Rat) (k : Nat) (w : World) (hA : QW w Ca n k a) (hB : QW w Cb m k b) (a1 : n ≤ 1000000) (b1 : m ≤ 1000000) :
    Calls Tryz.prog 36 #[.slice (some ⟨Ca, 0, none⟩) n n, .slice (some ⟨Cb, 0, none⟩) m m] w (RetB w (ratsB n m a b)) := by
  have HA := hid hA
  have HB := hid hB
  have BR := hid (bx_refl w)
  obtain ⟨r, hr⟩ : ∃ r, r = ratsB n m a b := ⟨_, rfl⟩
  rw [← hr]
  have HRR := hid hr
  clear hA hB hr
  go_enter Tryz.func36, Tryz.ntmps36
  by_cases hnm : n = m
  · subst hnm
    have t1 : ((n : Int) != (n : Int)) = false := by simp
    go_wp2_with fail
    go_loopw [5] (fun i wr => ∃ j : Nat, j ≤ n ∧ i = .int .i64 j ∧ Hid ((∀ i, i < j → a i = b i) ∧ Below w.heap.size w wr)) (fun i _ => n - (intOf i).toNat)
    case atStart => exact ⟨0, Nat.zero_le _, rfl, hid ⟨fun i hi => absurd hi (by omega), BR.out⟩⟩
    case round =>
      clear BR
      obtain ⟨j, hj, rfl, hz⟩ := hrel
      rcases Nat.lt_or_ge j n with hlt | hge
      · obtain ⟨ga, Aa, na, ca, Da, ma, da, x0, x1, x2, fa⟩ := (HA.out.keep hz.out.2).get hlt
        obtain ⟨gb, Ab, nb, cb, Db, mb, db, y0, y1, y2, fb⟩ := (HB.out.keep hz.out.2).get hlt
        obtain ⟨s, hs⟩ : ∃ s, s = a j := ⟨_, rfl⟩
        obtain ⟨t, ht⟩ : ∃ t, t = b j := ⟨_, rfl⟩
        rw [← hs] at fa
        rw [← ht] at fb
        have ES := hid hs
        have ET := hid ht
        have SM := hid (fun (W : World) (B : Below wr.heap.size wr W) => same_w (fa.keep B) (fb.keep B))
        obtain ⟨q, hq⟩ : ∃ q, q = decide (s = t) := ⟨_, rfl⟩
        rw [← hq] at SM
        have EQ := hid hq
        have SS := hid (show ((wr.cell? ⟨Ca, j * 3, none⟩ = some (.bool ga) ∧ wr.cell? ⟨Ca, j * 3 + 1, none⟩ = some (.slice Aa na ca) ∧ wr.cell? ⟨Ca, j * 3 + 2, none⟩ = some (.slice Da ma da)) ∧ (wr.cell? ⟨Cb, j * 3, none⟩ = some (.bool gb) ∧ wr.cell? ⟨Cb, j * 3 + 1, none⟩ = some (.slice Ab nb cb) ∧ wr.cell? ⟨Cb, j * 3 + 2, none⟩ = some (.slice Db mb db))) from ⟨⟨x0, x1, x2⟩, y0, y1, y2⟩)
        clear hs ht HA HB fa fb hq x0 x1 x2 y0 y1 y2
        go_upto_region 6 with fail
        (try simp only [List.append_eq, List.cons_append, List.nil_append])
        refine wp_region_noPanic ?_
        refine wp_region_held_drew (S := (fun W => (W.cell? ⟨Ca, j * 3, none⟩ = some (.bool ga) ∧ W.cell? ⟨Ca, j * 3 + 1, none⟩ = some (.slice Aa na ca) ∧ W.cell? ⟨Ca, j * 3 + 2, none⟩ = some (.slice Da ma da)) ∧ (W.cell? ⟨Cb, j * 3, none⟩ = some (.bool gb) ∧ W.cell? ⟨Cb, j * 3 + 1, none⟩ = some (.slice Ab nb cb) ∧ W.cell? ⟨Cb, j * 3 + 2, none⟩ = some (.slice Db mb db)))) (by kernel_rfl) ?_ (fun hH => ?_)
        exact ⟨⟨cell_bx SS.out.1.1 (bx_drew (bx_refl wr)), cell_bx SS.out.1.2.1 (bx_drew (bx_refl wr)), cell_bx SS.out.1.2.2 (bx_drew (bx_refl wr))⟩, cell_bx SS.out.2.1 (bx_drew (bx_refl wr)), cell_bx SS.out.2.2.1 (bx_drew (bx_refl wr)), cell_bx SS.out.2.2.2 (bx_drew (bx_refl wr))⟩
        have bd := bx_drew (bx_refl wr)
        obtain ⟨E0, hW0⟩ : ∃ W, W = wr.drew := ⟨_, rfl⟩
        rw [← hW0] at bd hH ⊢
        clear hW0
        have bd9 := bd
        clear bd
        refine tk 0 hH ?_
        (try simp only [Act.put, gy0, gy1, gy2])
        refine tk 1 hH ?_
        (try simp only [Act.put, gy0, gy1, gy2])
        refine tk 2 hH ?_
        (try simp only [Act.put, gy0, gy1, gy2])
        refine tk 3 hH ?_
        (try simp only [Act.put, gy0, gy1, gy2])
        refine tk 4 hH ?_
        (try simp only [Act.put, gy0, gy1, gy2])
        refine tk 5 hH ?_
        (try simp only [Act.put, gy0, gy1, gy2])
        refine tk 6 hH ?_
        (try simp only [Act.put, gy0, gy1, gy2])
        refine tk 7 hH ?_
        (try simp only [Act.put, gy0, gy1, gy2])
        refine wpAnyH_ready (rs := [8]) (by kernel_rfl) (by simp) ?_
        refine rdy (fun K hK => ?_) AllReadyH.nil
        go_simp
        refine (SM.out _ bd9).mono ?_
        rintro e v1 ⟨rfl, b9⟩
        have hb2 := bx_call bd9 b9
        clear hH
        (try go_wp2_with fail)
        refine hK.out _ _ ?_ (fun hH => ?_)
        exact ⟨⟨cell_bx SS.out.1.1 hb2, cell_bx SS.out.1.2.1 hb2, cell_bx SS.out.1.2.2 hb2⟩, cell_bx SS.out.2.1 hb2, cell_bx SS.out.2.2.1 hb2, cell_bx SS.out.2.2.2 hb2⟩
        clear hK K
        (try simp only [Act.put, gy0, gy1, gy2])
        refine tk 9 hH ?_
        (try simp only [Act.put, gy0, gy1, gy2])
        refine wpAnyH_done (by kernel_rfl) ?_ _
        refine NoPanic.normal ?_
        clear hH
        have hb2 := hid hb2
        cases q
        · have hst : ¬s = t := of_decide_eq_false EQ.out.symm
          have e : r = false := by
            rw [HRR.out]
            exact decide_eq_false (fun h => hst (by rw [ES.out, ET.out]; exact h.2 j hlt))
          have B2 := hid (bx_call hz.out.2 hb2.out)
          go_wp2_with fail
          go_ret
          rw [e]
          exact ⟨rfl, B2.out⟩
        · have hst : s = t := of_decide_eq_true EQ.out.symm
          have B2 := hid (bx_call hz.out.2 hb2.out)
          go_wp2_with fail
          refine ⟨⟨j + 1, by omega, rfl, hid ⟨fun i hi => ?_, B2.out⟩⟩, by show n - ((j : Int) + 1).toNat < n - (j : Int).toNat; omega⟩
          rcases Nat.lt_or_ge i j with h1 | h1
          · exact hz.out.1 i h1
          · have : i = j := by omega
            rw [this, ← ES.out, ← ET.out, hst]
      · obtain rfl : n = j := by omega
        go_wp2_with fail
        go_ret
        have e : r = true := by
          rw [HRR.out]
          exact decide_eq_true ⟨rfl, hz.out.1⟩
        rw [e]
        exact ⟨rfl, hz.out.2⟩
  · have t1 : ((n : Int) != (m : Int)) = true := by
      simp
      omega
    go_wp2_with fail
    go_ret
    have e : r = false := by
      rw [HRR.out]
      exact decide_eq_false (fun h => hnm h.1)
    rw [e]
    exact ⟨rfl, BR.out⟩
end Go.Proofs.YtdbccidlnhjfhaaGreatDoor
