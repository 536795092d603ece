/- awake of layer 4. -/
import Derived.Test.YthbogaindaflpaaGreatDoorFmf
import Derived.Test.YthbogaindaflpaaGreatDoorExs
import Derived.Deep.DeepCutAuto
import Derived.BigQuiet
namespace Go.Proofs.YthbogaindaflpaaGreatDoor
open Go.RowKit

/-- A slice that reads these strings. -/
def Sf (w : World) (A : Option Addr) (n c : Nat) (a : Nat → ByteArray) : Prop := n ≤ c ∧ c ≤ 9223372036854775807 ∧ (0 < n → ∃ b o, A = some ⟨b, o, none⟩ ∧ b < w.heap.size ∧ ∀ j, j < n → w.cell? ⟨b, o + j, none⟩ = some (.string (a j)))
theorem Sf.keep {w w' : World} {A : Option Addr} {n c : Nat} {a : Nat → ByteArray} (h : Sf w A n c a) (b : Below w.heap.size w w') : Sf w' A n c a := by
  refine ⟨h.1, h.2.1, fun hn => ?_⟩
  obtain ⟨bb, o, hA, hlt, hc⟩ := h.2.2 hn
  exact ⟨bb, o, hA, Nat.lt_of_lt_of_le hlt b.size, fun j hj => cell_bx (hc j hj) b⟩

theorem str_eq {s t : ByteArray} (h : (!s.toList == t.toList) = false) : s = t := by
  simp only [Bool.not_eq_false', beq_iff_eq, ByteArray.toList_eq] at h
  exact ByteArray.ext (Array.toList_inj.1 h)
theorem str_ne {s t : ByteArray} (h : (!s.toList == t.toList) = true) : ¬s = t := by
  rintro rfl
  simp at h
def linesB (n m : Nat) (a b : Nat → ByteArray) : Bool := decide (n = m ∧ ∀ i, i < n → a i = b i)

set_option maxRecDepth 100000 in
set_option maxHeartbeats 4000000 in
theorem l_lines (A : Option Addr) (n c : Nat) (a : Nat → ByteArray) (B : Option Addr) (m d : Nat) (b : Nat → ByteArray) (w : World) (hA : Sf w A n c a) (hB : Sf w B m d b) :
    Calls Tryz.prog 14 #[.slice A n c, .slice B m d] w (RetB w (linesB n m a b)) := by
  have a1 := hA.1
  have a2 := hA.2.1
  have b1 := hB.1
  have b2 := hB.2.1
  have HA := hid hA
  have HB := hid hB
  have BR := hid (bx_refl w)
  obtain ⟨r, hr⟩ : ∃ r, r = linesB n m a b := ⟨_, rfl⟩
  rw [← hr]
  have HRR := hid hr
  clear hA hB hr
  go_enter Tryz.func14, Tryz.ntmps14
  by_cases hnm : n = m
  · subst hnm
    have t1 : ((n : Int) != (n : Int)) = false := by simp
    go_wp2_with fail
    go_loopw [5] (fun i wr => ∃ j : Nat, j ≤ n ∧ i = .int .i64 j ∧ Hid ((∀ i, i < j → a i = b i) ∧ Below w.heap.size w wr)) (fun i _ => n - (intOf i).toNat)
    case atStart => exact ⟨0, Nat.zero_le _, rfl, hid ⟨fun i hi => absurd hi (by omega), BR.out⟩⟩
    case round =>
      clear BR
      obtain ⟨j, hj, rfl, hz⟩ := hrel
      rcases Nat.lt_or_ge j n with hlt | hge
      · obtain ⟨g, o, rfl, hg, hcell⟩ := HA.out.2.2 (by omega)
        obtain ⟨g', o', rfl, hg', hcell'⟩ := HB.out.2.2 (by omega)
        have x0 := cell_bx (hcell j hlt) hz.out.2
        have y0 := cell_bx (hcell' j hlt) hz.out.2
        obtain ⟨s, hs⟩ : ∃ s, s = a j := ⟨_, rfl⟩
        obtain ⟨t, ht⟩ : ∃ t, t = b j := ⟨_, rfl⟩
        rw [← hs] at x0
        rw [← ht] at y0
        have ES := hid hs
        have ET := hid ht
        clear hcell hcell' hs ht HA HB
        go_upto_region 6 with fail
        go_region_held3 (fun W => W.cell? ⟨g, o + j, none⟩ = some (.string s) ∧ W.cell? ⟨g', o' + j, none⟩ = some (.string t))
          (refine ⟨?_, ?_⟩ <;> repeat' (first | with_reducible assumption | with_reducible refine cell_dr ?_))
          (fail)
        clear x0 y0
        have B2 := hid (bx_drew hz.out.2)
        go_wp2_with fail
        · have hst : ¬s = t := str_ne (by assumption)
          have e : r = false := by
            rw [HRR.out]
            exact decide_eq_false (fun h => hst (by rw [ES.out, ET.out]; exact h.2 j hlt))
          go_ret
          rw [e]
          exact ⟨rfl, B2.out⟩
        · have hst : s = t := str_eq (by assumption)
          refine ⟨⟨j + 1, by omega, rfl, hid ⟨fun i hi => ?_, B2.out⟩⟩, by show n - ((j : Int) + 1).toNat < n - (j : Int).toNat; omega⟩
          rcases Nat.lt_or_ge i j with h1 | h1
          · exact hz.out.1 i h1
          · have : i = j := by omega
            rw [this, ← ES.out, ← ET.out, hst]
      · obtain rfl : n = j := by omega
        go_wp2_with fail
        go_ret
        have e : r = true := by
          rw [HRR.out]
          exact decide_eq_true ⟨rfl, hz.out.1⟩
        rw [e]
        exact ⟨rfl, hz.out.2⟩
  · have t1 : ((n : Int) != (m : Int)) = true := by
      simp
      omega
    go_wp2_with fail
    go_ret
    have e : r = false := by
      rw [HRR.out]
      exact decide_eq_false (fun h => hnm h.1)
    rw [e]
    exact ⟨rfl, BR.out⟩

end Go.Proofs.YthbogaindaflpaaGreatDoor
