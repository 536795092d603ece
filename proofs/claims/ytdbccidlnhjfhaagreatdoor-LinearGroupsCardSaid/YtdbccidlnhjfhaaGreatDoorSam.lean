/- Lists compared: Ints, Rats. -/
import Derived.Test.YtdbccidlnhjfhaaGreatDoorAkz
import Derived.Test.YtdbccidlnhjfhaaGreatDoorLinC
import Derived.Test.YtdbccidlnhjfhaaGreatDoorLinL
import Derived.Test.YtdbccidlnhjfhaaGreatDoorDrf
import Derived.Deep.DeepCutAuto
import Derived.BigQuiet
namespace Go.Proofs.YtdbccidlnhjfhaaGreatDoor
open Go.RowKit
set_option maxRecDepth 100000
theorem int_eq {s t : Int} (h : (s != t) = false) : s = t := by simpa using h
theorem int_ne {s t : Int} (h : (s != t) = true) : ¬s = t := by simpa using h
def intsB (n m : Nat) (a b : Nat → Int) : Bool := decide (n = m ∧ ∀ i, i < n → a i = b i)
set_option maxHeartbeats 4000000 in
theorem l_ints (A : Option Addr) (n c : Nat) (a : Nat → Int) (B : Option Addr) (m d : Nat) (b : Nat → Int) (w : World) (hA : Il w A n c a) (hB : Il w B m d b) :
    Calls Tryz.prog 23 #[.slice A n c, .slice B m d] w (RetB w (intsB n m a b)) := by
  have a1 := hA.1
  have a2 := hA.2.1
  have b1 := hB.1
  have b2 := hB.2.1
  have HA := hid hA
  have HB := hid hB
  have BR := hid (bx_refl w)
  obtain ⟨r, hr⟩ : ∃ r, r = intsB n m a b := ⟨_, rfl⟩
  rw [← hr]
  have HRR := hid hr
  clear hA hB hr
  go_enter Tryz.func23, Tryz.ntmps23
  by_cases hnm : n = m
  · subst hnm
    have t1 : ((n : Int) != (n : Int)) = false := by simp
    go_wp2_with fail
    go_loopw [5] (fun i wr => ∃ j : Nat, j ≤ n ∧ i = .int .i64 j ∧ Hid ((∀ i, i < j → a i = b i) ∧ Below w.heap.size w wr)) (fun i _ => n - (intOf i).toNat)
    case atStart => exact ⟨0, Nat.zero_le _, rfl, hid ⟨fun i hi => absurd hi (by omega), BR.out⟩⟩
    case round =>
      clear BR
      obtain ⟨j, hj, rfl, hz⟩ := hrel
      rcases Nat.lt_or_ge j n with hlt | hge
      · obtain ⟨g, o, rfl, hg, hcell⟩ := HA.out.2.2 (by omega)
        obtain ⟨g', o', rfl, hg', hcell'⟩ := HB.out.2.2 (by omega)
        have x0 := cell_bx (hcell j hlt) hz.out.2
        have y0 := cell_bx (hcell' j hlt) hz.out.2
        obtain ⟨s, hs⟩ : ∃ s, s = a j := ⟨_, rfl⟩
        obtain ⟨t, ht⟩ : ∃ t, t = b j := ⟨_, rfl⟩
        rw [← hs] at x0
        rw [← ht] at y0
        have ES := hid hs
        have ET := hid ht
        clear hcell hcell' hs ht HA HB
        go_upto_region 6 with fail
        go_region_held3 (fun W => W.cell? ⟨g, o + j, none⟩ = some (.int .i64 s) ∧ W.cell? ⟨g', o' + j, none⟩ = some (.int .i64 t))
          (refine ⟨?_, ?_⟩ <;> repeat' (first | with_reducible assumption | with_reducible refine cell_dr ?_))
          (fail)
        clear x0 y0
        have B2 := hid (bx_drew hz.out.2)
        go_wp2_with fail
        · have hst : ¬s = t := int_ne (by assumption)
          have e : r = false := by
            rw [HRR.out]
            exact decide_eq_false (fun h => hst (by rw [ES.out, ET.out]; exact h.2 j hlt))
          go_ret
          rw [e]
          exact ⟨rfl, B2.out⟩
        · have hst : s = t := int_eq (by assumption)
          refine ⟨⟨j + 1, by omega, rfl, hid ⟨fun i hi => ?_, B2.out⟩⟩, by show n - ((j : Int) + 1).toNat < n - (j : Int).toNat; omega⟩
          rcases Nat.lt_or_ge i j with h1 | h1
          · exact hz.out.1 i h1
          · have : i = j := by omega
            rw [this, ← ES.out, ← ET.out, hst]
      · obtain rfl : n = j := by omega
        go_wp2_with fail
        go_ret
        have e : r = true := by
          rw [HRR.out]
          exact decide_eq_true ⟨rfl, hz.out.1⟩
        rw [e]
        exact ⟨rfl, hz.out.2⟩
  · have t1 : ((n : Int) != (m : Int)) = true := by
      simp
      omega
    go_wp2_with fail
    go_ret
    have e : r = false := by
      rw [HRR.out]
      exact decide_eq_false (fun h => hnm h.1)
    rw [e]
    exact ⟨rfl, BR.out⟩
end Go.Proofs.YtdbccidlnhjfhaaGreatDoor
