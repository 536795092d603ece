/- Akz: Aw4, Ex4, Ak4 in one text. -/
import Derived.Test.YtdbccidlnhjfhaaGreatDoorFmz
import Derived.Test.YtdbccidlnhjfhaaGreatDoorExs
import Derived.Deep.DeepCutAuto
import Derived.BigQuiet
import Derived.Test.YtdbccidlnhjfhaaGreatDoorLinL

namespace Go.Proofs.YtdbccidlnhjfhaaGreatDoor
open Go.RowKit
set_option maxRecDepth 100000
def Sf (w : World) (A : Option Addr) (n c : Nat) (a : Nat → ByteArray) : Prop := n ≤ c ∧ c ≤ 9223372036854775807 ∧ (0 < n → ∃ b o, A = some ⟨b, o, none⟩ ∧ b < w.heap.size ∧ ∀ j, j < n → w.cell? ⟨b, o + j, none⟩ = some (.string (a j)))
theorem Sf.keep {w w' : World} {A : Option Addr} {n c : Nat} {a : Nat → ByteArray} (h : Sf w A n c a) (b : Below w.heap.size w w') : Sf w' A n c a := by
  refine ⟨h.1, h.2.1, fun hn => ?_⟩
  obtain ⟨bb, o, hA, hlt, hc⟩ := h.2.2 hn
  exact ⟨bb, o, hA, Nat.lt_of_lt_of_le hlt b.size, fun j hj => cell_bx (hc j hj) b⟩
theorem str_eq {s t : ByteArray} (h : (!s.toList == t.toList) = false) : s = t := by
  simp only [Bool.not_eq_false', beq_iff_eq, ByteArray.toList_eq] at h
  exact ByteArray.ext (Array.toList_inj.1 h)
theorem str_ne {s t : ByteArray} (h : (!s.toList == t.toList) = true) : ¬s = t := by
  rintro rfl
  simp at h
def linesB (n m : Nat) (a b : Nat → ByteArray) : Bool := decide (n = m ∧ ∀ i, i < n → a i = b i)
set_option maxHeartbeats 4000000 in
theorem l_lines (A : Option Addr) (n c : Nat) (a : Nat → ByteArray) (B : Option Addr) (m d : Nat) (b : Nat → ByteArray) (w : World) (hA : Sf w A n c a) (hB : Sf w B m d b) :
    Calls Tryz.prog 14 #[.slice A n c, .slice B m d] w (RetB w (linesB n m a b)) := by
  have a1 := hA.1
  have a2 := hA.2.1
  have b1 := hB.1
  have b2 := hB.2.1
  have HA := hid hA
  have HB := hid hB
  have BR := hid (bx_refl w)
  obtain ⟨r, hr⟩ : ∃ r, r = linesB n m a b := ⟨_, rfl⟩
  rw [← hr]
  have HRR := hid hr
  clear hA hB hr
  go_enter Tryz.func14, Tryz.ntmps14
  by_cases hnm : n = m
  · subst hnm
    have t1 : ((n : Int) != (n : Int)) = false := by simp
    go_wp2_with fail
    go_loopw [5] (fun i wr => ∃ j : Nat, j ≤ n ∧ i = .int .i64 j ∧ Hid ((∀ i, i < j → a i = b i) ∧ Below w.heap.size w wr)) (fun i _ => n - (intOf i).toNat)
    case atStart => exact ⟨0, Nat.zero_le _, rfl, hid ⟨fun i hi => absurd hi (by omega), BR.out⟩⟩
    case round =>
      clear BR
      obtain ⟨j, hj, rfl, hz⟩ := hrel
      rcases Nat.lt_or_ge j n with hlt | hge
      · obtain ⟨g, o, rfl, hg, hcell⟩ := HA.out.2.2 (by omega)
        obtain ⟨g', o', rfl, hg', hcell'⟩ := HB.out.2.2 (by omega)
        have x0 := cell_bx (hcell j hlt) hz.out.2
        have y0 := cell_bx (hcell' j hlt) hz.out.2
        obtain ⟨s, hs⟩ : ∃ s, s = a j := ⟨_, rfl⟩
        obtain ⟨t, ht⟩ : ∃ t, t = b j := ⟨_, rfl⟩
        rw [← hs] at x0
        rw [← ht] at y0
        have ES := hid hs
        have ET := hid ht
        clear hcell hcell' hs ht HA HB
        go_upto_region 6 with fail
        go_region_held3 (fun W => W.cell? ⟨g, o + j, none⟩ = some (.string s) ∧ W.cell? ⟨g', o' + j, none⟩ = some (.string t))
          (refine ⟨?_, ?_⟩ <;> repeat' (first | with_reducible assumption | with_reducible refine cell_dr ?_))
          (fail)
        clear x0 y0
        have B2 := hid (bx_drew hz.out.2)
        go_wp2_with fail
        · have hst : ¬s = t := str_ne (by assumption)
          have e : r = false := by
            rw [HRR.out]
            exact decide_eq_false (fun h => hst (by rw [ES.out, ET.out]; exact h.2 j hlt))
          go_ret
          rw [e]
          exact ⟨rfl, B2.out⟩
        · have hst : s = t := str_eq (by assumption)
          refine ⟨⟨j + 1, by omega, rfl, hid ⟨fun i hi => ?_, B2.out⟩⟩, by show n - ((j : Int) + 1).toNat < n - (j : Int).toNat; omega⟩
          rcases Nat.lt_or_ge i j with h1 | h1
          · exact hz.out.1 i h1
          · have : i = j := by omega
            rw [this, ← ES.out, ← ET.out, hst]
      · obtain rfl : n = j := by omega
        go_wp2_with fail
        go_ret
        have e : r = true := by
          rw [HRR.out]
          exact decide_eq_true ⟨rfl, hz.out.1⟩
        rw [e]
        exact ⟨rfl, hz.out.2⟩
  · have t1 : ((n : Int) != (m : Int)) = true := by
      simp
      omega
    go_wp2_with fail
    go_ret
    have e : r = false := by
      rw [HRR.out]
      exact decide_eq_false (fun h => hnm h.1)
    rw [e]
    exact ⟨rfl, BR.out⟩
end Go.Proofs.YtdbccidlnhjfhaaGreatDoor

namespace Go.Proofs.YtdbccidlnhjfhaaGreatDoor
open Go.RowKit
set_option maxRecDepth 100000
def exF (V R T : Nat) : PD := { V0 := some ⟨V, 0, none⟩, vn := 2, vc := 2, lo := fun i => if i = 0 then 0 else 1, up := fun i => if i = 0 then 3 else 0, op := fun i => if i = 0 then false else true, it := fun _ => false, co := fun i => if i = 0 then 2 else -1, R0 := some ⟨R, 0, none⟩, rn := 1, rc := 1, nm := fun _ => ⟨#[114]⟩, gr := fun _ => 4, ki := fun _ => 0, bo := fun _ => -2, TA := fun _ => some ⟨T, 0, none⟩, tn := fun _ => 2, tc := fun _ => 2, v := fun _ t => (t : Int), cf := fun _ t => if t = 0 then 1 else -2 }
def RetE4 (w : World) (e : Ending) (w' : World) : Prop := ∃ V R T, e = .returned (.agg #[.slice (some ⟨V, 0, none⟩) 2 2, .slice (some ⟨R, 0, none⟩) 1 1]) ∧ Pg w' (exF V R T) ∧ Below w.heap.size w w'
theorem exf_pg {w : World} {V R T tv tr tt : Nat} (k1 : Blk w V [.int .i64 0, .int .i64 3, .bool false, .bool false, .int .i64 2, .int .i64 1, .int .i64 0, .bool true, .bool false, .int .i64 (-1)] tv) (k2 : Blk w R [.string ⟨#[114]⟩, .int .i64 4, .int .i64 0, .slice (some ⟨T, 0, none⟩) 2 2, .int .i64 (-2)] tr) (k3 : Blk w T [.int .i64 0, .int .i64 1, .int .i64 1, .int .i64 (-2)] tt) : Pg w (exF V R T) := by
  refine ⟨⟨Nat.le_refl 2, by show (2 : Nat) ≤ _; omega, fun j hj => ?_, fun _ => ⟨V, 0, rfl, k1.lt, fun j hj => ?_⟩⟩, ⟨Nat.le_refl 1, by show (1 : Nat) ≤ _; omega, fun j hj => ⟨by show (-9223372036854775808 : Int) ≤ 0 ∧ (0 : Int) ≤ _; omega, by show (-9223372036854775808 : Int) ≤ -2 ∧ (-2 : Int) ≤ _; omega, by show (-9223372036854775808 : Int) ≤ 4 ∧ (4 : Int) ≤ _; omega, ?_⟩, fun _ => ⟨R, 0, rfl, k2.lt, fun j hj => ?_⟩⟩, fun j hj => by show (1 : Nat) ≤ _; omega, by show (2 : Nat) ≤ _; omega, by show (1 : Nat) ≤ _; omega, fun j hj => by show (2 : Nat) ≤ _; omega⟩
  · show (-9223372036854775808 ≤ (if j = 0 then (0 : Int) else 1) ∧ (if j = 0 then (0 : Int) else 1) ≤ _) ∧ (-9223372036854775808 ≤ (if j = 0 then (3 : Int) else 0) ∧ (if j = 0 then (3 : Int) else 0) ≤ _) ∧ -9223372036854775808 ≤ (if j = 0 then (2 : Int) else -1) ∧ (if j = 0 then (2 : Int) else -1) ≤ _
    split <;> omega
  · have hj : j < 2 := hj
    have : j = 0 ∨ j = 1 := by omega
    rcases this with rfl | rfl
    · exact ⟨k1.cell 0, k1.cell 1, k1.cell 2, k1.cell 3, k1.cell 4⟩
    · exact ⟨k1.cell 5, k1.cell 6, k1.cell 7, k1.cell 8, k1.cell 9⟩
  · refine ⟨Nat.le_refl 2, by show (2 : Nat) ≤ _; omega, fun t ht => ?_, fun _ => ⟨T, 0, rfl, k3.lt, fun t ht => ?_⟩⟩
    · have ht : t < 2 := ht
      show (-9223372036854775808 ≤ (t : Int) ∧ (t : Int) ≤ _) ∧ -9223372036854775808 ≤ (if t = 0 then (1 : Int) else -2) ∧ (if t = 0 then (1 : Int) else -2) ≤ _
      split <;> omega
    · have ht : t < 2 := ht
      have : t = 0 ∨ t = 1 := by omega
      rcases this with rfl | rfl
      · exact ⟨k3.cell 0, k3.cell 1⟩
      · exact ⟨k3.cell 2, k3.cell 3⟩
  · have hj : j < 1 := hj
    obtain rfl : j = 0 := by omega
    exact ⟨k2.cell 0, k2.cell 1, k2.cell 2, k2.cell 3, k2.cell 4⟩
theorem exf_text (V R T : Nat) : fmtL (exF V R T).okB 2 1 (vTx (exF V R T).lo (exF V R T).up (exF V R T).op (exF V R T).it (exF V R T).co) (rTx (exF V R T).nm (exF V R T).gr (exF V R T).ki (exF V R T).bo (exF V R T).tn (exF V R T).v (exF V R T).cf) = [[120, 48, 32, 105, 110, 32, 91, 48, 44, 32, 51, 93, 32, 114, 101, 97, 108, 32, 99, 111, 115, 116, 32, 50], [120, 49, 32, 105, 110, 32, 91, 49, 44, 32, 111, 112, 101, 110, 41, 32, 114, 101, 97, 108, 32, 99, 111, 115, 116, 32, 45, 49], [114, 32, 40, 52, 41, 58, 32, 120, 48, 32, 45, 32, 50, 32, 120, 49, 32, 60, 61, 32, 45, 50]] :=
  (show fmtL (exF 0 0 0).okB 2 1 (vTx (exF 0 0 0).lo (exF 0 0 0).up (exF 0 0 0).op (exF 0 0 0).it (exF 0 0 0).co) (rTx (exF 0 0 0).nm (exF 0 0 0).gr (exF 0 0 0).ki (exF 0 0 0).bo (exF 0 0 0).tn (exF 0 0 0).v (exF 0 0 0).cf) = [[120, 48, 32, 105, 110, 32, 91, 48, 44, 32, 51, 93, 32, 114, 101, 97, 108, 32, 99, 111, 115, 116, 32, 50], [120, 49, 32, 105, 110, 32, 91, 49, 44, 32, 111, 112, 101, 110, 41, 32, 114, 101, 97, 108, 32, 99, 111, 115, 116, 32, 45, 49], [114, 32, 40, 52, 41, 58, 32, 120, 48, 32, 45, 32, 50, 32, 120, 49, 32, 60, 61, 32, 45, 50]] by decide +kernel)
set_option maxHeartbeats 4000000 in
theorem d_ex4 (w : World) : Calls Tryz.prog 53 #[] w (RetE4 w) := by
  go_enter Tryz.func53, Tryz.ntmps53
  go_wp2_with fail
  have K1 := Blk.new (w.alloc (.cells #[.slice (some ⟨w.heap.size + 1, 0, none⟩) 2 2, .slice (some ⟨w.heap.size + 1 + 1 + 1, 0, none⟩) 1 1] 25)) [.int .i64 0, .int .i64 3, .bool false, .bool false, .int .i64 2, .int .i64 1, .int .i64 0, .bool true, .bool false, .int .i64 (-1)] 60
  obtain ⟨W1, h1⟩ : ∃ W, W = (w.alloc (.cells #[.slice (some ⟨w.heap.size + 1, 0, none⟩) 2 2, .slice (some ⟨w.heap.size + 1 + 1 + 1, 0, none⟩) 1 1] 25)).alloc (.cells #[.int .i64 0, .int .i64 3, .bool false, .bool false, .int .i64 2, .int .i64 1, .int .i64 0, .bool true, .bool false, .int .i64 (-1)] 60) := ⟨_, rfl⟩
  have B1 := bx_alloc (bx_alloc (bx_refl w) (.cells #[.slice (some ⟨w.heap.size + 1, 0, none⟩) 2 2, .slice (some ⟨w.heap.size + 1 + 1 + 1, 0, none⟩) 1 1] 25)) (.cells #[.int .i64 0, .int .i64 3, .bool false, .bool false, .int .i64 2, .int .i64 1, .int .i64 0, .bool true, .bool false, .int .i64 (-1)] 60)
  have s1 : W1.heap.size = w.heap.size + 1 + 1 := by rw [h1]; simp
  have s0 : (w.alloc (.cells #[.slice (some ⟨w.heap.size + 1, 0, none⟩) 2 2, .slice (some ⟨w.heap.size + 1 + 1 + 1, 0, none⟩) 1 1] 25)).heap.size = w.heap.size + 1 := by simp
  rw [s0] at K1
  change Blk ((w.alloc (.cells #[.slice (some ⟨w.heap.size + 1, 0, none⟩) 2 2, .slice (some ⟨w.heap.size + 1 + 1 + 1, 0, none⟩) 1 1] 25)).alloc (.cells #[.int .i64 0, .int .i64 3, .bool false, .bool false, .int .i64 2, .int .i64 1, .int .i64 0, .bool true, .bool false, .int .i64 (-1)] 60)) _ _ _ at K1
  rw [← h1] at B1 K1
  have K3 := Blk.new W1 [.int .i64 0, .int .i64 1, .int .i64 1, .int .i64 (-2)] 94
  have K2 := blk_new1 W1 (.cells #[.int .i64 0, .int .i64 1, .int .i64 1, .int .i64 (-2)] 94) [.string ⟨#[114]⟩, .int .i64 4, .int .i64 0, .slice (some ⟨w.heap.size + 1 + 1, 0, none⟩) 2 2, .int .i64 (-2)] 77
  rw [s1] at K3 K2
  have PG := hid (exf_pg ((K1.alloc _).alloc _) K2 (K3.alloc _))
  have K0 := Blk.new w [.slice (some ⟨w.heap.size + 1, 0, none⟩) 2 2, .slice (some ⟨w.heap.size + 1 + 1 + 1, 0, none⟩) 1 1] 25
  have K0 := K0.alloc (.cells #[.int .i64 0, .int .i64 3, .bool false, .bool false, .int .i64 2, .int .i64 1, .int .i64 0, .bool true, .bool false, .int .i64 (-1)] 60)
  change Blk ((w.alloc (.cells #[.slice (some ⟨w.heap.size + 1, 0, none⟩) 2 2, .slice (some ⟨w.heap.size + 1 + 1 + 1, 0, none⟩) 1 1] 25)).alloc (.cells #[.int .i64 0, .int .i64 3, .bool false, .bool false, .int .i64 2, .int .i64 1, .int .i64 0, .bool true, .bool false, .int .i64 (-1)] 60)) _ _ _ at K0
  rw [← h1] at K0
  obtain ⟨r0, r1⟩ := blk_two ((K0.alloc (.cells #[.int .i64 0, .int .i64 1, .int .i64 1, .int .i64 (-2)] 94)).alloc (.cells #[.string ⟨#[114]⟩, .int .i64 4, .int .i64 0, .slice (some ⟨w.heap.size + 1 + 1, 0, none⟩) 2 2, .int .i64 (-2)] 77))
  have BB := hid (bx_alloc (bx_alloc B1 (.cells #[.int .i64 0, .int .i64 1, .int .i64 1, .int .i64 (-2)] 94)) (.cells #[.string ⟨#[114]⟩, .int .i64 4, .int .i64 0, .slice (some ⟨w.heap.size + 1 + 1, 0, none⟩) 2 2, .int .i64 (-2)] 77))
  clear K0 K1 K2 K3 B1 s0 s1
  rw [← h1]
  clear h1
  exact bodyPost_ret (v := .agg #[.slice (some ⟨w.heap.size + 1, 0, none⟩) 2 2, .slice (some ⟨w.heap.size + 1 + 1 + 1, 0, none⟩) 1 1]) (by simp [results, Tryz.results53, go_sem, r0, r1]) rfl ⟨_, _, _, rfl, PG.out, BB.out⟩
theorem ints_01 (W : World) (b : Nat) (K : Blk W b [.int .i64 0, .int .i64 1] 2) : Calls Tryz.prog 54 #[.slice (some ⟨b, 0, none⟩) 2 2] W (RetQs W 2 2 (fun i => (((i : Nat) : Int) : Rat))) :=
  rints _ 2 2 (fun i => ((i : Nat) : Int)) _ ⟨Nat.le_refl _, by omega, fun _ => ⟨b, 0, rfl, K.lt, fun j hj => by
    rw [K.cell, Nat.zero_add]
    have : j = 0 ∨ j = 1 := by omega
    rcases this with rfl | rfl <;> rfl⟩⟩ (fun j hj => by show -9223372036854775808 ≤ ((j : Nat) : Int) ∧ ((j : Nat) : Int) ≤ _; omega) (by omega)
end Go.Proofs.YtdbccidlnhjfhaaGreatDoor

namespace Go.Proofs.YtdbccidlnhjfhaaGreatDoor
open Go.RowKit
set_option maxRecDepth 100000
theorem txs_inj : ∀ {l m : List ByteArray}, txs l = txs m → l = m
  | [], [], _ => rfl
  | [], _ :: _, h => by simp [txs] at h
  | _ :: _, [], h => by simp [txs] at h
  | a :: l, b :: m, h => by
    simp only [txs, List.map_cons, List.cons.injEq] at h
    rw [txs_inj (l := l) (m := m) h.2, ByteArray.ext (Array.toList_inj.1 h.1)]
theorem sf_of {w W : World} {B : Nat} {v : Value} {l : List ByteArray} (h : SlP w B v l W) : ∃ A c, v = .slice A l.length c ∧ Sf W A l.length c (fun j => l.getD j ⟨#[]⟩) := by
  obtain ⟨A, c, e, hc, hA⟩ := h.form
  have hc2 : c ≤ 9223372036854775807 := by
    rcases h.own.2 with ⟨h1, h0⟩ | ⟨g, cap, cur, h1, hb, hg, hn, hx, hcs, hcur⟩
    · rw [e] at h1
      simp only [Value.slice.injEq] at h1
      omega
    · rw [e] at h1
      simp only [Value.slice.injEq] at h1
      unfold maxLen at hx
      omega
  refine ⟨A, c, e, hc, hc2, fun hn => ?_⟩
  obtain ⟨g, e2, hg, hcell⟩ := hA hn
  refine ⟨g, 0, e2, hg, fun j hj => hcell j _ ?_⟩
  show l[j]? = some (l.getD j ⟨#[]⟩)
  rw [List.getD_eq_getElem?_getD, List.getElem?_eq_getElem hj]
  rfl
theorem lines_true {l m : List ByteArray} (h : txs l = txs m) : linesB l.length m.length (fun j => l.getD j ⟨#[]⟩) (fun j => m.getD j ⟨#[]⟩) = true := by
  rw [txs_inj h]
  exact decide_eq_true ⟨rfl, fun _ _ => rfl⟩
def x4 (i : Nat) : Rat := (((i : Nat) : Int) : Rat)
theorem exf_ok (V R T : Nat) : (exF V R T).okB = true := (show (exF 0 0 0).okB = true by decide +kernel)
theorem exf_vio (V R T : Nat) : vio ((exF V R T).rowB (pt 2 x4)) 1 = [] := (show vio ((exF 0 0 0).rowB (pt 2 x4)) 1 = [] by decide +kernel)
theorem exf_in (V R T : Nat) : (exF V R T).inB (pt 2 x4) = true := (show (exF 0 0 0).inB (pt 2 x4) = true by decide +kernel)
theorem exf_dot (V R T : Nat) : sumN (fun j => ((exF V R T).cf 0 j : Rat) * atQ 2 x4 ((exF V R T).v 0 j)) 2 = ((-2 : Int) : Rat) := (show sumN (fun j => ((exF 0 0 0).cf 0 j : Rat) * atQ 2 x4 ((exF 0 0 0).v 0 j)) 2 = ((-2 : Int) : Rat) by decide +kernel)
def strsF : List ByteArray := [⟨#[120, 48, 32, 105, 110, 32, 91, 48, 44, 32, 51, 93, 32, 114, 101, 97, 108, 32, 99, 111, 115, 116, 32, 50]⟩, ⟨#[120, 49, 32, 105, 110, 32, 91, 49, 44, 32, 111, 112, 101, 110, 41, 32, 114, 101, 97, 108, 32, 99, 111, 115, 116, 32, 45, 49]⟩, ⟨#[114, 32, 40, 52, 41, 58, 32, 120, 48, 32, 45, 32, 50, 32, 120, 49, 32, 60, 61, 32, 45, 50]⟩]
theorem lines_ex {W : World} {A : Option Addr} {c g : Nat} {l : List ByteArray} (h : Sf W A 3 c (fun j => l.getD j ⟨#[]⟩)) (K : Blk W g [.string ⟨#[120, 48, 32, 105, 110, 32, 91, 48, 44, 32, 51, 93, 32, 114, 101, 97, 108, 32, 99, 111, 115, 116, 32, 50]⟩, .string ⟨#[120, 49, 32, 105, 110, 32, 91, 49, 44, 32, 111, 112, 101, 110, 41, 32, 114, 101, 97, 108, 32, 99, 111, 115, 116, 32, 45, 49]⟩, .string ⟨#[114, 32, 40, 52, 41, 58, 32, 120, 48, 32, 45, 32, 50, 32, 120, 49, 32, 60, 61, 32, 45, 50]⟩] 9) (hl : l.length = 3) (hx : txs l = txs strsF) : Calls Tryz.prog 14 #[.slice A 3 c, .slice (some ⟨g, 0, none⟩) 3 3] W (RetB W true) := by
  have t := l_lines A 3 c (fun j => l.getD j ⟨#[]⟩) (some ⟨g, 0, none⟩) 3 3 (fun j => strsF.getD j ⟨#[]⟩) W h ⟨Nat.le_refl _, by omega, fun _ => ⟨g, 0, rfl, K.lt, fun j hj => by
    rw [K.cell, Nat.zero_add]
    have : j = 0 ∨ j = 1 ∨ j = 2 := by omega
    rcases this with rfl | rfl | rfl <;> rfl⟩⟩
  have e := lines_true hx
  rw [hl] at e
  rw [show linesB 3 3 (fun j => l.getD j ⟨#[]⟩) (fun j => strsF.getD j ⟨#[]⟩) = true from e] at t
  exact t
structure A4 (w : World) (V R T pb : Nat) (AX : Option Addr) (cX : Nat) (W : World) : Prop where
  bel : Below w.heap.size w W
  pg : Pg W (exF V R T)
  box : Blk W pb [.slice (some ⟨V, 0, none⟩) 2 2, .slice (some ⟨R, 0, none⟩) 1 1] 25
  qx : Qs W AX 2 cX 2 x4
  tab : Tab W
theorem A4.keep {w W W' : World} {V R T pb : Nat} {AX : Option Addr} {cX : Nat} (h : A4 w V R T pb AX cX W) (b : Below W.heap.size W W') : A4 w V R T pb AX cX W' := ⟨bx_call h.bel b, h.pg.keep b, h.box.keep b, h.qx.keep b, h.tab.keep b⟩
section
variable {w W : World} {V R T pb : Nat} {AX : Option Addr} {cX : Nat}
theorem A4.valid (h : A4 w V R T pb AX cX W) : Calls Tryz.prog 12 #[.agg #[.slice (some ⟨V, 0, none⟩) 2 2, .slice (some ⟨R, 0, none⟩) 1 1]] W (RetB W true) := by
  have t := d_valid (h := h.pg)
  rw [exf_ok] at t
  exact t
theorem A4.viol (h : A4 w V R T pb AX cX W) : Calls Tryz.prog 24 #[.agg #[.slice (some ⟨V, 0, none⟩) 2 2, .slice (some ⟨R, 0, none⟩) 1 1], .slice AX 2 cX] W (fun e w' => ∃ A c, e = .returned (.slice A 0 c) ∧ Below W.heap.size W w') := by
  refine (d_violated (h := h.pg) (hQ := h.qx) (hk := by omega)).mono ?_
  rintro e w' ⟨A, c, he, _, b⟩
  rw [show vio ((exF V R T).rowB (pt 2 x4)) (exF V R T).rn = [] from exf_vio V R T] at he
  exact ⟨A, c, he, b⟩
theorem A4.ins (h : A4 w V R T pb AX cX W) : Calls Tryz.prog 26 #[.agg #[.slice (some ⟨V, 0, none⟩) 2 2, .slice (some ⟨R, 0, none⟩) 1 1], .slice AX 2 cX] W (RetB W true) := by
  have t := d_inside (h := h.pg) (hQ := h.qx) (hk := by omega)
  rw [exf_in] at t
  exact t
theorem A4.dot (h : A4 w V R T pb AX cX W) {q : Rat} (hq : q = ((-2 : Int) : Rat)) : Calls Tryz.prog 19 #[.slice (some ⟨T, 0, none⟩) 2 2, .slice AX 2 cX] W (RetQ W q 11) := by
  have t := vdotL (some ⟨T, 0, none⟩) 2 2 ((exF V R T).v 0) ((exF V R T).cf 0) AX 2 cX 2 x4 W (h.pg.rs.2.2.1 0 (by show 0 < 1; omega)).2.2.2 h.qx (by omega)
  rw [exf_dot, ← hq] at t
  exact t.mono fun e w' r => r.q
theorem from_2 {q : Rat} (h : q = ((-2 : Int) : Rat)) (W : World) : Calls Tryz.prog 43 #[.int .i64 (-2)] W (RetQ W q 2) := by
  rw [h]
  exact vrfrom (-2) W (by omega) (by omega)
theorem A4.fmt (h : A4 w V R T pb AX cX W) : Calls Tryz.prog 15 #[.agg #[.slice (some ⟨V, 0, none⟩) 2 2, .slice (some ⟨R, 0, none⟩) 1 1]] W (fun e w' => ∃ A c l, e = .returned (.slice A 3 c) ∧ Sf w' A 3 c (fun j => l.getD j ⟨#[]⟩) ∧ l.length = 3 ∧ txs l = txs strsF ∧ Below W.heap.size W w') := by
  have t := f_format (some ⟨V, 0, none⟩) 2 2 (some ⟨R, 0, none⟩) 1 1 (exF V R T).lo (exF V R T).up (exF V R T).op (exF V R T).it (exF V R T).co (exF V R T).nm (exF V R T).gr (exF V R T).ki (exF V R T).bo (exF V R T).TA (exF V R T).tn (exF V R T).tc (exF V R T).v (exF V R T).cf W h.pg.vs h.pg.rs (fun j hj => by show (1 : Nat) ≤ _; omega) (by omega) (by omega) (fun j hj => by show (2 : Nat) ≤ _; omega) h.tab
  refine t.mono ?_
  rintro e w' ⟨u, B, rfl, hl⟩
  obtain ⟨l, S, e2⟩ := hl.ex
  obtain ⟨A, c, rfl, hs⟩ := sf_of S
  have e3 : txs l = txs strsF := e2.trans (exf_text V R T)
  have e4 : l.length = 3 := by rw [txs_inj e3]; rfl
  rw [e4] at hs
  exact ⟨A, c, l, by rw [e4], hs, e4, e3, S.bel⟩
theorem A4.row (h : A4 w V R T pb AX cX W) : W.cell? ⟨R, 3, none⟩ = some (.slice (some ⟨T, 0, none⟩) 2 2) := by
  obtain ⟨b, o, e, _, hc⟩ := h.pg.rs.2.2.2 (by show 0 < 1; omega)
  have e2 : (some (⟨R, 0, none⟩ : Addr)) = some ⟨b, o, none⟩ := e
  simp only [Option.some.injEq, Addr.mk.injEq, and_true] at e2
  obtain ⟨rfl, rfl⟩ := e2
  exact (hc 0 (by show 0 < 1; omega)).2.2.2.1
theorem A4.same {A : Option Addr} {n c : Nat} {D : Option Addr} {m d k : Nat} {B : Option Addr} {n2 c2 : Nat} {E : Option Addr} {m2 d2 k2 : Nat} {p q : Rat} {w : World} (h : FrL w A n c D m d k p) (h2 : FrL w B n2 c2 E m2 d2 k2 q) (e : p = q) :
    Calls Tryz.prog 18 #[.agg #[.bool (sg p.num), .slice A n c, .slice D m d], .agg #[.bool (sg q.num), .slice B n2 c2, .slice E m2 d2]] w (RetB w true) := by
  have t := vsame h h2
  rw [decide_eq_true e] at t
  exact t
end
set_option maxHeartbeats 8000000 in
theorem awk4 (w : World) (ht : Tab w) : Calls Tryz.prog 10 #[] w (RetB w true) := by
  have TB := hid ht
  clear ht
  go_enter Tryz.func10, Tryz.ntmps10
  go_wp2_with fail
  refine (d_ex4 w).mono ?_
  rintro e w1 ⟨V, R, T, rfl, pg, b1⟩
  obtain ⟨W1, hW1⟩ : ∃ W, W = w1.alloc (.cells #[.slice (some ⟨V, 0, none⟩) 2 2, .slice (some ⟨R, 0, none⟩) 1 1] 25) := ⟨_, rfl⟩
  have bw1 := bx_alloc (bx_refl w1) (.cells #[.slice (some ⟨V, 0, none⟩) 2 2, .slice (some ⟨R, 0, none⟩) 1 1] 25)
  have kb := Blk.new w1 [.slice (some ⟨V, 0, none⟩) 2 2, .slice (some ⟨R, 0, none⟩) 1 1] 25
  change Blk (w1.alloc (.cells #[.slice (some ⟨V, 0, none⟩) 2 2, .slice (some ⟨R, 0, none⟩) 1 1] 25)) _ _ _ at kb
  obtain ⟨pb, hpb⟩ : ∃ p, p = w1.heap.size := ⟨_, rfl⟩
  rw [← hpb] at kb
  rw [← hW1] at bw1 kb
  have P1 := hid (pg.keep bw1)
  have BB1 := hid (bx_call b1 bw1)
  have KB := hid kb
  clear pg b1 bw1 kb
  go_upto_region 2 with fail
  rw [← hW1, ← hpb]
  clear hW1 hpb
  have ba := bx_alloc (bx_refl W1) (.cells #[.int .i64 0, .int .i64 1] 2)
  have kn := Blk.new W1 [.int .i64 0, .int .i64 1] 2
  go_wp2_with fail
  refine (ints_01 _ _ kn).mono ?_
  rintro e W3 ⟨AX, cX, rfl, qx, b⟩
  have A3 := hid (show A4 w V R T pb AX cX W3 from ⟨bx_call BB1.out (bx_call ba b), P1.out.keep (bx_call ba b), KB.out.keep (bx_call ba b), qx, TB.out.keep (bx_call BB1.out (bx_call ba b))⟩)
  clear P1 BB1 KB qx b ba kn TB
  obtain ⟨z0, z1⟩ := blk_two A3.out.box
  go_wp2_with fail
  refine (A3.out.valid).mono ?_
  rintro e W4 ⟨rfl, b⟩
  have A4 := hid (A3.out.keep b)
  clear A3 b z0 z1
  obtain ⟨z0, z1⟩ := blk_two A4.out.box
  go_wp2_with fail
  refine (A4.out.viol).mono ?_
  rintro e W5 ⟨Av, cv, rfl, b⟩
  have A5 := hid (A4.out.keep b)
  clear A4 b z0 z1
  obtain ⟨z0, z1⟩ := blk_two A5.out.box
  go_wp2_with fail
  refine (A5.out.ins).mono ?_
  rintro e W6 ⟨rfl, b⟩
  have A6 := hid (A5.out.keep b)
  clear A5 b z0 z1
  obtain ⟨z0, z1⟩ := blk_two A6.out.box
  have z2 := A6.out.row
  go_wp2_with fail
  obtain ⟨q, hq⟩ : ∃ q : Rat, q = ((-2 : Int) : Rat) := ⟨_, rfl⟩
  obtain ⟨p, hp⟩ : ∃ q : Rat, q = ((-2 : Int) : Rat) := ⟨_, rfl⟩
  have HQ := hid hq
  have HP := hid hp
  clear hq hp
  refine (A6.out.dot HQ.out).mono ?_
  rintro e W7 ⟨A1, n1, c1, D1, m1, d1, rfl, r1, b⟩
  have A7 := hid (A6.out.keep b)
  have R1 := hid r1
  clear A6 b z0 z1 z2 r1
  go_wp2_with fail
  refine (from_2 HP.out W7).mono ?_
  rintro e W8 ⟨A2, n2, c2, D2, m2, d2, rfl, r2, b⟩
  have A8 := hid (A7.out.keep b)
  have R8 := hid (R1.out.keep b)
  have R2 := hid r2
  clear A7 b R1 r2
  go_wp2_with fail
  refine (A4.same R8.out R2.out (HQ.out.trans HP.out.symm)).mono ?_
  rintro e W9 ⟨rfl, b⟩
  have A9 := hid (A8.out.keep b)
  clear A8 b R8 R2
  obtain ⟨z0, z1⟩ := blk_two A9.out.box
  go_wp2_with fail
  refine (A9.out.fmt).mono ?_
  rintro e W10 ⟨Af, cf, l, rfl, sf, hl, hx, b⟩
  have A10 := hid (A9.out.keep b)
  have SF := hid sf
  have HL := hid hl
  have HX := hid hx
  clear A9 b z0 z1 sf hl hx
  have ba := bx_alloc (bx_refl W10) (.cells #[.string ⟨#[120, 48, 32, 105, 110, 32, 91, 48, 44, 32, 51, 93, 32, 114, 101, 97, 108, 32, 99, 111, 115, 116, 32, 50]⟩, .string ⟨#[120, 49, 32, 105, 110, 32, 91, 49, 44, 32, 111, 112, 101, 110, 41, 32, 114, 101, 97, 108, 32, 99, 111, 115, 116, 32, 45, 49]⟩, .string ⟨#[114, 32, 40, 52, 41, 58, 32, 120, 48, 32, 45, 32, 50, 32, 120, 49, 32, 60, 61, 32, 45, 50]⟩] 9)
  have KN := Blk.new W10 [.string ⟨#[120, 48, 32, 105, 110, 32, 91, 48, 44, 32, 51, 93, 32, 114, 101, 97, 108, 32, 99, 111, 115, 116, 32, 50]⟩, .string ⟨#[120, 49, 32, 105, 110, 32, 91, 49, 44, 32, 111, 112, 101, 110, 41, 32, 114, 101, 97, 108, 32, 99, 111, 115, 116, 32, 45, 49]⟩, .string ⟨#[114, 32, 40, 52, 41, 58, 32, 120, 48, 32, 45, 32, 50, 32, 120, 49, 32, 60, 61, 32, 45, 50]⟩] 9
  have CL := hid (lines_ex (SF.out.keep ba) KN HL.out HX.out)
  have BF := hid (bx_call A10.out.bel ba)
  clear A10 SF HL HX ba KN
  go_wp2_with fail
  refine (CL.out).mono ?_
  rintro e W11 ⟨rfl, b⟩
  have BG := hid (bx_call BF.out b)
  clear CL BF b
  go_wp2_with fail
  go_ret
  exact ⟨rfl, BG.out⟩
end Go.Proofs.YtdbccidlnhjfhaaGreatDoor
