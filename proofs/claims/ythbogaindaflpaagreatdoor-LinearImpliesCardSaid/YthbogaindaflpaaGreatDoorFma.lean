/- The texts of numbers and of names of variables, by the contracts of the library. -/
import Derived.Test.YthbogaindaflpaaGreatDoorTxt
import Derived.Test.YthbogaindaflpaaGreatDoorExt
import Derived.Test.YthbogaindaflpaaGreatDoorShf
import Derived.Lib.AppendIntMem
import Derived.Lib.ItoaLen
import Derived.Deep.DeepCutAuto
import Derived.BigQuiet
namespace Go.Proofs.YthbogaindaflpaaGreatDoor
open Go.RowKit

/-- The table of powers of ten lies as it was laid. -/
def Tab (w : World) : Prop := Lib.TabIs Tryz.prog w "internal/strconv.uint64pow10" .u64 Lib.pow10Tab
theorem Tab.keep {w w' : World} (h : Tab w) (b : Below w.heap.size w w') : Tab w' := by
  unfold Tab Lib.TabIs World.var? at h ⊢
  rcases hg : Tryz.prog.globalNamed "internal/strconv.uint64pow10" with _ | g
  · rw [hg] at h
    cases h
  · rw [hg] at h
    simp only [Option.bind_some] at h ⊢
    have hlt : g < w.heap.size := by
      rcases Nat.lt_or_ge g w.heap.size with h' | h'
      · exact h'
      · rw [Array.getElem?_eq_none h'] at h
        cases h
    rw [b.block g hlt]
    exact h
theorem blk_fif {w : World} {b t : Nat} {x y z u s : Value} (h : Blk w b [x, y, z, u, s] t) : w.cell? ⟨b, 0, none⟩ = some x ∧ w.cell? ⟨b, 1, none⟩ = some y ∧ w.cell? ⟨b, 2, none⟩ = some z ∧ w.cell? ⟨b, 3, none⟩ = some u ∧ w.cell? ⟨b, 4, none⟩ = some s := ⟨Blk.cell h 0, Blk.cell h 1, Blk.cell h 2, Blk.cell h 3, Blk.cell h 4⟩
/-- The call returns a string with these bytes, of moderate length. -/
def RetTx (w : World) (l : List UInt8) (e : Ending) (w' : World) : Prop := ∃ s : ByteArray, e = .returned (.string s) ∧ s.data.toList = l ∧ Below w.heap.size w w'
theorem f_decimal (n : Int) (w : World) (h0 : -9223372036854775808 ≤ n) (h1 : n ≤ 9223372036854775807) (ht : Tab w) : Calls Tryz.prog 100 #[.int .i64 n] w (RetTx w (Lib.itoa n)) := by
  have C := hid (Tryz.strconv_FormatInt_10 n h0 h1 w ht)
  clear ht h0 h1
  go_enter Tryz.func100, Tryz.ntmps100
  go_wp2_with fail
  refine (C.out).mono ?_
  rintro e w' ⟨rfl, k, os, rfl⟩
  have B := hid (Lib.below_grow w.heap.size w (Nat.le_refl _) k os)
  clear C
  obtain ⟨W, hW⟩ : ∃ W, W = Sort.grow (w.drewN k) os := ⟨_, rfl⟩
  rw [← hW] at B ⊢
  clear hW
  go_wp2_with fail
  go_ret
  exact ⟨_, rfl, rfl, B.out⟩
theorem f_name (n : Int) (w : World) (h0 : -9223372036854775808 ≤ n) (h1 : n ≤ 9223372036854775807) (ht : Tab w) : Calls Tryz.prog 101 #[.int .i64 n] w (RetTx w (120 :: Lib.itoa n)) := by
  have hl := Lib.itoa_length_le n h0 h1
  have C := hid (Tryz.strconv_Itoa n h0 h1 w ht)
  obtain ⟨s, hs⟩ : ∃ s : ByteArray, s = ⟨(Lib.itoa n).toArray⟩ := ⟨_, rfl⟩
  have hz : s.size ≤ 21 := by
    rw [hs]
    show (Lib.itoa n).toArray.size ≤ 21
    simpa using hl
  have HS := hid (show s.data.toList = Lib.itoa n by rw [hs])
  rw [← hs] at C
  clear ht h0 h1 hl hs
  go_enter Tryz.func101, Tryz.ntmps101
  go_wp2_with fail
  refine (C.out).mono ?_
  rintro e w' ⟨rfl, k, os, rfl⟩
  have B := hid (Lib.below_grow w.heap.size w (Nat.le_refl _) k os)
  clear C
  obtain ⟨W, hW⟩ : ∃ W, W = Sort.grow (w.drewN k) os := ⟨_, rfl⟩
  rw [← hW] at B ⊢
  clear hW
  go_wp2_with fail
  go_ret
  exact ⟨_, rfl, by rw [← HS.out]; rfl, B.out⟩

end Go.Proofs.YthbogaindaflpaaGreatDoor
