/- Slices of bytes in memory; the contract of reverse of package natural. -/
import Derived.Test.YthbogaindaflpaaGreatDoorDivA
import Derived.Test.YthbogaindaflpaaGreatDoorApp
import Derived.Test.YthbogaindaflpaaGreatDoorDec
import Derived.Laws.IdiomStrings
import Derived.Deep.LoopGhost
namespace Go.Proofs.YthbogaindaflpaaGreatDoor
open Go.RowKit

def bc (b : UInt8) : Value := .int .u8 (b.toNat : Int)
/-- The slice (A, n, c) reads as the bytes l. -/
def BRd (w : World) (A : Option Addr) (n c : Nat) (l : List UInt8) : Prop :=
  l.length = n ∧ n ≤ c ∧ c ≤ 9223372036854775807 ∧ (0 < n → ∃ b o, A = some ⟨b, o, none⟩ ∧ b < w.heap.size ∧ ∀ j, j < n → w.cell? ⟨b, o + j, none⟩ = some (bc (l.getD j 0)))
theorem BRd.keep {w w' : World} {A : Option Addr} {n c : Nat} {l : List UInt8} (h : BRd w A n c l) (hb : Below w.heap.size w w') : BRd w' A n c l := by
  obtain ⟨h1, h2, h3, h5⟩ := h
  refine ⟨h1, h2, h3, fun hn => ?_⟩
  obtain ⟨b, o, hA, hlt, hc⟩ := h5 hn
  exact ⟨b, o, hA, Nat.lt_of_lt_of_le hlt hb.size, fun j hj => (hb.cell (p := ⟨b, o + j, none⟩) hlt).trans (hc j hj)⟩
theorem BRd.cut {w : World} {A : Option Addr} {n c k c' : Nat} {l : List UInt8} (h : BRd w A n c l) (hk : k ≤ n) (hkc : k ≤ c') (hc' : c' ≤ 9223372036854775807) : BRd w A k c' (l.take k) := by
  obtain ⟨h1, h2, h3, h5⟩ := h
  refine ⟨by simp; omega, hkc, hc', fun hn => ?_⟩
  obtain ⟨b, o, hA, hlt, hc⟩ := h5 (by omega)
  refine ⟨b, o, hA, hlt, fun j hj => ?_⟩
  rw [hc j (by omega)]
  have e : (l.take k).getD j 0 = l.getD j 0 := by
    rw [List.getD_eq_getElem?_getD, List.getD_eq_getElem?_getD, List.getElem?_take, if_pos hj]
  rw [e]
theorem brd_cell {w : World} {A : Option Addr} {n c : Nat} {l : List UInt8} (h : BRd w A n c l) {k : Nat} (hk : k < n) : ∃ b o, A = some ⟨b, o, none⟩ ∧ w.cell? ⟨b, o + k, none⟩ = some (bc (l.getD k 0)) := by
  obtain ⟨b, o, hA, _, hc⟩ := h.2.2.2 (by omega)
  exact ⟨b, o, hA, hc k hk⟩
/-- A row of bytes of the call's own that grows. -/
def BGrow (base : Nat) (w : World) (v : Value) (l : List UInt8) (wr : World) : Prop := wr.ownsRow base 5 1 v l.length (l.map bc) ∧ Below base w wr ∧ base ≤ w.heap.size
theorem own_brd {base : Nat} {wr : World} {v : Value} {l : List UInt8} (h : wr.ownsRow base 5 1 v l.length (l.map bc)) : ∃ A c, v = .slice A l.length c ∧ BRd wr A l.length c l := by
  rcases h.2 with ⟨rfl, h0⟩ | ⟨g, cap, cur, rfl, hb, hh, hn, hc, hcs, hcur⟩
  · rw [h0]
    exact ⟨_, _, rfl, h0, Nat.le_refl _, by omega, fun h => absurd h (by omega)⟩
  · refine ⟨_, _, rfl, rfl, hn, by unfold maxLen at hc; exact hc, fun hp => ⟨g, 0, rfl, ?_, fun j hj => ?_⟩⟩
    · rcases Nat.lt_or_ge g wr.heap.size with h1 | h1
      · exact h1
      · rw [Array.getElem?_eq_none h1] at hh; cases hh
    · have h2 := h.cells (g := g) rfl j (bc (l.getD j 0)) (by simp [List.getD, List.getElem?_eq_getElem hj])
      have e : (⟨g, 0, none⟩ : Addr).add j = ⟨g, 0 + j, none⟩ := by unfold Addr.add; split <;> simp_all
      rw [e] at h2
      exact h2
theorem bgrow_brd {base : Nat} {w wr : World} {v : Value} {l : List UInt8} (h : BGrow base w v l wr) : ∃ A c, v = .slice A l.length c ∧ BRd wr A l.length c l := own_brd h.1
theorem bgrow_next {base : Nat} {w wr w' : World} {v v' : Value} {l : List UInt8} {b : UInt8} {o : Obj} (h : BGrow base w v l wr) (h1 : w'.ownsRow base 5 1 v' (l.length + 1) (l.map bc ++ [bc b])) (h2 : (wr.alloc o).grownBy w' v.ownBlock) : BGrow base w v' (l ++ [b]) w' := by
  refine ⟨?_, ?_, h.2.2⟩
  · rw [List.map_append, List.length_append]
    exact h1
  · have hs := h.2.1.size
    have := h.2.2
    exact (h.2.1.alloc (by omega) o).grown h2 (by simp; omega) (fun k hk => (h.1.lt k hk).1)
theorem bgrow_alloc {base : Nat} {w wr : World} {v : Value} {l : List UInt8} (h : BGrow base w v l wr) (o : Obj) : (wr.alloc o).ownsRow base 5 1 v l.length (l.map bc) := h.1.alloc o
theorem Tryz.infoU8 : ∃ i, Tryz.prog.info? 5 = some i ∧ i.zero = some (.int .u8 0) ∧ i.size = 1 ∧ i.bytes = 1 := info_parts (by kernel_rfl)
theorem one_byte (w : World) (b : UInt8) (z : Int) (hz : z = (b.toNat : Int)) : ∀ j u, ([bc b])[j]? = some u → (w.alloc (.cells #[.int .u8 z] 5)).cell? ((⟨w.heap.size, 0, none⟩ : Addr).add j) = some u := by
  subst hz
  intro j u hu
  rcases j with _ | j
  · have h := Blk.cell (Blk.new w [bc b] 5) 0
    simp at hu
    subst hu
    exact h
  · simp at hu
theorem bc_one (b : UInt8) : ∀ u ∈ [bc b], u.oneCell' = true := by
  intro u hu
  rw [List.mem_singleton] at hu
  subst hu
  rfl
theorem run_make_bytes (n : Nat) (h : n ≤ 35184372088832) (W : World) :
    (Instr.makeSlice 151 (.int .i64 0) (.int .i64 (n : Int))).run Tryz.prog W = .ok (.slice (some ⟨W.heap.size, 0, none⟩) 0 n) (W.alloc (.cells (madeCells #[.int .u8 0] n) 5)) := by
  obtain ⟨i, hi, hz, hs, hb⟩ := Tryz.infoU8
  have := run_make (P := Tryz.prog) W 151 5 i (.int .u8 0) Tryz.underlying151 hi hz .i64 .i64 0 (n : Int) (by omega) (by omega) (by rw [hb]; omega) (by omega)
  rw [this]
  simp [hs, Value.cells]
theorem own_made (w : World) (n : Nat) (hn : n ≤ 35184372088832) : (w.alloc (.cells (madeCells #[.int .u8 0] n) 5)).ownsRow w.heap.size 5 1 (.slice (some ⟨w.heap.size, 0, none⟩) 0 n) 0 [] :=
  ⟨by simp, .inr ⟨w.heap.size, n, _, rfl, Nat.le_refl _, heap_alloc_new w _, by omega, by unfold maxLen; omega, by simp [size_madeCells], by simp⟩⟩

/-- The call returns a slice that reads as the bytes l. -/
def RetBytes (w : World) (l : List UInt8) (e : Ending) (w' : World) : Prop := ∃ A n c, e = .returned (.slice A n c) ∧ BRd w' A n c l ∧ Below w.heap.size w w'

theorem take_rev {l : List UInt8} {q : Nat} (hq : q < l.length) : (l.drop (q + 1)).reverse ++ [l.getD q 0] = (l.drop q).reverse := by
  have e : l.getD q 0 = l[q] := by simp [List.getD, List.getElem?_eq_getElem hq]
  rw [List.drop_eq_getElem_cons hq, List.reverse_cons, e]

end Go.Proofs.YthbogaindaflpaaGreatDoor
