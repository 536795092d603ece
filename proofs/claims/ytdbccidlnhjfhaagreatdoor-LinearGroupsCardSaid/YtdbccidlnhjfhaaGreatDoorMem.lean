/- Slices of digits in memory. -/
import Derived.Test.YtdbccidlnhjfhaaGreatDoorRows
import Derived.Test.YtdbccidlnhjfhaaGreatDoorDig
import Derived.WalkKit
import Derived.WalkSpells
import Derived.WalkLawsBesides
namespace Go.Proofs.YtdbccidlnhjfhaaGreatDoor
open Go.RowKit
def Rd (w : World) (A : Option Addr) (n c : Nat) (xs : List Nat) : Prop :=
  xs.length = n ∧ n ≤ c ∧ c ≤ 9223372036854775807 ∧ Digs xs ∧ (0 < n → ∃ b o, A = some ⟨b, o, none⟩ ∧ b < w.heap.size ∧ ∀ j, j < n → w.cell? ⟨b, o + j, none⟩ = some (.int .u32 (xs.getD j 0)))
def Dig (w : World) (v : Value) (xs : List Nat) : Prop := ∃ A n c, v = .slice A n c ∧ Rd w A n c xs
theorem Rd.keep {w w' : World} {A : Option Addr} {n c : Nat} {xs : List Nat} (h : Rd w A n c xs) (hb : Below w.heap.size w w') : Rd w' A n c xs := by
  obtain ⟨h1, h2, h3, h4, h5⟩ := h
  refine ⟨h1, h2, h3, h4, fun hn => ?_⟩
  obtain ⟨b, o, hA, hlt, hc⟩ := h5 hn
  exact ⟨b, o, hA, Nat.lt_of_lt_of_le hlt hb.size, fun j hj => (hb.cell (p := ⟨b, o + j, none⟩) hlt).trans (hc j hj)⟩
theorem Dig.keep {w w' : World} {v : Value} {xs : List Nat} (h : Dig w v xs) (hb : Below w.heap.size w w') : Dig w' v xs := by
  obtain ⟨A, n, c, rfl, h⟩ := h
  exact ⟨A, n, c, rfl, h.keep hb⟩
theorem Rd.nil (w : World) (A : Option Addr) : Rd w A 0 0 [] := ⟨rfl, by omega, by omega, Digs.nil, fun h => absurd h (by omega)⟩
theorem Dig.nil (w : World) : Dig w (.slice none 0 0) [] := ⟨none, 0, 0, rfl, Rd.nil w none⟩
theorem Rd.cut {w : World} {A : Option Addr} {n c k c' : Nat} {xs : List Nat} (h : Rd w A n c xs) (hk : k ≤ n) (hkc : k ≤ c') (hc' : c' ≤ 9223372036854775807) : Rd w A k c' (xs.take k) := by
  obtain ⟨h1, h2, h3, h4, h5⟩ := h
  refine ⟨by simp; omega, hkc, hc', h4.take k, fun hn => ?_⟩
  obtain ⟨b, o, hA, hlt, hc⟩ := h5 (by omega)
  refine ⟨b, o, hA, hlt, fun j hj => ?_⟩
  rw [hc j (by omega)]
  have e : (xs.take k).getD j 0 = xs.getD j 0 := by
    rw [List.getD_eq_getElem?_getD, List.getD_eq_getElem?_getD, List.getElem?_take, if_pos hj]
  rw [e]
theorem dg_is_take {xs : List Nat} (h : Digs xs) : dg (val xs) = xs.take (dg (val xs)).length := by
  have hk : (dg (val xs)).length ≤ xs.length := dg_len_le (val_lt h)
  refine (take_is_dg h hk dg_getD_zero ?_).symm
  rcases full_dg (val xs) with h0 | h0
  · left; rw [h0]; rfl
  · right
    intro h1
    rcases Nat.eq_zero_or_pos (dg (val xs)).length with hz | hp
    · rw [List.eq_nil_of_length_eq_zero hz] at h0; simp at h0
    · have hz : ∀ j, (dg (val xs)).length - 1 ≤ j → xs.getD j 0 = 0 := fun j hj => by
        rcases Nat.lt_or_ge j (dg (val xs)).length with h2 | h2
        · obtain rfl : j = (dg (val xs)).length - 1 := by omega
          exact h1
        · exact dg_getD_zero j h2
      have h2 := dg_take hz
      have h3 := val_lt (h.take ((dg (val xs)).length - 1))
      rw [h2] at h3
      have h4 := dg_len_le h3
      simp at h4
      omega
theorem dg_len_small {xs : List Nat} (h : Digs xs) : (dg (val xs)).length ≤ xs.length := dg_len_le (val_lt h)
theorem Rd.trim {w : World} {A : Option Addr} {n c : Nat} {xs : List Nat} (h : Rd w A n c xs) : Rd w A (dg (val xs)).length (dg (val xs)).length (dg (val xs)) := by
  have h1 := dg_len_small h.2.2.2.1
  have h2 := h.1
  have h3 := h.2.1
  have h4 := h.2.2.1
  have := h.cut (k := (dg (val xs)).length) (c' := (dg (val xs)).length) (by omega) (Nat.le_refl _) (by omega)
  rwa [← dg_is_take h.2.2.2.1] at this
def RetDig (w : World) (zs : List Nat) (e : Ending) (w' : World) : Prop := ∃ v, e = .returned v ∧ Dig w' v zs ∧ Below w.heap.size w w'
structure Upd (S : Nat → Prop) (w w' : World) : Prop where
  os : w'.os = w.os
  tape : w'.tape = w.tape
  output : w'.output = w.output
  size : w.heap.size ≤ w'.heap.size
  block : ∀ k, k < w.heap.size → ¬ S k → w'.heap[k]? = w.heap[k]?
section
variable {S T : Nat → Prop} {a w w' : World}
theorem Upd.refl (S : Nat → Prop) (w : World) : Upd S w w := ⟨rfl, rfl, rfl, Nat.le_refl _, fun _ _ _ => rfl⟩
theorem Upd.trans (h : Upd S a w) (k : Upd S w w') : Upd S a w' :=
  ⟨k.os.trans h.os, k.tape.trans h.tape, k.output.trans h.output, Nat.le_trans h.size k.size, fun i hi hs => (k.block i (Nat.lt_of_lt_of_le hi h.size) hs).trans (h.block i hi hs)⟩
theorem Upd.mono (h : Upd S w w') (hST : ∀ k, k < w.heap.size → S k → T k) : Upd T w w' :=
  ⟨h.os, h.tape, h.output, h.size, fun i hi hs => h.block i hi fun k => hs (hST i hi k)⟩
theorem Upd.setCell (h : Upd S a w) (g i : Nat) (hg : g < a.heap.size → S g) (u : Value) : Upd S a (w.setCell ⟨g, i, none⟩ u) :=
  ⟨h.os, h.tape, h.output, by rw [World.size_setCell]; exact h.size, fun k hk hs => (Below.heap_setCell w ⟨g, i, none⟩ u k (fun e => by subst e; exact hs (hg hk))).trans (h.block k hk hs)⟩
theorem Upd.below (h : Upd S w w') {B : Nat} (hB : B ≤ w.heap.size) (hS : ∀ k, S k → B ≤ k) : Below B w w' :=
  ⟨h.os, h.tape, h.output, h.size, fun k hk => h.block k (by omega) fun hs => by have := hS k hs; omega⟩
end
def Blk (w : World) (b : Nat) (cs : List Value) (t : TypeId) : Prop := w.heap[b]? = some (.cells cs.toArray t (0, 0))
section
variable {w w' : World} {b t : Nat} {cs : List Value}
theorem Blk.lt (h : Blk w b cs t) : b < w.heap.size := by
  rcases Nat.lt_or_ge b w.heap.size with h1 | h1
  · exact h1
  · unfold Blk at h; rw [Array.getElem?_eq_none h1] at h; cases h
theorem Blk.cell (h : Blk w b cs t) (i : Nat) : w.cell? ⟨b, i, none⟩ = cs[i]? := by
  rw [cell_of_row w b i _ t (0, 0) h]; simp
theorem Blk.free (h : Blk w b cs t) (i : Nat) : w.frozen? ⟨b, i, none⟩ = false := by
  unfold Blk at h
  simp [World.frozen?, h]
theorem Blk.new (w : World) (cs : List Value) (t : TypeId) : Blk (w.alloc (.cells cs.toArray t)) w.heap.size cs t := heap_alloc_new w _
theorem Blk.alloc (h : Blk w b cs t) (o : Obj) : Blk (w.alloc o) b cs t := (Below.heap_alloc w o b h.lt).trans h
theorem Blk.set_ (h : Blk w b cs t) (i : Nat) (u : Value) : Blk (w.setCell ⟨b, i, none⟩ u) b (cs.set i u) t := by
  unfold Blk at h ⊢
  simp [World.setCell, Array.getElem?_modify, h]
theorem Blk.far (h : Blk w b cs t) {g i : Nat} (hg : b ≠ g) (u : Value) : Blk (w.setCell ⟨g, i, none⟩ u) b cs t := (Below.heap_setCell w ⟨g, i, none⟩ u b hg).trans h
theorem Blk.upd {S : Nat → Prop} (h : Blk w b cs t) (k : Upd S w w') (hs : ¬ S b) : Blk w' b cs t := (k.block b h.lt hs).trans h
theorem Blk.below {B : Nat} (h : Blk w b cs t) (k : Below B w w') (hs : b < B) : Blk w' b cs t := (k.block b hs).trans h
end
def dv (x : Nat) : Value := .int .u32 (x : Int)
def Row (w : World) (b : Nat) (ds : List Nat) : Prop := Blk w b (ds.map dv) 127
def One (w : World) (g s : Nat) : Prop := Blk w g [.int .u64 (s : Int)] 126
theorem One.cell {w : World} {g s : Nat} (h : One w g s) : w.cell? ⟨g, 0, none⟩ = some (.int .u64 s) := Blk.cell h 0
theorem One.set_ {w : World} {g s : Nat} (h : One w g s) (u : Nat) : One (w.setCell ⟨g, 0, none⟩ (.int .u64 u)) g u := Blk.set_ h 0 _
theorem Row.cell {w : World} {b : Nat} {ds : List Nat} (h : Row w b ds) {i : Nat} (hi : i < ds.length) : w.cell? ⟨b, i, none⟩ = some (.int .u32 (ds.getD i 0)) := by
  rw [Blk.cell h i]
  simp [List.getElem?_eq_getElem hi, List.getD, dv]
theorem Row.set_ {w : World} {b : Nat} {ds : List Nat} (h : Row w b ds) (i u : Nat) : Row (w.setCell ⟨b, i, none⟩ (.int .u32 u)) b (ds.set i u) := by
  have := Blk.set_ h i (dv u)
  unfold Row
  rw [List.map_set]
  exact this
theorem Row.ne_one {w : World} {b g s : Nat} {ds : List Nat} (h : Row w b ds) (k : One w g s) : b ≠ g := by
  rintro rfl
  unfold Row One Blk at *
  rw [h] at k
  injection k with k
  injection k with _ k
  exact absurd k (by decide)
theorem Row.rd {w : World} {b : Nat} {ds : List Nat} (h : Row w b ds) (hd : Digs ds) {o n c : Nat} (hn : o + n ≤ ds.length) (hc : n ≤ c) (hcm : c ≤ 9223372036854775807) : Rd w (some ⟨b, o, none⟩) n c ((ds.drop o).take n) := by
  refine ⟨by simp; omega, hc, hcm, (hd.drop o).take n, fun _ => ⟨b, o, rfl, Blk.lt h, fun j hj => ?_⟩⟩
  rw [h.cell (by omega)]
  congr 3
  rw [List.getD_eq_getElem?_getD, List.getD_eq_getElem?_getD, List.getElem?_take, if_pos hj, List.getElem?_drop]
theorem Row.rd0 {w : World} {b : Nat} {ds : List Nat} (h : Row w b ds) (hd : Digs ds) {c : Nat} (hc : ds.length ≤ c) (hcm : c ≤ 9223372036854775807) : Rd w (some ⟨b, 0, none⟩) ds.length c ds := by
  have := h.rd hd (o := 0) (n := ds.length) (by omega) hc hcm
  simpa using this
end Go.Proofs.YtdbccidlnhjfhaaGreatDoor
