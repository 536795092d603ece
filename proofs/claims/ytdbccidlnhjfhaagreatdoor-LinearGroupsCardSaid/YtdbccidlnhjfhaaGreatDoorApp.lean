/- append of a list of digits, nil or not, onto a row of the call's own. -/
import Derived.Test.YtdbccidlnhjfhaaGreatDoorNat2
import Derived.Maps.AppendAt
import Derived.OwnWalk
namespace Go.Proofs.YtdbccidlnhjfhaaGreatDoor
open Go.RowKit
theorem rd_cells' {w : World} {A : Option Addr} {n c : Nat} {xs : List Nat} (h : Rd w A n c xs) {ad : Addr} (hA : A = some ad) : ∀ j v, (xs.map dv)[j]? = some v → w.cell? (ad.add j) = some v := by
  intro j v hv
  have hj : j < xs.length := by
    rcases Nat.lt_or_ge j xs.length with h1 | h1
    · exact h1
    · rw [List.getElem?_eq_none (by simp; omega)] at hv; cases hv
  obtain ⟨b, o, hB, hlt, hc⟩ := h.2.2.2.2 (by have := h.1; omega)
  rw [hA] at hB
  injection hB with hB
  subst hB
  have h1 := hc j (by have := h.1; omega)
  have e : (⟨b, o, none⟩ : Addr).add j = ⟨b, o + j, none⟩ := by unfold Addr.add; split <;> simp_all
  rw [e, h1, ← hv]
  simp [List.getElem?_eq_getElem hj, List.getD, dv]
theorem dv_one {xs : List Nat} : ∀ u ∈ xs.map dv, u.oneCell' = true := by
  intro u hu
  obtain ⟨x, _, rfl⟩ := List.mem_map.1 hu
  rfl
theorem run_append_nil {P : Program} (w : World) (base t ty e : Nat) (i : TypeInfo) (ht : P.underlying t = some (.slice e)) (hi : P.info? e = some i) (v : Value) (n : Nat) (xs : List Value) (hown : w.ownsRow base e 1 v n xs) (c : Nat) : (Builtin.append_ #[t, t] ty #[v, .slice none 0 c]).run P w = .ok v w := by
  rcases hown.2 with ⟨rfl, rfl⟩ | ⟨g, cap, cur, rfl, _, _, hnc, _⟩
  · simp [Builtin.append_, run_underlying ht, sizeOf, typeInfo, hi, Builtin.lenOf, Builtin.firstCells]
  · simp [Builtin.append_, run_underlying ht, sizeOf, typeInfo, hi, Builtin.lenOf, Builtin.firstCells, hnc, storeCells]
theorem wpList_append_rd {P : Program} {w : World} {ops : Array Oper} {rest : List Oper} {o : Oper} {a : Act} {Q : Exit → Act → World → Prop} (hgd : o.guard = none) (s x : Operand) (t e : TypeId)
    (ho : o.op = .call { callee := .builtin .append, args := #[s, x], argTypes := #[t, t] })
    (base : Nat) (i : TypeInfo) (z : Value) (ht : P.underlying t = some (.slice e)) (hi : P.info? e = some i) (hz : i.zero = some z) (hsize : i.size = 1) (hby : i.bytes = 4) (hzs : z.cells.size = 1)
    (v : Value) (n : Nat) (ds : List Value) (hs : a.eval s = v) (hown : w.ownsRow base e 1 v n ds)
    (A : Option Addr) (m c : Nat) (us : List Nat) (hx : a.eval x = .slice A m c) (hr : Rd w A m c us) (hnm : n + m ≤ 4398046511104) (hbase : base ≤ w.heap.size)
    (h : ∀ v' w', w'.ownsRow base e 1 v' (n + m) (ds ++ us.map dv) → w.grownBy w' v.ownBlock → wpList P ops Q rest (a.put o.dst v') w') : wpList P ops Q (o :: rest) a w := by
  rcases A with _ | ad
  · have hm : m = 0 := by
      rcases Nat.eq_zero_or_pos m with h0 | h0
      · exact h0
      · obtain ⟨b, o, h1, _⟩ := hr.2.2.2.2 h0
        cases h1
    subst hm
    have hu : us = [] := List.eq_nil_of_length_eq_zero hr.1
    subst hu
    refine wpList_plain hgd fun K hK => ?_
    have hrun := run_append_nil (P := P) w base t o.type e i ht hi v n ds hown c
    unfold Oper.wp
    simp [execOp, ho, resolve, invoke, builtin, hs, hx, hrun, Result.andThen]
    refine hK _ _ (h v w ?_ (World.grownBy.refl w _))
    simpa using hown
  · exact wpList_append_own w hgd s x t ho base e i z 1 4 ht hi hz hsize hby hzs (by decide) v n ds hs hown ad m c (us.map dv) hx (by have := hr.1; simpa using this) (rd_cells' hr rfl) dv_one (by unfold maxLen; omega) (by omega) hbase (fun v' w' h2 h3 _ => h v' w' h2 h3)
theorem dig_own {w : World} {base : Nat} {v : Value} {n : Nat} {xs : List Nat} (h : w.ownsRow base 127 1 v n (xs.map dv)) (hd : Digs xs) : Dig w v xs := by
  have hl : xs.length = n := by have := h.1; simpa using this
  rcases h.2 with ⟨rfl, rfl⟩ | ⟨g, cap, cur, rfl, hb, hh, hn, hc, hcs, hcur⟩
  · obtain rfl : xs = [] := List.eq_nil_of_length_eq_zero hl
    exact Dig.nil w
  · refine ⟨_, _, _, rfl, hl, hn, by unfold maxLen at hc; exact hc, hd, fun hp => ⟨g, 0, rfl, ?_, fun j hj => ?_⟩⟩
    · rcases Nat.lt_or_ge g w.heap.size with h1 | h1
      · exact h1
      · rw [Array.getElem?_eq_none h1] at hh; cases hh
    · have h2 := h.cells (g := g) rfl j (dv (xs.getD j 0)) (by simp [List.getD, List.getElem?_eq_getElem (by omega : j < xs.length)])
      have e : (⟨g, 0, none⟩ : Addr).add j = ⟨g, 0 + j, none⟩ := by unfold Addr.add; split <;> simp_all
      rw [e] at h2
      exact h2
theorem own_empty (w : World) : (w.alloc (.cells #[] 127)).ownsRow w.heap.size 127 1 (.slice (some ⟨w.heap.size, 0, none⟩) 0 0) 0 [] :=
  ⟨by simp, .inr ⟨w.heap.size, 0, #[], rfl, Nat.le_refl _, heap_alloc_new w _, by omega, by unfold maxLen; omega, by simp, by simp⟩⟩
theorem Tryz.infoU32' : ∃ i, Tryz.prog.info? 127 = some i ∧ i.zero = some (.int .u32 0) ∧ i.size = 1 ∧ i.bytes = 4 := info_parts (by kernel_rfl)
end Go.Proofs.YtdbccidlnhjfhaaGreatDoor
