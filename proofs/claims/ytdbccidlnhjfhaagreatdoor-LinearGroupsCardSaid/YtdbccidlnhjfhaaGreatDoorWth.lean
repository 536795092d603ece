/- Lists of rows that are kept. -/
import Derived.Test.YtdbccidlnhjfhaaGreatDoorSmr
import Derived.Deep.DeepCutAuto
import Derived.BigQuiet
namespace Go.Proofs.YtdbccidlnhjfhaaGreatDoor
open Go.RowKit
structure OwP (w : World) (B e sz : Nat) (v : Value) (n : Nat) (xs : List Value) (W : World) : Prop where
  bel : Below w.heap.size w W
  own : W.ownsRow B e sz v n xs
  ge : w.heap.size ≤ B
  le : B ≤ W.heap.size
section
variable {w W W' : World} {B e sz n : Nat} {v : Value} {xs : List Value}
theorem OwP.keep (h : OwP w B e sz v n xs W) (b : Below W.heap.size W W') : OwP w B e sz v n xs W' := ⟨bx_call h.bel b, own_keep h.own b, h.ge, Nat.le_trans h.le b.size⟩
theorem OwP.grow (h : OwP w B e sz v n xs W) {v' : Value} {m : Nat} {ys : List Value} (ho : W'.ownsRow B e sz v' m ys) (hg : W.grownBy W' v.ownBlock) : OwP w B e sz v' m ys W' := by
  have hlt := h.own.lt
  have hs := h.le
  have hw := h.ge
  refine ⟨⟨hg.os.trans h.bel.os, hg.tape.trans h.bel.tape, hg.output.trans h.bel.output, Nat.le_trans h.bel.size hg.size, fun k hk => ?_⟩, ho, h.ge, Nat.le_trans h.le hg.size⟩
  rw [hg.block k (by omega) (fun e => by have := (hlt k e.symm).1; omega)]
  exact h.bel.block k hk
theorem OwP.far (h : OwP w B e sz v n xs W) {g i : Nat} (h1 : w.heap.size ≤ g) (h2 : g < B) (u : Value) : OwP w B e sz v n xs (W.setCell ⟨g, i, none⟩ u) := ⟨bx_set h.bel h1, ownsRow_setCell_below h.own (by exact h2) u, h.ge, by have := h.le; simpa using this⟩
end
theorem wp_app_run {w w' : World} {o : Oper} {a : Act} {K : Act → World → Prop} {Q : Exit → Act → World → Prop} {v' x1 x2 : Value} {t : TypeId} (s x : Operand) (ho : o.op = .call { callee := .builtin .append, args := #[s, x], argTypes := #[t, t] })
    (hs : a.eval s = x1) (hx : a.eval x = x2) (hr : (Builtin.append_ #[t, t] o.type #[x1, x2]).run Tryz.prog w = .ok v' w') (h : K (a.put o.dst v') w') : o.wp Tryz.prog a w K Q := by
  unfold Oper.wp execOp
  simp only [ho, resolve, invoke, builtin, Sem.run_bind, Sem.run_pure, Result.andThen_ok, List.map_toArray, List.map_cons, List.map_nil, hs, hx, hr]
  exact h
def rowsC (nm : Nat → ByteArray) (gr ki bo : Nat → Int) (tn : Nat → Nat) (L : List (Nat × Option Addr × Nat)) : List Value := L.flatMap (fun x => [.string (nm x.1), .int .i64 (gr x.1), .int .i64 (ki x.1), .slice x.2.1 (tn x.1) x.2.2, .int .i64 (bo x.1)])
section
variable {nm : Nat → ByteArray} {gr ki bo : Nat → Int} {tn : Nat → Nat} {L : List (Nat × Option Addr × Nat)}
theorem rowsC_snoc (x : Nat × Option Addr × Nat) : rowsC nm gr ki bo tn (L ++ [x]) = rowsC nm gr ki bo tn L ++ [.string (nm x.1), .int .i64 (gr x.1), .int .i64 (ki x.1), .slice x.2.1 (tn x.1) x.2.2, .int .i64 (bo x.1)] := by
  unfold rowsC
  rw [List.flatMap_append]
  simp
def nthL (L : List (Nat × Option Addr × Nat)) (j : Nat) : Nat × Option Addr × Nat := L.getD j (0, none, 0)
theorem rowsC_take (n : Nat) (hn : n ≤ L.length) : rowsC nm gr ki bo tn (L.take n) = cellsOf5 (rcell (fun j => nm (nthL L j).1) (fun j => gr (nthL L j).1) (fun j => ki (nthL L j).1) (fun j => bo (nthL L j).1) (fun j => (nthL L j).2.1) (fun j => tn (nthL L j).1) (fun j => (nthL L j).2.2)) n := by
  induction n with
  | zero => rfl
  | succ n ih =>
    obtain ⟨e0, e1, e2, e3, e4⟩ := rcell_at (nm := fun j => nm (nthL L j).1) (gr := fun j => gr (nthL L j).1) (ki := fun j => ki (nthL L j).1) (bo := fun j => bo (nthL L j).1) (TA := fun j => (nthL L j).2.1) (tn := fun j => tn (nthL L j).1) (tc := fun j => (nthL L j).2.2) n
    have hx : nthL L n = L[n] := by unfold nthL; rw [List.getD_eq_getElem?_getD, List.getElem?_eq_getElem (by omega)]; rfl
    rw [cells5_snoc, ← ih (by omega), e0, e1, e2, e3, e4, List.take_succ_eq_append_getElem (by omega), rowsC_snoc]
    simp only [hx]
theorem rowsC_all : rowsC nm gr ki bo tn L = cellsOf5 (rcell (fun j => nm (nthL L j).1) (fun j => gr (nthL L j).1) (fun j => ki (nthL L j).1) (fun j => bo (nthL L j).1) (fun j => (nthL L j).2.1) (fun j => tn (nthL L j).1) (fun j => (nthL L j).2.2)) L.length := by
  rw [← rowsC_take L.length (Nat.le_refl _), List.take_length]
end
def RetPg (w : World) (vn : Nat) (lo up : Nat → Int) (op it : Nat → Bool) (co : Nat → Int) (nm : Nat → ByteArray) (gr ki bo : Nat → Int) (tn : Nat → Nat) (v cf : Nat → Nat → Int) (K : List Nat) (e : Ending) (w' : World) : Prop :=
  ∃ V1 d1 R1 d2 TB td, e = .returned (.agg #[.slice V1 vn d1, .slice R1 K.length d2]) ∧ Vs w' V1 vn d1 lo up op it co ∧ Rs w' R1 K.length d2 (fun j => nm (K.getD j 0)) (fun j => gr (K.getD j 0)) (fun j => ki (K.getD j 0)) (fun j => bo (K.getD j 0)) TB (fun j => tn (K.getD j 0)) td (fun j => v (K.getD j 0)) (fun j => cf (K.getD j 0)) ∧ Below w.heap.size w w'
theorem nth_map (L : List (Nat × Option Addr × Nat)) (j : Nat) : (nthL L j).1 = (L.map (·.1)).getD j 0 := by
  unfold nthL
  rw [List.getD_eq_getElem?_getD, List.getD_eq_getElem?_getD, List.getElem?_map]
  cases L[j]? <;> rfl
theorem rows_made {W : World} {B : Nat} {u : Value} {nm : Nat → ByteArray} {gr ki bo : Nat → Int} {tn : Nat → Nat} {v cf : Nat → Nat → Int} {L : List (Nat × Option Addr × Nat)} {K : List Nat} (hK : L.map (·.1) = K) (h : W.ownsRow B 77 5 u L.length (rowsC nm gr ki bo tn L))
    (hb : ∀ x ∈ L, (-9223372036854775808 ≤ ki x.1 ∧ ki x.1 ≤ 9223372036854775807) ∧ (-9223372036854775808 ≤ bo x.1 ∧ bo x.1 ≤ 9223372036854775807) ∧ (-9223372036854775808 ≤ gr x.1 ∧ gr x.1 ≤ 9223372036854775807) ∧ Ts W x.2.1 (tn x.1) x.2.2 (v x.1) (cf x.1)) :
    ∃ R1 d2 TB td, u = .slice R1 K.length d2 ∧ Rs W R1 K.length d2 (fun j => nm (K.getD j 0)) (fun j => gr (K.getD j 0)) (fun j => ki (K.getD j 0)) (fun j => bo (K.getD j 0)) TB (fun j => tn (K.getD j 0)) td (fun j => v (K.getD j 0)) (fun j => cf (K.getD j 0)) := by
  rw [rowsC_all] at h
  obtain ⟨A, c, rfl, hR⟩ := own_rs (v := fun j => v (nthL L j).1) (cf := fun j => cf (nthL L j).1) h (fun j hj => hb _ (by
    unfold nthL
    rw [List.getD_eq_getElem?_getD, List.getElem?_eq_getElem hj]
    exact List.getElem_mem hj))
  have hl : L.length = K.length := by rw [← hK, List.length_map]
  rw [hl] at hR
  simp only [nth_map, hK] at hR
  exact ⟨A, c, _, _, by rw [hl], hR⟩
theorem own_copy_vars {w W : World} (b : Below w.heap.size w W) {A : Option Addr} {n c ty : Nat} {lo up : Nat → Int} {op it : Nat → Bool} {co : Nat → Int} (hT : Vs w A n c lo up op it co) (hn : n ≤ 1000) :
    ∃ x w', (Builtin.append_ #[22, 22] ty #[.slice (some ⟨W.heap.size, 0, none⟩) 0 0, .slice A n c]).run Tryz.prog (W.alloc (.cells #[] 60)) = .ok x w' ∧ w'.ownsRow W.heap.size 60 5 x n (cellsOf5 (vcell lo up op it co) n) ∧ Below W.heap.size W w' := by
  obtain ⟨i, hi, hz⟩ := Option.map_eq_some_iff.1 Tryz.infoVar9
  simp only [Prod.mk.injEq] at hz
  obtain ⟨z1, z2, z3⟩ := hz
  have ba := bx_alloc (bx_refl W) (.cells #[] 60)
  have hk := vs_cells (hT.keep (bx_call b ba))
  obtain ⟨v', w', h1, h2, h3, _⟩ := app_allN (P := Tryz.prog) (ty := ty) (base := W.heap.size) (t := 22) (by omega) Tryz.underlying22 hi z1 z2 z3 rfl (by omega) (Blk.new W [] 60) (Nat.le_refl _) (by simp) (cells5_len _ n) (cells5_one _ n vcell_one) hn (c := c) (fun hp => by
    obtain ⟨b, o, e, _, h⟩ := hk hp
    exact ⟨b, o, e, h⟩)
  exact ⟨v', w', h1, h2, bx_grow ba h3 (Nat.le_refl _)⟩
theorem Tryz.infoRow9 : (Tryz.prog.info? 77).map (fun i => (i.zero, i.size, i.bytes)) = some (some (.agg #[.string ⟨#[]⟩, .int .i64 0, .int .i64 0, .slice none 0 0, .int .i64 0]), 5, 64) := by kernel_rfl
theorem app_row {w : World} {base n g ty : Nat} {v : Value} {xs : List Value} {c0 c1 c2 c3 c4 : Value} (hown : w.ownsRow base 77 5 v n xs) (hg : Blk w g [c0, c1, c2, c3, c4] 77) (h1 : ∀ u ∈ [c0, c1, c2, c3, c4], u.oneCell' = true) (hl : n ≤ 1000000) (hbase : base ≤ w.heap.size) :
    ∃ v' w', (Builtin.append_ #[23, 23] ty #[v, .slice (some ⟨g, 0, none⟩) 1 1]).run Tryz.prog w = .ok v' w' ∧ w'.ownsRow base 77 5 v' (n + 1) (xs ++ [c0, c1, c2, c3, c4]) ∧ w.grownBy w' v.ownBlock := by
  obtain ⟨i, hi, hz⟩ := Option.map_eq_some_iff.1 Tryz.infoRow9
  simp only [Prod.mk.injEq] at hz
  obtain ⟨z1, z2, z3⟩ := hz
  obtain ⟨v', w', hr, h2, h3, _⟩ := run_append_own_at (P := Tryz.prog) (w := w) base 23 ty 77 i _ 5 64 (by kernel_rfl) hi z1 z2 z3 rfl (by omega) v n xs hown ⟨g, 0, none⟩ 1 1 [c0, c1, c2, c3, c4] rfl (fun k u hk => by rw [addr_add, hg.cell]; exact hk) h1 (by unfold maxLen; omega) (by omega) hbase
  exact ⟨v', w', hr, h2, h3⟩
theorem il_keep {w w' : World} {A : Option Addr} {n c : Nat} {f : Nat → Int} (h : Il w A n c f) (b : Below w.heap.size w w') : Il w' A n c f := by
  refine ⟨h.1, h.2.1, fun hn => ?_⟩
  obtain ⟨bb, o, hA, hlt, hc⟩ := h.2.2 hn
  exact ⟨bb, o, hA, Nat.lt_of_lt_of_le hlt b.size, fun j hj => cell_bx (hc j hj) b⟩
end Go.Proofs.YtdbccidlnhjfhaaGreatDoor
