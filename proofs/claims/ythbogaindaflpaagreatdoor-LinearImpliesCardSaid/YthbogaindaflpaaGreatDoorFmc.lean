/- Lists of strings made by append; the text of a sum. -/
import Derived.Test.YthbogaindaflpaaGreatDoorFmb
import Derived.Test.YthbogaindaflpaaGreatDoorLinC
import Derived.OwnWalk
import Derived.Deep.DeepCutAuto
import Derived.BigQuiet
namespace Go.Proofs.YthbogaindaflpaaGreatDoor
open Go.RowKit

def strs (l : List ByteArray) : List Value := l.map Value.string
theorem strs_append (l m : List ByteArray) : strs (l ++ m) = strs l ++ strs m := by unfold strs; rw [List.map_append]
def txs (l : List ByteArray) : List (List UInt8) := l.map fun s => s.data.toList
theorem txs_append (l m : List ByteArray) : txs (l ++ m) = txs l ++ txs m := by unfold txs; rw [List.map_append]
theorem Tryz.infoStr : ∃ i, Tryz.prog.info? 9 = some i ∧ i.zero = some (.string ⟨#[]⟩) ∧ i.size = 1 ∧ i.bytes = 16 := info_parts (by kernel_rfl)
/-- append of strings. -/
theorem wpList_append_str {w : World} {ops : Array Oper} {rest : List Oper} {o : Oper} {a : Act} {Q : Exit → Act → World → Prop} (hgd : o.guard = none) (s x : Operand) (ho : o.op = .call { callee := .builtin .append, args := #[s, x], argTypes := #[30, 30] })
    (base : Nat) (v : Value) (l : List ByteArray) (hs : a.eval s = v) (hown : w.ownsRow base 9 1 v l.length (strs l)) (g m : Nat) (ys : List ByteArray) (hm : ys.length = m) (hx : a.eval x = .slice (some ⟨g, 0, none⟩) m m) (hg : Blk w g (strs ys) 9) (hl : l.length + m ≤ 1000000000) (hbase : base ≤ w.heap.size)
    (h : ∀ v' w', w'.ownsRow base 9 1 v' (l ++ ys).length (strs (l ++ ys)) → w.grownBy w' v.ownBlock → wpList Tryz.prog ops Q rest (a.put o.dst v') w') : wpList Tryz.prog ops Q (o :: rest) a w := by
  obtain ⟨i0, hi, hz0, hz1, hz2⟩ := Tryz.infoStr
  subst hm
  refine wpList_append_own w hgd s x 30 ho base 9 i0 (.string ⟨#[]⟩) 1 16 (by kernel_rfl) hi hz0 hz1 hz2 rfl (by decide) v l.length (strs l) hs hown ⟨g, 0, none⟩ ys.length ys.length (strs ys) hx (by unfold strs; simp) (fun k u hk => by rw [addr_add, hg.cell]; exact hk) (fun u hu => by
    unfold strs at hu
    obtain ⟨y, _, rfl⟩ := List.mem_map.1 hu
    rfl) (by unfold maxLen; omega) (by omega) hbase (fun v' w' h2 h3 _ => h v' w' ?_ h3)
  rw [strs_append, List.length_append]
  exact h2
/-- A list of strings of the call's own. -/
structure SlP (w : World) (B : Nat) (v : Value) (l : List ByteArray) (W : World) : Prop where
  bel : Below w.heap.size w W
  own : W.ownsRow B 9 1 v l.length (strs l)
  ge : w.heap.size ≤ B
  le : B ≤ W.heap.size
section
variable {w W W' : World} {B : Nat} {v : Value} {l : List ByteArray}
theorem SlP.keep (h : SlP w B v l W) (b : Below W.heap.size W W') : SlP w B v l W' := ⟨bx_call h.bel b, own_keep h.own b, h.ge, Nat.le_trans h.le b.size⟩
theorem SlP.grow (h : SlP w B v l W) {v' : Value} {m : List ByteArray} (ho : W'.ownsRow B 9 1 v' m.length (strs m)) (hg : W.grownBy W' v.ownBlock) : SlP w B v' m W' := by
  have hlt := h.own.lt
  have hs := h.le
  have hw := h.ge
  refine ⟨⟨hg.os.trans h.bel.os, hg.tape.trans h.bel.tape, hg.output.trans h.bel.output, Nat.le_trans h.bel.size hg.size, fun k hk => ?_⟩, ho, h.ge, Nat.le_trans h.le hg.size⟩
  rw [hg.block k (by omega) (fun e => by have := (hlt k e.symm).1; omega)]
  exact h.bel.block k hk
theorem SlP.start (b : Below w.heap.size w W) : SlP w W.heap.size (.slice (some ⟨W.heap.size, 0, none⟩) 0 0) [] (W.alloc (.cells #[] 9)) :=
  ⟨bx_alloc b _, ⟨rfl, .inr ⟨W.heap.size, 0, #[], rfl, Nat.le_refl _, heap_alloc_new W _, Nat.le_refl _, by unfold maxLen; omega, rfl, rfl⟩⟩, b.size, by simp⟩
theorem SlP.form (h : SlP w B v l W) : ∃ A c, v = .slice A l.length c ∧ l.length ≤ c ∧ (0 < l.length → ∃ g, A = some ⟨g, 0, none⟩ ∧ g < W.heap.size ∧ ∀ j x, l[j]? = some x → W.cell? ⟨g, 0 + j, none⟩ = some (.string x)) := by
  rcases h.own.2 with ⟨rfl, h0⟩ | ⟨g, cap, cur, rfl, hb, hg, hn, hc, hcs, hcur⟩
  · exact ⟨none, 0, by rw [h0], by omega, fun hk => absurd hk (by omega)⟩
  · refine ⟨some ⟨g, 0, none⟩, cap, rfl, hn, fun _ => ⟨g, rfl, (Array.getElem?_eq_some_iff.1 hg).1, fun j x hj => ?_⟩⟩
    have := h.own.cells (g := g) rfl j (.string x) (by unfold strs; rw [List.getElem?_map, hj]; rfl)
    rw [addr_add] at this
    rw [Nat.zero_add]
    exact this
end
theorem join_le (l : List (List UInt8)) (s : List UInt8) (k : Nat) (h : ∀ x ∈ l, x.length ≤ k) : (Lib.join l s).length ≤ l.length * (k + s.length) := by
  unfold Lib.join
  induction l with
  | nil => simp [List.intercalate]
  | cons x l ih =>
    have h1 := h x List.mem_cons_self
    have h2 := ih (fun y hy => h y (List.mem_cons_of_mem _ hy))
    cases l with
    | nil =>
      simp [List.intercalate]
      omega
    | cons y l =>
      have e : s.intercalate (x :: y :: l) = x ++ (s ++ s.intercalate (y :: l)) := by simp [List.intercalate]
      rw [e, List.length_append, List.length_append, List.length_cons, Nat.succ_mul]
      omega
/-- Join of a list of strings of the call's own. -/
theorem join_any {w W : World} {B : Nat} {v : Value} {l : List ByteArray} (h : SlP w B v l W) (sep : ByteArray) (hn : l.length ≤ 1000000) (hk : ∀ x ∈ l, x.size ≤ 1000000) (hs : sep.size ≤ 1000) : Calls Tryz.prog 102 #[v, .string sep] W (RetTx W (Lib.join (txs l) sep.data.toList)) := by
  obtain ⟨A, c, rfl, hc, hA⟩ := h.form
  rcases Nat.eq_zero_or_pos l.length with h0 | hpos
  · have hl : l = [] := List.length_eq_zero_iff.1 h0
    subst hl
    refine (Tryz.strings_Join_none A c sep W).mono ?_
    rintro e w' ⟨rfl, rfl⟩
    exact ⟨_, rfl, by simp [txs, Lib.join, List.intercalate], bx_refl _⟩
  · obtain ⟨g, rfl, hg, hcell⟩ := hA hpos
    have hb : (Lib.join (txs l) sep.data.toList).length ≤ 140737488355328 := by
      have h1 := join_le (txs l) sep.data.toList 1000000 (fun x hx => by
        unfold txs at hx
        obtain ⟨y, hy, rfl⟩ := List.mem_map.1 hx
        rw [Array.length_toList]
        exact hk y hy)
      have h2 : (txs l).length = l.length := by unfold txs; simp
      have h3 : sep.data.toList.length ≤ 1000 := by rw [Array.length_toList]; exact hs
      rw [h2] at h1
      have h4 : l.length * (1000000 + sep.data.toList.length) ≤ 1000000 * 1001000 := Nat.mul_le_mul hn (by omega)
      omega
    refine (Tryz.strings_Join g 0 c l sep W hcell hg (by omega) hc hb).mono ?_
    rintro e w' ⟨rfl, b⟩
    exact ⟨_, rfl, rfl, b⟩
def opTx (first neg : Bool) : List UInt8 := if first = true then (if neg = true then [45] else []) else (if neg = true then [32, 45, 32] else [32, 43, 32])
theorem f_op (first neg : Bool) (w : World) : Calls Tryz.prog 138 #[.bool first, .bool neg] w (RetTx w (opTx first neg)) := by
  have B := hid (bx_refl w)
  cases first <;> cases neg
  all_goals
    go_enter Tryz.func138, Tryz.ntmps138
    go_wp2_with fail
    go_ret
    exact ⟨_, rfl, rfl, B.out⟩

end Go.Proofs.YthbogaindaflpaaGreatDoor
