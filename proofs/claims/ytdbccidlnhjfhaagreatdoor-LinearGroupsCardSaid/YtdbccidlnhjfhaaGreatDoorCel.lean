/- Cel: cells of lists of variables, rows and terms; slices copied. -/
import Derived.Test.YtdbccidlnhjfhaaGreatDoorLinC
import Derived.Maps.AppendAt
import Derived.Deep.AppendSrc
import Derived.Deep.Upon
import Derived.OneCell
import Derived.Laws.OwnMore
import Derived.Deep.DeepCutAuto
import Derived.BigQuiet
namespace Go.Proofs.YtdbccidlnhjfhaaGreatDoor
open Go.RowKit
set_option maxRecDepth 100000
def vcell (lo up : Nat → Int) (op it : Nat → Bool) (co : Nat → Int) (i : Nat) : Value :=
  if i % 5 = 0 then .int .i64 (lo (i / 5)) else if i % 5 = 1 then .int .i64 (up (i / 5)) else if i % 5 = 2 then .bool (op (i / 5)) else if i % 5 = 3 then .bool (it (i / 5)) else .int .i64 (co (i / 5))
def rcell (nm : Nat → ByteArray) (gr ki bo : Nat → Int) (TA : Nat → Option Addr) (tn tc : Nat → Nat) (i : Nat) : Value :=
  if i % 5 = 0 then .string (nm (i / 5)) else if i % 5 = 1 then .int .i64 (gr (i / 5)) else if i % 5 = 2 then .int .i64 (ki (i / 5)) else if i % 5 = 3 then .slice (TA (i / 5)) (tn (i / 5)) (tc (i / 5)) else .int .i64 (bo (i / 5))
def cellsOf5 (f : Nat → Value) (n : Nat) : List Value := (List.range (n * 5)).map f
theorem cells5_len (f : Nat → Value) (n : Nat) : (cellsOf5 f n).length = n * 5 := by unfold cellsOf5; simp
theorem cells5_get (f : Nat → Value) (n i : Nat) : (cellsOf5 f n)[i]? = if i < n * 5 then some (f i) else none := by
  unfold cellsOf5
  rw [List.getElem?_map]
  by_cases h : i < n * 5
  · rw [if_pos h, List.getElem?_range h]
    rfl
  · rw [if_neg h, List.getElem?_eq_none (by simp; omega)]
    rfl
theorem mod5 (j k : Nat) (hk : k < 5) : (j * 5 + k) % 5 = k ∧ (j * 5 + k) / 5 = j := by omega
theorem cells5_one (f : Nat → Value) (n : Nat) (h : ∀ i, (f i).oneCell' = true) : ∀ u ∈ cellsOf5 f n, u.oneCell' = true := by
  intro u hu
  unfold cellsOf5 at hu
  obtain ⟨i, _, rfl⟩ := List.mem_map.1 hu
  exact h i
section
variable {lo up : Nat → Int} {op it : Nat → Bool} {co : Nat → Int} {nm : Nat → ByteArray} {gr ki bo : Nat → Int} {TA : Nat → Option Addr} {tn tc : Nat → Nat} {v cf : Nat → Nat → Int} {w : World} {A : Option Addr} {n c : Nat}
theorem vcell_one (i : Nat) : (vcell lo up op it co i).oneCell' = true := by unfold vcell; (repeat' split) <;> rfl
theorem vcell_at (j : Nat) : vcell lo up op it co (j * 5) = .int .i64 (lo j) ∧ vcell lo up op it co (j * 5 + 1) = .int .i64 (up j) ∧ vcell lo up op it co (j * 5 + 2) = .bool (op j) ∧ vcell lo up op it co (j * 5 + 3) = .bool (it j) ∧ vcell lo up op it co (j * 5 + 4) = .int .i64 (co j) := by
  have h0 := mod5 j 0 (by omega)
  have h1 := mod5 j 1 (by omega)
  have h2 := mod5 j 2 (by omega)
  have h3 := mod5 j 3 (by omega)
  have h4 := mod5 j 4 (by omega)
  rw [Nat.add_zero] at h0
  unfold vcell
  rw [h0.1, h0.2, h1.1, h1.2, h2.1, h2.2, h3.1, h3.2, h4.1, h4.2]
  exact ⟨rfl, rfl, rfl, rfl, rfl⟩
theorem rcell_at (j : Nat) : rcell nm gr ki bo TA tn tc (j * 5) = .string (nm j) ∧ rcell nm gr ki bo TA tn tc (j * 5 + 1) = .int .i64 (gr j) ∧ rcell nm gr ki bo TA tn tc (j * 5 + 2) = .int .i64 (ki j) ∧ rcell nm gr ki bo TA tn tc (j * 5 + 3) = .slice (TA j) (tn j) (tc j) ∧ rcell nm gr ki bo TA tn tc (j * 5 + 4) = .int .i64 (bo j) := by
  have h0 := mod5 j 0 (by omega)
  have h1 := mod5 j 1 (by omega)
  have h2 := mod5 j 2 (by omega)
  have h3 := mod5 j 3 (by omega)
  have h4 := mod5 j 4 (by omega)
  rw [Nat.add_zero] at h0
  unfold rcell
  rw [h0.1, h0.2, h1.1, h1.2, h2.1, h2.2, h3.1, h3.2, h4.1, h4.2]
  exact ⟨rfl, rfl, rfl, rfl, rfl⟩
theorem place5 (i : Nat) : ∃ j k, i = j * 5 + k ∧ k < 5 := ⟨i / 5, i % 5, by omega, by omega⟩
theorem vs_cells (h : Vs w A n c lo up op it co) : 0 < n → ∃ b o, A = some ⟨b, o, none⟩ ∧ b < w.heap.size ∧ ∀ i u, (cellsOf5 (vcell lo up op it co) n)[i]? = some u → w.cell? ⟨b, o + i, none⟩ = some u := by
  intro hn
  obtain ⟨b, o, rfl, hb, hc⟩ := h.2.2.2 hn
  refine ⟨b, o, rfl, hb, fun i u hu => ?_⟩
  rw [cells5_get] at hu
  by_cases hi : i < n * 5
  · rw [if_pos hi, Option.some.injEq] at hu
    subst hu
    obtain ⟨j, k, rfl, hk⟩ := place5 i
    obtain ⟨c0, c1, c2, c3, c4⟩ := hc j (by omega)
    obtain ⟨e0, e1, e2, e3, e4⟩ := vcell_at (lo := lo) (up := up) (op := op) (it := it) (co := co) j
    have : k = 0 ∨ k = 1 ∨ k = 2 ∨ k = 3 ∨ k = 4 := by omega
    rcases this with rfl | rfl | rfl | rfl | rfl
    · rw [Nat.add_zero, e0]; exact c0
    · rw [e1, ← Nat.add_assoc]; exact c1
    · rw [e2, ← Nat.add_assoc]; exact c2
    · rw [e3, ← Nat.add_assoc]; exact c3
    · rw [e4, ← Nat.add_assoc]; exact c4
  · rw [if_neg hi] at hu
    cases hu
theorem own_form {base e n : Nat} {x : Value} {xs : List Value} (h : w.ownsRow base e 5 x n xs) : ∃ A c, x = .slice A n c ∧ n ≤ c ∧ c ≤ 9223372036854775807 ∧ (0 < n → ∃ g, A = some ⟨g, 0, none⟩ ∧ base ≤ g ∧ g < w.heap.size ∧ ∀ i, i < n * 5 → w.cell? ⟨g, i, none⟩ = xs[i]?) := by
  have hh := h
  rcases h.2 with ⟨rfl, rfl⟩ | ⟨g, cap, cur, rfl, hb, hg, hnc, hcm, hcs, ht⟩
  · exact ⟨none, 0, rfl, Nat.le_refl _, by omega, fun hn => absurd hn (by omega)⟩
  · refine ⟨_, cap, rfl, hnc, by unfold maxLen at hcm; exact hcm, fun _ => ⟨g, rfl, hb, (Array.getElem?_eq_some_iff.1 hg).1, fun i hi => hh.cellAt i hi⟩⟩
theorem own_vs {base : Nat} {x : Value} (h : w.ownsRow base 60 5 x n (cellsOf5 (vcell lo up op it co) n)) (hb : ∀ j, j < n → (-9223372036854775808 ≤ lo j ∧ lo j ≤ 9223372036854775807) ∧ (-9223372036854775808 ≤ up j ∧ up j ≤ 9223372036854775807) ∧ -9223372036854775808 ≤ co j ∧ co j ≤ 9223372036854775807) : ∃ A c, x = .slice A n c ∧ Vs w A n c lo up op it co := by
  obtain ⟨A, c, rfl, h1, h2, h3⟩ := own_form h
  refine ⟨A, c, rfl, h1, h2, hb, fun hn => ?_⟩
  obtain ⟨g, rfl, _, hg, hc⟩ := h3 hn
  refine ⟨g, 0, rfl, hg, fun j hj => ?_⟩
  obtain ⟨e0, e1, e2, e3, e4⟩ := vcell_at (lo := lo) (up := up) (op := op) (it := it) (co := co) j
  have at_ : ∀ k, k < 5 → w.cell? ⟨g, 0 + j * 5 + k, none⟩ = some (vcell lo up op it co (j * 5 + k)) := fun k hk => by
    rw [Nat.zero_add, hc _ (by omega), cells5_get, if_pos (by omega)]
  exact ⟨by rw [← e0]; exact at_ 0 (by omega), by rw [← e1]; exact at_ 1 (by omega), by rw [← e2]; exact at_ 2 (by omega), by rw [← e3]; exact at_ 3 (by omega), by rw [← e4]; exact at_ 4 (by omega)⟩
theorem own_rs {base : Nat} {x : Value} (h : w.ownsRow base 77 5 x n (cellsOf5 (rcell nm gr ki bo TA tn tc) n)) (hb : ∀ j, j < n → (-9223372036854775808 ≤ ki j ∧ ki j ≤ 9223372036854775807) ∧ (-9223372036854775808 ≤ bo j ∧ bo j ≤ 9223372036854775807) ∧ (-9223372036854775808 ≤ gr j ∧ gr j ≤ 9223372036854775807) ∧ Ts w (TA j) (tn j) (tc j) (v j) (cf j)) : ∃ A c, x = .slice A n c ∧ Rs w A n c nm gr ki bo TA tn tc v cf := by
  obtain ⟨A, c, rfl, h1, h2, h3⟩ := own_form h
  refine ⟨A, c, rfl, h1, h2, hb, fun hn => ?_⟩
  obtain ⟨g, rfl, _, hg, hc⟩ := h3 hn
  refine ⟨g, 0, rfl, hg, fun j hj => ?_⟩
  obtain ⟨e0, e1, e2, e3, e4⟩ := rcell_at (nm := nm) (gr := gr) (ki := ki) (bo := bo) (TA := TA) (tn := tn) (tc := tc) j
  have at_ : ∀ k, k < 5 → w.cell? ⟨g, 0 + j * 5 + k, none⟩ = some (rcell nm gr ki bo TA tn tc (j * 5 + k)) := fun k hk => by
    rw [Nat.zero_add, hc _ (by omega), cells5_get, if_pos (by omega)]
  exact ⟨by rw [← e0]; exact at_ 0 (by omega), by rw [← e1]; exact at_ 1 (by omega), by rw [← e2]; exact at_ 2 (by omega), by rw [← e3]; exact at_ 3 (by omega), by rw [← e4]; exact at_ 4 (by omega)⟩
end
theorem cells5_snoc (f : Nat → Value) (n : Nat) : cellsOf5 f (n + 1) = cellsOf5 f n ++ [f (n * 5), f (n * 5 + 1), f (n * 5 + 2), f (n * 5 + 3), f (n * 5 + 4)] := by
  unfold cellsOf5
  rw [show (n + 1) * 5 = n * 5 + 5 by omega, List.range_add, List.map_append, List.map_map]
  rfl
theorem app_allN {W : World} {P : Program} {base t ty e g : Nat} {i : TypeInfo} {z : Value} {bytes sz : Nat} (hpos0 : 0 < sz) (ht : P.underlying t = some (.slice e)) (hi : P.info? e = some i) (hz : i.zero = some z) (hsz : i.size = sz) (hby : i.bytes = bytes) (hzs : z.cells.size = sz) (hbt : bytes ≤ 1000)
    (hB : Blk W g [] e) (hg : base ≤ g) (hbs : base ≤ W.heap.size) {A : Option Addr} {n c : Nat} {xs : List Value} (hl : xs.length = n * sz) (hone : ∀ u ∈ xs, u.oneCell' = true) (hn : n ≤ 1000) (hr : 0 < n → ∃ b o, A = some ⟨b, o, none⟩ ∧ ∀ i u, xs[i]? = some u → W.cell? ⟨b, o + i, none⟩ = some u) :
    ∃ v' w', (Builtin.append_ #[t, t] ty #[.slice (some ⟨g, 0, none⟩) 0 0, .slice A n c]).run P W = .ok v' w' ∧ w'.ownsRow base e sz v' n xs ∧ W.grownBy w' (some g) ∧ (v'.ownBlock = some g ∨ v'.ownBlock = some W.heap.size) := by
  have hown : W.ownsRow base e sz (.slice (some ⟨g, 0, none⟩) 0 0) 0 [] := ⟨by simp, .inr ⟨g, 0, #[], rfl, hg, hB, Nat.le_refl _, by unfold maxLen; omega, by simp, by simp⟩⟩
  rcases Nat.eq_zero_or_pos n with rfl | hpos
  · have hx : xs = [] := List.length_eq_zero_iff.1 (by omega)
    subst hx
    have src : _root_.Go.Src P i.size t (.slice A 0 c) 0 [] W := by
      rcases A with _ | a
      · exact _root_.Go.Src.ofNil W ht c
      · exact _root_.Go.Src.ofSlice W ht a 0 c [] (by simp) (fun j u h => by cases h) (fun _ h => by cases h)
    exact ⟨_, W, run_append_nothing W t t ty e i ht hi (some ⟨g, 0, none⟩) 0 0 (Nat.le_refl _) _ src, hown, ⟨rfl, rfl, rfl, Nat.le_refl _, fun _ _ _ => rfl⟩, .inl rfl⟩
  · obtain ⟨b, o, rfl, hc⟩ := hr hpos
    obtain ⟨v', w', h1, h2, h3, _, h5⟩ := run_append_own_at (P := P) (w := W) base t ty e i z sz bytes ht hi hz hsz hby hzs (by omega) (.slice (some ⟨g, 0, none⟩) 0 0) 0 [] hown ⟨b, o, none⟩ n c xs hl (fun j u hj => by
      have e1 : (⟨b, o, none⟩ : Addr).add j = ⟨b, o + j, none⟩ := by unfold Addr.add; split <;> simp_all
      rw [e1]
      exact hc j u hj) hone (by unfold maxLen; omega) (by have := Nat.mul_le_mul hn hbt; rw [Nat.zero_add]; omega) hbs
    rw [Nat.zero_add, List.nil_append] at h2
    exact ⟨v', w', h1, h2, h3, h5⟩
def tcell (v cf : Nat → Int) (i : Nat) : Value := if i % 2 = 0 then .int .i64 (v (i / 2)) else .int .i64 (cf (i / 2))
def cellsOf2 (f : Nat → Value) (n : Nat) : List Value := (List.range (n * 2)).map f
theorem cells2_len (f : Nat → Value) (n : Nat) : (cellsOf2 f n).length = n * 2 := by unfold cellsOf2; simp
theorem cells2_get (f : Nat → Value) (n i : Nat) : (cellsOf2 f n)[i]? = if i < n * 2 then some (f i) else none := by
  unfold cellsOf2
  rw [List.getElem?_map]
  by_cases h : i < n * 2
  · rw [if_pos h, List.getElem?_range h]
    rfl
  · rw [if_neg h, List.getElem?_eq_none (by simp; omega)]
    rfl
theorem cells2_one (v cf : Nat → Int) (n : Nat) : ∀ u ∈ cellsOf2 (tcell v cf) n, u.oneCell' = true := by
  intro u hu
  unfold cellsOf2 at hu
  obtain ⟨i, _, rfl⟩ := List.mem_map.1 hu
  unfold tcell
  split <;> rfl
theorem tcell_at (v cf : Nat → Int) (j : Nat) : tcell v cf (j * 2) = .int .i64 (v j) ∧ tcell v cf (j * 2 + 1) = .int .i64 (cf j) := by
  unfold tcell
  rw [show (j * 2) % 2 = 0 by omega, show (j * 2 + 1) % 2 = 1 by omega, show (j * 2) / 2 = j by omega, show (j * 2 + 1) / 2 = j by omega]
  exact ⟨rfl, rfl⟩
theorem ts_cells {w : World} {A : Option Addr} {n c : Nat} {v cf : Nat → Int} (h : Ts w A n c v cf) : 0 < n → ∃ b o, A = some ⟨b, o, none⟩ ∧ b < w.heap.size ∧ ∀ i u, (cellsOf2 (tcell v cf) n)[i]? = some u → w.cell? ⟨b, o + i, none⟩ = some u := by
  intro hn
  obtain ⟨b, o, rfl, hb, hc⟩ := h.2.2.2 hn
  refine ⟨b, o, rfl, hb, fun i u hu => ?_⟩
  rw [cells2_get] at hu
  by_cases hi : i < n * 2
  · rw [if_pos hi, Option.some.injEq] at hu
    subst hu
    obtain ⟨j, k, rfl, hk⟩ : ∃ j k, i = j * 2 + k ∧ k < 2 := ⟨i / 2, i % 2, by omega, by omega⟩
    obtain ⟨c0, c1⟩ := hc j (by omega)
    obtain ⟨e0, e1⟩ := tcell_at v cf j
    have : k = 0 ∨ k = 1 := by omega
    rcases this with rfl | rfl
    · rw [Nat.add_zero, e0]; exact c0
    · rw [e1, ← Nat.add_assoc]; exact c1
  · rw [if_neg hi] at hu
    cases hu
theorem own_ts {w : World} {base n : Nat} {x : Value} {v cf : Nat → Int} (h : w.ownsRow base 94 2 x n (cellsOf2 (tcell v cf) n)) (hb : ∀ j, j < n → (-9223372036854775808 ≤ v j ∧ v j ≤ 9223372036854775807) ∧ -9223372036854775808 ≤ cf j ∧ cf j ≤ 9223372036854775807) : ∃ A c, x = .slice A n c ∧ Ts w A n c v cf := by
  have hh := h
  rcases h.2 with ⟨rfl, rfl⟩ | ⟨g, cap, cur, rfl, hbb, hg, hnc, hcm, hcs, ht⟩
  · exact ⟨none, 0, rfl, Nat.le_refl _, by omega, hb, fun hn => absurd hn (by omega)⟩
  · refine ⟨_, cap, rfl, hnc, by unfold maxLen at hcm; exact hcm, hb, fun _ => ⟨g, 0, rfl, (Array.getElem?_eq_some_iff.1 hg).1, fun j hj => ?_⟩⟩
    obtain ⟨e0, e1⟩ := tcell_at v cf j
    have at_ : ∀ k, k < 2 → w.cell? ⟨g, 0 + j * 2 + k, none⟩ = some (tcell v cf (j * 2 + k)) := fun k hk => by
      rw [Nat.zero_add, hh.cellAt _ (by omega), cells2_get, if_pos (by omega)]
    exact ⟨by rw [← e0]; exact at_ 0 (by omega), by rw [← e1]; exact at_ 1 (by omega)⟩
theorem Tryz.infoVar9 : (Tryz.prog.info? 60).map (fun i => (i.zero, i.size, i.bytes)) = some (some (.agg #[.int .i64 0, .int .i64 0, .bool false, .bool false, .int .i64 0]), 5, 32) := by kernel_rfl
theorem Tryz.infoTerm9 : (Tryz.prog.info? 94).map (fun i => (i.zero, i.size, i.bytes)) = some (some (.agg #[.int .i64 0, .int .i64 0]), 2, 16) := by kernel_rfl
theorem wpList_app_run {w w' : World} {ops : Array Oper} {rest : List Oper} {o : Oper} {a : Act} {Q : Exit → Act → World → Prop} {v' x1 x2 : Value} {t : TypeId} (hgd : o.guard = none) (s x : Operand) (ho : o.op = .call { callee := .builtin .append, args := #[s, x], argTypes := #[t, t] })
    (hs : a.eval s = x1) (hx : a.eval x = x2) (hr : (Builtin.append_ #[t, t] o.type #[x1, x2]).run Tryz.prog w = .ok v' w') (h : wpList Tryz.prog ops Q rest (a.put o.dst v') w') : wpList Tryz.prog ops Q (o :: rest) a w := by
  refine wpList_plain hgd fun K hK => ?_
  unfold Oper.wp execOp
  simp only [ho, resolve, invoke, builtin, Sem.run_bind, Sem.run_pure, Result.andThen_ok, List.map_toArray, List.map_cons, List.map_nil, hs, hx, hr]
  exact hK _ _ h
theorem bx_grow {W W1 W2 : World} {g : Nat} (b : Below W.heap.size W W1) (h : W1.grownBy W2 (some g)) (hg : W.heap.size ≤ g) : Below W.heap.size W W2 := ⟨h.os.trans b.os, h.tape.trans b.tape, h.output.trans b.output, Nat.le_trans b.size h.size, fun j hj => by
  rw [h.block j (by have := b.size; omega) (fun e => by cases e; omega)]
  exact b.block j hj⟩
theorem nil_yesT (c : Nat) (w : World) : Sem.run Tryz.prog (binOp BinOp.eql 33 (.slice none 0 c) (.slice none 0 0)) w = .ok (.bool true) w := by kernel_rfl
theorem nil_noT (a : Addr) (n c : Nat) (w : World) : Sem.run Tryz.prog (binOp BinOp.eql 33 (.slice (some a) n c) (.slice none 0 0)) w = .ok (.bool false) w := by kernel_rfl
theorem nil_yesV (c : Nat) (w : World) : Sem.run Tryz.prog (binOp BinOp.eql 22 (.slice none 0 c) (.slice none 0 0)) w = .ok (.bool true) w := by kernel_rfl
theorem nil_noV (a : Addr) (n c : Nat) (w : World) : Sem.run Tryz.prog (binOp BinOp.eql 22 (.slice (some a) n c) (.slice none 0 0)) w = .ok (.bool false) w := by kernel_rfl
def hasB (n : Nat) (f : Nat → Int) (x : Int) : Bool := decide (∃ i, i < n ∧ f i = x)
theorem r_has {A : Option Addr} {n c : Nat} {f : Nat → Int} {w : World} (hA : Il w A n c f) (x : Int) :
    Calls Tryz.prog 49 #[.slice A n c, .int .i64 x] w (RetB w (hasB n f x)) := by
  have h1 := hA.1
  have h2 := hA.2.1
  have HA := hid hA
  clear hA
  go_enter Tryz.func49, Tryz.ntmps49
  go_wp2_with fail
  go_loopw [5] (fun i wr => ∃ j : Nat, j ≤ n ∧ i = .int .i64 j ∧ Hid (Below w.heap.size w wr ∧ ∀ i, i < j → ¬f i = x)) (fun i _ => n - (intOf i).toNat)
  case atStart => exact ⟨0, Nat.zero_le _, rfl, hid ⟨bx_refl w, fun i hi => absurd hi (by omega)⟩⟩
  case round =>
    obtain ⟨j, hj, rfl, hz⟩ := hrel
    rcases Nat.lt_or_ge j n with hlt | hge
    · obtain ⟨b, o, rfl, hb, hcell⟩ := HA.out.2.2 (by omega)
      have x0 := cell_bx (hcell j hlt) hz.out.1
      obtain ⟨y, hy⟩ : ∃ y, y = f j := ⟨_, rfl⟩
      rw [← hy] at x0
      by_cases e : y = x
      · have YY := hid (show RetB w (hasB n f x) (.returned (.bool true)) wr from ⟨by rw [show hasB n f x = true from decide_eq_true ⟨j, hlt, by rw [← hy]; exact e⟩], hz.out.1⟩)
        have t1 : (y == x) = true := by simp [e]
        clear hz HA hcell hy
        go_wp2_with fail
        go_ret
        exact YY.out
      · have t1 : (y == x) = false := by simp [e]
        have NN := hid (show Below w.heap.size w wr ∧ ∀ i, i < j + 1 → ¬f i = x from ⟨hz.out.1, fun i hi => by
          rcases Nat.lt_or_ge i j with h | h
          · exact hz.out.2 i h
          · obtain rfl : i = j := by omega
            rw [← hy]; exact e⟩)
        clear hz HA hcell hy
        go_wp2_with fail
        go_roundw
        case rel => exact ⟨j + 1, by omega, by go_num, NN⟩
        case measure => simp [intOf]; omega
    · obtain rfl : j = n := by omega
      have YY := hid (show RetB w (hasB j f x) (.returned (.bool false)) wr from ⟨by rw [show hasB j f x = false from decide_eq_false (fun ⟨i, hi, e⟩ => hz.out.2 i hi e)], hz.out.1⟩)
      clear hz HA
      go_wp2_with fail
      go_ret
      exact YY.out
end Go.Proofs.YtdbccidlnhjfhaaGreatDoor
