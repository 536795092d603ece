/- Str1: Stm, Inv, Str in one text. -/
import Derived.Test.YthbogaindaflpaaGreatDuaA
import Derived.Maps.AppendAt
import Derived.Deep.AppendSrc
import Derived.Deep.Upon
import Derived.Laws.OwnMore
import Derived.Test.YthbogaindaflpaaGreatExs
import Derived.Deep.RegionHeld
import Derived.OneCell
import Derived.Deep.DeepCutAuto
import Derived.BigQuiet
namespace Go.Proofs.YthbogaindaflpaaGreat
open Go.RowKit
set_option maxRecDepth 100000
def vcell (lo up : Nat → Int) (op it : Nat → Bool) (co : Nat → Int) (i : Nat) : Value :=
  if i % 5 = 0 then .int .i64 (lo (i / 5)) else if i % 5 = 1 then .int .i64 (up (i / 5)) else if i % 5 = 2 then .bool (op (i / 5)) else if i % 5 = 3 then .bool (it (i / 5)) else .int .i64 (co (i / 5))
def rcell (nm : Nat → ByteArray) (gr ki bo : Nat → Int) (TA : Nat → Option Addr) (tn tc : Nat → Nat) (i : Nat) : Value :=
  if i % 5 = 0 then .string (nm (i / 5)) else if i % 5 = 1 then .int .i64 (gr (i / 5)) else if i % 5 = 2 then .int .i64 (ki (i / 5)) else if i % 5 = 3 then .slice (TA (i / 5)) (tn (i / 5)) (tc (i / 5)) else .int .i64 (bo (i / 5))
def cellsOf5 (f : Nat → Value) (n : Nat) : List Value := (List.range (n * 5)).map f
theorem cells5_len (f : Nat → Value) (n : Nat) : (cellsOf5 f n).length = n * 5 := by unfold cellsOf5; simp
theorem cells5_get (f : Nat → Value) (n i : Nat) : (cellsOf5 f n)[i]? = if i < n * 5 then some (f i) else none := by
  unfold cellsOf5
  rw [List.getElem?_map]
  by_cases h : i < n * 5
  · rw [if_pos h, List.getElem?_range h]
    rfl
  · rw [if_neg h, List.getElem?_eq_none (by simp; omega)]
    rfl
theorem mod5 (j k : Nat) (hk : k < 5) : (j * 5 + k) % 5 = k ∧ (j * 5 + k) / 5 = j := by omega
theorem cells5_one (f : Nat → Value) (n : Nat) (h : ∀ i, (f i).oneCell' = true) : ∀ u ∈ cellsOf5 f n, u.oneCell' = true := by
  intro u hu
  unfold cellsOf5 at hu
  obtain ⟨i, _, rfl⟩ := List.mem_map.1 hu
  exact h i
section
variable {lo up : Nat → Int} {op it : Nat → Bool} {co : Nat → Int} {nm : Nat → ByteArray} {gr ki bo : Nat → Int} {TA : Nat → Option Addr} {tn tc : Nat → Nat} {v cf : Nat → Nat → Int} {w : World} {A : Option Addr} {n c : Nat}
theorem vcell_one (i : Nat) : (vcell lo up op it co i).oneCell' = true := by unfold vcell; (repeat' split) <;> rfl
theorem rcell_one (i : Nat) : (rcell nm gr ki bo TA tn tc i).oneCell' = true := by unfold rcell; (repeat' split) <;> rfl
theorem vcell_at (j : Nat) : vcell lo up op it co (j * 5) = .int .i64 (lo j) ∧ vcell lo up op it co (j * 5 + 1) = .int .i64 (up j) ∧ vcell lo up op it co (j * 5 + 2) = .bool (op j) ∧ vcell lo up op it co (j * 5 + 3) = .bool (it j) ∧ vcell lo up op it co (j * 5 + 4) = .int .i64 (co j) := by
  have h0 := mod5 j 0 (by omega)
  have h1 := mod5 j 1 (by omega)
  have h2 := mod5 j 2 (by omega)
  have h3 := mod5 j 3 (by omega)
  have h4 := mod5 j 4 (by omega)
  rw [Nat.add_zero] at h0
  unfold vcell
  rw [h0.1, h0.2, h1.1, h1.2, h2.1, h2.2, h3.1, h3.2, h4.1, h4.2]
  exact ⟨rfl, rfl, rfl, rfl, rfl⟩
theorem rcell_at (j : Nat) : rcell nm gr ki bo TA tn tc (j * 5) = .string (nm j) ∧ rcell nm gr ki bo TA tn tc (j * 5 + 1) = .int .i64 (gr j) ∧ rcell nm gr ki bo TA tn tc (j * 5 + 2) = .int .i64 (ki j) ∧ rcell nm gr ki bo TA tn tc (j * 5 + 3) = .slice (TA j) (tn j) (tc j) ∧ rcell nm gr ki bo TA tn tc (j * 5 + 4) = .int .i64 (bo j) := by
  have h0 := mod5 j 0 (by omega)
  have h1 := mod5 j 1 (by omega)
  have h2 := mod5 j 2 (by omega)
  have h3 := mod5 j 3 (by omega)
  have h4 := mod5 j 4 (by omega)
  rw [Nat.add_zero] at h0
  unfold rcell
  rw [h0.1, h0.2, h1.1, h1.2, h2.1, h2.2, h3.1, h3.2, h4.1, h4.2]
  exact ⟨rfl, rfl, rfl, rfl, rfl⟩
theorem place5 (i : Nat) : ∃ j k, i = j * 5 + k ∧ k < 5 := ⟨i / 5, i % 5, by omega, by omega⟩
theorem vs_cells (h : Vs w A n c lo up op it co) : 0 < n → ∃ b o, A = some ⟨b, o, none⟩ ∧ b < w.heap.size ∧ ∀ i u, (cellsOf5 (vcell lo up op it co) n)[i]? = some u → w.cell? ⟨b, o + i, none⟩ = some u := by
  intro hn
  obtain ⟨b, o, rfl, hb, hc⟩ := h.2.2.2 hn
  refine ⟨b, o, rfl, hb, fun i u hu => ?_⟩
  rw [cells5_get] at hu
  by_cases hi : i < n * 5
  · rw [if_pos hi, Option.some.injEq] at hu
    subst hu
    obtain ⟨j, k, rfl, hk⟩ := place5 i
    obtain ⟨c0, c1, c2, c3, c4⟩ := hc j (by omega)
    obtain ⟨e0, e1, e2, e3, e4⟩ := vcell_at (lo := lo) (up := up) (op := op) (it := it) (co := co) j
    have : k = 0 ∨ k = 1 ∨ k = 2 ∨ k = 3 ∨ k = 4 := by omega
    rcases this with rfl | rfl | rfl | rfl | rfl
    · rw [Nat.add_zero, e0]; exact c0
    · rw [e1, ← Nat.add_assoc]; exact c1
    · rw [e2, ← Nat.add_assoc]; exact c2
    · rw [e3, ← Nat.add_assoc]; exact c3
    · rw [e4, ← Nat.add_assoc]; exact c4
  · rw [if_neg hi] at hu
    cases hu
theorem rs_cells (h : Rs w A n c nm gr ki bo TA tn tc v cf) : 0 < n → ∃ b o, A = some ⟨b, o, none⟩ ∧ b < w.heap.size ∧ ∀ i u, (cellsOf5 (rcell nm gr ki bo TA tn tc) n)[i]? = some u → w.cell? ⟨b, o + i, none⟩ = some u := by
  intro hn
  obtain ⟨b, o, rfl, hb, hc⟩ := h.2.2.2 hn
  refine ⟨b, o, rfl, hb, fun i u hu => ?_⟩
  rw [cells5_get] at hu
  by_cases hi : i < n * 5
  · rw [if_pos hi, Option.some.injEq] at hu
    subst hu
    obtain ⟨j, k, rfl, hk⟩ := place5 i
    obtain ⟨c0, c1, c2, c3, c4⟩ := hc j (by omega)
    obtain ⟨e0, e1, e2, e3, e4⟩ := rcell_at (nm := nm) (gr := gr) (ki := ki) (bo := bo) (TA := TA) (tn := tn) (tc := tc) j
    have : k = 0 ∨ k = 1 ∨ k = 2 ∨ k = 3 ∨ k = 4 := by omega
    rcases this with rfl | rfl | rfl | rfl | rfl
    · rw [Nat.add_zero, e0]; exact c0
    · rw [e1, ← Nat.add_assoc]; exact c1
    · rw [e2, ← Nat.add_assoc]; exact c2
    · rw [e3, ← Nat.add_assoc]; exact c3
    · rw [e4, ← Nat.add_assoc]; exact c4
  · rw [if_neg hi] at hu
    cases hu
theorem own_form {base e n : Nat} {x : Value} {xs : List Value} (h : w.ownsRow base e 5 x n xs) : ∃ A c, x = .slice A n c ∧ n ≤ c ∧ c ≤ 9223372036854775807 ∧ (0 < n → ∃ g, A = some ⟨g, 0, none⟩ ∧ base ≤ g ∧ g < w.heap.size ∧ ∀ i, i < n * 5 → w.cell? ⟨g, i, none⟩ = xs[i]?) := by
  have hh := h
  rcases h.2 with ⟨rfl, rfl⟩ | ⟨g, cap, cur, rfl, hb, hg, hnc, hcm, hcs, ht⟩
  · exact ⟨none, 0, rfl, Nat.le_refl _, by omega, fun hn => absurd hn (by omega)⟩
  · refine ⟨_, cap, rfl, hnc, by unfold maxLen at hcm; exact hcm, fun _ => ⟨g, rfl, hb, (Array.getElem?_eq_some_iff.1 hg).1, fun i hi => hh.cellAt i hi⟩⟩
theorem own_vs {base : Nat} {x : Value} (h : w.ownsRow base 50 5 x n (cellsOf5 (vcell lo up op it co) n)) (hb : ∀ j, j < n → (-9223372036854775808 ≤ lo j ∧ lo j ≤ 9223372036854775807) ∧ (-9223372036854775808 ≤ up j ∧ up j ≤ 9223372036854775807) ∧ -9223372036854775808 ≤ co j ∧ co j ≤ 9223372036854775807) : ∃ A c, x = .slice A n c ∧ Vs w A n c lo up op it co := by
  obtain ⟨A, c, rfl, h1, h2, h3⟩ := own_form h
  refine ⟨A, c, rfl, h1, h2, hb, fun hn => ?_⟩
  obtain ⟨g, rfl, _, hg, hc⟩ := h3 hn
  refine ⟨g, 0, rfl, hg, fun j hj => ?_⟩
  obtain ⟨e0, e1, e2, e3, e4⟩ := vcell_at (lo := lo) (up := up) (op := op) (it := it) (co := co) j
  have at_ : ∀ k, k < 5 → w.cell? ⟨g, 0 + j * 5 + k, none⟩ = some (vcell lo up op it co (j * 5 + k)) := fun k hk => by
    rw [Nat.zero_add, hc _ (by omega), cells5_get, if_pos (by omega)]
  exact ⟨by rw [← e0]; exact at_ 0 (by omega), by rw [← e1]; exact at_ 1 (by omega), by rw [← e2]; exact at_ 2 (by omega), by rw [← e3]; exact at_ 3 (by omega), by rw [← e4]; exact at_ 4 (by omega)⟩
theorem own_rs {base : Nat} {x : Value} (h : w.ownsRow base 43 5 x n (cellsOf5 (rcell nm gr ki bo TA tn tc) n)) (hb : ∀ j, j < n → (-9223372036854775808 ≤ ki j ∧ ki j ≤ 9223372036854775807) ∧ (-9223372036854775808 ≤ bo j ∧ bo j ≤ 9223372036854775807) ∧ (-9223372036854775808 ≤ gr j ∧ gr j ≤ 9223372036854775807) ∧ Ts w (TA j) (tn j) (tc j) (v j) (cf j)) : ∃ A c, x = .slice A n c ∧ Rs w A n c nm gr ki bo TA tn tc v cf := by
  obtain ⟨A, c, rfl, h1, h2, h3⟩ := own_form h
  refine ⟨A, c, rfl, h1, h2, hb, fun hn => ?_⟩
  obtain ⟨g, rfl, _, hg, hc⟩ := h3 hn
  refine ⟨g, 0, rfl, hg, fun j hj => ?_⟩
  obtain ⟨e0, e1, e2, e3, e4⟩ := rcell_at (nm := nm) (gr := gr) (ki := ki) (bo := bo) (TA := TA) (tn := tn) (tc := tc) j
  have at_ : ∀ k, k < 5 → w.cell? ⟨g, 0 + j * 5 + k, none⟩ = some (rcell nm gr ki bo TA tn tc (j * 5 + k)) := fun k hk => by
    rw [Nat.zero_add, hc _ (by omega), cells5_get, if_pos (by omega)]
  exact ⟨by rw [← e0]; exact at_ 0 (by omega), by rw [← e1]; exact at_ 1 (by omega), by rw [← e2]; exact at_ 2 (by omega), by rw [← e3]; exact at_ 3 (by omega), by rw [← e4]; exact at_ 4 (by omega)⟩
end
theorem cells5_snoc (f : Nat → Value) (n : Nat) : cellsOf5 f (n + 1) = cellsOf5 f n ++ [f (n * 5), f (n * 5 + 1), f (n * 5 + 2), f (n * 5 + 3), f (n * 5 + 4)] := by
  unfold cellsOf5
  rw [show (n + 1) * 5 = n * 5 + 5 by omega, List.range_add, List.map_append, List.map_map]
  rfl
theorem cells5_congr {f g : Nat → Value} {n : Nat} (h : ∀ i, i < n * 5 → f i = g i) : cellsOf5 f n = cellsOf5 g n := by
  unfold cellsOf5
  exact List.map_congr_left fun i hi => h i (List.mem_range.1 hi)
theorem cells5_set (f : Nat → Value) (n i : Nat) (u : Value) : (cellsOf5 f n).set i u = cellsOf5 (fun x => if x = i then u else f x) n := by
  refine List.ext_getElem? fun x => ?_
  rw [List.getElem?_set, cells5_get, cells5_get, cells5_len]
  by_cases h2 : i = x
  · subst h2
    by_cases h1 : i < n * 5 <;> simp [h1]
  · have h3 : x ≠ i := Ne.symm h2
    by_cases h1 : x < n * 5 <;> simp [h1, h2, h3]
theorem app_all {W : World} {P : Program} {base t ty e g : Nat} {i : TypeInfo} {z : Value} {bytes : Nat} (ht : P.underlying t = some (.slice e)) (hi : P.info? e = some i) (hz : i.zero = some z) (hsz : i.size = 5) (hby : i.bytes = bytes) (hzs : z.cells.size = 5) (hbt : bytes ≤ 1000)
    (hB : Blk W g [] e) (hg : base ≤ g) (hbs : base ≤ W.heap.size) {A : Option Addr} {n c : Nat} {xs : List Value} (hl : xs.length = n * 5) (hone : ∀ u ∈ xs, u.oneCell' = true) (hn : n ≤ 1000) (hr : 0 < n → ∃ b o, A = some ⟨b, o, none⟩ ∧ ∀ i u, xs[i]? = some u → W.cell? ⟨b, o + i, none⟩ = some u) :
    ∃ v' w', (Builtin.append_ #[t, t] ty #[.slice (some ⟨g, 0, none⟩) 0 0, .slice A n c]).run P W = .ok v' w' ∧ w'.ownsRow base e 5 v' n xs ∧ W.grownBy w' (some g) ∧ (v'.ownBlock = some g ∨ v'.ownBlock = some W.heap.size) := by
  have hown : W.ownsRow base e 5 (.slice (some ⟨g, 0, none⟩) 0 0) 0 [] := ⟨rfl, .inr ⟨g, 0, #[], rfl, hg, hB, Nat.le_refl _, by unfold maxLen; omega, rfl, rfl⟩⟩
  rcases Nat.eq_zero_or_pos n with rfl | hpos
  · have hx : xs = [] := List.length_eq_zero_iff.1 (by omega)
    subst hx
    have src : _root_.Go.Src P i.size t (.slice A 0 c) 0 [] W := by
      rcases A with _ | a
      · exact _root_.Go.Src.ofNil W ht c
      · exact _root_.Go.Src.ofSlice W ht a 0 c [] (by simp) (fun j u h => by cases h) (fun _ h => by cases h)
    exact ⟨_, W, run_append_nothing W t t ty e i ht hi (some ⟨g, 0, none⟩) 0 0 (Nat.le_refl _) _ src, hown, ⟨rfl, rfl, rfl, Nat.le_refl _, fun _ _ _ => rfl⟩, .inl rfl⟩
  · obtain ⟨b, o, rfl, hc⟩ := hr hpos
    obtain ⟨v', w', h1, h2, h3, _, h5⟩ := run_append_own_at (P := P) (w := W) base t ty e i z 5 bytes ht hi hz hsz hby hzs (by omega) (.slice (some ⟨g, 0, none⟩) 0 0) 0 [] hown ⟨b, o, none⟩ n c xs hl (fun j u hj => by
      have e1 : (⟨b, o, none⟩ : Addr).add j = ⟨b, o + j, none⟩ := by unfold Addr.add; split <;> simp_all
      rw [e1]
      exact hc j u hj) hone (by unfold maxLen; omega) (by have := Nat.mul_le_mul hn hbt; rw [Nat.zero_add]; omega) hbs
    rw [Nat.zero_add, List.nil_append] at h2
    exact ⟨v', w', h1, h2, h3, h5⟩
section
variable {P : Program} {md : Region.Mode} {ops : Array Oper} {Q : Exit → Act → World → Prop} {S : World → Prop}
theorem count_up {l : Array Bool} {i : Nat} (h : l.getD i true = false) : (l.setIfInBounds i true).count false + 1 = l.count false := by
  have hi : i < l.size := by
    rcases Nat.lt_or_ge i l.size with h' | h'
    · exact h'
    · rw [Array.getD_eq_getD_getElem?, Array.getElem?_eq_none h'] at h
      cases h
  have hv : l[i] = false := by
    rw [Array.getD_eq_getD_getElem?, Array.getElem?_eq_getElem hi] at h
    exact h
  rw [Array.setIfInBounds_def, dif_pos hi, Array.count_set hi, hv]
  have : 0 < l.count false := Array.count_pos_iff.2 (by rw [← hv]; exact Array.getElem_mem hi)
  simp
  omega
theorem held_inv (I : Array Bool → Act → World → Prop)
    (step : ∀ l a w i, I l a w → S w → i ∈ Region.ready md ops l → wpOp P ops Q i (fun a' w' => S w' ∧ I (l.setIfInBounds i true) a' w') a w)
    (fin : ∀ l a w, I l a w → S w → Region.ready md ops l = [] → Q .normal a w) : ∀ n l a w, I l a w → S w → l.count false ≤ n → wpAnyH P md ops Q S n l a w := by
  intro n
  induction n with
  | zero =>
    intro l a w hI hS hc
    have hr : Region.ready md ops l = [] := by
      rcases h : Region.ready md ops l with _ | ⟨j, js⟩
      · rfl
      · have hj : j ∈ Region.ready md ops l := by rw [h]; exact List.mem_cons_self
        have := count_up (mem_ready.1 hj).1
        omega
    exact ⟨hr, fin l a w hI hS hr⟩
  | succ n ih =>
    intro l a w hI hS hc
    refine ⟨fun hr => fin l a w hI hS hr, fun i hi => wpOp_mono (fun a' w' h => ⟨h.1, ih _ a' w' h.2 h.1 ?_⟩) (step l a w i hI hS hi)⟩
    have := count_up (mem_ready.1 hi).1
    omega
theorem act_letter {n : Nat} {l : Array Bool} {a : Act} {w : World} (h : ∀ a0, a0 = a → wpAnyH P md ops Q S n l a0 w) : wpAnyH P md ops Q S n l a w := h a rfl
end
def act5 (a : Act) (x50 x53 x54 x57 x59 x60 x61 x11 : Value) : Act := { a with tmps := (((((((a.tmps.setIfInBounds 50 x50).setIfInBounds 53 x53).setIfInBounds 54 x54).setIfInBounds 57 x57).setIfInBounds 59 x59).setIfInBounds 60 x60).setIfInBounds 61 x61).setIfInBounds 11 x11 }
theorem eval_get {a : Act} {t : Nat} {v : Value} (h : a.eval (.tmp t) = v) : a.tmps[t]?.getD undef = v := by
  unfold Act.eval at h
  rw [← Array.getD_eq_getD_getElem?]
  exact h
theorem act_tmps {a : Act} {s t : Array Value} (h : s = t) : ({ a with tmps := s } : Act) = { a with tmps := t } := by rw [h]
section
variable (a : Act) (x50 x53 x54 x57 x59 x60 x61 x11 v : Value)
theorem act5_50 : (act5 a x50 x53 x54 x57 x59 x60 x61 x11).put (some 50) v = act5 a v x53 x54 x57 x59 x60 x61 x11 := by
  unfold act5 Act.put
  dsimp only
  refine act_tmps (Array.ext_getElem? fun k => ?_)
  simp only [Array.getElem?_setIfInBounds, Array.size_setIfInBounds]
  by_cases h : 50 = k
  · subst h
    simp
  · simp [h]
theorem act5_53 : (act5 a x50 x53 x54 x57 x59 x60 x61 x11).put (some 53) v = act5 a x50 v x54 x57 x59 x60 x61 x11 := by
  unfold act5 Act.put
  dsimp only
  refine act_tmps (Array.ext_getElem? fun k => ?_)
  simp only [Array.getElem?_setIfInBounds, Array.size_setIfInBounds]
  by_cases h : 53 = k
  · subst h
    simp
  · simp [h]
theorem act5_54 : (act5 a x50 x53 x54 x57 x59 x60 x61 x11).put (some 54) v = act5 a x50 x53 v x57 x59 x60 x61 x11 := by
  unfold act5 Act.put
  dsimp only
  refine act_tmps (Array.ext_getElem? fun k => ?_)
  simp only [Array.getElem?_setIfInBounds, Array.size_setIfInBounds]
  by_cases h : 54 = k
  · subst h
    simp
  · simp [h]
theorem act5_57 : (act5 a x50 x53 x54 x57 x59 x60 x61 x11).put (some 57) v = act5 a x50 x53 x54 v x59 x60 x61 x11 := by
  unfold act5 Act.put
  dsimp only
  refine act_tmps (Array.ext_getElem? fun k => ?_)
  simp only [Array.getElem?_setIfInBounds, Array.size_setIfInBounds]
  by_cases h : 57 = k
  · subst h
    simp
  · simp [h]
theorem act5_59 : (act5 a x50 x53 x54 x57 x59 x60 x61 x11).put (some 59) v = act5 a x50 x53 x54 x57 v x60 x61 x11 := by
  unfold act5 Act.put
  dsimp only
  refine act_tmps (Array.ext_getElem? fun k => ?_)
  simp only [Array.getElem?_setIfInBounds, Array.size_setIfInBounds]
  by_cases h : 59 = k
  · subst h
    simp
  · simp [h]
theorem act5_60 : (act5 a x50 x53 x54 x57 x59 x60 x61 x11).put (some 60) v = act5 a x50 x53 x54 x57 x59 v x61 x11 := by
  unfold act5 Act.put
  dsimp only
  refine act_tmps (Array.ext_getElem? fun k => ?_)
  simp only [Array.getElem?_setIfInBounds, Array.size_setIfInBounds]
  by_cases h : 60 = k
  · subst h
    simp
  · simp [h]
theorem act5_61 : (act5 a x50 x53 x54 x57 x59 x60 x61 x11).put (some 61) v = act5 a x50 x53 x54 x57 x59 x60 v x11 := by
  unfold act5 Act.put
  dsimp only
  refine act_tmps (Array.ext_getElem? fun k => ?_)
  simp only [Array.getElem?_setIfInBounds, Array.size_setIfInBounds]
  by_cases h : 61 = k
  · subst h
    simp
  · simp [h]
theorem act5_11 : (act5 a x50 x53 x54 x57 x59 x60 x61 x11).put (some 11) v = act5 a x50 x53 x54 x57 x59 x60 x61 v := by
  unfold act5 Act.put
  dsimp only
  refine act_tmps (Array.ext_getElem? fun k => ?_)
  simp only [Array.getElem?_setIfInBounds, Array.size_setIfInBounds]
  by_cases h : 11 = k
  · subst h
    simp
  · simp [h]
theorem act5_eval (hs : 62 ≤ a.tmps.size) : (act5 a x50 x53 x54 x57 x59 x60 x61 x11).eval (.tmp 50) = x50 ∧ (act5 a x50 x53 x54 x57 x59 x60 x61 x11).eval (.tmp 53) = x53 ∧ (act5 a x50 x53 x54 x57 x59 x60 x61 x11).eval (.tmp 54) = x54 ∧ (act5 a x50 x53 x54 x57 x59 x60 x61 x11).eval (.tmp 57) = x57 ∧ (act5 a x50 x53 x54 x57 x59 x60 x61 x11).eval (.tmp 59) = x59 ∧ (act5 a x50 x53 x54 x57 x59 x60 x61 x11).eval (.tmp 60) = x60 ∧ (act5 a x50 x53 x54 x57 x59 x60 x61 x11).eval (.tmp 61) = x61 ∧ (act5 a x50 x53 x54 x57 x59 x60 x61 x11).eval (.tmp 11) = x11 := by
  unfold act5 Act.eval
  simp only [Array.getD_eq_getD_getElem?, Array.getElem?_setIfInBounds, Array.size_setIfInBounds]
  have h1 : 50 < a.tmps.size := by omega
  have h2 : 53 < a.tmps.size := by omega
  have h3 : 54 < a.tmps.size := by omega
  have h4 : 57 < a.tmps.size := by omega
  have h5 : 59 < a.tmps.size := by omega
  have h6 : 60 < a.tmps.size := by omega
  have h7 : 61 < a.tmps.size := by omega
  have h8 : 11 < a.tmps.size := by omega
  simp [h1, h2, h3, h4, h5, h6, h7, h8]
theorem act5_far (t : Nat) (h : t = 52 ∨ t = 56 ∨ t = 58) : (act5 a x50 x53 x54 x57 x59 x60 x61 x11).eval (.tmp t) = a.eval (.tmp t) := by
  unfold act5 Act.eval
  simp only [Array.getD_eq_getD_getElem?, Array.getElem?_setIfInBounds, Array.size_setIfInBounds]
  rcases h with rfl | rfl | rfl <;> simp
end
section
variable {w : World} {o : Oper} {a : Act} {K : Act → World → Prop} {Q : Exit → Act → World → Prop}
theorem wp_bs_var (ho : o.op = .buildSlice 22 0 #[]) (h : K (a.put o.dst (.slice (some ⟨w.heap.size, 0, none⟩) 0 0)) (w.alloc (.cells #[] 50))) : o.wp Tryz.prog a w K Q := by
  unfold Oper.wp execOp
  rw [ho]
  go_simp
  exact h
theorem wp_bs_row (ho : o.op = .buildSlice 23 0 #[]) (h : K (a.put o.dst (.slice (some ⟨w.heap.size, 0, none⟩) 0 0)) (w.alloc (.cells #[] 43))) : o.wp Tryz.prog a w K Q := by
  unfold Oper.wp execOp
  rw [ho]
  go_simp
  exact h
theorem wp_bs_one (ho : o.op = .buildSlice 23 1 #[(0, .tmp 58)]) {y0 y1 y2 y3 y4 : Value} (hv : a.eval (.tmp 58) = .agg #[y0, y1, y2, y3, y4]) (h : K (a.put o.dst (.slice (some ⟨w.heap.size, 0, none⟩) 1 1)) (w.alloc (.cells #[y0, y1, y2, y3, y4] 43))) : o.wp Tryz.prog a w K Q := by
  have g1 := eval_get hv
  unfold Oper.wp execOp
  rw [ho]
  go_simp
  exact h
theorem wp_alloc_prog (ho : o.op = .alloc 25) (h : K (a.put o.dst (.pointer (some ⟨w.heap.size, 0, none⟩))) (w.alloc (.cells #[.slice none 0 0, .slice none 0 0] 25))) : o.wp Tryz.prog a w K Q := by
  unfold Oper.wp execOp
  rw [ho]
  go_simp
  exact h
theorem wp_build_prog (ho : o.op = .build 25 #[(0, .tmp 53), (1, .tmp 60)]) {A B : Option Addr} {n c m d : Nat} (h53 : a.eval (.tmp 53) = .slice A n c) (h60 : a.eval (.tmp 60) = .slice B m d) (h : K (a.put o.dst (.agg #[.slice A n c, .slice B m d])) w) : o.wp Tryz.prog a w K Q := by
  have g1 := eval_get h53
  have g2 := eval_get h60
  unfold Oper.wp execOp
  rw [ho]
  go_simp
  exact h
theorem wp_store_prog (ho : o.op = .store 25 (.tmp 11) (.tmp 61)) (hd : o.dst = none) {g : Nat} {A B : Option Addr} {n c m d : Nat} (h11 : a.eval (.tmp 11) = .pointer (some ⟨g, 0, none⟩)) (h61 : a.eval (.tmp 61) = .agg #[.slice A n c, .slice B m d]) (hB : Blk w g [.slice none 0 0, .slice none 0 0] 25) (h : K a ((w.setCell ⟨g, 0, none⟩ (.slice A n c)).setCell ⟨g, 1, none⟩ (.slice B m d))) : o.wp Tryz.prog a w K Q := by
  obtain ⟨y0, y1⟩ := blk_two hB
  have g1 := eval_get h11
  have g2 := eval_get h61
  have f0 := hB.free 0
  have f1 := hB.free 1
  unfold Oper.wp execOp
  rw [ho]
  go_simp
  exact h
theorem wp_app {s x : Operand} {t : TypeId} (ho : o.op = .call { callee := .builtin .append, args := #[s, x], argTypes := #[t, t] }) {u y v' : Value} {w' : World} (hs : a.eval s = u) (hx : a.eval x = y) (hr : (Builtin.append_ #[t, t] o.type #[u, y]).run Tryz.prog w = .ok v' w') (h : K (a.put o.dst v') w') : o.wp Tryz.prog a w K Q := by
  unfold Oper.wp execOp
  simp only [ho, resolve, invoke, builtin, Sem.run_bind, Sem.run_pure, Result.andThen_ok, List.map_toArray, List.map_cons, List.map_nil, hs, hx, hr]
  exact h
end
theorem blk_ne {w : World} {g g' : Nat} {cs cs' : List Value} {t t' : TypeId} (h : Blk w g cs t) (h' : Blk w g' cs' t') (ht : t ≠ t' ∨ cs.length ≠ cs'.length) : g ≠ g' := by
  rintro rfl
  unfold Blk at h h'
  rw [h] at h'
  simp only [Option.some.injEq, Obj.cells.injEq] at h'
  rcases ht with ht | ht
  · exact ht h'.2.1
  · exact ht (by have := congrArg Array.size h'.1; simpa using this)
theorem own_ne {w : World} {base e n g : Nat} {x : Value} {xs cs : List Value} {t : TypeId} (h : w.ownsRow base e 5 x n xs) (h' : Blk w g cs t) (ht : t ≠ e) : x.ownBlock ≠ some g := by
  intro hx
  rcases h.2 with ⟨rfl, _⟩ | ⟨g', cap, cur, rfl, _, hg, _⟩
  · cases hx
  · simp only [Value.ownBlock, Option.some.injEq] at hx
    subst hx
    unfold Blk at h'
    rw [hg] at h'
    simp only [Option.some.injEq, Obj.cells.injEq] at h'
    exact ht h'.2.1.symm
theorem own_own {w : World} {base e e' n n' : Nat} {x y : Value} {xs ys : List Value} (h : w.ownsRow base e 5 x n xs) (h' : w.ownsRow base e' 5 y n' ys) (ht : e ≠ e') : x.ownBlock = none ∨ x.ownBlock ≠ y.ownBlock := by
  rcases h.2 with ⟨rfl, _⟩ | ⟨g, cap, cur, rfl, _, hg, _⟩
  · exact .inl rfl
  · refine .inr fun hx => ?_
    rcases h'.2 with ⟨rfl, _⟩ | ⟨g', cap', cur', rfl, _, hg', _⟩
    · cases hx
    · simp only [Value.ownBlock, Option.some.injEq] at hx
      subst hx
      rw [hg] at hg'
      simp only [Option.some.injEq, Obj.cells.injEq] at hg'
      exact ht hg'.2.1
theorem grown_bx {w0 w w' : World} {r : Option Nat} (h : Below w0.heap.size w0 w) (hg : w.grownBy w' r) (hr : ∀ g, r = some g → w0.heap.size ≤ g) : Below w0.heap.size w0 w' := by
  refine ⟨hg.os.trans h.os, hg.tape.trans h.tape, hg.output.trans h.output, Nat.le_trans h.size hg.size, fun j hj => ?_⟩
  rw [hg.block j (Nat.lt_of_lt_of_le hj h.size) (fun e => by have := hr j e.symm; omega)]
  exact h.block j hj
theorem blk_grown {w w' : World} {r : Option Nat} {g : Nat} {cs : List Value} {t : TypeId} (h : Blk w g cs t) (hg : w.grownBy w' r) (hr : some g ≠ r) : Blk w' g cs t := (hg.block g h.lt hr).trans h
structure FS (w0 : World) (VC RC rC : List Value) (vn rn : Nat) (w : World) (b0 b3 b4 b7 b9 b10 b11 b12 : Bool) (x50 x53 x54 x57 x59 x60 x61 x11 : Value) : Prop where
  bel : Below w0.heap.size w0 w
  m7 : b7 = true → b3 = true ∧ b4 = true
  m10 : b10 = true → b7 = true
  m11 : b11 = true → b10 = true
  f0 : b0 = true → b3 = false → ∃ g, x50 = .slice (some ⟨g, 0, none⟩) 0 0 ∧ w0.heap.size ≤ g ∧ Blk w g [] 50
  f3 : b3 = true → w.ownsRow w0.heap.size 50 5 x53 vn VC
  f4 : b4 = true → b7 = false → ∃ g, x54 = .slice (some ⟨g, 0, none⟩) 0 0 ∧ w0.heap.size ≤ g ∧ Blk w g [] 43
  f7 : b7 = true → b10 = false → w.ownsRow w0.heap.size 43 5 x57 rn RC
  f9 : b9 = true → b10 = false → ∃ g, x59 = .slice (some ⟨g, 0, none⟩) 1 1 ∧ w0.heap.size ≤ g ∧ Blk w g rC 43
  f10 : b10 = true → w.ownsRow w0.heap.size 43 5 x60 (rn + 1) (RC ++ rC)
  f11 : b11 = true → x61 = .agg #[x53, x60]
  f12 : b12 = true → ∃ g, x11 = .pointer (some ⟨g, 0, none⟩) ∧ w0.heap.size ≤ g ∧ Blk w g [.slice none 0 0, .slice none 0 0] 25
section
variable {w0 w w' : World} {VC RC rC : List Value} {vn rn : Nat} {b0 b3 b4 b7 b9 b10 b11 b12 : Bool} {x50 x53 x54 x57 x59 x60 x61 x11 v' : Value}
theorem FS.alloc (h : FS w0 VC RC rC vn rn w b0 b3 b4 b7 b9 b10 b11 b12 x50 x53 x54 x57 x59 x60 x61 x11) (o : Obj) : FS w0 VC RC rC vn rn (w.alloc o) b0 b3 b4 b7 b9 b10 b11 b12 x50 x53 x54 x57 x59 x60 x61 x11 :=
  ⟨bx_alloc h.bel o, h.m7, h.m10, h.m11, fun a b => (h.f0 a b).imp fun _ k => ⟨k.1, k.2.1, k.2.2.alloc o⟩, fun a => (h.f3 a).alloc o, fun a b => (h.f4 a b).imp fun _ k => ⟨k.1, k.2.1, k.2.2.alloc o⟩, fun a b => (h.f7 a b).alloc o, fun a b => (h.f9 a b).imp fun _ k => ⟨k.1, k.2.1, k.2.2.alloc o⟩, fun a => (h.f10 a).alloc o, h.f11, fun a => (h.f12 a).imp fun _ k => ⟨k.1, k.2.1, k.2.2.alloc o⟩⟩
theorem FS.op0 (h : FS w0 VC RC rC vn rn w b0 b3 b4 b7 b9 b10 b11 b12 x50 x53 x54 x57 x59 x60 x61 x11) : FS w0 VC RC rC vn rn (w.alloc (.cells #[] 50)) true b3 b4 b7 b9 b10 b11 b12 (.slice (some ⟨w.heap.size, 0, none⟩) 0 0) x53 x54 x57 x59 x60 x61 x11 := by
  have k := h.alloc (.cells #[] 50)
  exact ⟨k.bel, k.m7, k.m10, k.m11, fun _ _ => ⟨_, rfl, h.bel.size, Blk.new w [] _⟩, k.f3, k.f4, k.f7, k.f9, k.f10, k.f11, k.f12⟩
theorem FS.op4 (h : FS w0 VC RC rC vn rn w b0 b3 b4 b7 b9 b10 b11 b12 x50 x53 x54 x57 x59 x60 x61 x11) : FS w0 VC RC rC vn rn (w.alloc (.cells #[] 43)) b0 b3 true b7 b9 b10 b11 b12 x50 x53 (.slice (some ⟨w.heap.size, 0, none⟩) 0 0) x57 x59 x60 x61 x11 := by
  have k := h.alloc (.cells #[] 43)
  exact ⟨k.bel, fun a => ⟨(k.m7 a).1, rfl⟩, k.m10, k.m11, k.f0, k.f3, fun _ _ => ⟨_, rfl, h.bel.size, Blk.new w [] _⟩, k.f7, k.f9, k.f10, k.f11, k.f12⟩
theorem FS.op9 (h : FS w0 VC RC rC vn rn w b0 b3 b4 b7 b9 b10 b11 b12 x50 x53 x54 x57 x59 x60 x61 x11) : FS w0 VC RC rC vn rn (w.alloc (.cells rC.toArray 43)) b0 b3 b4 b7 true b10 b11 b12 x50 x53 x54 x57 (.slice (some ⟨w.heap.size, 0, none⟩) 1 1) x60 x61 x11 := by
  have k := h.alloc (.cells rC.toArray 43)
  exact ⟨k.bel, k.m7, k.m10, k.m11, k.f0, k.f3, k.f4, k.f7, fun _ _ => ⟨_, rfl, h.bel.size, Blk.new w rC _⟩, k.f10, k.f11, k.f12⟩
theorem FS.op12 (h : FS w0 VC RC rC vn rn w b0 b3 b4 b7 b9 b10 b11 b12 x50 x53 x54 x57 x59 x60 x61 x11) : FS w0 VC RC rC vn rn (w.alloc (.cells #[.slice none 0 0, .slice none 0 0] 25)) b0 b3 b4 b7 b9 b10 b11 true x50 x53 x54 x57 x59 x60 x61 (.pointer (some ⟨w.heap.size, 0, none⟩)) := by
  have k := h.alloc (.cells #[.slice none 0 0, .slice none 0 0] 25)
  exact ⟨k.bel, k.m7, k.m10, k.m11, k.f0, k.f3, k.f4, k.f7, k.f9, k.f10, k.f11, fun _ => ⟨_, rfl, h.bel.size, Blk.new w [.slice none 0 0, .slice none 0 0] _⟩⟩
theorem FS.op11 (h : FS w0 VC RC rC vn rn w b0 b3 b4 b7 b9 b10 b11 b12 x50 x53 x54 x57 x59 x60 x61 x11) (e : b10 = true) : FS w0 VC RC rC vn rn w b0 b3 b4 b7 b9 b10 true b12 x50 x53 x54 x57 x59 x60 (.agg #[x53, x60]) x11 :=
  ⟨h.bel, h.m7, h.m10, fun _ => e, h.f0, h.f3, h.f4, h.f7, h.f9, h.f10, fun _ => rfl, h.f12⟩
theorem FS.op3 {g : Nat} (h : FS w0 VC RC rC vn rn w b0 false b4 b7 b9 b10 b11 b12 x50 x53 x54 x57 x59 x60 x61 x11) (hb : w0.heap.size ≤ g) (hB : Blk w g [] 50) (ho : w'.ownsRow w0.heap.size 50 5 v' vn VC) (hg : w.grownBy w' (some g)) :
    FS w0 VC RC rC vn rn w' b0 true b4 b7 b9 b10 b11 b12 x50 v' x54 x57 x59 x60 x61 x11 := by
  have n7 : b7 ≠ true := fun e => absurd (h.m7 e).1 (by decide)
  have n10 : b10 ≠ true := fun e => n7 (h.m10 e)
  refine ⟨grown_bx h.bel hg (fun k e => by cases e; exact hb), fun e => absurd e n7, h.m10, h.m11, fun _ e => absurd e (by decide), fun _ => ho, fun a b => ?_, fun e => absurd e n7, fun a b => ?_, fun e => absurd e n10, fun e => absurd (h.m11 e) n10, fun a => ?_⟩
  · obtain ⟨k, e1, e2, e3⟩ := h.f4 a b
    exact ⟨k, e1, e2, blk_grown e3 hg (fun e => by cases e; exact blk_ne e3 hB (.inl (by decide)) rfl)⟩
  · obtain ⟨k, e1, e2, e3⟩ := h.f9 a b
    exact ⟨k, e1, e2, blk_grown e3 hg (fun e => by cases e; exact blk_ne e3 hB (.inl (by decide)) rfl)⟩
  · obtain ⟨k, e1, e2, e3⟩ := h.f12 a
    exact ⟨k, e1, e2, blk_grown e3 hg (fun e => by cases e; exact blk_ne e3 hB (.inl (by decide)) rfl)⟩
theorem FS.op7 {g : Nat} (hrc : rC.length = 5) (h : FS w0 VC RC rC vn rn w b0 b3 b4 false b9 b10 b11 b12 x50 x53 x54 x57 x59 x60 x61 x11) (e3 : b3 = true) (e4 : b4 = true) (hb : w0.heap.size ≤ g) (hB : Blk w g [] 43) (ho : w'.ownsRow w0.heap.size 43 5 v' rn RC) (hg : w.grownBy w' (some g)) :
    FS w0 VC RC rC vn rn w' b0 b3 b4 true b9 b10 b11 b12 x50 x53 x54 v' x59 x60 x61 x11 := by
  have n10 : b10 ≠ true := fun e => absurd (h.m10 e) (by decide)
  refine ⟨grown_bx h.bel hg (fun k e => by cases e; exact hb), fun _ => ⟨e3, e4⟩, fun _ => rfl, h.m11, fun _ e => absurd (e3.symm.trans e) (by decide), fun a => ?_, fun _ e => absurd e (by decide), fun _ _ => ho, fun a b => ?_, fun e => absurd e n10, fun e => absurd (h.m11 e) n10, fun a => ?_⟩
  · exact (h.f3 a).kept hg (.inr (own_ne (h.f3 a) hB (by decide)))
  · obtain ⟨k, e1, e2, e5⟩ := h.f9 a b
    exact ⟨k, e1, e2, blk_grown e5 hg (fun e => by cases e; exact blk_ne e5 hB (.inr (by rw [hrc]; decide)) rfl)⟩
  · obtain ⟨k, e1, e2, e5⟩ := h.f12 a
    exact ⟨k, e1, e2, blk_grown e5 hg (fun e => by cases e; exact blk_ne e5 hB (.inl (by decide)) rfl)⟩
theorem FS.op10 (h : FS w0 VC RC rC vn rn w b0 b3 b4 b7 b9 false b11 b12 x50 x53 x54 x57 x59 x60 x61 x11) (e7 : b7 = true) (ho : w'.ownsRow w0.heap.size 43 5 v' (rn + 1) (RC ++ rC)) (hg : w.grownBy w' x57.ownBlock) :
    FS w0 VC RC rC vn rn w' b0 b3 b4 b7 b9 true b11 b12 x50 x53 x54 x57 x59 v' x61 x11 := by
  have o7 := h.f7 e7 rfl
  have n11 : b11 ≠ true := fun e => absurd (h.m11 e) (by decide)
  refine ⟨grown_bx h.bel hg (fun k e => (o7.lt k e).1), h.m7, fun _ => e7, fun _ => rfl, fun _ e => absurd ((h.m7 e7).1.symm.trans e) (by decide), fun a => (h.f3 a).kept hg (own_own (h.f3 a) o7 (by decide)), fun _ e => absurd (e7.symm.trans e) (by decide), fun _ e => absurd e (by decide), fun _ e => absurd e (by decide), fun _ => ho, fun e => absurd e n11, fun a => ?_⟩
  obtain ⟨k, e1, e2, e5⟩ := h.f12 a
  exact ⟨k, e1, e2, blk_grown e5 hg (fun e => own_ne o7 e5 (by decide) e.symm)⟩
end
structure Made (w0 : World) (VC RC rC : List Value) (vn rn : Nat) (w : World) (x53 x60 x11 : Value) : Prop where
  bel : Below w0.heap.size w0 w
  vs : w.ownsRow w0.heap.size 50 5 x53 vn VC
  rs : w.ownsRow w0.heap.size 43 5 x60 (rn + 1) (RC ++ rC)
  at_ : ∃ g, x11 = .pointer (some ⟨g, 0, none⟩) ∧ w0.heap.size ≤ g ∧ Blk w g [x53, x60] 25
theorem set_self (t : Array Value) (i : Nat) : t.setIfInBounds i (t.getD i undef) = t := Array.ext_getElem? fun k => by
  rw [Array.getElem?_setIfInBounds]
  by_cases h : i = k
  · subst h
    by_cases h2 : i < t.size
    · simp [h2, Array.getD_eq_getD_getElem?]
    · simp [h2]
  · simp [h]
theorem act5_self (a : Act) : act5 a (a.tmps.getD 50 undef) (a.tmps.getD 53 undef) (a.tmps.getD 54 undef) (a.tmps.getD 57 undef) (a.tmps.getD 59 undef) (a.tmps.getD 60 undef) (a.tmps.getD 61 undef) (a.tmps.getD 11 undef) = a := by
  unfold act5
  simp only [set_self]
theorem edge_up {md : Region.Mode} {ops : Array Oper} {l : Array Bool} {i k : Nat} {o : Oper} (h : i ∈ Region.ready md ops l) (ho : ops[i]? = some o) (he : (o.after.any fun e => Region.binds md e && e.on == k) = true) : l.getD k false = true := by
  obtain ⟨_, o', ho', h1⟩ := mem_ready.1 h
  rw [ho, Option.some.injEq] at ho'
  subst ho'
  obtain ⟨e, hm, h2⟩ := Array.any_eq_true'.1 he
  rw [Bool.and_eq_true] at h2
  rw [← show e.on = k by simpa using h2.2]
  exact h1 e hm h2.1
theorem wanted_none {o : Oper} {y : Nat → Option Bool} (h : o.guard = none) : Region.wanted o y = true := by
  unfold Region.wanted
  rw [h]
theorem Tryz.infoVar5 : (Tryz.prog.info? 50).map (fun i => (i.zero, i.size, i.bytes)) = some (some (.agg #[.int .i64 0, .int .i64 0, .bool false, .bool false, .int .i64 0]), 5, 32) := by kernel_rfl
theorem Tryz.infoRow5 : (Tryz.prog.info? 43).map (fun i => (i.zero, i.size, i.bytes)) = some (some (.agg #[.string ⟨#[]⟩, .int .i64 0, .int .i64 0, .slice none 0 0, .int .i64 0]), 5, 64) := by kernel_rfl
set_option maxHeartbeats 4000000 in
theorem made5 {ops : Array Oper} {Q : Exit → Act → World → Prop} {S : World → Prop} {a0 : Act} {w0 : World} {VC RC : List Value} {vn rn vc rc : Nat} {V0 R0 : Option Addr} {y0 y1 y2 y3 y4 : Value} {o0 o3 o4 o7 o9 o10 o11 o12 o13 : Oper}
    (hs : 62 ≤ a0.tmps.size) (e52 : a0.eval (.tmp 52) = .slice V0 vn vc) (e56 : a0.eval (.tmp 56) = .slice R0 rn rc) (e58 : a0.eval (.tmp 58) = .agg #[y0, y1, y2, y3, y4])
    (hV : VC.length = vn * 5 ∧ ∀ u ∈ VC, u.oneCell' = true) (hR : RC.length = rn * 5 ∧ ∀ u ∈ RC, u.oneCell' = true) (hr : ∀ u ∈ [y0, y1, y2, y3, y4], u.oneCell' = true) (hvn : vn ≤ 1000) (hrn : rn ≤ 999)
    (rV : ∀ W, Below w0.heap.size w0 W → 0 < vn → ∃ b o, V0 = some ⟨b, o, none⟩ ∧ ∀ i u, VC[i]? = some u → W.cell? ⟨b, o + i, none⟩ = some u)
    (rR : ∀ W, Below w0.heap.size w0 W → 0 < rn → ∃ b o, R0 = some ⟨b, o, none⟩ ∧ ∀ i u, RC[i]? = some u → W.cell? ⟨b, o + i, none⟩ = some u)
    (hSB : ∀ W, Below w0.heap.size w0 W → S W)
    (fin : ∀ W x50 x53 x54 x57 x59 x60 x61 x11, Made w0 VC RC [y0, y1, y2, y3, y4] vn rn W x53 x60 x11 → Q .normal (act5 a0 x50 x53 x54 x57 x59 x60 x61 x11) W)
    (hsz : ops.size = 14)
    (h0 : ops[0]? = some o0) (h3 : ops[3]? = some o3) (h4 : ops[4]? = some o4) (h7 : ops[7]? = some o7) (h9 : ops[9]? = some o9) (h10 : ops[10]? = some o10) (h11 : ops[11]? = some o11) (h12 : ops[12]? = some o12) (h13 : ops[13]? = some o13)
    (p0 : o0.op = .buildSlice 22 0 #[]) (p3 : o3.op = .call { callee := .builtin .append, args := #[.tmp 50, .tmp 52], argTypes := #[22, 22] }) (p4 : o4.op = .buildSlice 23 0 #[]) (p7 : o7.op = .call { callee := .builtin .append, args := #[.tmp 54, .tmp 56], argTypes := #[23, 23] }) (p9 : o9.op = .buildSlice 23 1 #[(0, .tmp 58)]) (p10 : o10.op = .call { callee := .builtin .append, args := #[.tmp 57, .tmp 59], argTypes := #[23, 23] }) (p11 : o11.op = .build 25 #[(0, .tmp 53), (1, .tmp 60)]) (p12 : o12.op = .alloc 25) (p13 : o13.op = .store 25 (.tmp 11) (.tmp 61))
    (d0 : o0.dst = some 50) (d3 : o3.dst = some 53) (d4 : o4.dst = some 54) (d7 : o7.dst = some 57) (d9 : o9.dst = some 59) (d10 : o10.dst = some 60) (d11 : o11.dst = some 61) (d12 : o12.dst = some 11) (d13 : o13.dst = none)
    (g0 : o0.guard = none) (g3 : o3.guard = none) (g4 : o4.guard = none) (g7 : o7.guard = none) (g9 : o9.guard = none) (g10 : o10.guard = none) (g11 : o11.guard = none) (g12 : o12.guard = none) (g13 : o13.guard = none)
    (q3 : (o3.after.any fun e => Region.binds .any e && e.on == 0) = true) (q74 : (o7.after.any fun e => Region.binds .any e && e.on == 4) = true) (q73 : (o7.after.any fun e => Region.binds .any e && e.on == 3) = true) (qa7 : (o10.after.any fun e => Region.binds .any e && e.on == 7) = true) (qa9 : (o10.after.any fun e => Region.binds .any e && e.on == 9) = true) (qb : (o11.after.any fun e => Region.binds .any e && e.on == 10) = true) (qd0 : (o13.after.any fun e => Region.binds .any e && e.on == 0) = true) (qd9 : (o13.after.any fun e => Region.binds .any e && e.on == 9) = true) (qd11 : (o13.after.any fun e => Region.binds .any e && e.on == 11) = true) (qd12 : (o13.after.any fun e => Region.binds .any e && e.on == 12) = true)
    (hcomp : ∀ b0 b3 b4 b7 b9 b10 b11 b12 b13 : Bool, Region.ready .any ops #[b0, true, true, b3, b4, true, true, b7, true, b9, b10, b11, b12, b13] = [] → b13 = true) :
    wpAnyH Tryz.prog .any ops Q S 9 #[false, true, true, false, false, true, true, false, true, false, false, false, false, false] a0 w0 := by
  have htV : Tryz.prog.underlying 22 = some (.slice 50) := by kernel_rfl
  have htR : Tryz.prog.underlying 23 = some (.slice 43) := by kernel_rfl
  obtain ⟨iV, hiV, hzV⟩ := Option.map_eq_some_iff.1 Tryz.infoVar5
  simp only [Prod.mk.injEq] at hzV
  obtain ⟨zV, sV, byV⟩ := hzV
  obtain ⟨iR, hiR, hzR⟩ := Option.map_eq_some_iff.1 Tryz.infoRow5
  simp only [Prod.mk.injEq] at hzR
  obtain ⟨zR, sR, byR⟩ := hzR
  refine held_inv (fun l a w => (∃ b0 b3 b4 b7 b9 b10 b11 b12 x50 x53 x54 x57 x59 x60 x61 x11, l = #[b0, true, true, b3, b4, true, true, b7, true, b9, b10, b11, b12, false] ∧ a = act5 a0 x50 x53 x54 x57 x59 x60 x61 x11 ∧ FS w0 VC RC [y0, y1, y2, y3, y4] vn rn w b0 b3 b4 b7 b9 b10 b11 b12 x50 x53 x54 x57 x59 x60 x61 x11) ∨ (∃ b0 b3 b4 b7 b9 b10 b11 b12 x50 x53 x54 x57 x59 x60 x61 x11, l = #[b0, true, true, b3, b4, true, true, b7, true, b9, b10, b11, b12, true] ∧ (b0 && b3 && b4 && b7 && b9 && b10 && b11 && b12) = true ∧ a = act5 a0 x50 x53 x54 x57 x59 x60 x61 x11 ∧ Made w0 VC RC [y0, y1, y2, y3, y4] vn rn w x53 x60 x11)) ?_ ?_ 9 _ a0 w0 ?_ (hSB w0 (bx_refl w0)) (by decide)
  · intro l a w i hI hS hi
    have hi14 : i < 14 := by
      obtain ⟨_, o, ho, _⟩ := mem_ready.1 hi
      rw [← hsz]
      exact (Array.getElem?_eq_some_iff.1 ho).1
    have hun := (mem_ready.1 hi).1
    rcases hI with ⟨b0, b3, b4, b7, b9, b10, b11, b12, x50, x53, x54, x57, x59, x60, x61, x11, rfl, rfl, F⟩ | ⟨b0, b3, b4, b7, b9, b10, b11, b12, x50, x53, x54, x57, x59, x60, x61, x11, rfl, hall, rfl, F⟩
    · obtain ⟨v50, v53, v54, v57, v59, v60, v61, v11⟩ := act5_eval a0 x50 x53 x54 x57 x59 x60 x61 x11 hs
      have v52 := (act5_far a0 x50 x53 x54 x57 x59 x60 x61 x11 52 (.inl rfl)).trans e52
      have v56 := (act5_far a0 x50 x53 x54 x57 x59 x60 x61 x11 56 (.inr (.inl rfl))).trans e56
      have v58 := (act5_far a0 x50 x53 x54 x57 x59 x60 x61 x11 58 (.inr (.inr rfl))).trans e58
      have hc : i = 0 ∨ i = 1 ∨ i = 2 ∨ i = 3 ∨ i = 4 ∨ i = 5 ∨ i = 6 ∨ i = 7 ∨ i = 8 ∨ i = 9 ∨ i = 10 ∨ i = 11 ∨ i = 12 ∨ i = 13 := by omega
      rcases hc with rfl | rfl | rfl | rfl | rfl | rfl | rfl | rfl | rfl | rfl | rfl | rfl | rfl | rfl
      · refine wpOp_step h0 (fun K' hK => ?_)
        rw [if_pos (wanted_none g0)]
        refine wp_bs_var p0 ?_
        rw [d0, act5_50]
        have G := F.op0
        exact hK _ _ ⟨hSB _ G.bel, .inl ⟨_, _, _, _, _, _, _, _, _, _, _, _, _, _, _, _, rfl, rfl, G⟩⟩
      · exact absurd hun (by simp)
      · exact absurd hun (by simp)
      · obtain rfl : b3 = false := hun
        have t0 : b0 = true := edge_up hi h3 q3
        obtain ⟨g, rfl, gb, gB⟩ := F.f0 t0 rfl
        obtain ⟨v', w', r1, r2, r3, _⟩ := app_all (P := Tryz.prog) (ty := o3.type) htV hiV zV sV byV rfl (by omega) gB gb F.bel.size hV.1 hV.2 hvn (rV w F.bel) (c := vc)
        refine wpOp_step h3 (fun K' hK => ?_)
        rw [if_pos (wanted_none g3)]
        refine wp_app p3 v50 v52 r1 ?_
        rw [d3, act5_53]
        have G := F.op3 gb gB r2 r3
        exact hK _ _ ⟨hSB _ G.bel, .inl ⟨_, _, _, _, _, _, _, _, _, _, _, _, _, _, _, _, rfl, rfl, G⟩⟩
      · refine wpOp_step h4 (fun K' hK => ?_)
        rw [if_pos (wanted_none g4)]
        refine wp_bs_row p4 ?_
        obtain rfl : b4 = false := hun
        rw [d4, act5_54]
        have G := F.op4
        exact hK _ _ ⟨hSB _ G.bel, .inl ⟨_, _, _, _, _, _, _, _, _, _, _, _, _, _, _, _, rfl, rfl, G⟩⟩
      · exact absurd hun (by simp)
      · exact absurd hun (by simp)
      · obtain rfl : b7 = false := hun
        have t4 : b4 = true := edge_up hi h7 q74
        have t3 : b3 = true := edge_up hi h7 q73
        obtain ⟨g, rfl, gb, gB⟩ := F.f4 t4 rfl
        obtain ⟨v', w', r1, r2, r3, _⟩ := app_all (P := Tryz.prog) (ty := o7.type) htR hiR zR sR byR rfl (by omega) gB gb F.bel.size hR.1 hR.2 (by omega) (rR w F.bel) (c := rc)
        refine wpOp_step h7 (fun K' hK => ?_)
        rw [if_pos (wanted_none g7)]
        refine wp_app p7 v54 v56 r1 ?_
        rw [d7, act5_57]
        have G := F.op7 rfl t3 t4 gb gB r2 r3
        exact hK _ _ ⟨hSB _ G.bel, .inl ⟨_, _, _, _, _, _, _, _, _, _, _, _, _, _, _, _, rfl, rfl, G⟩⟩
      · exact absurd hun (by simp)
      · refine wpOp_step h9 (fun K' hK => ?_)
        rw [if_pos (wanted_none g9)]
        refine wp_bs_one p9 v58 ?_
        rw [d9, act5_59]
        have G := F.op9
        exact hK _ _ ⟨hSB _ G.bel, .inl ⟨_, _, _, _, _, _, _, _, _, _, _, _, _, _, _, _, rfl, rfl, G⟩⟩
      · obtain rfl : b10 = false := hun
        have t7 : b7 = true := edge_up hi h10 qa7
        have t9 : b9 = true := edge_up hi h10 qa9
        obtain ⟨g, rfl, gb, gB⟩ := F.f9 t9 rfl
        obtain ⟨v', w', r1, r2, r3, _⟩ := run_append_own_at (P := Tryz.prog) (w := w) w0.heap.size 23 o10.type 43 iR _ 5 64 htR hiR zR sR byR rfl (by omega) x57 rn RC (F.f7 t7 rfl) ⟨g, 0, none⟩ 1 1 [y0, y1, y2, y3, y4] rfl (fun j u hj => by rw [addr_add0, gB.cell]; exact hj) hr (by unfold maxLen; omega) (by omega) F.bel.size
        refine wpOp_step h10 (fun K' hK => ?_)
        rw [if_pos (wanted_none g10)]
        refine wp_app p10 v57 v59 r1 ?_
        rw [d10, act5_60]
        have G := F.op10 t7 r2 r3
        exact hK _ _ ⟨hSB _ G.bel, .inl ⟨_, _, _, _, _, _, _, _, _, _, _, _, _, _, _, _, rfl, rfl, G⟩⟩
      · have t10 : b10 = true := edge_up hi h11 qb
        obtain ⟨A1, c1, rfl, _⟩ := own_form (F.f3 (F.m7 (F.m10 t10)).1)
        obtain ⟨A2, c2, rfl, _⟩ := own_form (F.f10 t10)
        refine wpOp_step h11 (fun K' hK => ?_)
        rw [if_pos (wanted_none g11)]
        refine wp_build_prog p11 v53 v60 ?_
        rw [d11, act5_61]
        have G := F.op11 t10
        exact hK _ _ ⟨hSB _ G.bel, .inl ⟨_, _, _, _, _, _, _, _, _, _, _, _, _, _, _, _, rfl, rfl, G⟩⟩
      · refine wpOp_step h12 (fun K' hK => ?_)
        rw [if_pos (wanted_none g12)]
        refine wp_alloc_prog p12 ?_
        rw [d12, act5_11]
        have G := F.op12
        exact hK _ _ ⟨hSB _ G.bel, .inl ⟨_, _, _, _, _, _, _, _, _, _, _, _, _, _, _, _, rfl, rfl, G⟩⟩
      · have t11 : b11 = true := edge_up hi h13 qd11
        have t12 : b12 = true := edge_up hi h13 qd12
        have t10 := F.m11 t11
        have t7 := F.m10 t10
        have t3 := (F.m7 t7).1
        have t4 := (F.m7 t7).2
        have t0 : b0 = true := edge_up hi h13 qd0
        have t9 : b9 = true := edge_up hi h13 qd9
        have oV := F.f3 t3
        have oR := F.f10 t10
        have e61 := F.f11 t11
        obtain ⟨g, rfl, gb, gB⟩ := F.f12 t12
        have nV := own_ne oV gB (by decide)
        have nR := own_ne oR gB (by decide)
        have bel := F.bel
        obtain ⟨A1, c1, rfl, _⟩ := own_form oV
        obtain ⟨A2, c2, rfl, _⟩ := own_form oR
        subst e61
        have M : Made w0 VC RC [y0, y1, y2, y3, y4] vn rn ((w.setCell ⟨g, 0, none⟩ (.slice A1 vn c1)).setCell ⟨g, 1, none⟩ (.slice A2 (rn + 1) c2)) (.slice A1 vn c1) (.slice A2 (rn + 1) c2) (.pointer (some ⟨g, 0, none⟩)) := ⟨bx_set (bx_set bel gb) gb, ownsRow_setCell_other (ownsRow_setCell_other oV nV _) nV _, ownsRow_setCell_other (ownsRow_setCell_other oR nR _) nR _, g, rfl, gb, blk_set2 gB⟩
        refine wpOp_step h13 (fun K' hK => ?_)
        rw [if_pos (wanted_none g13)]
        refine wp_store_prog p13 d13 v11 v61 gB ?_
        exact hK _ _ ⟨hSB _ M.bel, .inr ⟨_, _, _, _, _, _, _, _, _, _, _, _, _, _, _, _, rfl, by rw [t0, t3, t4, t7, t9, t10, t11, t12]; rfl, rfl, M⟩⟩
    · simp only [Bool.and_eq_true] at hall
      obtain ⟨⟨⟨⟨⟨⟨⟨rfl, rfl⟩, rfl⟩, rfl⟩, rfl⟩, rfl⟩, rfl⟩, rfl⟩ := hall
      have hc : i = 0 ∨ i = 1 ∨ i = 2 ∨ i = 3 ∨ i = 4 ∨ i = 5 ∨ i = 6 ∨ i = 7 ∨ i = 8 ∨ i = 9 ∨ i = 10 ∨ i = 11 ∨ i = 12 ∨ i = 13 := by omega
      rcases hc with rfl | rfl | rfl | rfl | rfl | rfl | rfl | rfl | rfl | rfl | rfl | rfl | rfl | rfl <;> exact absurd hun (by decide)
  · intro l a w hI hS hr0
    rcases hI with ⟨b0, b3, b4, b7, b9, b10, b11, b12, x50, x53, x54, x57, x59, x60, x61, x11, rfl, rfl, F⟩ | ⟨b0, b3, b4, b7, b9, b10, b11, b12, x50, x53, x54, x57, x59, x60, x61, x11, rfl, hall, rfl, F⟩
    · exact absurd (hcomp _ _ _ _ _ _ _ _ _ hr0) (by decide)
    · exact fin _ _ _ _ _ _ _ _ _ F
  · refine .inl ⟨_, _, _, _, _, _, _, _, _, _, _, _, _, _, _, _, rfl, (act5_self a0).symm, ?_⟩
    exact ⟨bx_refl w0, fun e => absurd e (by decide), fun e => absurd e (by decide), fun e => absurd e (by decide), fun e => absurd e (by decide), fun e => absurd e (by decide), fun e => absurd e (by decide), fun e => absurd e (by decide), fun e => absurd e (by decide), fun e => absurd e (by decide), fun e => absurd e (by decide), fun e => absurd e (by decide)⟩
end Go.Proofs.YthbogaindaflpaaGreat
