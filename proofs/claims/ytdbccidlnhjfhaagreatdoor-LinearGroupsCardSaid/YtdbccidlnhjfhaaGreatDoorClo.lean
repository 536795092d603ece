/- Copies that are the call's own; a set of numbers. -/
import Derived.Test.YtdbccidlnhjfhaaGreatDoorWrf
import Derived.Maps.OwnSet
import Derived.Maps.OwnOps
import Derived.Deep.DeepCutAuto
import Derived.BigQuiet
namespace Go.Proofs.YtdbccidlnhjfhaaGreatDoor
open Go.RowKit
set_option maxRecDepth 100000
theorem o_clone_vars {A : Option Addr} {n c : Nat} {lo up : Nat → Int} {op it : Nat → Bool} {co : Nat → Int} {w : World} (hT : Vs w A n c lo up op it co) (hn : n ≤ 1000) :
    Calls Tryz.prog 92 #[.slice A n c] w (fun e w' => ∃ x, e = .returned x ∧ w'.ownsRow w.heap.size 60 5 x n (cellsOf5 (vcell lo up op it co) n) ∧ Below w.heap.size w w') := by
  obtain ⟨x, w', h1, h2, h3⟩ := own_copy_vars (bx_refl w) (ty := 22) hT hn
  have h0 := hT.2.2.2
  clear hT
  rcases A with _ | a
  · obtain rfl : n = 0 := by
      rcases Nat.eq_zero_or_pos n with h | h
      · exact h
      · obtain ⟨b, o, e, _⟩ := h0 h
        cases e
    have BR := hid (bx_refl w)
    clear h1 h2 h3 h0
    have E0 := nil_yesV c w
    go_enter Tryz.func92, Tryz.ntmps92
    go_wp2_with fail
    go_ret
    exact ⟨_, rfl, World.ownsRow_nil w _ _ _, BR.out⟩
  · have R2 := hid h2
    have R3 := hid h3
    clear h2 h3 h0
    have E0 := nil_noV a n c w
    go_enter Tryz.func92, Tryz.ntmps92
    go_wp2_with (at_builtin; refine wpList_app_run rfl (.tmp 5) (.tmp 6) rfl rfl rfl h1 ?_; clear h1)
    go_ret
    exact ⟨x, rfl, R2.out, R3.out⟩
theorem own_copy_terms {w W : World} (b : Below w.heap.size w W) {A : Option Addr} {n c ty : Nat} {v cf : Nat → Int} (hT : Ts w A n c v cf) (hn : n ≤ 1000) :
    ∃ x w', (Builtin.append_ #[33, 33] ty #[.slice (some ⟨W.heap.size, 0, none⟩) 0 0, .slice A n c]).run Tryz.prog (W.alloc (.cells #[] 94)) = .ok x w' ∧ w'.ownsRow W.heap.size 94 2 x n (cellsOf2 (tcell v cf) n) ∧ Below W.heap.size W w' := by
  obtain ⟨i, hi, hz⟩ := Option.map_eq_some_iff.1 Tryz.infoTerm9
  simp only [Prod.mk.injEq] at hz
  obtain ⟨z1, z2, z3⟩ := hz
  have ba := bx_alloc (bx_refl W) (.cells #[] 94)
  have hk := ts_cells (hT.keep (bx_call b ba))
  obtain ⟨v', w', h1, h2, h3, _⟩ := app_allN (P := Tryz.prog) (ty := ty) (base := W.heap.size) (t := 33) (by omega) Tryz.underlying33 hi z1 z2 z3 rfl (by omega) (Blk.new W [] 94) (Nat.le_refl _) (by simp) (cells2_len _ n) (cells2_one v cf n) hn (c := c) (fun hp => by
    obtain ⟨b, o, e, _, h⟩ := hk hp
    exact ⟨b, o, e, h⟩)
  exact ⟨v', w', h1, h2, bx_grow ba h3 (Nat.le_refl _)⟩
theorem o_clone_terms {A : Option Addr} {n c : Nat} {v cf : Nat → Int} {w : World} (hT : Ts w A n c v cf) (hn : n ≤ 1000) :
    Calls Tryz.prog 91 #[.slice A n c] w (fun e w' => ∃ x, e = .returned x ∧ w'.ownsRow w.heap.size 94 2 x n (cellsOf2 (tcell v cf) n) ∧ Below w.heap.size w w') := by
  obtain ⟨x, w', h1, h2, h3⟩ := own_copy_terms (bx_refl w) (ty := 33) hT hn
  have h0 := hT.2.2.2
  clear hT
  rcases A with _ | a
  · obtain rfl : n = 0 := by
      rcases Nat.eq_zero_or_pos n with h | h
      · exact h
      · obtain ⟨b, o, e, _⟩ := h0 h
        cases e
    have BR := hid (bx_refl w)
    clear h1 h2 h3 h0
    have E0 := nil_yesT c w
    go_enter Tryz.func91, Tryz.ntmps91
    go_wp2_with fail
    go_ret
    exact ⟨_, rfl, World.ownsRow_nil w _ _ _, BR.out⟩
  · have R2 := hid h2
    have R3 := hid h3
    clear h2 h3 h0
    have E0 := nil_noT a n c w
    go_enter Tryz.func91, Tryz.ntmps91
    go_wp2_with (at_builtin; refine wpList_app_run rfl (.tmp 5) (.tmp 6) rfl rfl rfl h1 ?_; clear h1)
    go_ret
    exact ⟨x, rfl, R2.out, R3.out⟩
def TsT (w : World) (A : Option Addr) (n c : Nat) (v cf : Nat → Int) : Prop := Ts w A n c v cf ∧ ∀ b o, A = some ⟨b, o, none⟩ → ∃ (cs : Array Value) (h : Nat × Nat), w.heap[b]? = some (Obj.cells cs 94 h)
theorem cell_same {w w' : World} {b i : Nat} {x : Value} (h : w.cell? ⟨b, i, none⟩ = some x) (e : w'.heap[b]? = w.heap[b]?) : w'.cell? ⟨b, i, none⟩ = some x := by
  rw [← h]
  simp only [World.cell?, e]
theorem TsT.other {w w' : World} {A : Option Addr} {n c : Nat} {v cf : Nat → Int} (h : TsT w A n c v cf) (hs : w.heap.size ≤ w'.heap.size) (e : ∀ (b : Nat) (cs : Array Value) (k : Nat × Nat), w.heap[b]? = some (Obj.cells cs 94 k) → w'.heap[b]? = w.heap[b]?) : TsT w' A n c v cf := by
  refine ⟨⟨h.1.1, h.1.2.1, h.1.2.2.1, fun hn => ?_⟩, fun b o hA => ?_⟩
  · obtain ⟨b, o, hA, hb, hc⟩ := h.1.2.2.2 hn
    obtain ⟨cs, k, hh⟩ := h.2 b o hA
    exact ⟨b, o, hA, Nat.lt_of_lt_of_le hb hs, fun j hj => ⟨cell_same (hc j hj).1 (e b cs k hh), cell_same (hc j hj).2 (e b cs k hh)⟩⟩
  · obtain ⟨cs, k, hh⟩ := h.2 b o hA
    exact ⟨cs, k, (e b cs k hh).trans hh⟩
theorem TsT.keep {w w' : World} {A : Option Addr} {n c : Nat} {v cf : Nat → Int} (h : TsT w A n c v cf) (b : Below w.heap.size w w') : TsT w' A n c v cf := h.other b.size (fun k _ _ hh => b.block k (Array.getElem?_eq_some_iff.1 hh).1)
theorem TsT.grow {w w' : World} {A : Option Addr} {n c : Nat} {v cf : Nat → Int} {base sz m : Nat} {u : Value} {xs : List Value} (h : TsT w A n c v cf) (ho : w.ownsRow base 77 sz u m xs) (hg : w.grownBy w' u.ownBlock) : TsT w' A n c v cf := h.other hg.size (fun k cs kk hh => hg.block k (Array.getElem?_eq_some_iff.1 hh).1 (fun he => by
  rcases ho.2 with ⟨rfl, _⟩ | ⟨g', cap, cur, rfl, _, hg', _⟩
  · cases he
  · simp only [Value.ownBlock, Option.some.injEq] at he
    subst he
    rw [hh] at hg'
    simp only [Option.some.injEq, Obj.cells.injEq] at hg'
    exact absurd hg'.2.1 (by decide)))
theorem TsT.far {w : World} {A : Option Addr} {n c : Nat} {v cf : Nat → Int} {g i : Nat} {cs : List Value} {t : TypeId} (h : TsT w A n c v cf) (hB : Blk w g cs t) (ht : t ≠ 94) (u : Value) : TsT (w.setCell ⟨g, i, none⟩ u) A n c v cf := h.other (by simp) (fun k cs' kk hh => heap_setCell_other w ⟨g, i, none⟩ k u (fun e => by
  change k = g at e
  subst e
  unfold Blk at hB
  rw [hh] at hB
  simp only [Option.some.injEq, Obj.cells.injEq] at hB
  exact ht hB.2.1.symm))
theorem own_tsT {w : World} {base n : Nat} {x : Value} {v cf : Nat → Int} (h : w.ownsRow base 94 2 x n (cellsOf2 (tcell v cf) n)) (hb : ∀ j, j < n → (-9223372036854775808 ≤ v j ∧ v j ≤ 9223372036854775807) ∧ -9223372036854775808 ≤ cf j ∧ cf j ≤ 9223372036854775807) : ∃ A c, x = .slice A n c ∧ TsT w A n c v cf := by
  obtain ⟨A, c, rfl, hT⟩ := own_ts h hb
  refine ⟨A, c, rfl, hT, fun b o hA => ?_⟩
  subst hA
  rcases h.2 with ⟨e, _⟩ | ⟨g', cap, cur, e, _, hg', _⟩
  · cases e
  · cases e
    exact ⟨_, _, hg'⟩
structure MpP (W0 : World) (n : Nat) (f : Int → Bool) (W : World) : Prop where
  bel : Below W0.heap.size W0 W
  ex : ∃ D : DataW Unit, W.ownsMap Tryz.prog 3 (plainElem Tryz.prog 4) W0.heap.size n D ∧ ∀ x, D.atKey (.int .i64 x) (.lit (.bool false)) = .lit (.bool (f x))
theorem own_map_keep {w w' : World} {b n : Nat} {D : DataW Unit} (h : w.ownsMap Tryz.prog 3 (plainElem Tryz.prog 4) b n D) (k : Below w.heap.size w w') : w'.ownsMap Tryz.prog 3 (plainElem Tryz.prog 4) b n D := h.kept (row := none) ⟨k.os, k.tape, k.output, k.size, fun j hj _ => k.block j hj⟩ (by simp)
theorem wf_i64 {x : Int} (h : -9223372036854775808 ≤ x ∧ x ≤ 9223372036854775807) : (Lit.int .i64 x).wf = true := by
  unfold Lit.wf
  simp only [Bool.and_eq_true, decide_eq_true_eq]
  exact h
theorem key_int {x : Int} (h : -9223372036854775808 ≤ x ∧ x ≤ 9223372036854775807) : keyOf Tryz.prog 3 (.int .i64 x) = some (.int .i64 x) := Maps.keyOf_int_mk (by kernel_rfl) (wf_i64 h)
theorem keyed_int : Maps.Keyed Tryz.prog 3 := Maps.int_keyed (q := .i64) (by kernel_rfl)
theorem bool_inv {v : Value} {z : DataW Unit} {ps : List MemPlace} {b : Bool} (h : plainElem Tryz.prog 4 v = some (z, ps)) (hz : z = .lit (.bool b)) : v = .bool b := by
  have e : Tryz.prog.underlying 4 = some .bool := by kernel_rfl
  subst hz
  unfold plainElem at h
  rw [e] at h
  cases v <;> simp at h
  rw [h.1]
theorem und_map : Tryz.prog.underlying 110 = some (.map 3 4) := by kernel_rfl
theorem und_bool : Tryz.prog.underlying 4 = some .bool := by kernel_rfl
theorem zero_bool (w : World) : (zeroValue 4).run Tryz.prog w = .ok (.bool false) w := by kernel_rfl
theorem map_look {W : World} {b n : Nat} {D : DataW Unit} {f : Int → Bool} (h : W.ownsMap Tryz.prog 3 (plainElem Tryz.prog 4) b n D) (hf : ∀ x, D.atKey (.int .i64 x) (.lit (.bool false)) = .lit (.bool (f x))) {x : Int} (hx : -9223372036854775808 ≤ x ∧ x ≤ 9223372036854775807) : (Instr.lookup 110 (.map (some b)) (.int .i64 x) false).run Tryz.prog W = .ok (.bool (f x)) W := by
  obtain ⟨v, ps, h1, h2⟩ := h.lookup keyed_int und_map (zero_bool W) (plainElem_bool und_bool false) (key_int hx)
  rw [hf] at h2
  rw [h1, bool_inv h2 rfl]
theorem MpP.made (W0 : World) : MpP W0 0 (fun _ => false) (W0.alloc (.map #[] 0)) := ⟨bx_alloc (bx_refl W0) _, .map [], World.ownsMap_made _ _ _ _, fun _ => rfl⟩
theorem mp_put {D : DataW Unit} {f f' : Int → Bool} {g : Int} {b : Bool} (hm : Maps.IsMap D) (hf : ∀ x, D.atKey (.int .i64 x) (.lit (.bool false)) = .lit (.bool (f x))) (h' : ∀ x, f' x = if x = g then b else f x) : ∀ x, (D.put (.int .i64 g) (.lit (.bool b))).atKey (.int .i64 x) (.lit (.bool false)) = .lit (.bool (f' x)) := by
  intro x
  rw [h']
  by_cases e : x = g
  · subst e
    rw [if_pos rfl]
    exact Maps.atKey_put_same hm (by unfold WideAt.IsKeyLit; trivial) _ _
  · rw [if_neg e, Maps.atKey_put_other (fun h => e (by simpa using h)), hf]
end Go.Proofs.YtdbccidlnhjfhaaGreatDoor
