/- From a walk to a row: arguments that are programs and lists of fractions. -/
import Derived.Test.YtdbccidlnhjfhaaGreatDoorRowA
import Derived.Test.YtdbccidlnhjfhaaGreatDoorDmat
import Derived.Deep.Slices
namespace Go.Proofs.YtdbccidlnhjfhaaGreatDoor
open Go.ChangeShapes Go.WideShapes Go.ChangeAt Go.RowKit Go.Joins Go.Deep
set_option maxRecDepth 100000
section
variable {H : Type} {enc : TypeId × Value → H} {W : World}
theorem open_elems {P : Program} {t e sz fuel : Nat} {A : Option Addr} {n c : Nat} {x : DataW H × List MemPlace} (ht : P.underlying t = some (.slice e)) (hsz : P.cellsOf e = sz) (hpos : 0 < sz) (h : DataW.trod enc P W 0 (fun _ => true) true fuel t [.slice A n c] = some x) :
    n ≤ c ∧ c ≤ 9223372036854775807 ∧ (n = 0 ∨ ∃ b o, A = some ⟨b, o, none⟩ ∧ b < W.heap.size ∧ ∀ j, j < n → ∃ cs m y, cs.length = sz ∧ (∀ k, k < sz → W.cell? ⟨b, o + j * sz + k, none⟩ = cs[k]?) ∧ DataW.trod enc P W 0 (fun _ => true) true m e cs = some y) := by
  rcases open_slice ht h with ⟨hcs, _⟩ | ⟨a, len, cap, m, k, D, Pl, hcs, _, hl, hm, hmm, _, hx⟩
  · simp at hcs
    obtain ⟨_, rfl, rfl⟩ := hcs
    exact ⟨Nat.le_refl _, by omega, .inl rfl⟩
  · simp at hcs
    obtain ⟨rfl, rfl, rfl⟩ := hcs
    simp only [if_true] at hmm
    subst hmm
    refine ⟨hl, by unfold maxLen at hm; exact hm, ?_⟩
    rcases Nat.eq_zero_or_pos n with h0 | hn
    · exact .inl h0
    refine .inr ?_
    rw [hsz] at hx
    obtain ⟨b, o, spot⟩ := a
    have first : ∀ i, i < n → ∃ cs', cs'.length = sz ∧ (∀ k, k < sz → W.cell? (((⟨b, o, spot⟩ : Addr).add (i * sz)).add k) = cs'[k]?) ∧ DataW.trod enc P W 0 (fun _ => true) true k e cs' = some (D i, Pl i) := fun i hi => by
      obtain ⟨cs', h1, h2⟩ := hx i (by omega)
      obtain ⟨_, h3, h4⟩ := World.cells?_some h1
      exact ⟨cs', h3, h4, h2⟩
    have hs : spot = none ∧ b < W.heap.size := by
      obtain ⟨cs', h1, h2, _⟩ := first 0 hn
      have h3 := h2 0 hpos
      rw [List.getElem?_eq_getElem (by omega)] at h3
      refine ⟨by simpa [Addr.add] using World.cell?_spot h3, ?_⟩
      have := cell_lt h3
      simpa [Addr.add] using this
    obtain ⟨rfl, hb⟩ := hs
    refine ⟨b, o, rfl, hb, fun j hj => ?_⟩
    obtain ⟨cs', h1, h2, h3⟩ := first j hj
    exact ⟨cs', k, _, h1, fun i hi => by
      have := h2 i hi
      rw [add_plain, add_plain] at this
      exact this, h3⟩
theorem open_field {P : Program} {t fuel : Nat} {fs : Array Field} {cs : List Value} {x : DataW H × List MemPlace} (ht : P.underlying t = some (.struct fs)) (h : DataW.trod enc P W 0 (fun _ => true) true fuel t cs = some x) (i : Nat) (f : Field) (hf : fs[i]? = some f) :
    ∃ m y, DataW.trod enc P W 0 (fun _ => true) true m f.type ((cs.drop f.offset).take (P.cellsOf f.type)) = some y := by
  obtain ⟨xs, n, _, _, _, hlen, hx⟩ := DataW.trod_struct ht h
  have hi : i < xs.length := by rw [hlen]; exact (Array.getElem?_eq_some_iff.1 hf).1
  refine ⟨n, xs[i], ?_⟩
  rw [hx i f hf, List.getElem?_eq_getElem hi]
theorem list5 {α : Type} {l : List α} (h : l.length = 5) : ∃ a b c d e, l = [a, b, c, d, e] := by
  match l, h with
  | [a, b, c, d, e], _ => exact ⟨a, b, c, d, e, rfl⟩
theorem list2 {α : Type} {l : List α} (h : l.length = 2) : ∃ a b, l = [a, b] := by
  match l, h with
  | [a, b], _ => exact ⟨a, b, rfl⟩
theorem Tryz.cellsVar : Tryz.prog.cellsOf 60 = 5 := by kernel_rfl
theorem Tryz.cellsRow : Tryz.prog.cellsOf 77 = 5 := by kernel_rfl
theorem Tryz.cellsTerm : Tryz.prog.cellsOf 94 = 2 := by kernel_rfl
theorem Tryz.cellsProg : Tryz.prog.cellsOf 25 = 2 := by kernel_rfl
theorem Tryz.cellsInt64 : Tryz.prog.cellsOf 2 = 1 := by kernel_rfl
theorem Tryz.cellsI : Tryz.prog.cellsOf 3 = 1 := by kernel_rfl
theorem Tryz.cellsStr : Tryz.prog.cellsOf 9 = 1 := by kernel_rfl
theorem Tryz.cellsVars : Tryz.prog.cellsOf 22 = 1 := by kernel_rfl
theorem Tryz.cellsRows : Tryz.prog.cellsOf 23 = 1 := by kernel_rfl
theorem Tryz.cellsTerms : Tryz.prog.cellsOf 33 = 1 := by kernel_rfl
theorem open_vars {A : Option Addr} {n c fuel : Nat} {x : DataW H × List MemPlace} (h : DataW.trod enc Tryz.prog W 0 (fun _ => true) true fuel 22 [.slice A n c] = some x) :
    ∃ lo up op it co, Vs W A n c lo up op it co := by
  obtain ⟨h1, h2, h3⟩ := open_elems Tryz.underlying22 Tryz.cellsVar (by omega) h
  rcases h3 with rfl | ⟨b, o, rfl, hb, h3⟩
  · exact ⟨fun _ => 0, fun _ => 0, fun _ => false, fun _ => false, fun _ => 0, h1, h2, fun j hj => absurd hj (by omega), fun h => absurd h (by omega)⟩
  obtain ⟨F, hF⟩ := choose_lt (α := Int × Int × Bool × Bool × Int) (p := fun j f => ((-9223372036854775808 ≤ f.1 ∧ f.1 ≤ 9223372036854775807) ∧ (-9223372036854775808 ≤ f.2.1 ∧ f.2.1 ≤ 9223372036854775807) ∧ -9223372036854775808 ≤ f.2.2.2.2 ∧ f.2.2.2.2 ≤ 9223372036854775807) ∧ W.cell? ⟨b, o + j * 5, none⟩ = some (.int .i64 f.1) ∧ W.cell? ⟨b, o + j * 5 + 1, none⟩ = some (.int .i64 f.2.1) ∧ W.cell? ⟨b, o + j * 5 + 2, none⟩ = some (.bool f.2.2.1) ∧ W.cell? ⟨b, o + j * 5 + 3, none⟩ = some (.bool f.2.2.2.1) ∧ W.cell? ⟨b, o + j * 5 + 4, none⟩ = some (.int .i64 f.2.2.2.2)) (fun j hj => by
    obtain ⟨cs, m, y, hl, hc, hr⟩ := h3 j hj
    obtain ⟨v0, v1, v2, v3, v4, rfl⟩ := list5 hl
    obtain ⟨_, _, g0⟩ := open_field Tryz.underlying60 hr 0 _ rfl
    obtain ⟨_, _, g1⟩ := open_field Tryz.underlying60 hr 1 _ rfl
    obtain ⟨_, _, g2⟩ := open_field Tryz.underlying60 hr 2 _ rfl
    obtain ⟨_, _, g3⟩ := open_field Tryz.underlying60 hr 3 _ rfl
    obtain ⟨_, _, g4⟩ := open_field Tryz.underlying60 hr 4 _ rfl
    simp [Tryz.cellsInt64, Tryz.cellsBool] at g0 g1 g2 g3 g4
    obtain ⟨z0, e0, _, w0⟩ := DataW.trod_int Tryz.underlying2 g0
    obtain ⟨z1, e1, _, w1⟩ := DataW.trod_int Tryz.underlying2 g1
    obtain ⟨z2, e2, _⟩ := DataW.trod_bool Tryz.underlying4 g2
    obtain ⟨z3, e3, _⟩ := DataW.trod_bool Tryz.underlying4 g3
    obtain ⟨z4, e4, _, w4⟩ := DataW.trod_int Tryz.underlying2 g4
    simp only [List.cons.injEq, and_true] at e0 e1 e2 e3 e4
    subst e0 e1 e2 e3 e4
    exact ⟨(z0, z1, z2, z3, z4), ⟨int64_wf w0, int64_wf w1, int64_wf w4⟩, hc 0 (by omega), hc 1 (by omega), hc 2 (by omega), hc 3 (by omega), hc 4 (by omega)⟩)
  exact ⟨fun j => (F j).1, fun j => (F j).2.1, fun j => (F j).2.2.1, fun j => (F j).2.2.2.1, fun j => (F j).2.2.2.2, h1, h2, fun j hj => (hF j hj).1, fun _ => ⟨b, o, rfl, hb, fun j hj => (hF j hj).2⟩⟩
theorem open_terms {A : Option Addr} {n c fuel : Nat} {x : DataW H × List MemPlace} (h : DataW.trod enc Tryz.prog W 0 (fun _ => true) true fuel 33 [.slice A n c] = some x) :
    ∃ v cf, Ts W A n c v cf := by
  obtain ⟨h1, h2, h3⟩ := open_elems Tryz.underlying33 Tryz.cellsTerm (by omega) h
  rcases h3 with rfl | ⟨b, o, rfl, hb, h3⟩
  · exact ⟨fun _ => 0, fun _ => 0, h1, h2, fun j hj => absurd hj (by omega), fun h => absurd h (by omega)⟩
  obtain ⟨F, hF⟩ := choose_lt (α := Int × Int) (p := fun j f => ((-9223372036854775808 ≤ f.1 ∧ f.1 ≤ 9223372036854775807) ∧ -9223372036854775808 ≤ f.2 ∧ f.2 ≤ 9223372036854775807) ∧ W.cell? ⟨b, o + j * 2, none⟩ = some (.int .i64 f.1) ∧ W.cell? ⟨b, o + j * 2 + 1, none⟩ = some (.int .i64 f.2)) (fun j hj => by
    obtain ⟨cs, m, y, hl, hc, hr⟩ := h3 j hj
    obtain ⟨v0, v1, rfl⟩ := list2 hl
    obtain ⟨_, _, g0⟩ := open_field Tryz.underlying94 hr 0 _ rfl
    obtain ⟨_, _, g1⟩ := open_field Tryz.underlying94 hr 1 _ rfl
    simp [Tryz.cellsInt64, Tryz.cellsI] at g0 g1
    obtain ⟨z0, e0, _, w0⟩ := DataW.trod_int Tryz.underlying3 g0
    obtain ⟨z1, e1, _, w1⟩ := DataW.trod_int Tryz.underlying2 g1
    simp only [List.cons.injEq, and_true] at e0 e1
    subst e0 e1
    exact ⟨(z0, z1), ⟨int64_wf w0, int64_wf w1⟩, hc 0 (by omega), hc 1 (by omega)⟩)
  exact ⟨fun j => (F j).1, fun j => (F j).2, h1, h2, fun j hj => (hF j hj).1, fun _ => ⟨b, o, rfl, hb, fun j hj => (hF j hj).2⟩⟩
structure RowD where
  nm : ByteArray
  gr : Int
  ki : Int
  bo : Int
  TA : Option Addr
  tn : Nat
  tc : Nat
  v : Nat → Int
  cf : Nat → Int
instance : Inhabited RowD := ⟨⟨⟨#[]⟩, 0, 0, 0, none, 0, 0, fun _ => 0, fun _ => 0⟩⟩
set_option maxHeartbeats 2000000 in
theorem open_rows {A : Option Addr} {n c fuel : Nat} {x : DataW H × List MemPlace} (h : DataW.trod enc Tryz.prog W 0 (fun _ => true) true fuel 23 [.slice A n c] = some x) :
    ∃ nm gr ki bo TA tn tc v cf, Rs W A n c nm gr ki bo TA tn tc v cf ∧ ∀ j, j < n → (nm j).size ≤ 9223372036854775807 := by
  obtain ⟨h1, h2, h3⟩ := open_elems Tryz.underlying23 Tryz.cellsRow (by omega) h
  rcases h3 with rfl | ⟨b, o, rfl, hb, h3⟩
  · exact ⟨fun _ => ⟨#[]⟩, fun _ => 0, fun _ => 0, fun _ => 0, fun _ => none, fun _ => 0, fun _ => 0, fun _ _ => 0, fun _ _ => 0, ⟨h1, h2, fun j hj => absurd hj (by omega), fun h => absurd h (by omega)⟩, fun j hj => absurd hj (by omega)⟩
  obtain ⟨F, hF⟩ := choose_lt (α := RowD) (p := fun j f => (((-9223372036854775808 ≤ f.ki ∧ f.ki ≤ 9223372036854775807) ∧ (-9223372036854775808 ≤ f.bo ∧ f.bo ≤ 9223372036854775807) ∧ (-9223372036854775808 ≤ f.gr ∧ f.gr ≤ 9223372036854775807) ∧ Ts W f.TA f.tn f.tc f.v f.cf) ∧ f.nm.size ≤ 9223372036854775807) ∧ W.cell? ⟨b, o + j * 5, none⟩ = some (.string f.nm) ∧ W.cell? ⟨b, o + j * 5 + 1, none⟩ = some (.int .i64 f.gr) ∧ W.cell? ⟨b, o + j * 5 + 2, none⟩ = some (.int .i64 f.ki) ∧ W.cell? ⟨b, o + j * 5 + 3, none⟩ = some (.slice f.TA f.tn f.tc) ∧ W.cell? ⟨b, o + j * 5 + 4, none⟩ = some (.int .i64 f.bo)) (fun j hj => by
    obtain ⟨cs, m, y, hl, hc, hr⟩ := h3 j hj
    obtain ⟨v0, v1, v2, v3, v4, rfl⟩ := list5 hl
    obtain ⟨_, _, g0⟩ := open_field Tryz.underlying77 hr 0 _ rfl
    obtain ⟨_, _, g1⟩ := open_field Tryz.underlying77 hr 1 _ rfl
    obtain ⟨_, _, g2⟩ := open_field Tryz.underlying77 hr 2 _ rfl
    obtain ⟨_, _, g3⟩ := open_field Tryz.underlying77 hr 3 _ rfl
    obtain ⟨_, _, g4⟩ := open_field Tryz.underlying77 hr 4 _ rfl
    simp [Tryz.cellsInt64, Tryz.cellsI, Tryz.cellsStr, Tryz.cellsTerms] at g0 g1 g2 g3 g4
    obtain ⟨z0, e0, _, w0⟩ := DataW.trod_string Tryz.underlying9 g0
    obtain ⟨z1, e1, _, w1⟩ := DataW.trod_int Tryz.underlying3 g1
    obtain ⟨z2, e2, _, w2⟩ := DataW.trod_int Tryz.underlying3 g2
    obtain ⟨TA, tn, tc, e3⟩ := slice_form Tryz.underlying33 g3
    obtain ⟨z4, e4, _, w4⟩ := DataW.trod_int Tryz.underlying2 g4
    simp only [List.cons.injEq, and_true] at e0 e1 e2 e3 e4
    subst e0 e1 e2 e3 e4
    obtain ⟨v, cf, ht⟩ := open_terms g3
    exact ⟨⟨z0, z1, z2, z4, TA, tn, tc, v, cf⟩, ⟨⟨int64_wf w2, int64_wf w4, int64_wf w1, ht⟩, by unfold maxLen at w0; exact w0⟩, hc 0 (by omega), hc 1 (by omega), hc 2 (by omega), hc 3 (by omega), hc 4 (by omega)⟩)
  exact ⟨fun j => (F j).nm, fun j => (F j).gr, fun j => (F j).ki, fun j => (F j).bo, fun j => (F j).TA, fun j => (F j).tn, fun j => (F j).tc, fun j => (F j).v, fun j => (F j).cf, ⟨h1, h2, fun j hj => (hF j hj).1.1, fun _ => ⟨b, o, rfl, hb, fun j hj => (hF j hj).2⟩⟩, fun j hj => (hF j hj).1.2⟩
theorem open_program {b0 : Nat} {v : Value} {d : DataW H} {p : List MemPlace} (hval : Value.okWide Tryz.prog W .any b0 25 v) (h : DataW.Trod enc Tryz.prog W 0 (fun _ => true) true 25 v d p) :
    ∃ q : PD, v = .agg #[.slice q.V0 q.vn q.vc, .slice q.R0 q.rn q.rc] ∧ Pw W q := by
  obtain ⟨cs, rfl, hsz⟩ := okWide_struct Tryz.underlying25 hval
  obtain ⟨fuel, hf⟩ := h
  obtain ⟨l⟩ := cs
  obtain ⟨c0, c1, rfl⟩ := list2 (show l.length = 2 from hsz.trans Tryz.cellsProg)
  obtain ⟨y0, y1, n, hx, _, h0, h1⟩ := trod_struct2 Tryz.underlying25 hf
  simp [Tryz.cellsVars, Tryz.cellsRows, Value.cells] at h0 h1
  obtain ⟨V0, vn, vc, e0⟩ := slice_form Tryz.underlying22 h0
  obtain ⟨R0, rn, rc, e1⟩ := slice_form Tryz.underlying23 h1
  simp at e0 e1
  subst e0 e1
  obtain ⟨lo, up, op, it, co, hv⟩ := open_vars h0
  obtain ⟨nm, gr, ki, bo, TA, tn, tc, v, cf, hr, hn⟩ := open_rows h1
  exact ⟨⟨V0, vn, vc, lo, up, op, it, co, R0, rn, rc, nm, gr, ki, bo, TA, tn, tc, v, cf⟩, rfl, hv, hr, hn⟩
end
end Go.Proofs.YtdbccidlnhjfhaaGreatDoor
