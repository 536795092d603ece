/- For every input the law DualityChecks of layer 6 returns true and changes nothing. No condition. -/
import Derived.Test.YthbogaindaflpaaGreatRowD
import Derived.Test.YthbogaindaflpaaGreatChkA
namespace Go.Proofs.YthbogaindaflpaaGreat
open Go.ChangeShapes Go.WideShapes Go.ChangeAt Go.RowKit Go.Joins Go.Deep
set_option maxRecDepth 100000
section
variable {H : Type} {enc : TypeId × Value → H} {W : World}
theorem list7 {α : Type} {l : List α} (h : l.length = 7) : ∃ a b c d e f g, l = [a, b, c, d, e, f, g] := by
  match l, h with
  | [a, b, c, d, e, f, g], _ => exact ⟨a, b, c, d, e, f, g, rfl⟩
theorem Tryz.cellsOut : Tryz.prog.cellsOf 34 = 7 := by kernel_rfl
theorem Tryz.cellsRats : Tryz.prog.cellsOf 32 = 1 := by kernel_rfl
theorem open_rats {u : Value} {fuel : Nat} {x : DataW H × List MemPlace} (h : DataW.trod enc Tryz.prog W 0 (fun _ => true) true fuel 32 [u] = some x) : ∃ l : LD, u = .slice l.A l.n l.c ∧ l.ok W := by
  obtain ⟨A, n, c, e⟩ := slice_form Tryz.underlying32 h
  simp only [List.cons.injEq, and_true] at e
  subst e
  obtain ⟨h1, h2, h3⟩ := open_elems Tryz.underlying32 Tryz.cellsRat (by omega) h
  rcases h3 with rfl | ⟨b, o, rfl, hb, h3⟩
  · exact ⟨⟨A, 0, c, fun _ => 0, fun _ => 0, fun _ => 0⟩, rfl, h1, h2, fun h => absurd (show (0 : Nat) < 0 from h) (by omega)⟩
  obtain ⟨F, hF⟩ := choose_lt (α := Nat × Nat × Rat) (p := fun j f => ∃ g A' c' D' d' xs ds, W.cell? ⟨b, o + j * 3, none⟩ = some (.bool g) ∧ W.cell? ⟨b, o + j * 3 + 1, none⟩ = some (.slice A' f.1 c') ∧ W.cell? ⟨b, o + j * 3 + 2, none⟩ = some (.slice D' f.2.1 d') ∧ Rd W A' f.1 c' xs ∧ Rd W D' f.2.1 d' ds ∧ mkRat (iv g xs) (dv1 ds) = f.2.2) (fun j hj => by
    obtain ⟨cs, m, y, hl, hc, hr⟩ := h3 j hj
    obtain ⟨g, A', n', c', xs, D', m', d', ds, rfl, r1, r2⟩ := open_rat3 hl hr
    exact ⟨(n', m', mkRat (iv g xs) (dv1 ds)), g, A', c', D', d', xs, ds, hc 0 (by omega), hc 1 (by omega), hc 2 (by omega), r1, r2, rfl⟩)
  exact ⟨⟨some ⟨b, o, none⟩, n, c, fun j => (F j).1, fun j => (F j).2.1, fun j => (F j).2.2⟩, rfl, h1, h2, fun _ => ⟨b, o, rfl, hb, fun j hj => hF j hj⟩⟩
theorem open_outcome {b0 : Nat} {v : Value} {d : DataW H} {p : List MemPlace} (hval : Value.okWide Tryz.prog W .any b0 34 v) (h : DataW.Trod enc Tryz.prog W 0 (fun _ => true) true 34 v d p) :
    ∃ (kd : Int) (g : Bool) (A : Option Addr) (n c : Nat) (xs : List Nat) (D : Option Addr) (m e : Nat) (ds : List Nat) (X Y Z : LD), v = .agg #[.int .i64 kd, .bool g, .slice A n c, .slice D m e, .slice X.A X.n X.c, .slice Y.A Y.n Y.c, .slice Z.A Z.n Z.c] ∧ Rd W A n c xs ∧ Rd W D m e ds ∧ X.ok W ∧ Y.ok W ∧ Z.ok W := by
  obtain ⟨cs, rfl, hsz⟩ := okWide_struct Tryz.underlying34 hval
  obtain ⟨fuel, hf⟩ := h
  obtain ⟨l⟩ := cs
  obtain ⟨v0, v1, v2, v3, v4, v5, v6, rfl⟩ := list7 (show l.length = 7 from hsz.trans Tryz.cellsOut)
  have hr : DataW.trod enc Tryz.prog W 0 (fun _ => true) true fuel 34 [v0, v1, v2, v3, v4, v5, v6] = some (d, p) := by simpa [Value.cells] using hf
  obtain ⟨_, _, g0⟩ := open_field Tryz.underlying34 hr 0 _ rfl
  obtain ⟨_, _, g1⟩ := open_field Tryz.underlying34 hr 1 _ rfl
  obtain ⟨_, _, g2⟩ := open_field Tryz.underlying34 hr 2 _ rfl
  obtain ⟨_, _, g3⟩ := open_field Tryz.underlying34 hr 3 _ rfl
  obtain ⟨_, _, g4⟩ := open_field Tryz.underlying34 hr 4 _ rfl
  simp [Tryz.cellsI, Tryz.cellsRat, Tryz.cellsRats] at g0 g1 g2 g3 g4
  obtain ⟨kd, e0, _, w0⟩ := DataW.trod_int Tryz.underlying3 g0
  obtain ⟨g, A, n, c, xs, D, m, e, ds, e1, r1, r2⟩ := open_rat3 rfl g1
  obtain ⟨X, e2, hx⟩ := open_rats g2
  obtain ⟨Y, e3, hy⟩ := open_rats g3
  obtain ⟨Z, e4, hz⟩ := open_rats g4
  simp only [List.cons.injEq, and_true] at e0 e1
  obtain ⟨rfl, rfl, rfl⟩ := e1
  subst e0 e2 e3 e4
  exact ⟨kd, g, A, n, c, xs, D, m, e, ds, X, Y, Z, rfl, r1, r2, hx, hy, hz⟩
end
theorem dualityChecks_lifted (os : Os) (started : os.Started) (H : Type) (enc : TypeId × Value → H) :
    ReturnsInHanded {} Tryz.checked os 3 .any (Rows.dualityChecksSpec.pre6 enc Tryz.prog Tryz.f3 Rows.dualityChecksRow.domain false) (Rows.dualityChecksSpec.post enc Tryz.prog Tryz.f3 false true false false) := by
  refine returnsInHanded_of_change (C := Tryz.checked) Tryz.own started (by kernel_rfl) Tryz.func3
    (ChangeSpec.witness6 (enc := enc) (C := Tryz.checked) false ⟨#[], #[.agg #[.slice none 0 0, .slice none 0 0], .agg #[.int .i64 0, .bool false, .slice none 0 0, .slice none 0 0, .slice none 0 0, .slice none 0 0, .slice none 0 0]], []⟩ 8 (by kernel_rfl) (by kernel_rfl) (by kernel_rfl) (by kernel_rfl)) ?_
  intro W base args ds gs before hval0 hW _ _
  have hval : ∀ (j : Nat) t v, Tryz.f3.params[j]? = some t → args[j]? = some v → Value.okWide Tryz.prog W .any base t v := hval0
  have hW' := hW
  have hlt : ∀ x ∈ before, x.block < W.heap.size := fun x hx => hW.lt x hx
  obtain ⟨p, q, hA0, hV, rfl, hfz, hnd⟩ := hW
  have hA : DataW.TrodAll enc Tryz.prog W 0 (fun _ => true) true Tryz.f3.params.toList args.toList ds p := hA0
  have hA' := hA
  rw [Tryz.params3] at hA hval
  obtain ⟨v0, vs0, d0, ds0, p0, q0, ha0, rfl, rfl, h0, r0⟩ := trodAll_cons hA
  obtain ⟨v1, vs1, d1, ds1, p1, q1, ha1, rfl, rfl, h1, r1⟩ := trodAll_cons r0
  obtain ⟨rfl, rfl, rfl⟩ := trodAll_nil r1
  obtain rfl : args = #[v0, v1] := by cases args; simp_all
  obtain ⟨rfl, rfl⟩ := trodVars_none hV
  obtain ⟨p, rfl, hp⟩ := open_program (hval 0 _ v0 rfl rfl) h0
  obtain ⟨kd, g, A, n, c, xs, D, m, e, ds, X, Y, Z, rfl, r1, r2, hx, hy, hz⟩ := open_outcome (hval 1 _ v1 rfl rfl) h1
  refine (dualityChecks_any p kd g A n c xs D m e ds X Y Z W hp r1 r2 hx hy hz).mono fun e W' ⟨he, hb⟩ => ?_
  subst he
  exact ⟨_, rfl, law_post hW' hA' (fun x hx => hlt x (List.mem_append_left _ hx)) rfl (by kernel_rfl) rfl ⟨rfl, rfl, rfl⟩ hb⟩
theorem dualityChecks_holds : Rows.DualityChecksSaid :=
  OpenClaim.holds_of_wide 3 Tryz.f3 rfl rfl rfl rfl rfl rfl rfl ⟨rfl, rfl, rfl, rfl, rfl⟩ rfl rfl rfl rfl rfl (by kernel_rfl) Tryz.func3 (by kernel_rfl)
    (of_decide_eq_true (by kernel_rfl)) (by unfold Func.isWrapper; first | (rw [if_pos (by decide +kernel)]; kernel_rfl) | (rw [if_neg (by decide +kernel)]; exact ⟨rfl, rfl⟩))
    (fun os started H enc _ => dualityChecks_lifted os started H enc)
end Go.Proofs.YthbogaindaflpaaGreat
