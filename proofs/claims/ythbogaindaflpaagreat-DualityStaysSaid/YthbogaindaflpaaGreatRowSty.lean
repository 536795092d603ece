/- For every input the law DualityStays of layer 6 returns true and changes nothing. No condition. -/
import Derived.Test.YthbogaindaflpaaGreatRowD
import Derived.Test.YthbogaindaflpaaGreatStl1
namespace Go.Proofs.YthbogaindaflpaaGreat
open Go.ChangeShapes Go.WideShapes Go.ChangeAt Go.RowKit Go.Joins Go.Deep
set_option maxRecDepth 100000
section
variable {H : Type} {enc : TypeId × Value → H} {W : World}
theorem open_row {b0 : Nat} {v : Value} {d : DataW H} {p : List MemPlace} (hval : Value.okWide Tryz.prog W .any b0 43 v) (h : DataW.Trod enc Tryz.prog W 0 (fun _ => true) true 43 v d p) :
    ∃ r : RW, v = .agg #[.string r.nm, .int .i64 r.gr, .int .i64 r.ki, .slice r.TA r.tn r.tc, .int .i64 r.bo] ∧ Rg W r := by
  obtain ⟨cs, rfl, hsz⟩ := okWide_struct Tryz.underlying43 hval
  obtain ⟨fuel, hf⟩ := h
  obtain ⟨l⟩ := cs
  obtain ⟨v0, v1, v2, v3, v4, rfl⟩ := list5 (show l.length = 5 from hsz.trans Tryz.cellsRow)
  have hr : DataW.trod enc Tryz.prog W 0 (fun _ => true) true fuel 43 [v0, v1, v2, v3, v4] = some (d, p) := by simpa [Value.cells] using hf
  obtain ⟨_, _, g0⟩ := open_field Tryz.underlying43 hr 0 _ rfl
  obtain ⟨_, _, g1⟩ := open_field Tryz.underlying43 hr 1 _ rfl
  obtain ⟨_, _, g2⟩ := open_field Tryz.underlying43 hr 2 _ rfl
  obtain ⟨_, _, g3⟩ := open_field Tryz.underlying43 hr 3 _ rfl
  obtain ⟨_, _, g4⟩ := open_field Tryz.underlying43 hr 4 _ rfl
  simp [Tryz.cellsInt64, Tryz.cellsI, Tryz.cellsStr, Tryz.cellsTerms] at g0 g1 g2 g3 g4
  obtain ⟨z0, e0, _, w0⟩ := DataW.trod_string Tryz.underlying9 g0
  obtain ⟨z1, e1, _, w1⟩ := DataW.trod_int Tryz.underlying3 g1
  obtain ⟨z2, e2, _, w2⟩ := DataW.trod_int Tryz.underlying3 g2
  obtain ⟨TA, tn, tc, e3⟩ := slice_form Tryz.underlying41 g3
  obtain ⟨z4, e4, _, w4⟩ := DataW.trod_int Tryz.underlying2 g4
  simp only [List.cons.injEq, and_true] at e0 e1 e2 e3 e4
  subst e0 e1 e2 e3 e4
  obtain ⟨v, cf, ht⟩ := open_terms g3
  exact ⟨⟨z0, z1, z2, z4, TA, tn, tc, v, cf⟩, rfl, ht, int64_wf w2, int64_wf w4, int64_wf w1, by unfold maxLen at w0; exact w0⟩
theorem u8_nat {z : Int} (w : (Lit.int .u8 z).wf = true) : ∃ k : Nat, z = (k : Int) ∧ k ≤ 255 := by
  simp [Lit.wf, IntKind.min, IntKind.max, IntKind.signed, IntKind.bits] at w
  exact ⟨z.toNat, by omega, by omega⟩
end
theorem dualityStays_lifted (os : Os) (started : os.Started) (H : Type) (enc : TypeId × Value → H) :
    ReturnsInHanded {} Tryz.checked os 4 .any (Rows.dualityStaysSpec.pre6 enc Tryz.prog Tryz.f4 Rows.dualityStaysRow.domain false) (Rows.dualityStaysSpec.post enc Tryz.prog Tryz.f4 false true false false) := by
  refine returnsInHanded_of_change (C := Tryz.checked) Tryz.own started (by kernel_rfl) Tryz.func4
    (ChangeSpec.witness6 (enc := enc) (C := Tryz.checked) false ⟨#[], #[.agg #[.slice none 0 0, .slice none 0 0], .slice none 0 0, .agg #[.string ⟨#[]⟩, .int .i64 0, .int .i64 0, .slice none 0 0, .int .i64 0], .int .u8 0, .int .u8 0], []⟩ 8 (by kernel_rfl) (by kernel_rfl) (by kernel_rfl) (by kernel_rfl)) ?_
  intro W base args ds gs before hval0 hW _ _
  have hval : ∀ (j : Nat) t v, Tryz.f4.params[j]? = some t → args[j]? = some v → Value.okWide Tryz.prog W .any base t v := hval0
  have hW' := hW
  have hlt : ∀ x ∈ before, x.block < W.heap.size := fun x hx => hW.lt x hx
  obtain ⟨p, q, hA0, hV, rfl, hfz, hnd⟩ := hW
  have hA : DataW.TrodAll enc Tryz.prog W 0 (fun _ => true) true Tryz.f4.params.toList args.toList ds p := hA0
  have hA' := hA
  rw [Tryz.params4] at hA hval
  obtain ⟨v0, vs0, d0, ds0, p0, q0, ha0, rfl, rfl, h0, r0⟩ := trodAll_cons hA
  obtain ⟨v1, vs1, d1, ds1, p1, q1, ha1, rfl, rfl, h1, r1⟩ := trodAll_cons r0
  obtain ⟨v2, vs2, d2, ds2, p2, q2, ha2, rfl, rfl, h2, r2⟩ := trodAll_cons r1
  obtain ⟨v3, vs3, d3, ds3, p3, q3, ha3, rfl, rfl, h3, r3⟩ := trodAll_cons r2
  obtain ⟨v4, vs4, d4, ds4, p4, q4, ha4, rfl, rfl, h4, r4⟩ := trodAll_cons r3
  obtain ⟨rfl, rfl, rfl⟩ := trodAll_nil r4
  obtain rfl : args = #[v0, v1, v2, v3, v4] := by cases args; simp_all
  obtain ⟨rfl, rfl⟩ := trodVars_none hV
  obtain ⟨p, rfl, hp⟩ := open_program (hval 0 _ v0 rfl rfl) h0
  obtain ⟨Y, rfl, hy⟩ := open_list (hval 1 _ v1 rfl rfl) h1
  obtain ⟨r, rfl, hr⟩ := open_row (hval 2 _ v2 rfl rfl) h2
  obtain ⟨z3, rfl, rfl, rfl, w3⟩ := open_int Tryz.underlying5 (hval 3 _ v3 rfl rfl) h3
  obtain ⟨iN, rfl, hi⟩ := u8_nat w3
  obtain ⟨z4, rfl, rfl, rfl, w4⟩ := open_int Tryz.underlying5 (hval 4 _ v4 rfl rfl) h4
  obtain ⟨bN, rfl, hb9⟩ := u8_nat w4
  refine (dualityStays_any p Y r iN bN W hp hy hr hi hb9).mono fun e W' ⟨he, hb⟩ => ?_
  subst he
  exact ⟨_, rfl, law_post hW' hA' (fun x hx => hlt x (List.mem_append_left _ hx)) rfl (by kernel_rfl) rfl ⟨rfl, rfl, rfl⟩ hb⟩
theorem dualityStays_holds : Rows.DualityStaysSaid :=
  OpenClaim.holds_of_wide 4 Tryz.f4 rfl rfl rfl rfl rfl rfl rfl ⟨rfl, rfl, rfl, rfl, rfl⟩ rfl rfl rfl rfl rfl (by kernel_rfl) Tryz.func4 (by kernel_rfl)
    (of_decide_eq_true (by kernel_rfl)) (by unfold Func.isWrapper; first | (rw [if_pos (by decide +kernel)]; kernel_rfl) | (rw [if_neg (by decide +kernel)]; exact ⟨rfl, rfl⟩))
    (fun os started H enc _ => dualityStays_lifted os started H enc)
end Go.Proofs.YthbogaindaflpaaGreat
