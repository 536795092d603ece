/- For every input the law RationalField of layer 3 returns true and changes nothing. No condition. -/
import Derived.Test.YtcbbacnhnaopmaaRowQ
import Derived.Test.YtcbbacnhnaopmaaQlaw1
namespace Go.Proofs.Ytcbbacnhnaopmaa
open Go.ChangeShapes Go.WideShapes Go.ChangeAt Go.RowKit

set_option maxRecDepth 100000 in
theorem rationalField_lifted (os : Os) (started : os.Started) (H : Type) (enc : TypeId × Value → H) :
    ReturnsInHanded {} Try.checked os 12 .any (Rows.rationalFieldSpec.pre6 enc Try.prog Try.f12 Rows.rationalFieldRow.domain false) (Rows.rationalFieldSpec.post enc Try.prog Try.f12 false true false false) := by
  refine returnsInHanded_of_change (C := Try.checked) Try.own started (by kernel_rfl) Try.func12
    (ChangeSpec.witness6 (enc := enc) (C := Try.checked) false ⟨#[], #[.agg #[.bool false, .slice none 0 0, .slice none 0 0], .agg #[.bool false, .slice none 0 0, .slice none 0 0], .agg #[.bool false, .slice none 0 0, .slice none 0 0]], []⟩ 8 (by kernel_rfl) (by kernel_rfl) (by kernel_rfl) (by kernel_rfl)) ?_
  intro W base args ds gs before hval0 hW _ _
  have hval : ∀ (j : Nat) t v, Try.f12.params[j]? = some t → args[j]? = some v → Value.okWide Try.prog W .any base t v := hval0
  have hW' := hW
  have hlt : ∀ x ∈ before, x.block < W.heap.size := fun x hx => hW.lt x hx
  obtain ⟨p, q, hA0, hV, rfl, hfz, hnd⟩ := hW
  have hA : DataW.TrodAll enc Try.prog W 0 (fun _ => true) true Try.f12.params.toList args.toList ds p := hA0
  have hA' := hA
  rw [Try.params12] at hA hval
  obtain ⟨v0, vs0, d0, ds0, p0, q0, ha0, rfl, rfl, h0, r0⟩ := trodAll_cons hA
  obtain ⟨v1, vs1, d1, ds1, p1, q1, ha1, rfl, rfl, h1, r1⟩ := trodAll_cons r0
  obtain ⟨v2, vs2, d2, ds2, p2, q2, ha2, rfl, rfl, h2, r2⟩ := trodAll_cons r1
  obtain ⟨rfl, rfl, rfl⟩ := trodAll_nil r2
  obtain rfl : args = #[v0, v1, v2] := by cases args; simp_all
  obtain ⟨rfl, rfl⟩ := trodVars_none hV
  obtain ⟨g0, A0, n0, c0, xs0, D0, m0, e0, es0, rfl, rr0, ss0⟩ := open_rational (hval 0 _ v0 rfl rfl) h0
  obtain ⟨g1, A1, n1, c1, xs1, D1, m1, e1, es1, rfl, rr1, ss1⟩ := open_rational (hval 1 _ v1 rfl rfl) h1
  obtain ⟨g2, A2, n2, c2, xs2, D2, m2, e2, es2, rfl, rr2, ss2⟩ := open_rational (hval 2 _ v2 rfl rfl) h2
  refine (rationalField_any g0 A0 n0 c0 xs0 D0 m0 e0 es0 g1 A1 n1 c1 xs1 D1 m1 e1 es1 g2 A2 n2 c2 xs2 D2 m2 e2 es2 W rr0 ss0 rr1 ss1 rr2 ss2).mono fun e W' ⟨he, hb⟩ => ?_
  subst he
  exact ⟨_, rfl, law_post hW' hA' (fun x hx => hlt x (List.mem_append_left _ hx)) rfl (by kernel_rfl) rfl ⟨rfl, rfl, rfl⟩ hb⟩

theorem rationalField_holds : Rows.RationalFieldSaid :=
  OpenClaim.holds_of_wide 12 Try.f12 rfl rfl rfl rfl rfl rfl rfl ⟨rfl, rfl, rfl, rfl, rfl⟩ rfl rfl rfl rfl rfl (by kernel_rfl) Try.func12 (by kernel_rfl)
    (of_decide_eq_true (by kernel_rfl)) (by unfold Func.isWrapper; first | (rw [if_pos (by decide +kernel)]; kernel_rfl) | (rw [if_neg (by decide +kernel)]; exact ⟨rfl, rfl⟩))
    (fun os started H enc _ => rationalField_lifted os started H enc)

end Go.Proofs.Ytcbbacnhnaopmaa
