/- For every input the law RationalLowest of layer 3 returns true and changes nothing. No condition. -/
import Derived.Test.YtcbbacnhnaopmaaRowQ
import Derived.Test.YtcbbacnhnaopmaaQlaw5
namespace Go.Proofs.Ytcbbacnhnaopmaa
open Go.ChangeShapes Go.WideShapes Go.ChangeAt Go.RowKit

set_option maxRecDepth 100000 in
theorem rationalLowest_lifted (os : Os) (started : os.Started) (H : Type) (enc : TypeId × Value → H) :
    ReturnsInHanded {} Try.checked os 16 .any (Rows.rationalLowestSpec.pre6 enc Try.prog Try.f16 Rows.rationalLowestRow.domain false) (Rows.rationalLowestSpec.post enc Try.prog Try.f16 false true false false) := by
  refine returnsInHanded_of_change (C := Try.checked) Try.own started (by kernel_rfl) Try.func16
    (ChangeSpec.witness6 (enc := enc) (C := Try.checked) false ⟨#[], #[.int .i32 0, .int .i32 0, .int .i32 0], []⟩ 8 (by kernel_rfl) (by kernel_rfl) (by kernel_rfl) (by kernel_rfl)) ?_
  intro W base args ds gs before hval0 hW _ _
  have hval : ∀ (j : Nat) t v, Try.f16.params[j]? = some t → args[j]? = some v → Value.okWide Try.prog W .any base t v := hval0
  have hW' := hW
  have hlt : ∀ x ∈ before, x.block < W.heap.size := fun x hx => hW.lt x hx
  obtain ⟨p, q, hA0, hV, rfl, hfz, hnd⟩ := hW
  have hA : DataW.TrodAll enc Try.prog W 0 (fun _ => true) true Try.f16.params.toList args.toList ds p := hA0
  have hA' := hA
  rw [Try.params16] at hA hval
  obtain ⟨v0, vs0, d0, ds0, p0, q0, ha0, rfl, rfl, h0, r0⟩ := trodAll_cons hA
  obtain ⟨v1, vs1, d1, ds1, p1, q1, ha1, rfl, rfl, h1, r1⟩ := trodAll_cons r0
  obtain ⟨v2, vs2, d2, ds2, p2, q2, ha2, rfl, rfl, h2, r2⟩ := trodAll_cons r1
  obtain ⟨rfl, rfl, rfl⟩ := trodAll_nil r2
  obtain rfl : args = #[v0, v1, v2] := by cases args; simp_all
  obtain ⟨rfl, rfl⟩ := trodVars_none hV
  obtain ⟨z0, rfl, ed0, ep0, wz0⟩ := open_int Try.underlying21 (hval 0 _ v0 rfl rfl) h0
  have wu0 := int32_wf wz0
  obtain ⟨z1, rfl, ed1, ep1, wz1⟩ := open_int Try.underlying21 (hval 1 _ v1 rfl rfl) h1
  have wu1 := int32_wf wz1
  obtain ⟨z2, rfl, ed2, ep2, wz2⟩ := open_int Try.underlying21 (hval 2 _ v2 rfl rfl) h2
  have wu2 := int32_wf wz2
  refine (rationalLowest_any z0 z1 z2 W wu0 wu1 wu2).mono fun e W' ⟨he, hb⟩ => ?_
  subst he
  exact ⟨_, rfl, law_post hW' hA' (fun x hx => hlt x (List.mem_append_left _ hx)) rfl (by kernel_rfl) rfl ⟨rfl, rfl, rfl⟩ hb⟩

theorem rationalLowest_holds : Rows.RationalLowestSaid :=
  OpenClaim.holds_of_wide 16 Try.f16 rfl rfl rfl rfl rfl rfl rfl ⟨rfl, rfl, rfl, rfl, rfl⟩ rfl rfl rfl rfl rfl (by kernel_rfl) Try.func16 (by kernel_rfl)
    (of_decide_eq_true (by kernel_rfl)) (by unfold Func.isWrapper; first | (rw [if_pos (by decide +kernel)]; kernel_rfl) | (rw [if_neg (by decide +kernel)]; exact ⟨rfl, rfl⟩))
    (fun os started H enc _ => rationalLowest_lifted os started H enc)

end Go.Proofs.Ytcbbacnhnaopmaa
