/- From a walk to a row: arguments that are integers. -/
import Derived.Test.YtobnbeeaiidpcaaRow
import Derived.Lib.SmallJoins
namespace Go.Proofs.Ytobnbeeaiidpcaa
open Go.ChangeShapes Go.WideShapes Go.ChangeAt Go.RowKit Go.Joins

set_option maxRecDepth 100000 in
theorem Try.cellsInt : Try.prog.cellsOf 25 = 2 := by kernel_rfl
set_option maxRecDepth 100000 in
theorem open_integer {H : Type} {enc : TypeId × Value → H} {W : World} {b0 : Nat} {v : Value} {d : DataW H} {p : List MemPlace} (hval : Value.okWide Try.prog W .any b0 25 v) (h : DataW.Trod enc Try.prog W 0 (fun _ => true) true 25 v d p) :
    ∃ g A n c xs, v = .agg #[.bool g, .slice A n c] ∧ Rd W A n c xs := by
  obtain ⟨c0, c1, y0, y1, m, rfl, _, _, hy0, hy1⟩ := open_agg2 Try.underlying25 (by kernel_rfl) Try.cellsInt hval h
  obtain ⟨g, e0, _⟩ := DataW.trod_bool Try.underlying4 hy0
  obtain ⟨A, n, c, e1⟩ := slice_form Try.underlying23 hy1
  simp at e0 e1
  subst e0 e1
  obtain ⟨xs, hx⟩ := open_dig hy1
  exact ⟨g, A, n, c, xs, rfl, hx⟩
theorem int64_wf {z : Int} (h : (Lit.int .i64 z).wf = true) : -9223372036854775808 ≤ z ∧ z ≤ 9223372036854775807 := by
  simp [Lit.wf, IntKind.min, IntKind.max, IntKind.signed, IntKind.bits] at h
  omega
theorem int32_wf {z : Int} (h : (Lit.int .i32 z).wf = true) : -2147483648 ≤ z ∧ z ≤ 2147483647 := by
  simp [Lit.wf, IntKind.min, IntKind.max, IntKind.signed, IntKind.bits] at h
  omega

end Go.Proofs.Ytobnbeeaiidpcaa
