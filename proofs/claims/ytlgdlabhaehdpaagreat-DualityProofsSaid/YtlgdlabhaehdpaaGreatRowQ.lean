/- From a walk to a row: arguments that are fractions. -/
import Derived.Test.YtlgdlabhaehdpaaGreatRow
import Derived.Lib.SmallJoins
namespace Go.Proofs.YtlgdlabhaehdpaaGreat
open Go.ChangeShapes Go.WideShapes Go.ChangeAt Go.RowKit Go.Joins

set_option maxRecDepth 100000 in
theorem Tryz.cellsInt : Tryz.prog.cellsOf 32 = 2 := by kernel_rfl
set_option maxRecDepth 100000 in
theorem Tryz.cellsRat : Tryz.prog.cellsOf 34 = 3 := by kernel_rfl
set_option maxRecDepth 100000 in
theorem Tryz.cellsNat : Tryz.prog.cellsOf 30 = 1 := by kernel_rfl
set_option maxRecDepth 100000 in
theorem Tryz.cellsBool : Tryz.prog.cellsOf 4 = 1 := by kernel_rfl
set_option maxRecDepth 100000 in
theorem open_rational {H : Type} {enc : TypeId × Value → H} {W : World} {b0 : Nat} {v : Value} {d : DataW H} {p : List MemPlace} (hval : Value.okWide Tryz.prog W .any b0 34 v) (h : DataW.Trod enc Tryz.prog W 0 (fun _ => true) true 34 v d p) :
    ∃ g A n c xs D m e ds, v = .agg #[.bool g, .slice A n c, .slice D m e] ∧ Rd W A n c xs ∧ Rd W D m e ds := by
  obtain ⟨cs, rfl, hsz⟩ := okWide_struct Tryz.underlying34 hval
  obtain ⟨c0, c1, c2, rfl⟩ := array3 (hsz.trans Tryz.cellsRat)
  obtain ⟨fuel, hf⟩ := h
  obtain ⟨y0, y1, n, hx, _, h0, h1⟩ := trod_struct2 Tryz.underlying34 hf
  simp [Tryz.cellsInt, Tryz.cellsNat, Value.cells] at h0 h1
  obtain ⟨z0, z1, k, hz, _, g0, g1⟩ := trod_struct2 Tryz.underlying32 h0
  simp [Tryz.cellsBool, Tryz.cellsNat] at g0 g1
  obtain ⟨g, e0, _⟩ := DataW.trod_bool Tryz.underlying4 g0
  obtain ⟨A, l, c, e1⟩ := slice_form Tryz.underlying30 g1
  obtain ⟨D, m, e, e2⟩ := slice_form Tryz.underlying30 h1
  simp at e0 e1 e2
  subst e0 e1 e2
  obtain ⟨xs, hxs⟩ := open_dig g1
  obtain ⟨ds, hds⟩ := open_dig h1
  exact ⟨g, A, l, c, xs, D, m, e, ds, rfl, hxs, hds⟩
theorem int64_wf {z : Int} (h : (Lit.int .i64 z).wf = true) : -9223372036854775808 ≤ z ∧ z ≤ 9223372036854775807 := by
  simp [Lit.wf, IntKind.min, IntKind.max, IntKind.signed, IntKind.bits] at h
  omega
theorem int32_wf {z : Int} (h : (Lit.int .i32 z).wf = true) : -2147483648 ≤ z ∧ z ≤ 2147483647 := by
  simp [Lit.wf, IntKind.min, IntKind.max, IntKind.signed, IntKind.bits] at h
  omega

end Go.Proofs.YtlgdlabhaehdpaaGreat
