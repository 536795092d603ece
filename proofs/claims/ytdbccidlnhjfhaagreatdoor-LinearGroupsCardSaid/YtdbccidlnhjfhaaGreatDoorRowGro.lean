/- The row and the card of LinearGroups. -/
import Derived.Test.YtdbccidlnhjfhaaGreatDoorRowD
import Derived.Test.YtdbccidlnhjfhaaGreatDoorGro
import Derived.Test.YtdbccidlnhjfhaaGreatDoorCards
import Derived.Test.YtdbccidlnhjfhaaGreatDoorTie
import Derived.LaidMore
import Derived.LaidHandle
import Derived.SevenTiedAt
import Derived.Lib.LaidTab
import Derived.Stop.LaidErr
import Derived.MakeChecks
namespace Go.Proofs.YtdbccidlnhjfhaaGreatDoor
open Go.ChangeShapes Go.WideShapes Go.ChangeAt Go.RowKit
set_option maxRecDepth 100000
section
open Go.Joins Go.Deep
variable {H : Type} {enc : TypeId × Value → H} {W : World}
theorem list1 {α : Type} {l : List α} (h : l.length = 1) : ∃ a, l = [a] := by
  match l, h with
  | [a], _ => exact ⟨a, rfl⟩
theorem open_ints {A : Option Addr} {n c fuel : Nat} {x : DataW H × List MemPlace} (h : DataW.trod enc Tryz.prog W 0 (fun _ => true) true fuel 45 [.slice A n c] = some x) :
    ∃ f, Il W A n c f ∧ ∀ i, i < n → -9223372036854775808 ≤ f i ∧ f i ≤ 9223372036854775807 := by
  obtain ⟨h1, h2, h3⟩ := open_elems Tryz.underlying45 Tryz.cellsI (by omega) h
  rcases h3 with rfl | ⟨b, o, rfl, hb, h3⟩
  · exact ⟨fun _ => 0, ⟨h1, h2, fun h => absurd h (by omega)⟩, fun j hj => absurd hj (by omega)⟩
  obtain ⟨F, hF⟩ := choose_lt (α := Int) (p := fun j f => (-9223372036854775808 ≤ f ∧ f ≤ 9223372036854775807) ∧ W.cell? ⟨b, o + j * 1, none⟩ = some (.int .i64 f)) (fun j hj => by
    obtain ⟨cs, m, y, hl, hc, hr⟩ := h3 j hj
    obtain ⟨v0, rfl⟩ := list1 hl
    obtain ⟨z0, e0, _, w0⟩ := DataW.trod_int Tryz.underlying3 hr
    simp only [List.cons.injEq, and_true] at e0
    subst e0
    exact ⟨z0, int64_wf w0, hc 0 (by omega)⟩)
  exact ⟨F, ⟨h1, h2, fun _ => ⟨b, o, rfl, hb, fun j hj => by have := (hF j hj).2; rw [Nat.mul_one] at this; exact this⟩⟩, fun j hj => (hF j hj).1⟩
end
def laid3 : List (String × DataW Unit) := [("math/bits.deBruijn32tab", Rows.laid_math_bits_deBruijn32tab), ("math/bits.deBruijn64tab", Rows.laid_math_bits_deBruijn64tab), ("internal/strconv.uint64pow10", Rows.laid_internal_strconv_uint64pow10)]
theorem door_met (os : Os) (args : Array Value) : laidMetH Tryz.prog laid3 ((World.doorLaid Tryz.prog 24 os).forCall (fun _ _ => 0) ⟨#[], args, []⟩).memory :=
  laidMetH_of_parts3 (fuel := 8) (laidMet_of_run' 8 (by kernel_rfl) (by kernel_rfl)) (by kernel_rfl) (by kernel_rfl)
theorem tab_of {W : World} (h : laidMetH Tryz.prog laid3 W) : Tab W := by
  rw [MakeChecks.laidMetH_plain _ _ _ (by kernel_rfl)] at h
  exact Lib.tabIs_of_head (g := 0) (t := 206) (e := 126) (n := 20) (by kernel_rfl) (by kernel_rfl) (by kernel_rfl) (by kernel_rfl) (by kernel_rfl) (by kernel_rfl) (laidMet.tail (laidMet.tail h))
theorem linearGroups_lifted (os : Os) (started : os.Started) (H : Type) (enc : TypeId × Value → H) :
    ReturnsInHanded {} Tryz.checked os 8 .any (fun w args => (Rows.linearGroupsSpec.pre enc Tryz.prog Tryz.f8 Rows.linearGroupsRow.domain false w args ∧ laidMetH Tryz.prog laid3 w) ∧ sizedMet enc Tryz.prog Tryz.f8 (OpenSpec.ofChange Rows.linearGroupsSpec) false w args) (Rows.linearGroupsSpec.post enc Tryz.prog Tryz.f8 false true false false) := by
  refine returnsInHanded_of_change_and (C := Tryz.checked) (X := fun w _ => laidMetH Tryz.prog laid3 w) (fun _ _ _ hh h => h.of_heap hh) Tryz.own started (by kernel_rfl) Tryz.func8
    (ChangeSpec.witness_shaped (enc := enc) (C := Tryz.checked) (os := os) (X := fun w _ => laidMetH Tryz.prog laid3 w) false (World.doorLaid Tryz.prog 24 os) #[.agg #[.slice none 0 0, .slice none 0 0], .slice none 0 0] 8 rfl (World.shaped_of_RefB (by kernel_rfl) (by kernel_rfl)) (by kernel_rfl) (by kernel_rfl) (by kernel_rfl) (door_met os _)) ?_
  intro W base args ds gs before hval0 hW _ _ hL _
  have hval : ∀ (j : Nat) t v, Tryz.f8.params[j]? = some t → args[j]? = some v → Value.okWide Tryz.prog W .any base t v := hval0
  have hW' := hW
  have hlt : ∀ x ∈ before, x.block < W.heap.size := fun x hx => hW.lt x hx
  obtain ⟨p, q, hA0, hV, rfl, hfz, hnd⟩ := hW
  have hA : DataW.TrodAll enc Tryz.prog W 0 (fun _ => true) true Tryz.f8.params.toList args.toList ds p := hA0
  have hA' := hA
  rw [Tryz.params8] at hA hval
  obtain ⟨v0, vs0, d0, ds0, p0, q0, ha0, rfl, rfl, h0, r0⟩ := trodAll_cons hA
  obtain ⟨v1, vs1, d1, ds1, p1, q1, ha1, rfl, rfl, h1, r1⟩ := trodAll_cons r0
  obtain ⟨rfl, rfl, rfl⟩ := trodAll_nil r1
  obtain rfl : args = #[v0, v1] := by cases args; simp_all
  obtain ⟨rfl, rfl⟩ := trodVars_none hV
  obtain ⟨p, rfl, hp⟩ := open_program (hval 0 _ v0 rfl rfl) h0
  obtain ⟨IA, im, ic, rfl⟩ := okWide_slice Tryz.underlying45 (hval 1 _ v1 rfl rfl)
  obtain ⟨fuelT, hfT⟩ := h1
  obtain ⟨iv9, hI⟩ := open_ints (show DataW.trod enc Tryz.prog W 0 (fun _ => true) true fuelT 45 [.slice IA im ic] = some _ by simpa [Value.cells] using hfT)
  refine (linearGroups_any p IA im ic iv9 W hp hI (tab_of hL)).mono fun e W' ⟨he, hb⟩ => ?_
  subst he
  exact ⟨_, rfl, law_post hW' hA' (fun x hx => hlt x (List.mem_append_left _ hx)) rfl (by kernel_rfl) rfl ⟨rfl, rfl, rfl⟩ hb⟩
theorem linearGroups_holds : Rows.LinearGroupsSaid :=
  OpenClaim.holds_of_wide 8 Tryz.f8 rfl rfl rfl rfl rfl rfl rfl ⟨rfl, rfl, rfl, rfl, rfl⟩ rfl rfl rfl rfl rfl (by kernel_rfl) Tryz.func8 (by kernel_rfl)
    (of_decide_eq_true (by kernel_rfl)) (by unfold Func.isWrapper; first | (rw [if_pos (by decide +kernel)]; kernel_rfl) | (rw [if_neg (by decide +kernel)]; exact ⟨rfl, rfl⟩))
    (fun os started H enc _ => linearGroups_lifted os started H enc)
theorem linearGroups_card : Rows.LinearGroupsCardSaid :=
  Claim7.holds_tied_plain_at .later [] [.data, .data, .data] true (true, "e0ed8d400908813dc67a07f6c3ab1f42d6e7e83c124ea6fa2f4bec998ee8141d") false
    linearGroups_holds (fun _ h => by cases h) (by kernel_rfl) (fun _ h => by cases h) linearGroups_row_tie rfl ⟨rfl, rfl⟩ (by kernel_rfl) rfl
    (fun f fn hf hfn => by
      obtain rfl : f = 8 := Option.some.inj ((show Tryz.prog.funcNamed "exodus/exoduslaw04.LinearGroups" = some 8 by kernel_rfl).symm.trans hf) |>.symm
      obtain rfl : fn = Tryz.f8 := (Option.some.inj (Tryz.func8.symm.trans hfn)).symm
      exact ⟨by kernel_rfl, fun j t ht => by
        rw [Tryz.params8] at ht
        have hm : t ∈ [25, 45] := by simpa using Array.mem_of_getElem? ht
        have hall : ([25, 45].all fun u => !Tryz.prog.wantsStandIn u) = true := by kernel_rfl
        exact (show Tryz.prog.wantsStandIn t = false by simpa using List.all_eq_true.1 hall t hm)⟩)
    (by kernel_rfl)
end Go.Proofs.YtdbccidlnhjfhaaGreatDoor
