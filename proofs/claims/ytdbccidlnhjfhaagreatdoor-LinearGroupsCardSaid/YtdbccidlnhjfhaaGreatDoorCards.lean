/-
  DERIVED. GIVEN WITH THE SEED: THE CARDS: each row of YtdbccidlnhjfhaaGreatDoorRows.lean that lists a variable, with what it lists TIED to the program's text (the seventh form; the later family's looks); each row that meets fmt, with fmt's text TOLD by the authors' own Lean function (tested against real Go, not proved from fmt's source: count such statements apart). THE CARD IS WHAT COUNTS. Prove the row's statement (the work); the ties are given (YtdbccidlnhjfhaaGreatDoorTie.lean); close each card by the builder's one call (the guide's Derived/Test/ToyasCard.lean, 'card_holds'). Laid BY PROGRAM, IN A SANDBOX (cutbox-door.mjs). By AI agents, Wed Nov 11 2026. No macro, syntax, notation, axiom, sorry.
-/
import Derived.Test.YtdbccidlnhjfhaaGreatDoorRows
import GoSem.ClaimSeven
namespace Go.Proofs.YtdbccidlnhjfhaaGreatDoor
namespace Rows

/-- THE TIED CARD OF 'exoduslaw04.LinearValid'. -/
def linearValidCard : Claim7 := { stood := { row := linearValidRow, standIns := [], harness := (true, "e0ed8d400908813dc67a07f6c3ab1f42d6e7e83c124ea6fa2f4bec998ee8141d"), looks := false }, kinds := [], alts := [], laidByText := true, laidKinds := [.data, .data, .data], laidTests := true, laidLooks := .later }
def LinearValidCardSaid : Prop := Claim7.holds Tryz.pinned (.plain (OpenSpec.ofChange linearValidSpec)) linearValidCard

/-- THE TIED CARD OF 'exoduslaw04.LinearPoints'. -/
def linearPointsCard : Claim7 := { stood := { row := linearPointsRow, standIns := [], harness := (true, "e0ed8d400908813dc67a07f6c3ab1f42d6e7e83c124ea6fa2f4bec998ee8141d"), looks := false }, kinds := [], alts := [], laidByText := true, laidKinds := [.data, .data, .data], laidTests := true, laidLooks := .later }
def LinearPointsCardSaid : Prop := Claim7.holds Tryz.pinned (.plain (OpenSpec.ofChange linearPointsSpec)) linearPointsCard

/-- THE TIED CARD OF 'exoduslaw04.LinearCombines'. -/
def linearCombinesCard : Claim7 := { stood := { row := linearCombinesRow, standIns := [], harness := (true, "e0ed8d400908813dc67a07f6c3ab1f42d6e7e83c124ea6fa2f4bec998ee8141d"), looks := false }, kinds := [], alts := [], laidByText := true, laidKinds := [.data, .data, .data], laidTests := true, laidLooks := .later }
def LinearCombinesCardSaid : Prop := Claim7.holds Tryz.pinned (.plain (OpenSpec.ofChange linearCombinesSpec)) linearCombinesCard

/-- THE TIED CARD OF 'exoduslaw04.LinearImplies'. -/
def linearImpliesCard : Claim7 := { stood := { row := linearImpliesRow, standIns := [], harness := (true, "e0ed8d400908813dc67a07f6c3ab1f42d6e7e83c124ea6fa2f4bec998ee8141d"), looks := false }, kinds := [], alts := [], laidByText := true, laidKinds := [.data, .data, .data], laidTests := true, laidLooks := .later }
def LinearImpliesCardSaid : Prop := Claim7.holds Tryz.pinned (.plain (OpenSpec.ofChange linearImpliesSpec)) linearImpliesCard

/-- THE TIED CARD OF 'exoduslaw04.LinearLeast'. -/
def linearLeastCard : Claim7 := { stood := { row := linearLeastRow, standIns := [], harness := (true, "e0ed8d400908813dc67a07f6c3ab1f42d6e7e83c124ea6fa2f4bec998ee8141d"), looks := false }, kinds := [], alts := [], laidByText := true, laidKinds := [.data, .data, .data], laidTests := true, laidLooks := .later }
def LinearLeastCardSaid : Prop := Claim7.holds Tryz.pinned (.plain (OpenSpec.ofChange linearLeastSpec)) linearLeastCard

/-- THE TIED CARD OF 'exoduslaw04.LinearGroups'. -/
def linearGroupsCard : Claim7 := { stood := { row := linearGroupsRow, standIns := [], harness := (true, "e0ed8d400908813dc67a07f6c3ab1f42d6e7e83c124ea6fa2f4bec998ee8141d"), looks := false }, kinds := [], alts := [], laidByText := true, laidKinds := [.data, .data, .data], laidTests := true, laidLooks := .later }
def LinearGroupsCardSaid : Prop := Claim7.holds Tryz.pinned (.plain (OpenSpec.ofChange linearGroupsSpec)) linearGroupsCard

/-- THE TIED CARD OF 'exoduslaw04.LinearConvex'. -/
def linearConvexCard : Claim7 := { stood := { row := linearConvexRow, standIns := [], harness := (true, "e0ed8d400908813dc67a07f6c3ab1f42d6e7e83c124ea6fa2f4bec998ee8141d"), looks := false }, kinds := [], alts := [], laidByText := true, laidKinds := [.data, .data, .data], laidTests := true, laidLooks := .later }
def LinearConvexCardSaid : Prop := Claim7.holds Tryz.pinned (.plain (OpenSpec.ofChange linearConvexSpec)) linearConvexCard

/-- THE SECOND FORM's CARD OF 'exoduslaw04.LinearValid'. -/
def linearValidUptoCard : Claim7 := { stood := { row := linearValidUptoRow, standIns := [], harness := (true, "e0ed8d400908813dc67a07f6c3ab1f42d6e7e83c124ea6fa2f4bec998ee8141d"), looks := false }, kinds := [], alts := [], laidByText := true, laidKinds := [.data, .data, .data], laidTests := true, laidLooks := .later }
def LinearValidUptoCardSaid : Prop := Claim7.holds Tryz.pinned (.plain (OpenSpec.upto linearValidSpec)) linearValidUptoCard

/-- THE SECOND FORM's CARD OF 'exoduslaw04.LinearPoints'. -/
def linearPointsUptoCard : Claim7 := { stood := { row := linearPointsUptoRow, standIns := [], harness := (true, "e0ed8d400908813dc67a07f6c3ab1f42d6e7e83c124ea6fa2f4bec998ee8141d"), looks := false }, kinds := [], alts := [], laidByText := true, laidKinds := [.data, .data, .data], laidTests := true, laidLooks := .later }
def LinearPointsUptoCardSaid : Prop := Claim7.holds Tryz.pinned (.plain (OpenSpec.upto linearPointsSpec)) linearPointsUptoCard

/-- THE SECOND FORM's CARD OF 'exoduslaw04.LinearCombines'. -/
def linearCombinesUptoCard : Claim7 := { stood := { row := linearCombinesUptoRow, standIns := [], harness := (true, "e0ed8d400908813dc67a07f6c3ab1f42d6e7e83c124ea6fa2f4bec998ee8141d"), looks := false }, kinds := [], alts := [], laidByText := true, laidKinds := [.data, .data, .data], laidTests := true, laidLooks := .later }
def LinearCombinesUptoCardSaid : Prop := Claim7.holds Tryz.pinned (.plain (OpenSpec.upto linearCombinesSpec)) linearCombinesUptoCard

/-- THE SECOND FORM's CARD OF 'exoduslaw04.LinearImplies'. -/
def linearImpliesUptoCard : Claim7 := { stood := { row := linearImpliesUptoRow, standIns := [], harness := (true, "e0ed8d400908813dc67a07f6c3ab1f42d6e7e83c124ea6fa2f4bec998ee8141d"), looks := false }, kinds := [], alts := [], laidByText := true, laidKinds := [.data, .data, .data], laidTests := true, laidLooks := .later }
def LinearImpliesUptoCardSaid : Prop := Claim7.holds Tryz.pinned (.plain (OpenSpec.upto linearImpliesSpec)) linearImpliesUptoCard

/-- THE SECOND FORM's CARD OF 'exoduslaw04.LinearLeast'. -/
def linearLeastUptoCard : Claim7 := { stood := { row := linearLeastUptoRow, standIns := [], harness := (true, "e0ed8d400908813dc67a07f6c3ab1f42d6e7e83c124ea6fa2f4bec998ee8141d"), looks := false }, kinds := [], alts := [], laidByText := true, laidKinds := [.data, .data, .data], laidTests := true, laidLooks := .later }
def LinearLeastUptoCardSaid : Prop := Claim7.holds Tryz.pinned (.plain (OpenSpec.upto linearLeastSpec)) linearLeastUptoCard

/-- THE SECOND FORM's CARD OF 'exoduslaw04.LinearGroups'. -/
def linearGroupsUptoCard : Claim7 := { stood := { row := linearGroupsUptoRow, standIns := [], harness := (true, "e0ed8d400908813dc67a07f6c3ab1f42d6e7e83c124ea6fa2f4bec998ee8141d"), looks := false }, kinds := [], alts := [], laidByText := true, laidKinds := [.data, .data, .data], laidTests := true, laidLooks := .later }
def LinearGroupsUptoCardSaid : Prop := Claim7.holds Tryz.pinned (.plain (OpenSpec.upto linearGroupsSpec)) linearGroupsUptoCard

/-- THE SECOND FORM's CARD OF 'exoduslaw04.LinearConvex'. -/
def linearConvexUptoCard : Claim7 := { stood := { row := linearConvexUptoRow, standIns := [], harness := (true, "e0ed8d400908813dc67a07f6c3ab1f42d6e7e83c124ea6fa2f4bec998ee8141d"), looks := false }, kinds := [], alts := [], laidByText := true, laidKinds := [.data, .data, .data], laidTests := true, laidLooks := .later }
def LinearConvexUptoCardSaid : Prop := Claim7.holds Tryz.pinned (.plain (OpenSpec.upto linearConvexSpec)) linearConvexUptoCard
end Rows
end Go.Proofs.YtdbccidlnhjfhaaGreatDoor
