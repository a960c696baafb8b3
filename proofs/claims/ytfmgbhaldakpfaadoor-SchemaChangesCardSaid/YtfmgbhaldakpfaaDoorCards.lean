/-
  DERIVED. GIVEN WITH THE SEED: THE CARDS: each row of YtfmgbhaldakpfaaDoorRows.lean that lists a variable, with what it lists TIED to the program's text (the seventh form; the later family's looks); each row that meets fmt, with fmt's text TOLD by the authors' own Lean function (tested against real Go, not proved from fmt's source: count such statements apart). THE CARD IS WHAT COUNTS. Prove the row's statement (the work); the ties are given (YtfmgbhaldakpfaaDoorTie.lean); close each card by the builder's one call (the guide's Derived/Test/ToyasCard.lean, 'card_holds'). Laid BY PROGRAM, IN A SANDBOX (cutbox-door.mjs). By AI agents, Wed Nov 11 2026. No macro, syntax, notation, axiom, sorry.
-/
import Derived.Test.YtfmgbhaldakpfaaDoorRows
import GoSem.ClaimSeven
namespace Go.Proofs.YtfmgbhaldakpfaaDoor
namespace Rows

/-- THE TIED CARD OF 'suretylaw11.SchemaTells'. -/
def schemaTellsCard : Claim7 := { stood := { row := schemaTellsRow, standIns := [], harness := (true, "319af41d5494f9daf13a0856ffb060c8a0c2d47429176386eec43e91063d4a49"), looks := false }, kinds := [], alts := [], laidByText := true, laidKinds := [.data], laidTests := true, laidLooks := .later }
def SchemaTellsCardSaid : Prop := Claim7.holds Tryd.pinned (.plain (OpenSpec.ofChange schemaTellsSpec)) schemaTellsCard

/-- THE TIED CARD OF 'suretylaw11.SchemaObjects'. -/
def schemaObjectsCard : Claim7 := { stood := { row := schemaObjectsRow, standIns := [], harness := (true, "319af41d5494f9daf13a0856ffb060c8a0c2d47429176386eec43e91063d4a49"), looks := false }, kinds := [], alts := [], laidByText := true, laidKinds := [.data], laidTests := true, laidLooks := .later }
def SchemaObjectsCardSaid : Prop := Claim7.holds Tryd.pinned (.plain (OpenSpec.ofChange schemaObjectsSpec)) schemaObjectsCard

/-- THE TIED CARD OF 'suretylaw11.SchemaChanges'. -/
def schemaChangesCard : Claim7 := { stood := { row := schemaChangesRow, standIns := [], harness := (true, "319af41d5494f9daf13a0856ffb060c8a0c2d47429176386eec43e91063d4a49"), looks := false }, kinds := [], alts := [], laidByText := true, laidKinds := [.data], laidTests := true, laidLooks := .later }
def SchemaChangesCardSaid : Prop := Claim7.holds Tryd.pinned (.plain (OpenSpec.ofChange schemaChangesSpec)) schemaChangesCard

/-- THE SECOND FORM's CARD OF 'suretylaw11.SchemaTells'. -/
def schemaTellsUptoCard : Claim7 := { stood := { row := schemaTellsUptoRow, standIns := [], harness := (true, "319af41d5494f9daf13a0856ffb060c8a0c2d47429176386eec43e91063d4a49"), looks := false }, kinds := [], alts := [], laidByText := true, laidKinds := [.data], laidTests := true, laidLooks := .later }
def SchemaTellsUptoCardSaid : Prop := Claim7.holds Tryd.pinned (.plain (OpenSpec.upto schemaTellsSpec)) schemaTellsUptoCard

/-- THE SECOND FORM's CARD OF 'suretylaw11.SchemaObjects'. -/
def schemaObjectsUptoCard : Claim7 := { stood := { row := schemaObjectsUptoRow, standIns := [], harness := (true, "319af41d5494f9daf13a0856ffb060c8a0c2d47429176386eec43e91063d4a49"), looks := false }, kinds := [], alts := [], laidByText := true, laidKinds := [.data], laidTests := true, laidLooks := .later }
def SchemaObjectsUptoCardSaid : Prop := Claim7.holds Tryd.pinned (.plain (OpenSpec.upto schemaObjectsSpec)) schemaObjectsUptoCard

/-- THE SECOND FORM's CARD OF 'suretylaw11.SchemaChanges'. -/
def schemaChangesUptoCard : Claim7 := { stood := { row := schemaChangesUptoRow, standIns := [], harness := (true, "319af41d5494f9daf13a0856ffb060c8a0c2d47429176386eec43e91063d4a49"), looks := false }, kinds := [], alts := [], laidByText := true, laidKinds := [.data], laidTests := true, laidLooks := .later }
def SchemaChangesUptoCardSaid : Prop := Claim7.holds Tryd.pinned (.plain (OpenSpec.upto schemaChangesSpec)) schemaChangesUptoCard
end Rows
end Go.Proofs.YtfmgbhaldakpfaaDoor
