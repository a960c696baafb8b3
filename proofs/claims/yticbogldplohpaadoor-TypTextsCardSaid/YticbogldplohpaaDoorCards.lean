/-
  DERIVED. GIVEN WITH THE SEED: THE CARDS: each row of YticbogldplohpaaDoorRows.lean that lists a variable, with what it lists TIED to the program's text (the seventh form; the later family's looks); each row that meets fmt, with fmt's text TOLD by the authors' own Lean function (tested against real Go, not proved from fmt's source: count such statements apart). THE CARD IS WHAT COUNTS. Prove the row's statement (the work); the ties are given (YticbogldplohpaaDoorTie.lean); close each card by the builder's one call (the guide's Derived/Test/ToyasCard.lean, 'card_holds'). Laid BY PROGRAM, IN A SANDBOX (cutbox-door.mjs). By AI agents, Wed Nov 11 2026. No macro, syntax, notation, axiom, sorry.
-/
import Derived.Test.YticbogldplohpaaDoorRows
import GoSem.ClaimSeven
namespace Go.Proofs.YticbogldplohpaaDoor
namespace Rows

/-- THE TIED CARD OF 'suretylaw03.TypTexts'. -/
def typTextsCard : Claim7 := { stood := { row := typTextsRow, standIns := [], harness := (true, "72a41812e5ae5c2b32ec09a2f44e1823e7e45858b6296219cd8230141159793e"), looks := false }, kinds := [], alts := [], laidByText := true, laidKinds := [.data], laidTests := true, laidLooks := .later }
def TypTextsCardSaid : Prop := Claim7.holds Tryd.pinned (.plain (OpenSpec.ofChange typTextsSpec)) typTextsCard

/-- THE SECOND FORM's CARD OF 'suretylaw03.TypTexts'. -/
def typTextsUptoCard : Claim7 := { stood := { row := typTextsUptoRow, standIns := [], harness := (true, "72a41812e5ae5c2b32ec09a2f44e1823e7e45858b6296219cd8230141159793e"), looks := false }, kinds := [], alts := [], laidByText := true, laidKinds := [.data], laidTests := true, laidLooks := .later }
def TypTextsUptoCardSaid : Prop := Claim7.holds Tryd.pinned (.plain (OpenSpec.upto typTextsSpec)) typTextsUptoCard
end Rows
end Go.Proofs.YticbogldplohpaaDoor
