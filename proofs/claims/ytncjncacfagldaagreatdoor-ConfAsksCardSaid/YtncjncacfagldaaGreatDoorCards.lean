/-
  DERIVED. GIVEN WITH THE SEED: THE CARDS: each row of YtncjncacfagldaaGreatDoorRows.lean that lists a variable, with what it lists TIED to the program's text (the seventh form; the later family's looks); each row that meets fmt, with fmt's text TOLD by the authors' own Lean function (tested against real Go, not proved from fmt's source: count such statements apart). THE CARD IS WHAT COUNTS. Prove the row's statement (the work); the ties are given (YtncjncacfagldaaGreatDoorTie.lean); close each card by the builder's one call (the guide's Derived/Test/ToyasCard.lean, 'card_holds'). Laid BY PROGRAM, IN A SANDBOX (cutbox-door.mjs). By AI agents, Wed Nov 11 2026. No macro, syntax, notation, axiom, sorry.
-/
import Derived.Test.YtncjncacfagldaaGreatDoorRows
import GoSem.ClaimSeven
namespace Go.Proofs.YtncjncacfagldaaGreatDoor
namespace Rows

/-- THE TIED CARD OF 'suretylaw09.ConfAsks'. -/
def confAsksCard : Claim7 := { stood := { row := confAsksRow, standIns := [], harness := (true, "316973c198a223ae904d249f4d2788874e71ac31e969cde2e2b544bb1771e835"), looks := false }, kinds := [], alts := [], laidByText := true, laidKinds := [.data, .data], laidTests := true, laidLooks := .later }
def ConfAsksCardSaid : Prop := Claim7.holds Tryz.pinned (.plain (OpenSpec.ofChange confAsksSpec)) confAsksCard

/-- THE TIED CARD OF 'suretylaw10.ShowExprs'. -/
def showExprsCard : Claim7 := { stood := { row := showExprsRow, standIns := [], harness := (true, "316973c198a223ae904d249f4d2788874e71ac31e969cde2e2b544bb1771e835"), looks := false }, kinds := [], alts := [], laidByText := true, laidKinds := [.data, .data, .data, .data, .data, .data, .data], laidTests := true, laidLooks := .later }
def ShowExprsCardSaid : Prop := Claim7.holds Tryz.pinned (.plain (OpenSpec.ofChange showExprsSpec)) showExprsCard

/-- THE TIED CARD OF 'suretylaw10.ShowBack'. -/
def showBackCard : Claim7 := { stood := { row := showBackRow, standIns := [], harness := (true, "316973c198a223ae904d249f4d2788874e71ac31e969cde2e2b544bb1771e835"), looks := false }, kinds := [], alts := [], laidByText := true, laidKinds := [.data, .data, .data, .data, .data, .data, .data], laidTests := true, laidLooks := .later }
def ShowBackCardSaid : Prop := Claim7.holds Tryz.pinned (.plain (OpenSpec.ofChange showBackSpec)) showBackCard

/-- THE TIED CARD OF 'suretylaw10.ShowLeast'. -/
def showLeastCard : Claim7 := { stood := { row := showLeastRow, standIns := [], harness := (true, "316973c198a223ae904d249f4d2788874e71ac31e969cde2e2b544bb1771e835"), looks := false }, kinds := [], alts := [], laidByText := true, laidKinds := [.data, .data, .data, .data, .data, .data, .data], laidTests := true, laidLooks := .later }
def ShowLeastCardSaid : Prop := Claim7.holds Tryz.pinned (.plain (OpenSpec.ofChange showLeastSpec)) showLeastCard

/-- THE SECOND FORM's CARD OF 'suretylaw09.ConfAsks'. -/
def confAsksUptoCard : Claim7 := { stood := { row := confAsksUptoRow, standIns := [], harness := (true, "316973c198a223ae904d249f4d2788874e71ac31e969cde2e2b544bb1771e835"), looks := false }, kinds := [], alts := [], laidByText := true, laidKinds := [.data, .data], laidTests := true, laidLooks := .later }
def ConfAsksUptoCardSaid : Prop := Claim7.holds Tryz.pinned (.plain (OpenSpec.upto confAsksSpec)) confAsksUptoCard

/-- THE SECOND FORM's CARD OF 'suretylaw10.ShowExprs'. -/
def showExprsUptoCard : Claim7 := { stood := { row := showExprsUptoRow, standIns := [], harness := (true, "316973c198a223ae904d249f4d2788874e71ac31e969cde2e2b544bb1771e835"), looks := false }, kinds := [], alts := [], laidByText := true, laidKinds := [.data, .data, .data, .data, .data, .data, .data], laidTests := true, laidLooks := .later }
def ShowExprsUptoCardSaid : Prop := Claim7.holds Tryz.pinned (.plain (OpenSpec.upto showExprsSpec)) showExprsUptoCard

/-- THE SECOND FORM's CARD OF 'suretylaw10.ShowBack'. -/
def showBackUptoCard : Claim7 := { stood := { row := showBackUptoRow, standIns := [], harness := (true, "316973c198a223ae904d249f4d2788874e71ac31e969cde2e2b544bb1771e835"), looks := false }, kinds := [], alts := [], laidByText := true, laidKinds := [.data, .data, .data, .data, .data, .data, .data], laidTests := true, laidLooks := .later }
def ShowBackUptoCardSaid : Prop := Claim7.holds Tryz.pinned (.plain (OpenSpec.upto showBackSpec)) showBackUptoCard

/-- THE SECOND FORM's CARD OF 'suretylaw10.ShowLeast'. -/
def showLeastUptoCard : Claim7 := { stood := { row := showLeastUptoRow, standIns := [], harness := (true, "316973c198a223ae904d249f4d2788874e71ac31e969cde2e2b544bb1771e835"), looks := false }, kinds := [], alts := [], laidByText := true, laidKinds := [.data, .data, .data, .data, .data, .data, .data], laidTests := true, laidLooks := .later }
def ShowLeastUptoCardSaid : Prop := Claim7.holds Tryz.pinned (.plain (OpenSpec.upto showLeastSpec)) showLeastUptoCard
end Rows
end Go.Proofs.YtncjncacfagldaaGreatDoor
