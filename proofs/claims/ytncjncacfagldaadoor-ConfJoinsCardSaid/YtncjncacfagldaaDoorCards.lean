/-
  DERIVED. GIVEN WITH THE SEED: THE CARDS: each row of YtncjncacfagldaaDoorRows.lean that lists a variable, with what it lists TIED to the program's text (the seventh form; the later family's looks); each row that meets fmt, with fmt's text TOLD by the authors' own Lean function (tested against real Go, not proved from fmt's source: count such statements apart). THE CARD IS WHAT COUNTS. Prove the row's statement (the work); the ties are given (YtncjncacfagldaaDoorTie.lean); close each card by the builder's one call (the guide's Derived/Test/ToyasCard.lean, 'card_holds'). Laid BY PROGRAM, IN A SANDBOX (cutbox-door.mjs). By AI agents, Wed Nov 11 2026. No macro, syntax, notation, axiom, sorry.
-/
import Derived.Test.YtncjncacfagldaaDoorRows
import GoSem.ClaimSeven
namespace Go.Proofs.YtncjncacfagldaaDoor
namespace Rows

/-- THE TIED CARD OF 'suretylaw08.ExprGroups'. -/
def exprGroupsCard : Claim7 := { stood := { row := exprGroupsRow, standIns := [], harness := (true, "3ceb869eba511e024163f1abd7f36847395da030e517a4b98da77208e6612f52"), looks := false }, kinds := [], alts := [], laidByText := true, laidKinds := [.data, .data], laidTests := true, laidLooks := .later }
def ExprGroupsCardSaid : Prop := Claim7.holds Tryd.pinned (.plain (OpenSpec.ofChange exprGroupsSpec)) exprGroupsCard

/-- THE TIED CARD OF 'suretylaw08.ExprLoose'. -/
def exprLooseCard : Claim7 := { stood := { row := exprLooseRow, standIns := [], harness := (true, "3ceb869eba511e024163f1abd7f36847395da030e517a4b98da77208e6612f52"), looks := false }, kinds := [], alts := [], laidByText := true, laidKinds := [.data, .data], laidTests := true, laidLooks := .later }
def ExprLooseCardSaid : Prop := Claim7.holds Tryd.pinned (.plain (OpenSpec.ofChange exprLooseSpec)) exprLooseCard

/-- THE TIED CARD OF 'suretylaw08.ExprSame'. -/
def exprSameCard : Claim7 := { stood := { row := exprSameRow, standIns := [], harness := (true, "3ceb869eba511e024163f1abd7f36847395da030e517a4b98da77208e6612f52"), looks := false }, kinds := [], alts := [], laidByText := true, laidKinds := [.data, .data], laidTests := true, laidLooks := .later }
def ExprSameCardSaid : Prop := Claim7.holds Tryd.pinned (.plain (OpenSpec.ofChange exprSameSpec)) exprSameCard

/-- THE TIED CARD OF 'suretylaw09.ConfJoins'. -/
def confJoinsCard : Claim7 := { stood := { row := confJoinsRow, standIns := [], harness := (true, "3ceb869eba511e024163f1abd7f36847395da030e517a4b98da77208e6612f52"), looks := false }, kinds := [], alts := [], laidByText := true, laidKinds := [.data, .data], laidTests := true, laidLooks := .later }
def ConfJoinsCardSaid : Prop := Claim7.holds Tryd.pinned (.plain (OpenSpec.ofChange confJoinsSpec)) confJoinsCard

/-- THE TIED CARD OF 'suretylaw09.ConfWhole'. -/
def confWholeCard : Claim7 := { stood := { row := confWholeRow, standIns := [], harness := (true, "3ceb869eba511e024163f1abd7f36847395da030e517a4b98da77208e6612f52"), looks := false }, kinds := [], alts := [], laidByText := true, laidKinds := [.data, .data], laidTests := true, laidLooks := .later }
def ConfWholeCardSaid : Prop := Claim7.holds Tryd.pinned (.plain (OpenSpec.ofChange confWholeSpec)) confWholeCard

/-- THE SECOND FORM's CARD OF 'suretylaw08.ExprGroups'. -/
def exprGroupsUptoCard : Claim7 := { stood := { row := exprGroupsUptoRow, standIns := [], harness := (true, "3ceb869eba511e024163f1abd7f36847395da030e517a4b98da77208e6612f52"), looks := false }, kinds := [], alts := [], laidByText := true, laidKinds := [.data, .data], laidTests := true, laidLooks := .later }
def ExprGroupsUptoCardSaid : Prop := Claim7.holds Tryd.pinned (.plain (OpenSpec.upto exprGroupsSpec)) exprGroupsUptoCard

/-- THE SECOND FORM's CARD OF 'suretylaw08.ExprLoose'. -/
def exprLooseUptoCard : Claim7 := { stood := { row := exprLooseUptoRow, standIns := [], harness := (true, "3ceb869eba511e024163f1abd7f36847395da030e517a4b98da77208e6612f52"), looks := false }, kinds := [], alts := [], laidByText := true, laidKinds := [.data, .data], laidTests := true, laidLooks := .later }
def ExprLooseUptoCardSaid : Prop := Claim7.holds Tryd.pinned (.plain (OpenSpec.upto exprLooseSpec)) exprLooseUptoCard

/-- THE SECOND FORM's CARD OF 'suretylaw08.ExprSame'. -/
def exprSameUptoCard : Claim7 := { stood := { row := exprSameUptoRow, standIns := [], harness := (true, "3ceb869eba511e024163f1abd7f36847395da030e517a4b98da77208e6612f52"), looks := false }, kinds := [], alts := [], laidByText := true, laidKinds := [.data, .data], laidTests := true, laidLooks := .later }
def ExprSameUptoCardSaid : Prop := Claim7.holds Tryd.pinned (.plain (OpenSpec.upto exprSameSpec)) exprSameUptoCard

/-- THE SECOND FORM's CARD OF 'suretylaw09.ConfJoins'. -/
def confJoinsUptoCard : Claim7 := { stood := { row := confJoinsUptoRow, standIns := [], harness := (true, "3ceb869eba511e024163f1abd7f36847395da030e517a4b98da77208e6612f52"), looks := false }, kinds := [], alts := [], laidByText := true, laidKinds := [.data, .data], laidTests := true, laidLooks := .later }
def ConfJoinsUptoCardSaid : Prop := Claim7.holds Tryd.pinned (.plain (OpenSpec.upto confJoinsSpec)) confJoinsUptoCard

/-- THE SECOND FORM's CARD OF 'suretylaw09.ConfWhole'. -/
def confWholeUptoCard : Claim7 := { stood := { row := confWholeUptoRow, standIns := [], harness := (true, "3ceb869eba511e024163f1abd7f36847395da030e517a4b98da77208e6612f52"), looks := false }, kinds := [], alts := [], laidByText := true, laidKinds := [.data, .data], laidTests := true, laidLooks := .later }
def ConfWholeUptoCardSaid : Prop := Claim7.holds Tryd.pinned (.plain (OpenSpec.upto confWholeSpec)) confWholeUptoCard
end Rows
end Go.Proofs.YtncjncacfagldaaDoor
