/-
  DERIVED. GIVEN WITH THE SEED: THE CARDS: each row of YtakoghdkllfhlaaDoorRows.lean that lists a variable, with what it lists TIED to the program's text (the seventh form; the later family's looks); each row that meets fmt, with fmt's text TOLD by the authors' own Lean function (tested against real Go, not proved from fmt's source: count such statements apart). THE CARD IS WHAT COUNTS. Prove the row's statement (the work); the ties are given (YtakoghdkllfhlaaDoorTie.lean); close each card by the builder's one call (the guide's Derived/Test/ToyasCard.lean, 'card_holds'). Laid BY PROGRAM, IN A SANDBOX (cutbox-door.mjs). By AI agents, Wed Nov 11 2026. No macro, syntax, notation, axiom, sorry.
-/
import Derived.Test.YtakoghdkllfhlaaDoorRows
import GoSem.ClaimSeven
namespace Go.Proofs.YtakoghdkllfhlaaDoor
namespace Rows

/-- THE TIED CARD OF 'suretylaw06.AddrChecks'. -/
def addrChecksCard : Claim7 := { stood := { row := addrChecksRow, standIns := [], harness := (true, "a12f20f62c23e81721dc702095fb77dffbc95469b9965223d32561c5ffcd0b73"), looks := false }, kinds := [], alts := [], laidByText := true, laidKinds := [.data, .data, .data], laidTests := true, laidLooks := .later }
def AddrChecksCardSaid : Prop := Claim7.holds Tryd.pinned (.plain (OpenSpec.ofChange addrChecksSpec)) addrChecksCard

/-- THE TIED CARD OF 'suretylaw06.AddrOrder'. -/
def addrOrderCard : Claim7 := { stood := { row := addrOrderRow, standIns := [], harness := (true, "a12f20f62c23e81721dc702095fb77dffbc95469b9965223d32561c5ffcd0b73"), looks := false }, kinds := [], alts := [], laidByText := true, laidKinds := [.data, .data, .data], laidTests := true, laidLooks := .later }
def AddrOrderCardSaid : Prop := Claim7.holds Tryd.pinned (.plain (OpenSpec.ofChange addrOrderSpec)) addrOrderCard

/-- THE TIED CARD OF 'suretylaw06.AddrSorts'. -/
def addrSortsCard : Claim7 := { stood := { row := addrSortsRow, standIns := [], harness := (true, "a12f20f62c23e81721dc702095fb77dffbc95469b9965223d32561c5ffcd0b73"), looks := false }, kinds := [], alts := [], laidByText := true, laidKinds := [.data, .data, .data], laidTests := true, laidLooks := .later }
def AddrSortsCardSaid : Prop := Claim7.holds Tryd.pinned (.plain (OpenSpec.ofChange addrSortsSpec)) addrSortsCard

/-- THE TIED CARD OF 'suretylaw06.AddrTexts'. -/
def addrTextsCard : Claim7 := { stood := { row := addrTextsRow, standIns := [], harness := (true, "a12f20f62c23e81721dc702095fb77dffbc95469b9965223d32561c5ffcd0b73"), looks := false }, kinds := [], alts := [], laidByText := true, laidKinds := [.data, .data, .data], laidTests := true, laidLooks := .later }
def AddrTextsCardSaid : Prop := Claim7.holds Tryd.pinned (.plain (OpenSpec.ofChange addrTextsSpec)) addrTextsCard

/-- THE TIED CARD OF 'suretylaw06.AddrBytes'. -/
def addrBytesCard : Claim7 := { stood := { row := addrBytesRow, standIns := [], harness := (true, "a12f20f62c23e81721dc702095fb77dffbc95469b9965223d32561c5ffcd0b73"), looks := false }, kinds := [], alts := [], laidByText := true, laidKinds := [.data, .data, .data], laidTests := true, laidLooks := .later }
def AddrBytesCardSaid : Prop := Claim7.holds Tryd.pinned (.plain (OpenSpec.ofChange addrBytesSpec)) addrBytesCard

/-- THE SECOND FORM's CARD OF 'suretylaw06.AddrChecks'. -/
def addrChecksUptoCard : Claim7 := { stood := { row := addrChecksUptoRow, standIns := [], harness := (true, "a12f20f62c23e81721dc702095fb77dffbc95469b9965223d32561c5ffcd0b73"), looks := false }, kinds := [], alts := [], laidByText := true, laidKinds := [.data, .data, .data], laidTests := true, laidLooks := .later }
def AddrChecksUptoCardSaid : Prop := Claim7.holds Tryd.pinned (.plain (OpenSpec.upto addrChecksSpec)) addrChecksUptoCard

/-- THE SECOND FORM's CARD OF 'suretylaw06.AddrOrder'. -/
def addrOrderUptoCard : Claim7 := { stood := { row := addrOrderUptoRow, standIns := [], harness := (true, "a12f20f62c23e81721dc702095fb77dffbc95469b9965223d32561c5ffcd0b73"), looks := false }, kinds := [], alts := [], laidByText := true, laidKinds := [.data, .data, .data], laidTests := true, laidLooks := .later }
def AddrOrderUptoCardSaid : Prop := Claim7.holds Tryd.pinned (.plain (OpenSpec.upto addrOrderSpec)) addrOrderUptoCard

/-- THE SECOND FORM's CARD OF 'suretylaw06.AddrSorts'. -/
def addrSortsUptoCard : Claim7 := { stood := { row := addrSortsUptoRow, standIns := [], harness := (true, "a12f20f62c23e81721dc702095fb77dffbc95469b9965223d32561c5ffcd0b73"), looks := false }, kinds := [], alts := [], laidByText := true, laidKinds := [.data, .data, .data], laidTests := true, laidLooks := .later }
def AddrSortsUptoCardSaid : Prop := Claim7.holds Tryd.pinned (.plain (OpenSpec.upto addrSortsSpec)) addrSortsUptoCard

/-- THE SECOND FORM's CARD OF 'suretylaw06.AddrTexts'. -/
def addrTextsUptoCard : Claim7 := { stood := { row := addrTextsUptoRow, standIns := [], harness := (true, "a12f20f62c23e81721dc702095fb77dffbc95469b9965223d32561c5ffcd0b73"), looks := false }, kinds := [], alts := [], laidByText := true, laidKinds := [.data, .data, .data], laidTests := true, laidLooks := .later }
def AddrTextsUptoCardSaid : Prop := Claim7.holds Tryd.pinned (.plain (OpenSpec.upto addrTextsSpec)) addrTextsUptoCard

/-- THE SECOND FORM's CARD OF 'suretylaw06.AddrBytes'. -/
def addrBytesUptoCard : Claim7 := { stood := { row := addrBytesUptoRow, standIns := [], harness := (true, "a12f20f62c23e81721dc702095fb77dffbc95469b9965223d32561c5ffcd0b73"), looks := false }, kinds := [], alts := [], laidByText := true, laidKinds := [.data, .data, .data], laidTests := true, laidLooks := .later }
def AddrBytesUptoCardSaid : Prop := Claim7.holds Tryd.pinned (.plain (OpenSpec.upto addrBytesSpec)) addrBytesUptoCard
end Rows
end Go.Proofs.YtakoghdkllfhlaaDoor
