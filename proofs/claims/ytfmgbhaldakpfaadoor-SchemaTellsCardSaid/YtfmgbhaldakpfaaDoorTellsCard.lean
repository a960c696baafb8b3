/-
  The types, any type's attributes and any one of them are the document's, of texts of any length (beyond 100 bytes nothing is claimed but the examples). Conditions: the table of attributes (surety/schema.rows) reads as the program's text lays it, which this card ties to that text.
-/
import Derived.Test.YtfmgbhaldakpfaaDoorTellsP
import Derived.Test.YtfmgbhaldakpfaaDoorCards
import Derived.Test.YtfmgbhaldakpfaaDoorTie
import Derived.SevenTiedAt
namespace Go.Proofs.YtfmgbhaldakpfaaDoor.schemaTells
open Go
theorem proved : Rows.SchemaTellsCardSaid :=
  Claim7.holds_tied_plain_at .later [] [.data] true Rows.schemaTellsCard.stood.harness false
    holds (fun _ h => by cases h) (by kernel_rfl) (fun _ h => by cases h) schemaTells_row_tie rfl ⟨rfl, rfl⟩ (by kernel_rfl) rfl
    (fun f fn hf hfn => by
      obtain rfl : f = 3 := Option.some.inj ((show Tryd.prog.funcNamed "surety/suretylaw11.SchemaTells" = some 3 by kernel_rfl).symm.trans hf) |>.symm
      obtain rfl : fn = Tryd.f3 := (Option.some.inj (Tryd.func3.symm.trans hfn)).symm
      exact ⟨by kernel_rfl, fun j t ht => by
        rw [Tryd.params3] at ht
        have hm : t ∈ [9, 9] := by simpa using Array.mem_of_getElem? ht
        have hall : ([9, 9].all fun u => !Tryd.prog.wantsStandIn u) = true := by kernel_rfl
        exact (show Tryd.prog.wantsStandIn t = false by simpa using List.all_eq_true.1 hall t (by simpa using hm))⟩)
    (by kernel_rfl)
#print axioms proved
end Go.Proofs.YtfmgbhaldakpfaaDoor.schemaTells
