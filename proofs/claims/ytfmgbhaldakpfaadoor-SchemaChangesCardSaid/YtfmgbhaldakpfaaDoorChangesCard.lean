/-
  What changes between any two values of any type, and what is computed, is just as the document says, of texts of any length and values of any size (beyond 100 bytes, or some 600 parts, or for values that are none, nothing is claimed but the examples). Conditions: the table of attributes (surety/schema.rows) reads as the program's text lays it, which this card ties to that text.
-/
import Derived.Test.YtfmgbhaldakpfaaDoorChangesP
import Derived.Test.YtfmgbhaldakpfaaDoorCards
import Derived.Test.YtfmgbhaldakpfaaDoorTie
import Derived.SevenTiedAt
namespace Go.Proofs.YtfmgbhaldakpfaaDoor.schemaChanges
open Go
theorem proved : Rows.SchemaChangesCardSaid :=
  Claim7.holds_tied_plain_at .later [] [.data] true Rows.schemaChangesCard.stood.harness false
    holds (fun _ h => by cases h) (by kernel_rfl) (fun _ h => by cases h) schemaChanges_row_tie rfl ⟨rfl, rfl⟩ (by kernel_rfl) rfl
    (fun f fn hf hfn => by
      obtain rfl : f = 5 := Option.some.inj ((show Tryd.prog.funcNamed "surety/suretylaw11.SchemaChanges" = some 5 by kernel_rfl).symm.trans hf) |>.symm
      obtain rfl : fn = Tryd.f5 := (Option.some.inj (Tryd.func5.symm.trans hfn)).symm
      exact ⟨by kernel_rfl, fun j t ht => by
        rw [Tryd.params5] at ht
        have hm : t ∈ [9, 42, 42] := by simpa using Array.mem_of_getElem? ht
        have hall : ([9, 42, 42].all fun u => !Tryd.prog.wantsStandIn u) = true := by kernel_rfl
        exact (show Tryd.prog.wantsStandIn t = false by simpa using List.all_eq_true.1 hall t (by simpa using hm))⟩)
    (by kernel_rfl)
#print axioms proved
end Go.Proofs.YtfmgbhaldakpfaaDoor.schemaChanges
