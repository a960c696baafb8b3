/-
  Any value is an object of any type, or a final one, or isn't, just as the document says, of texts of any length and values of any size (beyond 100 bytes, or some 600 parts, nothing is claimed but the examples). Conditions: the table of attributes (surety/schema.rows) reads as the program's text lays it, which this card ties to that text.
-/
import Derived.Test.YtfmgbhaldakpfaaDoorObjsP
import Derived.Test.YtfmgbhaldakpfaaDoorCards
import Derived.Test.YtfmgbhaldakpfaaDoorTie
import Derived.SevenTiedAt
namespace Go.Proofs.YtfmgbhaldakpfaaDoor.schemaObjects
open Go
theorem proved : Rows.SchemaObjectsCardSaid :=
  Claim7.holds_tied_plain_at .later [] [.data] true Rows.schemaObjectsCard.stood.harness false
    holds (fun _ h => by cases h) (by kernel_rfl) (fun _ h => by cases h) schemaObjects_row_tie rfl ⟨rfl, rfl⟩ (by kernel_rfl) rfl
    (fun f fn hf hfn => by
      obtain rfl : f = 4 := Option.some.inj ((show Tryd.prog.funcNamed "surety/suretylaw11.SchemaObjects" = some 4 by kernel_rfl).symm.trans hf) |>.symm
      obtain rfl : fn = Tryd.f4 := (Option.some.inj (Tryd.func4.symm.trans hfn)).symm
      exact ⟨by kernel_rfl, fun j t ht => by
        rw [Tryd.params4] at ht
        have hm : t ∈ [9, 42] := by simpa using Array.mem_of_getElem? ht
        have hall : ([9, 42].all fun u => !Tryd.prog.wantsStandIn u) = true := by kernel_rfl
        exact (show Tryd.prog.wantsStandIn t = false by simpa using List.all_eq_true.1 hall t (by simpa using hm))⟩)
    (by kernel_rfl)
#print axioms proved
end Go.Proofs.YtfmgbhaldakpfaaDoor.schemaObjects
