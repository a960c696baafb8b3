/-
  Any type has the text that the document says and is read of it; any text is the type whose text it is, or none. Conditions: the table of words (surety/typ.words) reads as the program's text lays it, which this card ties to that text.
-/
import Derived.Test.YticbogldplohpaaDoorTxP
import Derived.Test.YticbogldplohpaaDoorCards
import Derived.Test.YticbogldplohpaaDoorTie
import Derived.SevenTiedAt
namespace Go.Proofs.YticbogldplohpaaDoor.typTexts
open Go
theorem proved : Rows.TypTextsCardSaid :=
  Claim7.holds_tied_plain_at .later [] [.data] true Rows.typTextsCard.stood.harness false
    holds (fun _ h => by cases h) (by kernel_rfl) (fun _ h => by cases h) typTexts_row_tie rfl ⟨rfl, rfl⟩ (by kernel_rfl) rfl
    (fun f fn hf hfn => by
      obtain rfl : f = 3 := Option.some.inj ((show Tryd.prog.funcNamed "surety/suretylaw03.TypTexts" = some 3 by kernel_rfl).symm.trans hf) |>.symm
      obtain rfl : fn = Tryd.f3 := (Option.some.inj (Tryd.func3.symm.trans hfn)).symm
      exact ⟨by kernel_rfl, fun j t ht => by
        rw [Tryd.params3] at ht
        have hm : t ∈ [23, 9] := by simpa using Array.mem_of_getElem? ht
        have hall : ([23, 9].all fun u => !Tryd.prog.wantsStandIn u) = true := by kernel_rfl
        exact (show Tryd.prog.wantsStandIn t = false by simpa using List.all_eq_true.1 hall t hm)⟩)
    (by kernel_rfl)
#print axioms proved
end Go.Proofs.YticbogldplohpaaDoor.typTexts
