/-
  Of a text that has tokens each one begins where its place says, and the places rise. Conditions: the table of classes (surety/lex.classes) reads as the program's text lays it, which this card ties to that text.
-/
import Derived.Test.YtejpbebfkogmfaaDoorTextsP
import Derived.Test.YtejpbebfkogmfaaDoorCards
import Derived.Test.YtejpbebfkogmfaaDoorTie
import Derived.SevenTiedAt
namespace Go.Proofs.YtejpbebfkogmfaaDoor.lexTexts
open Go
theorem proved : Rows.LexTextsCardSaid :=
  Claim7.holds_tied_plain_at .later [] [.data] true Rows.lexTextsCard.stood.harness false
    holds (fun _ h => by cases h) (by kernel_rfl) (fun _ h => by cases h) lexTexts_row_tie rfl ⟨rfl, rfl⟩ (by kernel_rfl) rfl
    (fun f fn hf hfn => by
      obtain rfl : f = 6 := Option.some.inj ((show Tryd.prog.funcNamed "surety/suretylaw07.LexTexts" = some 6 by kernel_rfl).symm.trans hf) |>.symm
      obtain rfl : fn = Tryd.f6 := (Option.some.inj (Tryd.func6.symm.trans hfn)).symm
      exact ⟨by kernel_rfl, fun j t ht => by
        rw [Tryd.params6] at ht
        have hm : t ∈ [9] := by simpa using Array.mem_of_getElem? ht
        have hall : ([9].all fun u => !Tryd.prog.wantsStandIn u) = true := by kernel_rfl
        exact (show Tryd.prog.wantsStandIn t = false by simpa using List.all_eq_true.1 hall t (by simpa using hm))⟩)
    (by kernel_rfl)
#print axioms proved
end Go.Proofs.YtejpbebfkogmfaaDoor.lexTexts
