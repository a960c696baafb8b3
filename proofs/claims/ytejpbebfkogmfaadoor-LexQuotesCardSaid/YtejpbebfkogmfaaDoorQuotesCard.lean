/-
  Any text is quoted as the document says, and what is quoted is read as one string of it. Conditions: the table of classes (surety/lex.classes) reads as the program's text lays it, which this card ties to that text.
-/
import Derived.Test.YtejpbebfkogmfaaDoorQuotesP
import Derived.Test.YtejpbebfkogmfaaDoorCards
import Derived.Test.YtejpbebfkogmfaaDoorTie
import Derived.SevenTiedAt
namespace Go.Proofs.YtejpbebfkogmfaaDoor.lexQuotes
open Go
theorem proved : Rows.LexQuotesCardSaid :=
  Claim7.holds_tied_plain_at .later [] [.data] true Rows.lexQuotesCard.stood.harness false
    holds (fun _ h => by cases h) (by kernel_rfl) (fun _ h => by cases h) lexQuotes_row_tie rfl ⟨rfl, rfl⟩ (by kernel_rfl) rfl
    (fun f fn hf hfn => by
      obtain rfl : f = 4 := Option.some.inj ((show Tryd.prog.funcNamed "surety/suretylaw07.LexQuotes" = some 4 by kernel_rfl).symm.trans hf) |>.symm
      obtain rfl : fn = Tryd.f4 := (Option.some.inj (Tryd.func4.symm.trans hfn)).symm
      exact ⟨by kernel_rfl, fun j t ht => by
        rw [Tryd.params4] at ht
        have hm : t ∈ [9] := by simpa using Array.mem_of_getElem? ht
        have hall : ([9].all fun u => !Tryd.prog.wantsStandIn u) = true := by kernel_rfl
        exact (show Tryd.prog.wantsStandIn t = false by simpa using List.all_eq_true.1 hall t (by simpa using hm))⟩)
    (by kernel_rfl)
#print axioms proved
end Go.Proofs.YtejpbebfkogmfaaDoor.lexQuotes
