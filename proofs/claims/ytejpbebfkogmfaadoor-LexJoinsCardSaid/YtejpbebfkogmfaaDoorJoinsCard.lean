/-
  Behind a text that has tokens, and a line feed, another text has its own tokens, or is wrong where it is by itself. Conditions: the table of classes (surety/lex.classes) reads as the program's text lays it, which this card ties to that text.
-/
import Derived.Test.YtejpbebfkogmfaaDoorJoinsP
import Derived.Test.YtejpbebfkogmfaaDoorCards
import Derived.Test.YtejpbebfkogmfaaDoorTie
import Derived.SevenTiedAt
namespace Go.Proofs.YtejpbebfkogmfaaDoor.lexJoins
open Go
theorem proved : Rows.LexJoinsCardSaid :=
  Claim7.holds_tied_plain_at .later [] [.data] true Rows.lexJoinsCard.stood.harness false
    holds (fun _ h => by cases h) (by kernel_rfl) (fun _ h => by cases h) lexJoins_row_tie rfl ⟨rfl, rfl⟩ (by kernel_rfl) rfl
    (fun f fn hf hfn => by
      obtain rfl : f = 5 := Option.some.inj ((show Tryd.prog.funcNamed "surety/suretylaw07.LexJoins" = some 5 by kernel_rfl).symm.trans hf) |>.symm
      obtain rfl : fn = Tryd.f5 := (Option.some.inj (Tryd.func5.symm.trans hfn)).symm
      exact ⟨by kernel_rfl, fun j t ht => by
        rw [Tryd.params5] at ht
        have hm : t ∈ [9, 9] := by simpa using Array.mem_of_getElem? ht
        have hall : ([9, 9].all fun u => !Tryd.prog.wantsStandIn u) = true := by kernel_rfl
        exact (show Tryd.prog.wantsStandIn t = false by simpa using List.all_eq_true.1 hall t (by simpa using hm))⟩)
    (by kernel_rfl)
#print axioms proved
end Go.Proofs.YtejpbebfkogmfaaDoor.lexJoins
