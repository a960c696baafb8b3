/-
  Any place of any text is the document's; two tokens are one just if all of both is the same. Conditions: the table of classes (surety/lex.classes) reads as the program's text lays it, which this card ties to that text.
-/
import Derived.Test.YtejpbebfkogmfaaDoorPlacesP
import Derived.Test.YtejpbebfkogmfaaDoorCards
import Derived.Test.YtejpbebfkogmfaaDoorTie
import Derived.SevenTiedAt
namespace Go.Proofs.YtejpbebfkogmfaaDoor.lexPlaces
open Go
theorem proved : Rows.LexPlacesCardSaid :=
  Claim7.holds_tied_plain_at .later [] [.data] true Rows.lexPlacesCard.stood.harness false
    holds (fun _ h => by cases h) (by kernel_rfl) (fun _ h => by cases h) lexPlaces_row_tie rfl ⟨rfl, rfl⟩ (by kernel_rfl) rfl
    (fun f fn hf hfn => by
      obtain rfl : f = 3 := Option.some.inj ((show Tryd.prog.funcNamed "surety/suretylaw07.LexPlaces" = some 3 by kernel_rfl).symm.trans hf) |>.symm
      obtain rfl : fn = Tryd.f3 := (Option.some.inj (Tryd.func3.symm.trans hfn)).symm
      exact ⟨by kernel_rfl, fun j t ht => by
        rw [Tryd.params3] at ht
        have hm : t ∈ [9, 3, 26, 26] := by simpa using Array.mem_of_getElem? ht
        have hall : ([9, 3, 26, 26].all fun u => !Tryd.prog.wantsStandIn u) = true := by kernel_rfl
        exact (show Tryd.prog.wantsStandIn t = false by simpa using List.all_eq_true.1 hall t (by simpa using hm))⟩)
    (by kernel_rfl)
#print axioms proved
end Go.Proofs.YtejpbebfkogmfaaDoor.lexPlaces
