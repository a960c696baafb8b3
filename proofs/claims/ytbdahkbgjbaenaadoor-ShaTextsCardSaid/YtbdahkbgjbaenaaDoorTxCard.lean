/-
  Any fingerprint has the text that the document says and is read of it; any text is the fingerprint whose text it is, or none; a fingerprint's beginning is the document's number. Conditions: the table of the rounds' words (surety/sha.roots) reads as the program's text lays it, which this card ties to that text.
-/
import Derived.Test.YtbdahkbgjbaenaaDoorTxP
import Derived.Test.YtbdahkbgjbaenaaDoorCards
import Derived.Test.YtbdahkbgjbaenaaDoorTie
import Derived.SevenTiedAt
namespace Go.Proofs.YtbdahkbgjbaenaaDoor.shaTexts
open Go
theorem proved : Rows.ShaTextsCardSaid :=
  Claim7.holds_tied_plain_at .later [] [.data] true Rows.shaTextsCard.stood.harness false
    holds (fun _ h => by cases h) (by kernel_rfl) (fun _ h => by cases h) shaTexts_row_tie rfl ⟨rfl, rfl⟩ (by kernel_rfl) rfl
    (fun f fn hf hfn => by
      obtain rfl : f = 5 := Option.some.inj ((show Tryd.prog.funcNamed "surety/suretylaw02.ShaTexts" = some 5 by kernel_rfl).symm.trans hf) |>.symm
      obtain rfl : fn = Tryd.f5 := (Option.some.inj (Tryd.func5.symm.trans hfn)).symm
      exact ⟨by kernel_rfl, fun j t ht => by
        rw [Tryd.params5] at ht
        have hm : t ∈ [27, 9] := by simpa using Array.mem_of_getElem? ht
        have hall : ([27, 9].all fun u => !Tryd.prog.wantsStandIn u) = true := by kernel_rfl
        exact (show Tryd.prog.wantsStandIn t = false by simpa using List.all_eq_true.1 hall t hm)⟩)
    (by kernel_rfl)
#print axioms proved
end Go.Proofs.YtbdahkbgjbaenaaDoor.shaTexts
