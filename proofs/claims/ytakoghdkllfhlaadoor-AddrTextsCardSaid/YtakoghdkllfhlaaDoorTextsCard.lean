/-
  Any address and any object has the text that the document says, any text is the address whose text it is or none, and an address' base has no last part: AddrTexts answers true for every object and every text. Conditions: the three tables of Go's library that the road names (math/bits.deBruijn32tab, math/bits.deBruijn64tab, internal/strconv.uint64pow10) read as the program's text lays them, which this card ties to that text.
-/
import Derived.Test.YtakoghdkllfhlaaDoorTextsP
import Derived.Test.YtakoghdkllfhlaaDoorCards
import Derived.Test.YtakoghdkllfhlaaDoorTie
import Derived.SevenTiedAt
namespace Go.Proofs.YtakoghdkllfhlaaDoor.addrTexts
open Go
theorem proved : Rows.AddrTextsCardSaid :=
  Claim7.holds_tied_plain_at .later [] [.data, .data, .data] true Rows.addrTextsCard.stood.harness false
    holds (fun _ h => by cases h) (by kernel_rfl) (fun _ h => by cases h) addrTexts_row_tie rfl ⟨rfl, rfl⟩ (by kernel_rfl) rfl
    (fun f fn hf hfn => by
      obtain rfl : f = 6 := Option.some.inj ((show Tryd.prog.funcNamed "surety/suretylaw06.AddrTexts" = some 6 by kernel_rfl).symm.trans hf) |>.symm
      obtain rfl : fn = Tryd.f6 := (Option.some.inj (Tryd.func6.symm.trans hfn)).symm
      exact ⟨by kernel_rfl, fun j t ht => by
        rw [Tryd.params6] at ht
        have hm : t ∈ [26, 9] := by simpa using Array.mem_of_getElem? ht
        have hall : ([26, 9].all fun u => !Tryd.prog.wantsStandIn u) = true := by kernel_rfl
        exact (show Tryd.prog.wantsStandIn t = false by simpa using List.all_eq_true.1 hall t (by simpa using hm))⟩)
    (by kernel_rfl)
#print axioms proved
end Go.Proofs.YtakoghdkllfhlaaDoor.addrTexts
