/-
  Any object's form is laid behind any bytes, and read again, just as the document says; what was lent stays. Conditions: the three tables of Go's library that the road names (math/bits.deBruijn32tab, math/bits.deBruijn64tab, internal/strconv.uint64pow10) read as the program's text lays them, which this card ties to that text.
-/
import Derived.Test.YtakoghdkllfhlaaDoorBytesP
import Derived.Test.YtakoghdkllfhlaaDoorCards
import Derived.Test.YtakoghdkllfhlaaDoorTie
import Derived.SevenTiedAt
namespace Go.Proofs.YtakoghdkllfhlaaDoor.addrBytes
open Go
theorem proved : Rows.AddrBytesCardSaid :=
  Claim7.holds_tied_plain_at .later [] [.data, .data, .data] true Rows.addrBytesCard.stood.harness false
    holds (fun _ h => by cases h) (by kernel_rfl) (fun _ h => by cases h) addrBytes_row_tie rfl ⟨rfl, rfl⟩ (by kernel_rfl) rfl
    (fun f fn hf hfn => by
      obtain rfl : f = 7 := Option.some.inj ((show Tryd.prog.funcNamed "surety/suretylaw06.AddrBytes" = some 7 by kernel_rfl).symm.trans hf) |>.symm
      obtain rfl : fn = Tryd.f7 := (Option.some.inj (Tryd.func7.symm.trans hfn)).symm
      exact ⟨by kernel_rfl, fun j t ht => by
        rw [Tryd.params7] at ht
        have hm : t ∈ [49, 26] := by simpa using Array.mem_of_getElem? ht
        have hall : ([49, 26].all fun u => !Tryd.prog.wantsStandIn u) = true := by kernel_rfl
        exact (show Tryd.prog.wantsStandIn t = false by simpa using List.all_eq_true.1 hall t (by simpa using hm))⟩)
    (by kernel_rfl)
#print axioms proved
end Go.Proofs.YtakoghdkllfhlaaDoor.addrBytes
