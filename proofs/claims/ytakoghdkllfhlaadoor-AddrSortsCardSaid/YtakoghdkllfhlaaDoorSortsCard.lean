/-
  Any objects are sorted as the document says, each once; they stay (up to 60 objects; strings of 200 bytes). Conditions: the three tables of Go's library that the road names (math/bits.deBruijn32tab, math/bits.deBruijn64tab, internal/strconv.uint64pow10) read as the program's text lays them, which this card ties to that text.
-/
import Derived.Test.YtakoghdkllfhlaaDoorSortsP
import Derived.Test.YtakoghdkllfhlaaDoorCards
import Derived.Test.YtakoghdkllfhlaaDoorTie
import Derived.SevenTiedAt
namespace Go.Proofs.YtakoghdkllfhlaaDoor.addrSorts
open Go
theorem proved : Rows.AddrSortsCardSaid :=
  Claim7.holds_tied_plain_at .later [] [.data, .data, .data] true Rows.addrSortsCard.stood.harness false
    holds (fun _ h => by cases h) (by kernel_rfl) (fun _ h => by cases h) addrSorts_row_tie rfl ⟨rfl, rfl⟩ (by kernel_rfl) rfl
    (fun f fn hf hfn => by
      obtain rfl : f = 5 := Option.some.inj ((show Tryd.prog.funcNamed "surety/suretylaw06.AddrSorts" = some 5 by kernel_rfl).symm.trans hf) |>.symm
      obtain rfl : fn = Tryd.f5 := (Option.some.inj (Tryd.func5.symm.trans hfn)).symm
      exact ⟨by kernel_rfl, fun j t ht => by
        rw [Tryd.params5] at ht
        have hm : t ∈ [38] := by simpa using Array.mem_of_getElem? ht
        have hall : ([38].all fun u => !Tryd.prog.wantsStandIn u) = true := by kernel_rfl
        exact (show Tryd.prog.wantsStandIn t = false by simpa using List.all_eq_true.1 hall t (by simpa using hm))⟩)
    (by kernel_rfl)
#print axioms proved
end Go.Proofs.YtakoghdkllfhlaaDoor.addrSorts
