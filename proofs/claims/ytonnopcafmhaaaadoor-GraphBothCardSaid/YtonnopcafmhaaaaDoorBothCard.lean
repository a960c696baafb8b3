/-
  What one of two graphs says both say; a graph that is none says nothing. Conditions: the table of Go's library that the road names (math/bits.deBruijn64tab) reads as the program's text lays it, which this card ties to that text.
-/
import Derived.Test.YtonnopcafmhaaaaDoorBothP
import Derived.Test.YtonnopcafmhaaaaDoorCards
import Derived.Test.YtonnopcafmhaaaaDoorTie
import Derived.SevenTiedAt
namespace Go.Proofs.YtonnopcafmhaaaaDoor.graphBoth
open Go
theorem proved : Rows.GraphBothCardSaid :=
  Claim7.holds_tied_plain_at .later [] [.data] true Rows.graphBothCard.stood.harness false
    holds (fun _ h => by cases h) (by kernel_rfl) (fun _ h => by cases h) graphBoth_row_tie rfl ⟨rfl, rfl⟩ (by kernel_rfl) rfl
    (fun f fn hf hfn => by
      obtain rfl : f = 7 := Option.some.inj ((show Tryd.prog.funcNamed "surety/suretylaw16.GraphBoth" = some 7 by kernel_rfl).symm.trans hf) |>.symm
      obtain rfl : fn = Tryd.f7 := (Option.some.inj (Tryd.func7.symm.trans hfn)).symm
      exact ⟨by kernel_rfl, fun j t ht => by
        rw [Tryd.params7] at ht
        have hm : t ∈ [3, 3, 22, 22, 3] := by simpa using Array.mem_of_getElem? ht
        have hall : ([3, 3, 22, 22, 3].all fun u => !Tryd.prog.wantsStandIn u) = true := by kernel_rfl
        exact (show Tryd.prog.wantsStandIn t = false by simpa using List.all_eq_true.1 hall t (by simpa using hm))⟩)
    (by kernel_rfl)
#print axioms proved
end Go.Proofs.YtonnopcafmhaaaaDoor.graphBoth
