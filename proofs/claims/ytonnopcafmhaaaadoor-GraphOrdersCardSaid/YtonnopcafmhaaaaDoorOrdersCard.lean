/-
  The order of any graph, and what has no place in it, is what the document says. Conditions: the table of Go's library that the road names (math/bits.deBruijn64tab) reads as the program's text lays it, which this card ties to that text.
-/
import Derived.Test.YtonnopcafmhaaaaDoorOrdersP
import Derived.Test.YtonnopcafmhaaaaDoorCards
import Derived.Test.YtonnopcafmhaaaaDoorTie
import Derived.SevenTiedAt
namespace Go.Proofs.YtonnopcafmhaaaaDoor.graphOrders
open Go
theorem proved : Rows.GraphOrdersCardSaid :=
  Claim7.holds_tied_plain_at .later [] [.data] true Rows.graphOrdersCard.stood.harness false
    holds (fun _ h => by cases h) (by kernel_rfl) (fun _ h => by cases h) graphOrders_row_tie rfl ⟨rfl, rfl⟩ (by kernel_rfl) rfl
    (fun f fn hf hfn => by
      obtain rfl : f = 4 := Option.some.inj ((show Tryd.prog.funcNamed "surety/suretylaw16.GraphOrders" = some 4 by kernel_rfl).symm.trans hf) |>.symm
      obtain rfl : fn = Tryd.f4 := (Option.some.inj (Tryd.func4.symm.trans hfn)).symm
      exact ⟨by kernel_rfl, fun j t ht => by
        rw [Tryd.params4] at ht
        have hm : t ∈ [3, 22] := by simpa using Array.mem_of_getElem? ht
        have hall : ([3, 22].all fun u => !Tryd.prog.wantsStandIn u) = true := by kernel_rfl
        exact (show Tryd.prog.wantsStandIn t = false by simpa using List.all_eq_true.1 hall t (by simpa using hm))⟩)
    (by kernel_rfl)
#print axioms proved
end Go.Proofs.YtonnopcafmhaaaaDoor.graphOrders
