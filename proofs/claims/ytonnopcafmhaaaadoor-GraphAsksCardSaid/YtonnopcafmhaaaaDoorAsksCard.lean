/-
  Of any graph what comes ahead of whom, and behind, who hangs on whom, and how long rows are, is what the document says. Conditions: the table of Go's library that the road names (math/bits.deBruijn64tab) reads as the program's text lays it, which this card ties to that text.
-/
import Derived.Test.YtonnopcafmhaaaaDoorAsksP
import Derived.Test.YtonnopcafmhaaaaDoorCards
import Derived.Test.YtonnopcafmhaaaaDoorTie
import Derived.SevenTiedAt
namespace Go.Proofs.YtonnopcafmhaaaaDoor.graphAsks
open Go
theorem proved : Rows.GraphAsksCardSaid :=
  Claim7.holds_tied_plain_at .later [] [.data] true Rows.graphAsksCard.stood.harness false
    holds (fun _ h => by cases h) (by kernel_rfl) (fun _ h => by cases h) graphAsks_row_tie rfl ⟨rfl, rfl⟩ (by kernel_rfl) rfl
    (fun f fn hf hfn => by
      obtain rfl : f = 3 := Option.some.inj ((show Tryd.prog.funcNamed "surety/suretylaw16.GraphAsks" = some 3 by kernel_rfl).symm.trans hf) |>.symm
      obtain rfl : fn = Tryd.f3 := (Option.some.inj (Tryd.func3.symm.trans hfn)).symm
      exact ⟨by kernel_rfl, fun j t ht => by
        rw [Tryd.params3] at ht
        have hm : t ∈ [3, 22, 3, 23] := by simpa using Array.mem_of_getElem? ht
        have hall : ([3, 22, 3, 23].all fun u => !Tryd.prog.wantsStandIn u) = true := by kernel_rfl
        exact (show Tryd.prog.wantsStandIn t = false by simpa using List.all_eq_true.1 hall t (by simpa using hm))⟩)
    (by kernel_rfl)
#print axioms proved
end Go.Proofs.YtonnopcafmhaaaaDoor.graphAsks
