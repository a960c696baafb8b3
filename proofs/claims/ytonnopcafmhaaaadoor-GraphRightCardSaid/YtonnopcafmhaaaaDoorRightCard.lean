/-
  Each node is in the order, or has no place in it, once; in the order it is behind all that comes ahead of it; what has no place has something ahead that has none. Conditions: the table of Go's library that the road names (math/bits.deBruijn64tab) reads as the program's text lays it, which this card ties to that text.
-/
import Derived.Test.YtonnopcafmhaaaaDoorRightP
import Derived.Test.YtonnopcafmhaaaaDoorCards
import Derived.Test.YtonnopcafmhaaaaDoorTie
import Derived.SevenTiedAt
namespace Go.Proofs.YtonnopcafmhaaaaDoor.graphRight
open Go
theorem proved : Rows.GraphRightCardSaid :=
  Claim7.holds_tied_plain_at .later [] [.data] true Rows.graphRightCard.stood.harness false
    holds (fun _ h => by cases h) (by kernel_rfl) (fun _ h => by cases h) graphRight_row_tie rfl ⟨rfl, rfl⟩ (by kernel_rfl) rfl
    (fun f fn hf hfn => by
      obtain rfl : f = 5 := Option.some.inj ((show Tryd.prog.funcNamed "surety/suretylaw16.GraphRight" = some 5 by kernel_rfl).symm.trans hf) |>.symm
      obtain rfl : fn = Tryd.f5 := (Option.some.inj (Tryd.func5.symm.trans hfn)).symm
      exact ⟨by kernel_rfl, fun j t ht => by
        rw [Tryd.params5] at ht
        have hm : t ∈ [3, 22] := by simpa using Array.mem_of_getElem? ht
        have hall : ([3, 22].all fun u => !Tryd.prog.wantsStandIn u) = true := by kernel_rfl
        exact (show Tryd.prog.wantsStandIn t = false by simpa using List.all_eq_true.1 hall t (by simpa using hm))⟩)
    (by kernel_rfl)
#print axioms proved
end Go.Proofs.YtonnopcafmhaaaaDoor.graphRight
