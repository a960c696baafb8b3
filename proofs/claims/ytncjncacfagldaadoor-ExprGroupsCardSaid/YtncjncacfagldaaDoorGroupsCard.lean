/-
  Brackets around all of a text that has a tree change nothing of it but places, however often they are put (beyond 3000 bytes nothing is claimed but the examples). Conditions: the tables of classes and of levels (surety/lex.classes, surety/expr.levels) read as the program's text lays them, which this card ties to that text.
-/
import Derived.Test.YtncjncacfagldaaDoorGroupsP
import Derived.Test.YtncjncacfagldaaDoorCards
import Derived.Test.YtncjncacfagldaaDoorTie
import Derived.SevenTiedAt
namespace Go.Proofs.YtncjncacfagldaaDoor.exprGroups
open Go
theorem proved : Rows.ExprGroupsCardSaid :=
  Claim7.holds_tied_plain_at .later [] [.data, .data] true Rows.exprGroupsCard.stood.harness false
    holds (fun _ h => by cases h) (by kernel_rfl) (fun _ h => by cases h) exprGroups_row_tie rfl ⟨rfl, rfl⟩ (by kernel_rfl) rfl
    (fun f fn hf hfn => by
      obtain rfl : f = 3 := Option.some.inj ((show Tryd.prog.funcNamed "surety/suretylaw08.ExprGroups" = some 3 by kernel_rfl).symm.trans hf) |>.symm
      obtain rfl : fn = Tryd.f3 := (Option.some.inj (Tryd.func3.symm.trans hfn)).symm
      exact ⟨by kernel_rfl, fun j t ht => by
        rw [Tryd.params3] at ht
        have hm : t ∈ [9, 5] := by simpa using Array.mem_of_getElem? ht
        have hall : ([9, 5].all fun u => !Tryd.prog.wantsStandIn u) = true := by kernel_rfl
        exact (show Tryd.prog.wantsStandIn t = false by simpa using List.all_eq_true.1 hall t (by simpa using hm))⟩)
    (by kernel_rfl)
#print axioms proved
end Go.Proofs.YtncjncacfagldaaDoor.exprGroups
