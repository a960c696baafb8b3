/-
  Of the signs between two operands those of one level go from the left on, and tighter ones ahead of looser ones: for any two signs the tree is the one with the brackets put where they are meant, and two comparisons in a row are refused. Conditions: the tables of classes and of levels (surety/lex.classes, surety/expr.levels) read as the program's text lays them, which this card ties to that text.
-/
import Derived.Test.YtncjncacfagldaaDoorLooseP
import Derived.Test.YtncjncacfagldaaDoorCards
import Derived.Test.YtncjncacfagldaaDoorTie
import Derived.SevenTiedAt
namespace Go.Proofs.YtncjncacfagldaaDoor.exprLoose
open Go
theorem proved : Rows.ExprLooseCardSaid :=
  Claim7.holds_tied_plain_at .later [] [.data, .data] true Rows.exprLooseCard.stood.harness false
    holds (fun _ h => by cases h) (by kernel_rfl) (fun _ h => by cases h) exprLoose_row_tie rfl ⟨rfl, rfl⟩ (by kernel_rfl) rfl
    (fun f fn hf hfn => by
      obtain rfl : f = 4 := Option.some.inj ((show Tryd.prog.funcNamed "surety/suretylaw08.ExprLoose" = some 4 by kernel_rfl).symm.trans hf) |>.symm
      obtain rfl : fn = Tryd.f4 := (Option.some.inj (Tryd.func4.symm.trans hfn)).symm
      exact ⟨by kernel_rfl, fun j t ht => by
        rw [Tryd.params4] at ht
        have hm : t ∈ [5, 5] := by simpa using Array.mem_of_getElem? ht
        have hall : ([5, 5].all fun u => !Tryd.prog.wantsStandIn u) = true := by kernel_rfl
        exact (show Tryd.prog.wantsStandIn t = false by simpa using List.all_eq_true.1 hall t (by simpa using hm))⟩)
    (by kernel_rfl)
#print axioms proved
end Go.Proofs.YtncjncacfagldaaDoor.exprLoose
