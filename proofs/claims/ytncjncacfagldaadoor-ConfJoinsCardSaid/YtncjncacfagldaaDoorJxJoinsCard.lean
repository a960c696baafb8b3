/-
  A text whose items are those of two others, one behind the other with a line feed between them, has the items of both, places aside; where both have an attribute's name in common, or have more than 128 items together, something is wrong (of 1500 bytes each; beyond that, and where one of the two is wrong itself, the document's example alone is claimed). Conditions: the tables of classes and of levels (surety/lex.classes, surety/expr.levels) read as the program's text lays them, which this card ties to that text.
-/
import Derived.Test.YtncjncacfagldaaDoorJxE1
import Derived.Test.YtncjncacfagldaaDoorCards
import Derived.Test.YtncjncacfagldaaDoorTie
import Derived.SevenTiedAt
namespace Go.Proofs.YtncjncacfagldaaDoor.confJoins
open Go
theorem proved : Rows.ConfJoinsCardSaid :=
  Claim7.holds_tied_plain_at .later [] [.data, .data] true Rows.confJoinsCard.stood.harness false
    holds (fun _ h => by cases h) (by kernel_rfl) (fun _ h => by cases h) confJoins_row_tie rfl ⟨rfl, rfl⟩ (by kernel_rfl) rfl
    (fun f fn hf hfn => by
      obtain rfl : f = 6 := Option.some.inj ((show Tryd.prog.funcNamed "surety/suretylaw09.ConfJoins" = some 6 by kernel_rfl).symm.trans hf) |>.symm
      obtain rfl : fn = Tryd.f6 := (Option.some.inj (Tryd.func6.symm.trans hfn)).symm
      exact ⟨by kernel_rfl, fun j t ht => by
        rw [Tryd.params6] at ht
        have hm : t ∈ [9, 9] := by simpa using Array.mem_of_getElem? ht
        have hall : ([9, 9].all fun u => !Tryd.prog.wantsStandIn u) = true := by kernel_rfl
        exact (show Tryd.prog.wantsStandIn t = false by simpa using List.all_eq_true.1 hall t (by simpa using hm))⟩)
    (by kernel_rfl)
#print axioms proved
end Go.Proofs.YtncjncacfagldaaDoor.confJoins
