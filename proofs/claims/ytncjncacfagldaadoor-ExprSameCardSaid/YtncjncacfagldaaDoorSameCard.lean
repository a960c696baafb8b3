/-
  Of any two trees the program says that they are the same just where the document does, and what it tells of depths and of reserved words is the document's (beyond some 600 parts, or 100 bytes, nothing is claimed but the examples). Conditions: the tables of classes and of levels (surety/lex.classes, surety/expr.levels) read as the program's text lays them, which this card ties to that text.
-/
import Derived.Test.YtncjncacfagldaaDoorSameP
import Derived.Test.YtncjncacfagldaaDoorCards
import Derived.Test.YtncjncacfagldaaDoorTie
import Derived.SevenTiedAt
namespace Go.Proofs.YtncjncacfagldaaDoor.exprSame
open Go
theorem proved : Rows.ExprSameCardSaid :=
  Claim7.holds_tied_plain_at .later [] [.data, .data] true Rows.exprSameCard.stood.harness false
    holds (fun _ h => by cases h) (by kernel_rfl) (fun _ h => by cases h) exprSame_row_tie rfl ⟨rfl, rfl⟩ (by kernel_rfl) rfl
    (fun f fn hf hfn => by
      obtain rfl : f = 5 := Option.some.inj ((show Tryd.prog.funcNamed "surety/suretylaw08.ExprSame" = some 5 by kernel_rfl).symm.trans hf) |>.symm
      obtain rfl : fn = Tryd.f5 := (Option.some.inj (Tryd.func5.symm.trans hfn)).symm
      exact ⟨by kernel_rfl, fun j t ht => by
        rw [Tryd.params5] at ht
        have hm : t ∈ [33, 33, 9] := by simpa using Array.mem_of_getElem? ht
        have hall : ([33, 33, 9].all fun u => !Tryd.prog.wantsStandIn u) = true := by kernel_rfl
        exact (show Tryd.prog.wantsStandIn t = false by simpa using List.all_eq_true.1 hall t (by simpa using hm))⟩)
    (by kernel_rfl)
#print axioms proved
end Go.Proofs.YtncjncacfagldaaDoor.exprSame
