/-
  A beginning of a text that has items, cut off anywhere, has no more of them than the text, or something is wrong; the empty one has none (of 1500 bytes; beyond that, and where nothing is to cut, the document's example alone is claimed). Conditions: the tables of classes and of levels (surety/lex.classes, surety/expr.levels) read as the program's text lays them, which this card ties to that text.
-/
import Derived.Test.YtncjncacfagldaaDoorWKF
import Derived.Test.YtncjncacfagldaaDoorCards
import Derived.Test.YtncjncacfagldaaDoorTie
import Derived.SevenTiedAt
namespace Go.Proofs.YtncjncacfagldaaDoor.confWhole
open Go
theorem proved : Rows.ConfWholeCardSaid :=
  Claim7.holds_tied_plain_at .later [] [.data, .data] true Rows.confWholeCard.stood.harness false
    holds (fun _ h => by cases h) (by kernel_rfl) (fun _ h => by cases h) confWhole_row_tie rfl ⟨rfl, rfl⟩ (by kernel_rfl) rfl
    (fun f fn hf hfn => by
      obtain rfl : f = 7 := Option.some.inj ((show Tryd.prog.funcNamed "surety/suretylaw09.ConfWhole" = some 7 by kernel_rfl).symm.trans hf) |>.symm
      obtain rfl : fn = Tryd.f7 := (Option.some.inj (Tryd.func7.symm.trans hfn)).symm
      exact ⟨by kernel_rfl, fun j t ht => by
        rw [Tryd.params7] at ht
        have hm : t ∈ [9, 3] := by simpa using Array.mem_of_getElem? ht
        have hall : ([9, 3].all fun u => !Tryd.prog.wantsStandIn u) = true := by kernel_rfl
        exact (show Tryd.prog.wantsStandIn t = false by simpa using List.all_eq_true.1 hall t (by simpa using hm))⟩)
    (by kernel_rfl)
#print axioms proved
end Go.Proofs.YtncjncacfagldaaDoor.confWhole
