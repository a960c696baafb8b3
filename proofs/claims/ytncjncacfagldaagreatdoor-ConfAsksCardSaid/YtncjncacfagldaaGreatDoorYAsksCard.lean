/-
  For any two rows of items and any name suretylaw09.ConfAsks answers true. Conditions: the tables of classes and of levels (surety/lex.classes, surety/expr.levels) read as the program's text lays them, which this card ties to that text.
-/
import Derived.Test.YtncjncacfagldaaGreatDoorYAsksP
import Derived.Test.YtncjncacfagldaaGreatDoorCards
import Derived.Test.YtncjncacfagldaaGreatDoorTie
import Derived.SevenTiedAt
namespace Go.Proofs.YtncjncacfagldaaGreatDoor.confAsks
open Go
theorem proved : Rows.ConfAsksCardSaid :=
  Claim7.holds_tied_plain_at .later [] [.data, .data] true Rows.confAsksCard.stood.harness false
    holds (fun _ h => by cases h) (by kernel_rfl) (fun _ h => by cases h) confAsks_row_tie rfl ⟨rfl, rfl⟩ (by kernel_rfl) rfl
    (fun f fn hf hfn => by
      obtain rfl : f = 3 := Option.some.inj ((show Tryz.prog.funcNamed "surety/suretylaw09.ConfAsks" = some 3 by kernel_rfl).symm.trans hf) |>.symm
      obtain rfl : fn = Tryz.f3 := (Option.some.inj (Tryz.func3.symm.trans hfn)).symm
      exact ⟨by kernel_rfl, fun j t ht => by
        rw [Tryz.params3] at ht
        have hm : t ∈ [22, 22, 9] := by simpa using Array.mem_of_getElem? ht
        have hall : ([22, 22, 9].all fun u => !Tryz.prog.wantsStandIn u) = true := by kernel_rfl
        exact (show Tryz.prog.wantsStandIn t = false by simpa using List.all_eq_true.1 hall t (by simpa using hm))⟩)
    (by kernel_rfl)
#print axioms proved
end Go.Proofs.YtncjncacfagldaaGreatDoor.confAsks
