/-
  Whatever is written, piece by piece, the fingerprint that is told is that of all of it, and it may go on behind that. Conditions: the table of the rounds' words (surety/sha.roots) reads as the program's text lays it, which this card ties to that text.
-/
import Derived.Test.YtbdahkbgjbaenaaDoorWwP
import Derived.Test.YtbdahkbgjbaenaaDoorCards
import Derived.Test.YtbdahkbgjbaenaaDoorTie
import Derived.SevenTiedAt
namespace Go.Proofs.YtbdahkbgjbaenaaDoor.shaWrites
open Go
theorem proved : Rows.ShaWritesCardSaid :=
  Claim7.holds_tied_plain_at .later [] [.data] true Rows.shaWritesCard.stood.harness false
    holds (fun _ h => by cases h) (by kernel_rfl) (fun _ h => by cases h) shaWrites_row_tie rfl ⟨rfl, rfl⟩ (by kernel_rfl) rfl
    (fun f fn hf hfn => by
      obtain rfl : f = 4 := Option.some.inj ((show Tryd.prog.funcNamed "surety/suretylaw02.ShaWrites" = some 4 by kernel_rfl).symm.trans hf) |>.symm
      obtain rfl : fn = Tryd.f4 := (Option.some.inj (Tryd.func4.symm.trans hfn)).symm
      exact ⟨by kernel_rfl, fun j t ht => by
        rw [Tryd.params4] at ht
        have hm : t ∈ [32] := by simpa using Array.mem_of_getElem? ht
        have hall : ([32].all fun u => !Tryd.prog.wantsStandIn u) = true := by kernel_rfl
        exact (show Tryd.prog.wantsStandIn t = false by simpa using List.all_eq_true.1 hall t hm)⟩)
    (by kernel_rfl)
#print axioms proved
end Go.Proofs.YtbdahkbgjbaenaaDoor.shaWrites
