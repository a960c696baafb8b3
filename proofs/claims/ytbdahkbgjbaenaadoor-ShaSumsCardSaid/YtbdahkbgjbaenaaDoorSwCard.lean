/-
  The fingerprint of any bytes is the document's, however they are cut; they stay. Conditions: the table of the rounds' words (surety/sha.roots) reads as the program's text lays it, which this card ties to that text.
-/
import Derived.Test.YtbdahkbgjbaenaaDoorSwP
import Derived.Test.YtbdahkbgjbaenaaDoorCards
import Derived.Test.YtbdahkbgjbaenaaDoorTie
import Derived.SevenTiedAt
namespace Go.Proofs.YtbdahkbgjbaenaaDoor.shaSums
open Go
theorem proved : Rows.ShaSumsCardSaid :=
  Claim7.holds_tied_plain_at .later [] [.data] true Rows.shaSumsCard.stood.harness false
    holds (fun _ h => by cases h) (by kernel_rfl) (fun _ h => by cases h) shaSums_row_tie rfl ⟨rfl, rfl⟩ (by kernel_rfl) rfl
    (fun f fn hf hfn => by
      obtain rfl : f = 3 := Option.some.inj ((show Tryd.prog.funcNamed "surety/suretylaw02.ShaSums" = some 3 by kernel_rfl).symm.trans hf) |>.symm
      obtain rfl : fn = Tryd.f3 := (Option.some.inj (Tryd.func3.symm.trans hfn)).symm
      exact ⟨by kernel_rfl, fun j t ht => by
        rw [Tryd.params3] at ht
        have hm : t ∈ [22, 3] := by simpa using Array.mem_of_getElem? ht
        have hall : ([22, 3].all fun u => !Tryd.prog.wantsStandIn u) = true := by kernel_rfl
        exact (show Tryd.prog.wantsStandIn t = false by simpa using List.all_eq_true.1 hall t hm)⟩)
    (by kernel_rfl)
#print axioms proved
end Go.Proofs.YtbdahkbgjbaenaaDoor.shaSums
