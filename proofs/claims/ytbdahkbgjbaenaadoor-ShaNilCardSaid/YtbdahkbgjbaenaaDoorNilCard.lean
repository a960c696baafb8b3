/-
  A Writer that is none takes nothing: its Len is 0 and its Sum is that of no bytes, for any bytes that are written into it. Conditions: the table of the rounds' words (surety/sha.roots) reads as the program's text lays it, which this card ties to that text.
-/
import Derived.Test.YtbdahkbgjbaenaaDoorNilP
import Derived.Test.YtbdahkbgjbaenaaDoorCards
import Derived.Test.YtbdahkbgjbaenaaDoorTie
import Derived.SevenTiedAt
namespace Go.Proofs.YtbdahkbgjbaenaaDoor.shaNil
open Go
theorem proved : Rows.ShaNilCardSaid :=
  Claim7.holds_tied_plain_at .later [] [.data] true Rows.shaNilCard.stood.harness false
    holds (fun _ h => by cases h) (by kernel_rfl) (fun _ h => by cases h) shaNil_row_tie rfl ⟨rfl, rfl⟩ (by kernel_rfl) rfl
    (fun f fn hf hfn => by
      obtain rfl : f = 6 := Option.some.inj ((show Tryd.prog.funcNamed "surety/suretylaw02.ShaNil" = some 6 by kernel_rfl).symm.trans hf) |>.symm
      obtain rfl : fn = Tryd.f6 := (Option.some.inj (Tryd.func6.symm.trans hfn)).symm
      exact ⟨by kernel_rfl, fun j t ht => by
        rw [Tryd.params6] at ht
        have hm : t ∈ [22] := by simpa using Array.mem_of_getElem? ht
        have hall : ([22].all fun u => !Tryd.prog.wantsStandIn u) = true := by kernel_rfl
        exact (show Tryd.prog.wantsStandIn t = false by simpa using List.all_eq_true.1 hall t hm)⟩)
    (by kernel_rfl)
#print axioms proved
end Go.Proofs.YtbdahkbgjbaenaaDoor.shaNil
