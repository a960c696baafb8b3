/- What the laid table gives. -/
import Derived.Test.YtbdahkbgjbaenaaDoorEq
import Derived.Test.YtbdahkbgjbaenaaDoorRows
import Derived.WalkKit
import Derived.ProofKit
import Derived.LaidMore
import Derived.Lib.LaidTab
import Derived.OpenShut
import Derived.Stop.Joined
import Derived.Stop.LaidErr
import Derived.ShutString
import Derived.Below
import Derived.Carry
import Derived.SizedLaws
namespace Go.Proofs.YtbdahkbgjbaenaaDoor
open Go.ChangeShapes Go.WideShapes Go.ChangeAt Go.RowKit

theorem own : ownKnob Tryd.prog.godebug = none := by kernel_rfl
theorem gRoots : Tryd.prog.globalNamed "surety/sha.roots" = some 0 := by kernel_rfl
theorem tRoots : (Tryd.prog.globals[0]?).map (·.type) = some 69 := by kernel_rfl
theorem cRoots : Tryd.prog.cellsOf 69 = 64 := by kernel_rfl
theorem cU32 : Tryd.prog.cellsOf 51 = 1 := by kernel_rfl
theorem dRoots : (Rows.laid_surety_sha_roots : DataW Unit) = Lib.tabData .u32 Kt := by kernel_rfl
theorem laidOut : laidOutB Tryd.prog = true := by kernel_rfl
/-- what the condition gives the walk -/
theorem of_laid {W : World} {l : List (String × DataW Unit)} (hl : l = [("surety/sha.roots", Rows.laid_surety_sha_roots)]) (h : laidMet Tryd.prog l W) : Tab W := by
  subst hl
  rw [dRoots] at h
  have t := Lib.tabIs_of_head gRoots tRoots Tryd.underlying69 Tryd.underlying51 cU32 cRoots h
  have c := fun i (hi : i < 64) => t.cell gRoots i (show i < Kt.length from hi)
  exact ⟨World.block_lt_of_cell? _ _ (c 0 (by omega)), c⟩
end Go.Proofs.YtbdahkbgjbaenaaDoor
