/- ValueLess: the law's walk. -/
import Derived.Test.YtfgkkccgecnchaaLt
import Derived.Test.YtfgkkccgecnchaaRo
namespace Go.Proofs.Ytfgkkccgecnchaa
open Go.RowKit

theorem lless_any {n : Nat} {A B : Val} {vA vB : Value} {w : World} (hA : Lies n w A vA) (hB : Lies n w B vB) (hn : n ≤ w.heap.size) : Calls Try.prog 7 #[vA, vB] w fun e w' => e = .returned (.bool true) ∧ Below w.heap.size w w' :=
  lless_of (Lib.hid (rord_any 1300)) hA hB hn
end Go.Proofs.Ytfgkkccgecnchaa
