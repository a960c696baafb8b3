/- Get of the reference, of any bytes. -/
import Derived.Test.YtakoghdkllfhlaaDoorRq0
import Derived.Test.YtakoghdkllfhlaaDoorRq1
import Derived.Test.YtakoghdkllfhlaaDoorRq2
namespace Go.Proofs.YtakoghdkllfhlaaDoor
open Go.RowKit Go.Lib

theorem rgetR_any {nb : Nat} {o : Option Addr} {cap : Nat} {M : List Nat} {w : World} (B : Bts nb w o cap M) (hnb : nb ≤ w.heap.size) :
    Calls Tryd.prog 36 #[.slice o M.length cap] w fun r w' => r = getKV (getR M) ∧ Below w.heap.size w w' := by
  by_cases h1 : kindOf M = 1
  · exact rgetR_1 B hnb h1
  · by_cases h2 : kindOf M = 2
    · exact rgetR_2 B hnb h2
    · exact rgetR_0 B hnb ⟨h1, h2⟩
end Go.Proofs.YtakoghdkllfhlaaDoor
