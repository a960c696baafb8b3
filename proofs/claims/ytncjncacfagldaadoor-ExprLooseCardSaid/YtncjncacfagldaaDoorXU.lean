/- A byte that came in. -/
import Derived.Test.YtncjncacfagldaaDoorXZ
namespace Go.Proofs.YtncjncacfagldaaDoor
open Go.ChangeShapes Go.WideShapes Go.ChangeAt Go.RowKit
set_option maxRecDepth 100000 in
theorem open_u8 {H : Type} {enc : TypeId × Value → H} {w : World} {base : Nat} {spare : Nat → Bool} {held : Bool} {r : Reach} {b0 : Nat} {v : Value} {d : DataW H} {p : List MemPlace} (hv : Value.okWide Tryd.prog w r b0 5 v) (h : DataW.Trod enc Tryd.prog w base spare held 5 v d p) : ∃ n : Nat, v = .int .u8 (n : Int) ∧ n < 256 := by
  obtain ⟨a0, rfl, rfl, rfl, w0⟩ := open_int Tryd.underlying5 hv h
  have h1 : IntKind.u8.min ≤ a0 ∧ a0 ≤ IntKind.u8.max := by simpa [Lit.wf] using w0
  have h2 : 0 ≤ a0 ∧ a0 ≤ 255 := h1
  exact ⟨a0.toNat, by rw [Int.toNat_of_nonneg h2.1], by omega⟩
end Go.Proofs.YtncjncacfagldaaDoor
