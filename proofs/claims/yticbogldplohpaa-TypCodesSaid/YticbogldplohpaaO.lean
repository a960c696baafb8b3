/- A type by value, opened and shut. -/
import Derived.Test.YticbogldplohpaaJ
import Derived.Test.YticbogldplohpaaRows
import Derived.ProofKit
import Derived.OpenShut
import Derived.Lib.SmallJoins
import Derived.Carry
namespace Go.Proofs.Yticbogldplohpaa
open Go.ChangeShapes Go.WideShapes Go.ChangeAt Go.RowKit Go.Joins

theorem own : ownKnob Try.prog.godebug = none := by kernel_rfl
theorem cells23 : Try.prog.cellsOf 23 = 2 := by kernel_rfl
section
variable {H : Type} {enc : TypeId × Value → H} {w : World} {base : Nat} {spare : Nat → Bool} {held : Bool}
theorem open_ty {r : Reach} {b0 : Nat} {v : Value} {d : DataW H} {p : List MemPlace} (hv : Value.okWide Try.prog w r b0 23 v) (h : DataW.Trod enc Try.prog w base spare held 23 v d p) :
    ∃ k o, v = ty k o ∧ d = .agg [.lit (.int .i64 k), .lit (.int .i64 o)] ∧ p = [] ∧ (Lit.int .i64 k).wf = true ∧ (Lit.int .i64 o).wf = true := by
  obtain ⟨c0, c1, y0, y1, m, rfl, rfl, rfl, hy0, hy1⟩ := open_agg2 Try.underlying23 (by kernel_rfl) cells23 hv h
  obtain ⟨a, e0, rfl, wa⟩ := DataW.trod_int Try.underlying3 hy0
  obtain ⟨b, e1, rfl, wb⟩ := DataW.trod_int Try.underlying3 hy1
  simp at e0 e1
  subst e0 e1
  exact ⟨a, b, rfl, rfl, rfl, wa, wb⟩
theorem shut_ty {k o : Int} (wa : (Lit.int .i64 k).wf = true) (wb : (Lit.int .i64 o).wf = true) : DataW.Trod enc Try.prog w base spare held 23 (ty k o) (.agg [.lit (.int .i64 k), .lit (.int .i64 o)]) [] :=
  shut_agg2 (y0 := (.lit (.int .i64 k), [])) (y1 := (.lit (.int .i64 o), [])) Try.underlying23 (by kernel_rfl) cells23 ⟨1, by simp [DataW.trod, Try.underlying3, wa]⟩ ⟨1, by simp [DataW.trod, Try.underlying3, wb]⟩
end
end Go.Proofs.Yticbogldplohpaa
