/- Contracts: Sum of the reference, whatever the signs; Narrow. -/
import Derived.Test.YtgjacapalahgkaaR2
import Derived.Test.YtgjacapalahgkaaR3
namespace Go.Proofs.Ytgjacapalahgkaa
open Go.ChangeShapes Go.WideShapes Go.ChangeAt Go.RowKit

theorem sum_any (s t : Bool) (a0 a1 a2 a3 a4 b0 b1 b2 b3 b4 x y : Int) (w : World) (ha : IsWide s a0 a1 a2 a3 a4 x) (hb : IsWide t b0 b1 b2 b3 b4 y)
    (hx : -730750818665451459101842416358141509827966271488 < x ∧ x < 730750818665451459101842416358141509827966271488) (hy : -730750818665451459101842416358141509827966271488 < y ∧ y < 730750818665451459101842416358141509827966271488) :
    Calls Try.prog 12 #[.agg #[.bool s, .int .u64 a0, .int .u64 a1, .int .u64 a2, .int .u64 a3, .int .u64 a4], .agg #[.bool t, .int .u64 b0, .int .u64 b1, .int .u64 b2, .int .u64 b3, .int .u64 b4]] w (SumPost (x + y) w) := by
  obtain ⟨ha0, ha1, ha2, ha3, ha4, rfl⟩ := ha
  obtain ⟨hb0, hb1, hb2, hb3, hb4, rfl⟩ := hb
  by_cases h : s = t
  · subst h
    refine sum_alike s a0 a1 a2 a3 a4 b0 b1 b2 b3 b4 w ha0 ha1 ha2 ha3 ha4 hb0 hb1 hb2 hb3 hb4 ?_
    cases s <;> simp only [sgn_t, sgn_f] at hx hy <;> omega
  · have h' : (s == t) = false := by simpa using h
    by_cases hl : V a0 a1 a2 a3 a4 < V b0 b1 b2 b3 b4
    · exact sum_less s t a0 a1 a2 a3 a4 b0 b1 b2 b3 b4 w ha0 ha1 ha2 ha3 ha4 hb0 hb1 hb2 hb3 hb4 h' hl
    · exact sum_more s t a0 a1 a2 a3 a4 b0 b1 b2 b3 b4 w ha0 ha1 ha2 ha3 ha4 hb0 hb1 hb2 hb3 hb4 h' (by omega)
end Go.Proofs.Ytgjacapalahgkaa
