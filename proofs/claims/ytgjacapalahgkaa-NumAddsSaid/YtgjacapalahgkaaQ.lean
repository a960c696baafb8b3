/- Contracts: Of, Turned, Sum, Narrow, Times of the reference. -/
import Derived.Test.YtgjacapalahgkaaP
namespace Go.Proofs.Ytgjacapalahgkaa
open Go.ChangeShapes Go.WideShapes Go.ChangeAt Go.RowKit

/-- with a sign -/
def sgn (s : Bool) (m : Int) : Int := if s then -m else m
theorem sgn_t (m : Int) : sgn true m = -m := rfl
theorem sgn_f (m : Int) : sgn false m = m := rfl
/-- what is told of a wide number of the value x -/
def IsWide (s : Bool) (r0 r1 r2 r3 r4 x : Int) : Prop := Dg r0 ∧ Dg r1 ∧ Dg r2 ∧ Dg r3 ∧ Dg r4 ∧ sgn s (V r0 r1 r2 r3 r4) = x
def OfPost (n : Int) (w : World) (e : Ending) (w' : World) : Prop :=
  (∃ d0 d1, e = .returned (.agg #[.bool (decide (n < 0)), .int .u64 d0, .int .u64 d1, .int .u64 0, .int .u64 0, .int .u64 0]) ∧ IsWide (decide (n < 0)) d0 d1 0 0 0 n ∧ d1 ≤ 2147483648) ∧ Below w.heap.size w w'
set_option maxHeartbeats 1000000 in
theorem of_any (n : Int) (w : World) (h1 : -9223372036854775808 ≤ n) (h2 : n ≤ 9223372036854775807) :
    Calls Try.prog 13 #[.int .i64 n] w (OfPost n w) := by
  by_cases h : n < 0
  · obtain ⟨m, hm⟩ : ∃ m, IntKind.u64.wrap (-IntKind.u64.wrap n) = m := ⟨_, rfl⟩
    have hm' : m = -n := by rw [← hm]; simp only [IntKind.wrap_u64]; omega
    have b : 0 ≤ m ∧ m ≤ 9223372036854775808 := by omega
    have H := Lib.hid (show decide (n < 0) = true by simpa using h)
    have M := Lib.hid hm'
    clear hm'
    go_enter Try.func13, Try.ntmps13
    go_wp2
    refine bodyPost_ret (v := .agg #[.bool true, .int .u64 (m % 4294967296), .int .u64 (m / 4294967296), .int .u64 0, .int .u64 0, .int .u64 0]) (by simp [results, Try.results13, go_sem]) rfl ⟨⟨_, _, by rw [H.out], ?_⟩, ?_⟩
    · have := M.out
      rw [H.out]
      unfold IsWide Dg V sgn
      simp only [if_true]
      omega
    · repeat (with_reducible (first | exact Below.refl _ _ | refine below_drewN ?_ _ | refine Below.alloc_of ?_ rfl _ | refine Below.set_at ?_ (by omega) _))
  · have H := Lib.hid (show decide (n < 0) = false by simpa using h)
    go_enter Try.func13, Try.ntmps13
    go_wp2
    refine bodyPost_ret (v := .agg #[.bool false, .int .u64 (n % 4294967296), .int .u64 (n / 4294967296), .int .u64 0, .int .u64 0, .int .u64 0]) (by simp [results, Try.results13, go_sem]) rfl ⟨⟨_, _, by rw [H.out], ?_⟩, ?_⟩
    · rw [H.out]
      unfold IsWide Dg V sgn
      simp only [Bool.false_eq_true, if_false]
      omega
    · repeat (with_reducible (first | exact Below.refl _ _ | refine below_drewN ?_ _ | refine Below.alloc_of ?_ rfl _ | refine Below.set_at ?_ (by omega) _))
theorem turned_any (s : Bool) (a0 a1 a2 a3 a4 : Int) (w : World) :
    Calls Try.prog 14 #[.agg #[.bool s, .int .u64 a0, .int .u64 a1, .int .u64 a2, .int .u64 a3, .int .u64 a4]] w
      fun e w' => e = .returned (.agg #[.bool (!s), .int .u64 a0, .int .u64 a1, .int .u64 a2, .int .u64 a3, .int .u64 a4]) ∧ Below w.heap.size w w' := by
  go_enter Try.func14, Try.ntmps14
  go_wp2
  refine bodyPost_ret (v := .agg #[.bool (!s), .int .u64 a0, .int .u64 a1, .int .u64 a2, .int .u64 a3, .int .u64 a4]) (by simp [results, Try.results14, go_sem]) rfl ⟨rfl, ?_⟩
  repeat (with_reducible (first | exact Below.refl _ _ | refine below_drewN ?_ _ | refine Below.alloc_of ?_ rfl _ | refine Below.set_at ?_ (by omega) _))
end Go.Proofs.Ytgjacapalahgkaa
