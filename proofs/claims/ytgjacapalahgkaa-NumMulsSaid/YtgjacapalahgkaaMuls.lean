/-
  Mul answers the document's product, or too great, for any two numbers of 64 bits. No conditions.
-/
import Derived.Test.YtgjacapalahgkaaRows
import Derived.Test.YtgjacapalahgkaaT
import Derived.Test.YtgjacapalahgkaaR5
import Derived.WalkKit
import Derived.Below
import Derived.WalkSmall
import Derived.ProofKit
import Derived.OpenShut
namespace Go.Proofs.Ytgjacapalahgkaa.numMuls
open Go.ChangeShapes Go.WideShapes Go.ChangeAt Go.RowKit
set_option linter.unusedVariables false      -- a walk need not use every 'w<i>' (that an integer argument fits its kind)

theorem own : ownKnob Try.prog.godebug = none := by kernel_rfl

theorem below_then {w w1 w2 : World} (h : Below w.heap.size w w1) (k : Below w1.heap.size w1 w2) : Below w.heap.size w w2 := h.trans (k.mono h.size)
/-- Of, with the sign under a name -/
def OfAny (n : Int) (w : World) (e : Ending) (w' : World) : Prop :=
  (∃ s d0 d1, e = .returned (.agg #[.bool s, .int .u64 d0, .int .u64 d1, .int .u64 0, .int .u64 0, .int .u64 0]) ∧ IsWide s d0 d1 0 0 0 n) ∧ Below w.heap.size w w'
theorem of_some (n : Int) (w : World) (h1 : -9223372036854775808 ≤ n) (h2 : n ≤ 9223372036854775807) : Calls Try.prog 13 #[.int .i64 n] w (OfAny n w) :=
  (of_any n w h1 h2).mono fun _ _ ⟨⟨d0, d1, he, hw, _⟩, hb⟩ => ⟨⟨_, d0, d1, he, hw⟩, hb⟩
set_option maxHeartbeats 1000000 in
theorem walk (a0 : Int) (a1 : Int) (w0 : (Lit.int .i64 a0).wf = true) (w1 : (Lit.int .i64 a1).wf = true) (w : World) :
    Calls Try.prog 4 #[.int .i64 a0, .int .i64 a1] w fun e w' => e = .returned (.bool true) ∧ Below w.heap.size w w' := by
  have b0 : -9223372036854775808 ≤ a0 ∧ a0 ≤ 9223372036854775807 := by simpa using bounds_i64 w0
  have b1 : -9223372036854775808 ≤ a1 ∧ a1 ≤ 9223372036854775807 := by simpa using bounds_i64 w1
  have A := fun w => mul_any a0 a1 w b0.1 b0.2 b1.1 b1.2
  have Oa := fun w => of_some a0 w b0.1 b0.2
  have Ob := fun w => of_some a1 w b1.1 b1.2
  clear w0 w1
  go_enter Try.func4, Try.ntmps4
  go_wp2_with fail
  refine (A _).mono ?_; rintro e w' ⟨rfl, rfl⟩
  go_wp2_with fail
  refine (Oa _).mono ?_; rintro e v1 ⟨⟨s1, d1, e1, rfl, q1⟩, k1⟩
  go_wp2_with fail
  refine (Ob _).mono ?_; rintro e v2 ⟨⟨s2, d2, e2, rfl, q2⟩, k2⟩
  go_wp2_with fail
  refine (times_any _ _ _ _ _ _ _ _ _ q1 q2).mono ?_; rintro e v3 ⟨⟨s3, r0, r1, r2, r3, r4, rfl, q3⟩, k3⟩
  go_wp2_with fail
  refine (narrow_any _ _ _ _ _ _ _ _ q3).mono ?_; rintro e v4 ⟨rfl, k4⟩
  have K1 := below_then (below_then (below_then k1 k2) k3) k4
  clear k1 k2 k3 k4 q1 q2 q3
  go_wp2_with fail
  refine (awake_true _).mono ?_; rintro e v13 ⟨rfl, k1⟩
  go_wp2
  go_ret
  exact ⟨rfl, below_then K1 k1⟩

/-! ### THE ROW's STEP: WRITTEN OUT: LEAVE IT -/
set_option maxRecDepth 100000 in
theorem lifted (os : Os) (started : os.Started) (H : Type) (enc : TypeId × Value → H) :
    ReturnsInHanded {} Try.checked os 4 .any (Rows.numMulsSpec.pre6 enc Try.prog Try.f4 Rows.numMulsRow.domain false) (Rows.numMulsSpec.post enc Try.prog Try.f4 false true false false) := by
  refine returnsInHanded_of_change (C := Try.checked) own started (by kernel_rfl) Try.func4
    (ChangeSpec.witness6 (enc := enc) (C := Try.checked) false ⟨#[], #[.int .i64 0, .int .i64 0], []⟩ 8 (by kernel_rfl) (by kernel_rfl) (by kernel_rfl) (by kernel_rfl)) ?_
  intro W base args ds gs before hval0 hW hcnd _
  have hval : ∀ (j : Nat) t v, Try.f4.params[j]? = some t → args[j]? = some v → Value.okWide Try.prog W .any base t v := hval0
  have hW' := hW
  obtain ⟨p, q, hA0, hV, rfl, hfz, hnd⟩ := hW
  have hA : DataW.TrodAll enc Try.prog W 0 (fun _ => true) true Try.f4.params.toList args.toList ds p := hA0
  rw [Try.params4] at hA hval
  obtain ⟨v0, vs0, d0, ds0, p0, q0, hargs, rfl, rfl, h0, r0⟩ := trodAll_cons hA
  obtain ⟨v1, vs1, d1, ds1, p1, q1, rfl, rfl, rfl, h1, r1⟩ := trodAll_cons r0
  obtain ⟨rfl, rfl, rfl⟩ := trodAll_nil r1
  obtain rfl : args = #[v0, v1] := by cases args; simp_all
  obtain ⟨rfl, rfl⟩ := trodVars_none hV
  obtain ⟨a0, rfl, rfl, rfl, w0⟩ := open_int Try.underlying2 (hval 0 2 v0 rfl rfl) h0
  obtain ⟨a1, rfl, rfl, rfl, w1⟩ := open_int Try.underlying2 (hval 1 2 v1 rfl rfl) h1
  clear hA0 hval0
  simp only [List.append_nil] at hW'
  refine (walk a0 a1 w0 w1 W).mono fun e W' ⟨he, bel⟩ => ?_
  subst he
  exact ⟨_, rfl, _, _, _, [], [], [], hW', (trodAll_cons_mk (shut_bool Try.underlying4 _) trodAll_mk0), (trodAll_cons_mk (shut_int Try.underlying2 w0) (trodAll_cons_mk (shut_int Try.underlying2 w1) trodAll_mk0)), rfl, bel.frame _, fun h => by cases h⟩

theorem over : Rows.numMulsRow.holds Try.pinned (OpenSpec.ofChange Rows.numMulsSpec) :=
  OpenClaim.holds_of_wide 4 Try.f4 rfl rfl rfl rfl rfl rfl rfl ⟨rfl, rfl, rfl, rfl, rfl⟩ rfl rfl rfl rfl rfl (by kernel_rfl) Try.func4 (by kernel_rfl)
    (of_decide_eq_true (by kernel_rfl)) (by unfold Func.isWrapper; first | (rw [if_pos (by decide +kernel)]; kernel_rfl) | (rw [if_neg (by decide +kernel)]; exact ⟨rfl, rfl⟩))
    (fun os started H enc _ => lifted os started H enc)

/-- ████ THE STATEMENT ████ -/
theorem proved : Rows.NumMulsSaid :=
  over
#print axioms proved
end Go.Proofs.Ytgjacapalahgkaa.numMuls
