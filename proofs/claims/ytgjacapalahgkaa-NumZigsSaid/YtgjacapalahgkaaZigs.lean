/-
  Zig answers the document's zigzag of any number, and Zag and Zig go back to where one came from. No conditions.
-/
import Derived.Test.YtgjacapalahgkaaRows
import Derived.Test.YtgjacapalahgkaaS
import Derived.WalkKit
import Derived.Below
import Derived.WalkSmall
import Derived.ProofKit
import Derived.OpenShut
namespace Go.Proofs.Ytgjacapalahgkaa.numZigs
open Go.ChangeShapes Go.WideShapes Go.ChangeAt Go.RowKit
set_option linter.unusedVariables false      -- a walk need not use every 'w<i>' (that an integer argument fits its kind)

theorem own : ownKnob Try.prog.godebug = none := by kernel_rfl

/-- the zigzag -/
def zigv (n : Int) : Int := if 0 ≤ n then 2 * n else -2 * n - 1
/-- back -/
def zagv (m : Int) : Int := if m % 2 = 0 then m / 2 else -(m / 2) - 1
theorem zag_zig (n : Int) : zagv (zigv n) = n := by unfold zigv zagv; split <;> split <;> omega
theorem zig_zag (m : Int) (h : 0 ≤ m) : zigv (zagv m) = m := by unfold zagv zigv; split <;> split <;> omega
theorem zigv_bd (n : Int) (h1 : -9223372036854775808 ≤ n) (h2 : n ≤ 9223372036854775807) : 0 ≤ zigv n ∧ zigv n ≤ 18446744073709551615 := by unfold zigv; split <;> omega
theorem zagv_bd (m : Int) (h1 : 0 ≤ m) (h2 : m ≤ 18446744073709551615) : -9223372036854775808 ≤ zagv m ∧ zagv m ≤ 9223372036854775807 := by unfold zagv; split <;> omega
theorem xor64_zero (x : Int) (h1 : -9223372036854775808 ≤ x) (h2 : x ≤ 9223372036854775807) : bits .xor .i64 x 0 = x := by
  have e : bits .xor .i64 x 0 = (BitVec.ofInt 64 x ^^^ BitVec.ofInt 64 0).toInt := i64_toInt _
  have : BitVec.ofInt 64 0 = 0#64 := rfl
  rw [e, this, BitVec.xor_zero, BitVec.toInt_ofInt]
  unfold Int.bmod; simp only [Nat.reducePow]; split <;> omega
theorem xor64_ones (x : Int) (h1 : -9223372036854775808 ≤ x) (h2 : x ≤ 9223372036854775807) : bits .xor .i64 x (-1) = -x - 1 := by
  have e : bits .xor .i64 x (-1) = (BitVec.ofInt 64 x ^^^ BitVec.ofInt 64 (-1)).toInt := i64_toInt _
  have : BitVec.ofInt 64 (-1) = BitVec.allOnes 64 := by decide
  rw [e, this, BitVec.xor_allOnes, BitVec.toInt_not, BitVec.toNat_ofInt]
  unfold Int.bmod; simp only [Nat.reducePow]; split <;> omega
theorem and_one (m : Int) (h1 : 0 ≤ m) (h2 : m ≤ 18446744073709551615) : bits .and .u64 m 1 = m % 2 := by
  rw [u64_and m 1 h1 (by omega) (by omega) (by omega)]
  show ((m.toNat &&& 1 : Nat) : Int) = _
  rw [nat_mask1]; omega
theorem zig_any (n : Int) (w : World) (h1 : -9223372036854775808 ≤ n) (h2 : n ≤ 9223372036854775807) :
    Calls Try.prog 21 #[.int .i64 n] w fun e w' => e = .returned (.int .u64 (zigv n)) ∧ w = w' := by
  have E : bits .xor .u64 (IntKind.u64.wrap (IntKind.u64.wrap n * 2)) (IntKind.u64.wrap (n / 9223372036854775808)) = zigv n := by
    simp only [IntKind.wrap_u64]; unfold zigv
    by_cases h : n < 0
    · rw [show n / 9223372036854775808 % 18446744073709551616 = 18446744073709551615 by omega, xor_ones _ (by omega) (by omega)]; omega
    · rw [show n / 9223372036854775808 % 18446744073709551616 = 0 by omega, xor_zero _ (by omega) (by omega)]; omega
  have H := Lib.hid E
  clear E
  go_enter Try.func21, Try.ntmps21
  go_wp2
  go_ret
  exact ⟨ret_int H.out, rfl⟩
theorem rzig_any (n : Int) (w : World) (h1 : -9223372036854775808 ≤ n) (h2 : n ≤ 9223372036854775807) :
    Calls Try.prog 22 #[.int .i64 n] w fun e w' => e = .returned (.int .u64 (zigv n)) ∧ w = w' := by
  by_cases h : 0 ≤ n
  · have E : IntKind.u64.wrap (n * 2) = zigv n := by rw [IntKind.wrap_u64]; unfold zigv; omega
    have H := Lib.hid E
    clear E
    go_enter Try.func22, Try.ntmps22
    go_wp2
    go_ret
    exact ⟨ret_int (by have := H.out; first | exact this | (rw [← this, IntKind.wrap_u64]; omega)), rfl⟩
  · have E : IntKind.u64.wrap (IntKind.u64.wrap (IntKind.u64.wrap (-IntKind.u64.wrap n) * 2) - 1) = zigv n := by simp only [IntKind.wrap_u64]; unfold zigv; omega
    have H := Lib.hid E
    clear E
    go_enter Try.func22, Try.ntmps22
    go_wp2
    go_ret
    exact ⟨ret_int H.out, rfl⟩
theorem zag_any (m : Int) (w : World) (h1 : 0 ≤ m) (h2 : m ≤ 18446744073709551615) :
    Calls Try.prog 23 #[.int .u64 m] w fun e w' => e = .returned (.int .i64 (zagv m)) ∧ w = w' := by
  have A := and_one m h1 h2
  have E : bits .xor .i64 (m / 2) (-(m % 2)) = zagv m := by
    unfold zagv
    by_cases h : m % 2 = 0
    · rw [h, if_pos rfl]; exact xor64_zero _ (by omega) (by omega)
    · rw [if_neg h, show m % 2 = 1 by omega]; exact xor64_ones _ (by omega) (by omega)
  have H := Lib.hid E
  clear E
  go_enter Try.func23, Try.ntmps23
  go_wp2
  go_ret
  exact ⟨ret_int H.out, rfl⟩
set_option maxHeartbeats 400000 in
theorem walk (a0 : Int) (a1 : Int) (w0 : (Lit.int .i64 a0).wf = true) (w1 : (Lit.int .u64 a1).wf = true) (w : World) :
    Calls Try.prog 7 #[.int .i64 a0, .int .u64 a1] w fun e w' => e = .returned (.bool true) ∧ Below w.heap.size w w' := by
  have b0 : -9223372036854775808 ≤ a0 ∧ a0 ≤ 9223372036854775807 := by simpa using bounds_i64 w0
  have b1 : 0 ≤ a1 ∧ a1 ≤ 18446744073709551615 := by simpa using bounds_u64 w1
  have z0 := zigv_bd a0 b0.1 b0.2
  have z1 := zagv_bd a1 b1.1 b1.2
  have C1 := fun w => zag_any (zigv a0) w z0.1 z0.2
  rw [zag_zig] at C1
  have C2 := fun w => zig_any (zagv a1) w z1.1 z1.2
  rw [zig_zag a1 b1.1] at C2
  have D1 := fun w => zig_any a0 w b0.1 b0.2
  have D2 := fun w => rzig_any a0 w b0.1 b0.2
  have D3 := fun w => zag_any a1 w b1.1 b1.2
  clear w0 w1
  go_enter Try.func7, Try.ntmps7
  go_wp2_with fail
  refine (D1 _).mono ?_; rintro e w' ⟨rfl, rfl⟩
  go_wp2_with fail
  refine (D2 _).mono ?_; rintro e w' ⟨rfl, rfl⟩
  go_wp2_with fail
  refine (D1 _).mono ?_; rintro e w' ⟨rfl, rfl⟩
  go_wp2_with fail
  refine (C1 _).mono ?_; rintro e w' ⟨rfl, rfl⟩
  go_wp2_with fail
  refine (D3 _).mono ?_; rintro e w' ⟨rfl, rfl⟩
  go_wp2_with fail
  refine (C2 _).mono ?_; rintro e w' ⟨rfl, rfl⟩
  go_wp2_with fail
  refine (awake_true _).mono ?_; rintro e w' ⟨rfl, hb⟩
  go_wp2
  go_ret
  exact ⟨rfl, hb⟩

/-! ### THE ROW's STEP: WRITTEN OUT: LEAVE IT -/
set_option maxRecDepth 100000 in
theorem lifted (os : Os) (started : os.Started) (H : Type) (enc : TypeId × Value → H) :
    ReturnsInHanded {} Try.checked os 7 .any (Rows.numZigsSpec.pre6 enc Try.prog Try.f7 Rows.numZigsRow.domain false) (Rows.numZigsSpec.post enc Try.prog Try.f7 false true false false) := by
  refine returnsInHanded_of_change (C := Try.checked) own started (by kernel_rfl) Try.func7
    (ChangeSpec.witness6 (enc := enc) (C := Try.checked) false ⟨#[], #[.int .i64 0, .int .u64 0], []⟩ 8 (by kernel_rfl) (by kernel_rfl) (by kernel_rfl) (by kernel_rfl)) ?_
  intro W base args ds gs before hval0 hW hcnd _
  have hval : ∀ (j : Nat) t v, Try.f7.params[j]? = some t → args[j]? = some v → Value.okWide Try.prog W .any base t v := hval0
  have hW' := hW
  obtain ⟨p, q, hA0, hV, rfl, hfz, hnd⟩ := hW
  have hA : DataW.TrodAll enc Try.prog W 0 (fun _ => true) true Try.f7.params.toList args.toList ds p := hA0
  rw [Try.params7] at hA hval
  obtain ⟨v0, vs0, d0, ds0, p0, q0, hargs, rfl, rfl, h0, r0⟩ := trodAll_cons hA
  obtain ⟨v1, vs1, d1, ds1, p1, q1, rfl, rfl, rfl, h1, r1⟩ := trodAll_cons r0
  obtain ⟨rfl, rfl, rfl⟩ := trodAll_nil r1
  obtain rfl : args = #[v0, v1] := by cases args; simp_all
  obtain ⟨rfl, rfl⟩ := trodVars_none hV
  obtain ⟨a0, rfl, rfl, rfl, w0⟩ := open_int Try.underlying2 (hval 0 2 v0 rfl rfl) h0
  obtain ⟨a1, rfl, rfl, rfl, w1⟩ := open_int Try.underlying28 (hval 1 28 v1 rfl rfl) h1
  clear hA0 hval0
  simp only [List.append_nil] at hW'
  refine (walk a0 a1 w0 w1 W).mono fun e W' ⟨he, bel⟩ => ?_
  subst he
  exact ⟨_, rfl, _, _, _, [], [], [], hW', (trodAll_cons_mk (shut_bool Try.underlying4 _) trodAll_mk0), (trodAll_cons_mk (shut_int Try.underlying2 w0) (trodAll_cons_mk (shut_int Try.underlying28 w1) trodAll_mk0)), rfl, bel.frame _, fun h => by cases h⟩

theorem over : Rows.numZigsRow.holds Try.pinned (OpenSpec.ofChange Rows.numZigsSpec) :=
  OpenClaim.holds_of_wide 7 Try.f7 rfl rfl rfl rfl rfl rfl rfl ⟨rfl, rfl, rfl, rfl, rfl⟩ rfl rfl rfl rfl rfl (by kernel_rfl) Try.func7 (by kernel_rfl)
    (of_decide_eq_true (by kernel_rfl)) (by unfold Func.isWrapper; first | (rw [if_pos (by decide +kernel)]; kernel_rfl) | (rw [if_neg (by decide +kernel)]; exact ⟨rfl, rfl⟩))
    (fun os started H enc _ => lifted os started H enc)

/-- ████ THE STATEMENT ████ -/
theorem proved : Rows.NumZigsSaid :=
  over
#print axioms proved
end Go.Proofs.Ytgjacapalahgkaa.numZigs
