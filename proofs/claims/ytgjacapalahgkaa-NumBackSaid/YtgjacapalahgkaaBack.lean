/-
  What Add adds Sub takes away again, and what Div divides is there again by Mul and Add with what Mod leaves, for any two numbers of 64 bits. No conditions.
-/
import Derived.Test.YtgjacapalahgkaaRows
import Derived.Test.YtgjacapalahgkaaS
import Derived.WalkKit
import Derived.Below
import Derived.WalkSmall
import Derived.ProofKit
import Derived.OpenShut
namespace Go.Proofs.Ytgjacapalahgkaa.numBack
open Go.ChangeShapes Go.WideShapes Go.ChangeAt Go.RowKit
set_option linter.unusedVariables false      -- a walk need not use every 'w<i>' (that an integer argument fits its kind)

theorem own : ownKnob Try.prog.godebug = none := by kernel_rfl

theorem tdiv_le (a b : Int) (h1 : -9223372036854775808 ≤ a) (h2 : a ≤ 9223372036854775807) : -9223372036854775808 ≤ a.tdiv b ∧ a.tdiv b ≤ 9223372036854775808 := by
  have h : (a.tdiv b).natAbs = a.natAbs / b.natAbs := Int.natAbs_tdiv a b
  have h' := Nat.div_le_self a.natAbs b.natAbs
  have h2' : (a.tdiv b).natAbs ≤ a.natAbs := by rw [h]; exact h'
  omega
theorem tmod_bd (a b : Int) (h1 : -9223372036854775808 ≤ a) (h2 : a ≤ 9223372036854775807) : -9223372036854775808 ≤ a.tmod b ∧ a.tmod b ≤ 9223372036854775807 := by
  have h : (a.tmod b).natAbs ≤ a.natAbs := by rw [Int.natAbs_tmod]; exact Nat.mod_le a.natAbs b.natAbs
  rcases Int.lt_or_le a 0 with ha | ha
  · have h3 : -((-a).tmod b) = a.tmod b := by rw [Int.neg_tmod]; simp
    have h4 := Int.tmod_nonneg b (show 0 ≤ -a by omega)
    omega
  · have h4 := Int.tmod_nonneg b ha
    omega
theorem tdiv_mul_bd (a b : Int) (h1 : -9223372036854775808 ≤ a) (h2 : a ≤ 9223372036854775807) : -9223372036854775808 ≤ a.tdiv b * b ∧ a.tdiv b * b ≤ 9223372036854775807 := by
  have h := Int.tmod_add_mul_tdiv a b
  have e : b * a.tdiv b = a.tdiv b * b := Int.mul_comm _ _
  rcases Int.lt_or_le a 0 with ha | ha
  · have h3 : -((-a).tmod b) = a.tmod b := by rw [Int.neg_tmod]; simp
    have h4 := Int.tmod_nonneg b (show 0 ≤ -a by omega)
    have h5 : (-a).tmod b ≤ -a := by
      have := Int.natAbs_tmod (-a) b; have := Nat.mod_le (-a).natAbs b.natAbs; omega
    omega
  · have h4 := Int.tmod_nonneg b ha
    have h5 : a.tmod b ≤ a := by
      have := Int.natAbs_tmod a b; have := Nat.mod_le a.natAbs b.natAbs; omega
    omega
set_option maxHeartbeats 400000 in
theorem walk (a0 : Int) (a1 : Int) (w0 : (Lit.int .i64 a0).wf = true) (w1 : (Lit.int .i64 a1).wf = true) (w : World) :
    Calls Try.prog 6 #[.int .i64 a0, .int .i64 a1] w fun e w' => e = .returned (.bool true) ∧ Below w.heap.size w w' := by
  have b0 : -9223372036854775808 ≤ a0 ∧ a0 ≤ 9223372036854775807 := by simpa using bounds_i64 w0
  have b1 : -9223372036854775808 ≤ a1 ∧ a1 ≤ 9223372036854775807 := by simpa using bounds_i64 w1
  have A := fun w => add_any a0 a1 w b0.1 b0.2 b1.1 b1.2
  have D1 : a1 ≠ 0 → _ := fun h w => div_any a0 a1 w b0.1 b0.2 b1.1 b1.2 h
  have M1 : a1 ≠ 0 → _ := fun h w => mod_any a0 a1 w b0.1 b0.2 b1.1 b1.2 h
  have q := tdiv_le a0 a1 b0.1 b0.2
  have r := tmod_bd a0 a1 b0.1 b0.2
  have p := tdiv_mul_bd a0 a1 b0.1 b0.2
  have S := fun w (h : -9223372036854775808 ≤ a0 + a1) (h' : a0 + a1 ≤ 9223372036854775807) => sub_any (a0 + a1) a1 w h h' b1.1 b1.2
  rw [show a0 + a1 - a1 = a0 by omega, nv_yes b0.1 b0.2, ne_yes b0.1 b0.2] at S
  have X := fun w (h : a0.tdiv a1 ≤ 9223372036854775807) => mul_any (a0.tdiv a1) a1 w q.1 h b1.1 b1.2
  rw [nv_yes p.1 p.2, ne_yes p.1 p.2] at X
  have Y := fun w => add_any (a0.tdiv a1 * a1) (a0.tmod a1) w p.1 p.2 r.1 r.2
  rw [show a0.tdiv a1 * a1 + a0.tmod a1 = a0 by have h := Int.tmod_add_mul_tdiv a0 a1; have e : a1 * a0.tdiv a1 = a0.tdiv a1 * a1 := Int.mul_comm _ _; omega, nv_yes b0.1 b0.2, ne_yes b0.1 b0.2] at Y
  clear w0 w1 p r
  by_cases hs : -9223372036854775808 ≤ a0 + a1 ∧ a0 + a1 ≤ 9223372036854775807
  · rw [nv_yes hs.1 hs.2, ne_yes hs.1 hs.2] at A
    by_cases hz : a1 = 0
    · subst hz
      simp only [Int.add_zero] at A S hs
      clear D1 M1 X Y q
      go_enter Try.func6, Try.ntmps6
      go_wp2_with fail
      refine (A _).mono ?_; rintro e w' ⟨rfl, rfl⟩
      go_wp2_with fail
      refine (S _ b0.1 b0.2).mono ?_; rintro e w' ⟨rfl, rfl⟩
      go_wp2_with (first | (go_at_call 18; refine (div_zero _ _).mono ?_; rintro e w' ⟨rfl, rfl⟩) | (go_at_call 19; refine (mod_zero _ _).mono ?_; rintro e w' ⟨rfl, rfl⟩) | (go_at_call 15; refine (awake_true _).mono ?_; rintro e w' ⟨rfl, hb⟩))
      go_ret
      exact ⟨rfl, hb⟩
    · have D := D1 hz
      have M := M1 hz
      clear D1 M1
      by_cases hq : a0.tdiv a1 ≤ 9223372036854775807
      · rw [nv_yes q.1 hq, ne_yes q.1 hq] at D
        clear q
        go_enter Try.func6, Try.ntmps6
        go_wp2_with fail
        refine (A _).mono ?_; rintro e w' ⟨rfl, rfl⟩
        go_wp2_with fail
        refine (S _ hs.1 hs.2).mono ?_; rintro e w' ⟨rfl, rfl⟩
        go_wp2_with fail
        refine (D _).mono ?_; rintro e w' ⟨rfl, n1, rfl⟩
        go_wp2_with fail
        refine (M _).mono ?_; rintro e w' ⟨rfl, n2, rfl⟩
        go_wp2_with fail
        refine (X _ hq).mono ?_; rintro e w' ⟨rfl, rfl⟩
        go_wp2_with fail
        refine (Y _).mono ?_; rintro e w' ⟨rfl, rfl⟩
        go_wp2_with fail
        refine (awake_true _).mono ?_; rintro e w' ⟨rfl, hb⟩
        go_wp2
        go_ret
        exact ⟨rfl, (below_drewN (Below.refl _ _) (n1 + n2)).trans hb⟩
      · have hq' : 9223372036854775807 < a0.tdiv a1 := by omega
        rw [nv_no (.inr hq'), ne_no (.inr hq')] at D
        clear q hq hq' X Y
        go_enter Try.func6, Try.ntmps6
        go_wp2_with fail
        refine (A _).mono ?_; rintro e w' ⟨rfl, rfl⟩
        go_wp2_with fail
        refine (S _ hs.1 hs.2).mono ?_; rintro e w' ⟨rfl, rfl⟩
        go_wp2_with fail
        refine (D _).mono ?_; rintro e w' ⟨rfl, n1, rfl⟩
        go_wp2_with fail
        refine (M _).mono ?_; rintro e w' ⟨rfl, n2, rfl⟩
        go_wp2_with fail
        refine (awake_true _).mono ?_; rintro e w' ⟨rfl, hb⟩
        go_wp2
        go_ret
        exact ⟨rfl, (below_drewN (Below.refl _ _) (n1 + n2)).trans hb⟩
  · have hs' : a0 + a1 < -9223372036854775808 ∨ 9223372036854775807 < a0 + a1 := by omega
    rw [nv_no hs', ne_no hs'] at A
    clear S hs hs'
    by_cases hz : a1 = 0
    · subst hz
      clear D1 M1 X Y q
      go_enter Try.func6, Try.ntmps6
      go_wp2_with fail
      refine (A _).mono ?_; rintro e w' ⟨rfl, rfl⟩
      go_wp2_with (first | (go_at_call 18; refine (div_zero _ _).mono ?_; rintro e w' ⟨rfl, rfl⟩) | (go_at_call 19; refine (mod_zero _ _).mono ?_; rintro e w' ⟨rfl, rfl⟩) | (go_at_call 15; refine (awake_true _).mono ?_; rintro e w' ⟨rfl, hb⟩))
      go_ret
      exact ⟨rfl, hb⟩
    · have D := D1 hz
      have M := M1 hz
      clear D1 M1
      by_cases hq : a0.tdiv a1 ≤ 9223372036854775807
      · rw [nv_yes q.1 hq, ne_yes q.1 hq] at D
        clear q
        go_enter Try.func6, Try.ntmps6
        go_wp2_with fail
        refine (A _).mono ?_; rintro e w' ⟨rfl, rfl⟩
        go_wp2_with fail
        refine (D _).mono ?_; rintro e w' ⟨rfl, n1, rfl⟩
        go_wp2_with fail
        refine (M _).mono ?_; rintro e w' ⟨rfl, n2, rfl⟩
        go_wp2_with fail
        refine (X _ hq).mono ?_; rintro e w' ⟨rfl, rfl⟩
        go_wp2_with fail
        refine (Y _).mono ?_; rintro e w' ⟨rfl, rfl⟩
        go_wp2_with fail
        refine (awake_true _).mono ?_; rintro e w' ⟨rfl, hb⟩
        go_wp2
        go_ret
        exact ⟨rfl, (below_drewN (Below.refl _ _) (n1 + n2)).trans hb⟩
      · have hq' : 9223372036854775807 < a0.tdiv a1 := by omega
        rw [nv_no (.inr hq'), ne_no (.inr hq')] at D
        clear q hq hq' X Y
        go_enter Try.func6, Try.ntmps6
        go_wp2_with fail
        refine (A _).mono ?_; rintro e w' ⟨rfl, rfl⟩
        go_wp2_with fail
        refine (D _).mono ?_; rintro e w' ⟨rfl, n1, rfl⟩
        go_wp2_with fail
        refine (M _).mono ?_; rintro e w' ⟨rfl, n2, rfl⟩
        go_wp2_with fail
        refine (awake_true _).mono ?_; rintro e w' ⟨rfl, hb⟩
        go_wp2
        go_ret
        exact ⟨rfl, (below_drewN (Below.refl _ _) (n1 + n2)).trans hb⟩

/-! ### THE ROW's STEP: WRITTEN OUT: LEAVE IT -/
set_option maxRecDepth 100000 in
theorem lifted (os : Os) (started : os.Started) (H : Type) (enc : TypeId × Value → H) :
    ReturnsInHanded {} Try.checked os 6 .any (Rows.numBackSpec.pre6 enc Try.prog Try.f6 Rows.numBackRow.domain false) (Rows.numBackSpec.post enc Try.prog Try.f6 false true false false) := by
  refine returnsInHanded_of_change (C := Try.checked) own started (by kernel_rfl) Try.func6
    (ChangeSpec.witness6 (enc := enc) (C := Try.checked) false ⟨#[], #[.int .i64 0, .int .i64 0], []⟩ 8 (by kernel_rfl) (by kernel_rfl) (by kernel_rfl) (by kernel_rfl)) ?_
  intro W base args ds gs before hval0 hW hcnd _
  have hval : ∀ (j : Nat) t v, Try.f6.params[j]? = some t → args[j]? = some v → Value.okWide Try.prog W .any base t v := hval0
  have hW' := hW
  obtain ⟨p, q, hA0, hV, rfl, hfz, hnd⟩ := hW
  have hA : DataW.TrodAll enc Try.prog W 0 (fun _ => true) true Try.f6.params.toList args.toList ds p := hA0
  rw [Try.params6] at hA hval
  obtain ⟨v0, vs0, d0, ds0, p0, q0, hargs, rfl, rfl, h0, r0⟩ := trodAll_cons hA
  obtain ⟨v1, vs1, d1, ds1, p1, q1, rfl, rfl, rfl, h1, r1⟩ := trodAll_cons r0
  obtain ⟨rfl, rfl, rfl⟩ := trodAll_nil r1
  obtain rfl : args = #[v0, v1] := by cases args; simp_all
  obtain ⟨rfl, rfl⟩ := trodVars_none hV
  obtain ⟨a0, rfl, rfl, rfl, w0⟩ := open_int Try.underlying2 (hval 0 2 v0 rfl rfl) h0
  obtain ⟨a1, rfl, rfl, rfl, w1⟩ := open_int Try.underlying2 (hval 1 2 v1 rfl rfl) h1
  clear hA0 hval0
  simp only [List.append_nil] at hW'
  refine (walk a0 a1 w0 w1 W).mono fun e W' ⟨he, bel⟩ => ?_
  subst he
  exact ⟨_, rfl, _, _, _, [], [], [], hW', (trodAll_cons_mk (shut_bool Try.underlying4 _) trodAll_mk0), (trodAll_cons_mk (shut_int Try.underlying2 w0) (trodAll_cons_mk (shut_int Try.underlying2 w1) trodAll_mk0)), rfl, bel.frame _, fun h => by cases h⟩

theorem over : Rows.numBackRow.holds Try.pinned (OpenSpec.ofChange Rows.numBackSpec) :=
  OpenClaim.holds_of_wide 6 Try.f6 rfl rfl rfl rfl rfl rfl rfl ⟨rfl, rfl, rfl, rfl, rfl⟩ rfl rfl rfl rfl rfl (by kernel_rfl) Try.func6 (by kernel_rfl)
    (of_decide_eq_true (by kernel_rfl)) (by unfold Func.isWrapper; first | (rw [if_pos (by decide +kernel)]; kernel_rfl) | (rw [if_neg (by decide +kernel)]; exact ⟨rfl, rfl⟩))
    (fun os started H enc _ => lifted os started H enc)

/-- ████ THE STATEMENT ████ -/
theorem proved : Rows.NumBackSaid :=
  over
#print axioms proved
end Go.Proofs.Ytgjacapalahgkaa.numBack
