/- Contracts: Check, mayBe, upward, the reference's Check. -/
import Derived.Test.YtfmgbhaldakpfaaDoorTa
import Derived.WalkKit
import Derived.Below
import Derived.WalkSmall
import Derived.LoopTactic
import Derived.RegionTactic
import Derived.ChangeAlike
import Derived.BigGuardPart
import Derived.Deep.QuietTactic
import Derived.BigQuiet
import Derived.Outline
import Derived.Lib.Hide
import Derived.Handy
import Derived.WalkLawsBesides
namespace Go.Proofs.YtfmgbhaldakpfaaDoor.Typ
open Go.RowKit

/-- a type as a value -/
abbrev ty (k o : Int) : Value := .agg #[.int .i64 k, .int .i64 o]
set_option maxHeartbeats 1000000 in
theorem check_ok (k o : Int) (w : World) (h : okB k o = true) : Calls Tryd.prog 84 #[ty k o] w fun e w' => e = .returned (.int .i64 0) ∧ Below w.heap.size w w' := by
  rw [ok_iff] at h
  rcases h with ⟨h1, h2, rfl⟩ | ⟨h1, h2, h3⟩
  · obtain rfl | rfl | rfl | rfl : k = 0 ∨ k = 1 ∨ k = 2 ∨ k = 3 := by omega
    all_goals
      clear h1 h2
      go_enter Tryd.func84, Tryd.ntmps84
      go_wp2
      go_ret
      exact ⟨rfl, (Below.refl _ _).alloc (Nat.le_refl _) _⟩
  · rcases h1 with rfl | rfl
    all_goals
      go_enter Tryd.func84, Tryd.ntmps84
      go_wp2
      go_ret
      exact ⟨rfl, (Below.refl _ _).alloc (Nat.le_refl _) _⟩
set_option maxHeartbeats 1000000 in
theorem check_no (k o : Int) (w : World) (h : okB k o = false) : Calls Tryd.prog 84 #[ty k o] w fun e w' => e = .returned (.int .i64 1) ∧ Below w.heap.size w w' := by
  rw [no_iff] at h
  by_cases h1 : 0 ≤ k ∧ k ≤ 3
  · obtain rfl | rfl | rfl | rfl : k = 0 ∨ k = 1 ∨ k = 2 ∨ k = 3 := by omega
    all_goals
      have h2 : (o == 0) = false := by rw [beq_eq_false_iff_ne]; omega
      clear h h1
      go_enter Tryd.func84, Tryd.ntmps84
      go_wp2
      go_ret
      exact ⟨rfl, (Below.refl _ _).alloc (Nat.le_refl _) _⟩
  · by_cases h3 : k = 4 ∨ k = 5
    · by_cases h4 : o < 0
      · clear h
        have hd : decide (0 ≤ o) = false := by simpa using h4
        rcases h3 with rfl | rfl
        all_goals
          clear h1
          go_enter Tryd.func84, Tryd.ntmps84
          go_wp2
          go_ret
          exact ⟨rfl, (Below.refl _ _).alloc (Nat.le_refl _) _⟩
      · have h5 : 3 < o := by omega
        have h6 : 0 ≤ o := by omega
        clear h h4
        rcases h3 with rfl | rfl
        all_goals
          clear h1
          go_enter Tryd.func84, Tryd.ntmps84
          go_wp2
          go_ret
          exact ⟨rfl, (Below.refl _ _).alloc (Nat.le_refl _) _⟩
    · have e0 : (k == 0) = false := by rw [beq_eq_false_iff_ne]; omega
      have e1 : (k == 1) = false := by rw [beq_eq_false_iff_ne]; omega
      have e2 : (k == 2) = false := by rw [beq_eq_false_iff_ne]; omega
      have e3 : (k == 3) = false := by rw [beq_eq_false_iff_ne]; omega
      have e4 : (k == 4) = false := by rw [beq_eq_false_iff_ne]; omega
      have e5 : (k == 5) = false := by rw [beq_eq_false_iff_ne]; omega
      clear h h1 h3
      go_enter Tryd.func84, Tryd.ntmps84
      go_wp2
      go_ret
      exact ⟨rfl, (Below.refl _ _).alloc (Nat.le_refl _) _⟩
theorem may_ok (k o : Int) (w : World) (h : okB k o = true) : Calls Tryd.prog 85 #[ty k o] w fun e w' => e = .returned (.bool true) ∧ Below w.heap.size w w' := by
  have H := Lib.hid h
  clear h
  go_enter Tryd.func85, Tryd.ntmps85
  go_wp2_with (go_at_call 84; refine (check_ok _ _ _ H.out).mono ?_; rintro e w' ⟨rfl, b⟩)
  go_ret
  exact ⟨rfl, ((Below.refl _ _).alloc (Nat.le_refl _) _).trans (b.mono (by simp))⟩
theorem may_no (k o : Int) (w : World) (h : okB k o = false) : Calls Tryd.prog 85 #[ty k o] w fun e w' => e = .returned (.bool false) ∧ Below w.heap.size w w' := by
  have H := Lib.hid h
  clear h
  go_enter Tryd.func85, Tryd.ntmps85
  go_wp2_with (go_at_call 84; refine (check_no _ _ _ H.out).mono ?_; rintro e w' ⟨rfl, b⟩)
  go_ret
  exact ⟨rfl, ((Below.refl _ _).alloc (Nat.le_refl _) _).trans (b.mono (by simp))⟩
theorem upward_any (k o : Int) (w : World) : Calls Tryd.prog 86 #[ty k o] w fun e w' => e = .returned (.agg #[.int .i64 k, .int .i64 o, .int .i64 k, .int .i64 0, .int .i64 0, .int .i64 0]) ∧ Below w.heap.size w w' := by
  go_enter Tryd.func86, Tryd.ntmps86
  go_wp2
  exact bodyPost_ret (v := .agg #[.int .i64 k, .int .i64 o, .int .i64 k, .int .i64 0, .int .i64 0, .int .i64 0]) (by simp [results, Tryd.results86, go_sem]) rfl ⟨rfl, ((Below.refl _ _).alloc (Nat.le_refl _) _).alloc (by simp) _⟩
end Go.Proofs.YtfmgbhaldakpfaaDoor.Typ
