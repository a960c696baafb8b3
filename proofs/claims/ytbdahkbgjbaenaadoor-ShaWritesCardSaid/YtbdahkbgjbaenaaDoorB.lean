/- Contracts: the small functions of words (right; turn and cut of the reference). -/
import Derived.Test.YtbdahkbgjbaenaaDoorA
import Derived.Test.YtbdahkbgjbaenaaDoorProg
import Derived.Deep.QuietTactic
import Derived.BigQuiet
import Derived.Below
import Derived.WalkSmall
import Derived.Lib.Hide
import Derived.LoopTactic
namespace Go.Proofs.YtbdahkbgjbaenaaDoor
open Go.RowKit

theorem ret_u32 {a b : Int} (h : a = b) : Ending.returned (.int .u32 a) = .returned (.int .u32 b) := by rw [h]
theorem right_2 (x : Int) (w : World) (h : isW x) : Calls Tryd.prog 36 #[.int .u32 x, .int .i64 2] w fun e w' => e = .returned (.int .u32 (rr x 2)) ∧ ∃ q, w' = w.drewN q := by
  have h1 := h.1
  have h2 := h.2
  have r : bits .or .u32 (x / 4) (x * 1073741824 % 4294967296) = rr x 2 := by
    have := or_rr x 2 (by omega) h
    rw [wrap_u32_eq] at this
    simpa using this
  have R := Lib.hid r
  clear r h
  go_enter Tryd.func36, Tryd.ntmps36
  go_wp2
  go_quiet (fail)
  go_wp2
  go_ret
  exact ⟨ret_u32 R.out, _, rfl⟩
theorem right_6 (x : Int) (w : World) (h : isW x) : Calls Tryd.prog 36 #[.int .u32 x, .int .i64 6] w fun e w' => e = .returned (.int .u32 (rr x 6)) ∧ ∃ q, w' = w.drewN q := by
  have h1 := h.1
  have h2 := h.2
  have r : bits .or .u32 (x / 64) (x * 67108864 % 4294967296) = rr x 6 := by
    have := or_rr x 6 (by omega) h
    rw [wrap_u32_eq] at this
    simpa using this
  have R := Lib.hid r
  clear r h
  go_enter Tryd.func36, Tryd.ntmps36
  go_wp2
  go_quiet (fail)
  go_wp2
  go_ret
  exact ⟨ret_u32 R.out, _, rfl⟩
theorem right_7 (x : Int) (w : World) (h : isW x) : Calls Tryd.prog 36 #[.int .u32 x, .int .i64 7] w fun e w' => e = .returned (.int .u32 (rr x 7)) ∧ ∃ q, w' = w.drewN q := by
  have h1 := h.1
  have h2 := h.2
  have r : bits .or .u32 (x / 128) (x * 33554432 % 4294967296) = rr x 7 := by
    have := or_rr x 7 (by omega) h
    rw [wrap_u32_eq] at this
    simpa using this
  have R := Lib.hid r
  clear r h
  go_enter Tryd.func36, Tryd.ntmps36
  go_wp2
  go_quiet (fail)
  go_wp2
  go_ret
  exact ⟨ret_u32 R.out, _, rfl⟩
theorem right_11 (x : Int) (w : World) (h : isW x) : Calls Tryd.prog 36 #[.int .u32 x, .int .i64 11] w fun e w' => e = .returned (.int .u32 (rr x 11)) ∧ ∃ q, w' = w.drewN q := by
  have h1 := h.1
  have h2 := h.2
  have r : bits .or .u32 (x / 2048) (x * 2097152 % 4294967296) = rr x 11 := by
    have := or_rr x 11 (by omega) h
    rw [wrap_u32_eq] at this
    simpa using this
  have R := Lib.hid r
  clear r h
  go_enter Tryd.func36, Tryd.ntmps36
  go_wp2
  go_quiet (fail)
  go_wp2
  go_ret
  exact ⟨ret_u32 R.out, _, rfl⟩
theorem right_13 (x : Int) (w : World) (h : isW x) : Calls Tryd.prog 36 #[.int .u32 x, .int .i64 13] w fun e w' => e = .returned (.int .u32 (rr x 13)) ∧ ∃ q, w' = w.drewN q := by
  have h1 := h.1
  have h2 := h.2
  have r : bits .or .u32 (x / 8192) (x * 524288 % 4294967296) = rr x 13 := by
    have := or_rr x 13 (by omega) h
    rw [wrap_u32_eq] at this
    simpa using this
  have R := Lib.hid r
  clear r h
  go_enter Tryd.func36, Tryd.ntmps36
  go_wp2
  go_quiet (fail)
  go_wp2
  go_ret
  exact ⟨ret_u32 R.out, _, rfl⟩
theorem right_17 (x : Int) (w : World) (h : isW x) : Calls Tryd.prog 36 #[.int .u32 x, .int .i64 17] w fun e w' => e = .returned (.int .u32 (rr x 17)) ∧ ∃ q, w' = w.drewN q := by
  have h1 := h.1
  have h2 := h.2
  have r : bits .or .u32 (x / 131072) (x * 32768 % 4294967296) = rr x 17 := by
    have := or_rr x 17 (by omega) h
    rw [wrap_u32_eq] at this
    simpa using this
  have R := Lib.hid r
  clear r h
  go_enter Tryd.func36, Tryd.ntmps36
  go_wp2
  go_quiet (fail)
  go_wp2
  go_ret
  exact ⟨ret_u32 R.out, _, rfl⟩
theorem right_18 (x : Int) (w : World) (h : isW x) : Calls Tryd.prog 36 #[.int .u32 x, .int .i64 18] w fun e w' => e = .returned (.int .u32 (rr x 18)) ∧ ∃ q, w' = w.drewN q := by
  have h1 := h.1
  have h2 := h.2
  have r : bits .or .u32 (x / 262144) (x * 16384 % 4294967296) = rr x 18 := by
    have := or_rr x 18 (by omega) h
    rw [wrap_u32_eq] at this
    simpa using this
  have R := Lib.hid r
  clear r h
  go_enter Tryd.func36, Tryd.ntmps36
  go_wp2
  go_quiet (fail)
  go_wp2
  go_ret
  exact ⟨ret_u32 R.out, _, rfl⟩
theorem right_19 (x : Int) (w : World) (h : isW x) : Calls Tryd.prog 36 #[.int .u32 x, .int .i64 19] w fun e w' => e = .returned (.int .u32 (rr x 19)) ∧ ∃ q, w' = w.drewN q := by
  have h1 := h.1
  have h2 := h.2
  have r : bits .or .u32 (x / 524288) (x * 8192 % 4294967296) = rr x 19 := by
    have := or_rr x 19 (by omega) h
    rw [wrap_u32_eq] at this
    simpa using this
  have R := Lib.hid r
  clear r h
  go_enter Tryd.func36, Tryd.ntmps36
  go_wp2
  go_quiet (fail)
  go_wp2
  go_ret
  exact ⟨ret_u32 R.out, _, rfl⟩
theorem right_22 (x : Int) (w : World) (h : isW x) : Calls Tryd.prog 36 #[.int .u32 x, .int .i64 22] w fun e w' => e = .returned (.int .u32 (rr x 22)) ∧ ∃ q, w' = w.drewN q := by
  have h1 := h.1
  have h2 := h.2
  have r : bits .or .u32 (x / 4194304) (x * 1024 % 4294967296) = rr x 22 := by
    have := or_rr x 22 (by omega) h
    rw [wrap_u32_eq] at this
    simpa using this
  have R := Lib.hid r
  clear r h
  go_enter Tryd.func36, Tryd.ntmps36
  go_wp2
  go_quiet (fail)
  go_wp2
  go_ret
  exact ⟨ret_u32 R.out, _, rfl⟩
theorem right_25 (x : Int) (w : World) (h : isW x) : Calls Tryd.prog 36 #[.int .u32 x, .int .i64 25] w fun e w' => e = .returned (.int .u32 (rr x 25)) ∧ ∃ q, w' = w.drewN q := by
  have h1 := h.1
  have h2 := h.2
  have r : bits .or .u32 (x / 33554432) (x * 128 % 4294967296) = rr x 25 := by
    have := or_rr x 25 (by omega) h
    rw [wrap_u32_eq] at this
    simpa using this
  have R := Lib.hid r
  clear r h
  go_enter Tryd.func36, Tryd.ntmps36
  go_wp2
  go_quiet (fail)
  go_wp2
  go_ret
  exact ⟨ret_u32 R.out, _, rfl⟩
theorem turn_any (x : Int) (n : Nat) (w : World) (h : isW x) (hn : n ≤ 32) : Calls Tryd.prog 25 #[.int .u32 x, .int .i64 n] w fun e w' => e = .returned (.int .u32 (rr x n)) ∧ w = w' := by
  go_enter Tryd.func25, Tryd.ntmps25
  go_wp2
  go_loop [0, 5] (fun t i => ∃ k : Nat, k ≤ n ∧ i = .int .i64 k ∧ t = .int .u32 (rr x k)) (fun _ i => n - (intOf i).toNat)
  case atStart => exact ⟨0, Nat.zero_le _, rfl, by rw [rr_zero]⟩
  case round =>
    obtain ⟨k, hk, rfl, rfl⟩ := hrel
    have b := rr_isW x k (by omega) h
    by_cases hlt : k < n
    · have e := Lib.hid (rr_succ x k (by omega))
      have b1 := b.1
      have b2 := b.2
      clear b
      go_wp2
      go_round
      case rel => exact ⟨k + 1, by omega, by go_num, by rw [e.out]⟩
      case measure => simp [intOf]; omega
    · go_wp2
      go_ret
      exact ⟨ret_u32 (by rw [show k = n by omega]), rfl⟩
theorem half (x : Int) (k : Nat) : x / 2 ^ (k + 1) = x / 2 ^ k / 2 := by
  rw [Int.pow_succ, Int.ediv_ediv_of_nonneg (Int.le_of_lt (Int.pow_pos (by decide)))]
theorem cut_any (x : Int) (n : Nat) (w : World) (h : isW x) (hn : n ≤ 32) : Calls Tryd.prog 26 #[.int .u32 x, .int .i64 n] w fun e w' => e = .returned (.int .u32 (x / 2 ^ n)) ∧ w = w' := by
  go_enter Tryd.func26, Tryd.ntmps26
  go_wp2
  go_loop [0, 5] (fun t i => ∃ k : Nat, k ≤ n ∧ i = .int .i64 k ∧ t = .int .u32 (x / 2 ^ k)) (fun _ i => n - (intOf i).toNat)
  case atStart => exact ⟨0, Nat.zero_le _, rfl, by simp⟩
  case round =>
    obtain ⟨k, hk, rfl, rfl⟩ := hrel
    have b1 : 0 ≤ x / 2 ^ k := Int.ediv_nonneg h.1 (Int.le_of_lt (Int.pow_pos (by decide)))
    have b2 : x / 2 ^ k ≤ x := Int.ediv_le_self _ h.1
    have b3 : x / 2 ^ k < 4294967296 := by have := h.2; omega
    have e := Lib.hid (half x k)
    by_cases hlt : k < n
    · generalize x / 2 ^ k = y at *
      go_wp2
      go_round
      case rel => exact ⟨k + 1, by omega, by go_num, by rw [e.out]⟩
      case measure => simp [intOf]; omega
    · go_wp2
      go_ret
      exact ⟨ret_u32 (by rw [show k = n by omega]), rfl⟩
end Go.Proofs.YtbdahkbgjbaenaaDoor
