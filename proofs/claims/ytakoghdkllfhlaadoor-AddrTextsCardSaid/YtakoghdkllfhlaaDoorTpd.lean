/- Contracts: digits and Print of the reference, Print of package num. -/
import Derived.Test.YtakoghdkllfhlaaDoorTpp
import Derived.Test.YtakoghdkllfhlaaDoorShelf
namespace Go.Proofs.YtakoghdkllfhlaaDoor
open Go.ChangeShapes Go.WideShapes Go.ChangeAt Go.RowKit

theorem slice_d0 (w : World) : (Instr.slice 9 (.string ⟨#[48, 49, 50, 51, 52, 53, 54, 55, 56, 57]⟩) (some (.int .u64 0)) (some (.int .u64 1)) none).run Tryd.prog w = .ok (.string ⟨#[48]⟩) w := by kernel_rfl
theorem slice_d1 (w : World) : (Instr.slice 9 (.string ⟨#[48, 49, 50, 51, 52, 53, 54, 55, 56, 57]⟩) (some (.int .u64 1)) (some (.int .u64 2)) none).run Tryd.prog w = .ok (.string ⟨#[49]⟩) w := by kernel_rfl
theorem slice_d2 (w : World) : (Instr.slice 9 (.string ⟨#[48, 49, 50, 51, 52, 53, 54, 55, 56, 57]⟩) (some (.int .u64 2)) (some (.int .u64 3)) none).run Tryd.prog w = .ok (.string ⟨#[50]⟩) w := by kernel_rfl
theorem slice_d3 (w : World) : (Instr.slice 9 (.string ⟨#[48, 49, 50, 51, 52, 53, 54, 55, 56, 57]⟩) (some (.int .u64 3)) (some (.int .u64 4)) none).run Tryd.prog w = .ok (.string ⟨#[51]⟩) w := by kernel_rfl
theorem slice_d4 (w : World) : (Instr.slice 9 (.string ⟨#[48, 49, 50, 51, 52, 53, 54, 55, 56, 57]⟩) (some (.int .u64 4)) (some (.int .u64 5)) none).run Tryd.prog w = .ok (.string ⟨#[52]⟩) w := by kernel_rfl
theorem slice_d5 (w : World) : (Instr.slice 9 (.string ⟨#[48, 49, 50, 51, 52, 53, 54, 55, 56, 57]⟩) (some (.int .u64 5)) (some (.int .u64 6)) none).run Tryd.prog w = .ok (.string ⟨#[53]⟩) w := by kernel_rfl
theorem slice_d6 (w : World) : (Instr.slice 9 (.string ⟨#[48, 49, 50, 51, 52, 53, 54, 55, 56, 57]⟩) (some (.int .u64 6)) (some (.int .u64 7)) none).run Tryd.prog w = .ok (.string ⟨#[54]⟩) w := by kernel_rfl
theorem slice_d7 (w : World) : (Instr.slice 9 (.string ⟨#[48, 49, 50, 51, 52, 53, 54, 55, 56, 57]⟩) (some (.int .u64 7)) (some (.int .u64 8)) none).run Tryd.prog w = .ok (.string ⟨#[55]⟩) w := by kernel_rfl
theorem slice_d8 (w : World) : (Instr.slice 9 (.string ⟨#[48, 49, 50, 51, 52, 53, 54, 55, 56, 57]⟩) (some (.int .u64 8)) (some (.int .u64 9)) none).run Tryd.prog w = .ok (.string ⟨#[56]⟩) w := by kernel_rfl
theorem slice_d9 (w : World) : (Instr.slice 9 (.string ⟨#[48, 49, 50, 51, 52, 53, 54, 55, 56, 57]⟩) (some (.int .u64 9)) (some (.int .u64 10)) none).run Tryd.prog w = .ok (.string ⟨#[57]⟩) w := by kernel_rfl
theorem slice_digit (z : Nat) (h : z < 10) (w : World) (c : UInt8) (hc : UInt8.ofNat (48 + z) = c) : (Instr.slice 9 (.string ⟨#[48, 49, 50, 51, 52, 53, 54, 55, 56, 57]⟩) (some (.int .u64 (z : Int))) (some (.int .u64 ((z : Int) + 1))) none).run Tryd.prog w = .ok (.string ⟨#[c]⟩) w := by
  subst hc
  have hz : z = 0 ∨ z = 1 ∨ z = 2 ∨ z = 3 ∨ z = 4 ∨ z = 5 ∨ z = 6 ∨ z = 7 ∨ z = 8 ∨ z = 9 := by omega
  rcases hz with rfl | rfl | rfl | rfl | rfl | rfl | rfl | rfl | rfl | rfl
  · exact slice_d0 w
  · exact slice_d1 w
  · exact slice_d2 w
  · exact slice_d3 w
  · exact slice_d4 w
  · exact slice_d5 w
  · exact slice_d6 w
  · exact slice_d7 w
  · exact slice_d8 w
  · exact slice_d9 w
theorem cat_one (l : List UInt8) (c : UInt8) : (⟨l.toArray⟩ : ByteArray) ++ ⟨#[c]⟩ = ⟨(l ++ [c]).toArray⟩ := by
  apply ByteArray.ext
  simp
theorem ret_str {a b : ByteArray} (h : a = b) : Ending.returned (.string a) = .returned (.string b) := by rw [h]
set_option maxHeartbeats 1000000 in
theorem digits_any (k : Nat) : ∀ (u : Nat) (w : World), u < 10 ^ (k + 1) → u < 18446744073709551616 →
    Calls Tryd.prog 76 #[.int .u64 (u : Int)] w fun e w' => e = .returned (.string ⟨(Lib.decDigits u).toArray⟩) ∧ ∃ n, w' = w.drewN n := by
  induction k with
  | zero =>
    intro u w h h'
    have hu : u < 10 := by simpa using h
    obtain ⟨c, hc⟩ : ∃ c, UInt8.ofNat (48 + u) = c := ⟨_, rfl⟩
    have S := fun w => slice_digit u hu w c hc
    have E := Lib.hid (show Lib.decDigits u = [c] by rw [Lib.decDigits_one hu, hc])
    clear hc
    have hu' : (u : Int) < 10 := by omega
    clear h h'
    go_enter Tryd.func76, Tryd.ntmps76
    go_wp2
    go_ret
    exact ⟨ret_str (by rw [E.out]), 0, rfl⟩
  | succ k ih =>
    intro u w h h'
    by_cases hu : u < 10
    · obtain ⟨c, hc⟩ : ∃ c, UInt8.ofNat (48 + u) = c := ⟨_, rfl⟩
      have S := fun w => slice_digit u hu w c hc
      have E := Lib.hid (show Lib.decDigits u = [c] by rw [Lib.decDigits_one hu, hc])
      clear hc
      have hu' : (u : Int) < 10 := by omega
      clear h h' ih
      go_enter Tryd.func76, Tryd.ntmps76
      go_wp2
      go_ret
      exact ⟨ret_str (by rw [E.out]), 0, rfl⟩
    · have IH := fun w => ih (u / 10) w (by rw [Nat.pow_succ] at h; omega) (by omega)
      obtain ⟨c, hc⟩ : ∃ c, UInt8.ofNat (48 + u % 10) = c := ⟨_, rfl⟩
      have S := fun w => slice_digit (u % 10) (by omega) w c hc
      have E := Lib.hid (show Lib.decDigits u = Lib.decDigits (u / 10) ++ [c] by rw [Lib.decDigits, dif_neg hu, hc])
      clear hc
      have hu' : ¬ (u : Int) < 10 := by omega
      have hu2 : (u : Int) ≤ 18446744073709551615 := by omega
      rw [show ((u / 10 : Nat) : Int) = (u : Int) / 10 by omega] at IH
      rw [show ((u % 10 : Nat) : Int) = (u : Int) % 10 by omega] at S
      have W1 : IntKind.u64.wrap ((u : Int) / 10) = (u : Int) / 10 := by rw [IntKind.wrap_u64]; omega
      have W2 : IntKind.u64.wrap ((u : Int) % 10 + 1) = (u : Int) % 10 + 1 := by rw [IntKind.wrap_u64]; omega
      have W3 : (u : Int).tmod 10 = (u : Int) % 10 := Int.tmod_eq_emod_of_nonneg (by omega)
      have hl : (Lib.decDigits (u / 10)).length ≤ 20 := by
        have := Lib.nDigits_le20 (u / 10) (by omega); rw [← Lib.decDigits_length] at this; exact this
      obtain ⟨l, hl2⟩ : ∃ l, Lib.decDigits (u / 10) = l := ⟨_, rfl⟩
      rw [hl2] at E IH hl
      have A : ∀ w, (Op.stringOp .add ⟨l.toArray⟩ ⟨#[c]⟩).run Tryd.prog w = .ok (.string ⟨(l ++ [c]).toArray⟩) w := fun w => run_string_add_lists w l [c] (by omega) (by simp)
      have n1 : ¬ 9223372036854775807 < l.length + 1 := by omega
      have n2 : ¬ 9223372036854775807 ≤ l.length := by omega
      clear h h' ih hu hl2
      go_enter Tryd.func76, Tryd.ntmps76
      go_wp2_with fail
      go_quiet ((go_at_call 76; exact Calls.quiet_of (IH _)))
      go_wp2_with fail
      go_ret
      exact ⟨ret_str (by rw [E.out]), _, rfl⟩
theorem below_grow (w : World) (k : Nat) (os : Array Obj) : Below w.heap.size w (Go.Sort.grow (w.drewN k) os) :=
  ⟨rfl, rfl, rfl, by simp [Go.Sort.grow], fun j hj => by simp [Go.Sort.grow, Array.getElem?_append_left hj]⟩
theorem cat_minus (l : List UInt8) : (⟨#[45]⟩ : ByteArray) ++ ⟨l.toArray⟩ = ⟨(45 :: l).toArray⟩ := by
  apply ByteArray.ext
  simp
theorem rprint_any (n : Int) (w : World) (h1 : -9223372036854775808 ≤ n) (h2 : n ≤ 9223372036854775807) :
    Calls Tryd.prog 53 #[.int .i64 n] w fun e w' => e = .returned (.string ⟨(Lib.itoa n).toArray⟩) ∧ ∃ q, w' = w.drewN q := by
  by_cases h : n < 0
  · have D := fun w => digits_any 18 n.natAbs w (by have : (10 : Nat) ^ 19 = 10000000000000000000 := by decide
                                                    omega) (by omega)
    have W1 : IntKind.u64.wrap (-IntKind.u64.wrap n) = (n.natAbs : Int) := by simp only [IntKind.wrap_u64]; omega
    have E := Lib.hid (show Lib.itoa n = 45 :: Lib.decDigits n.natAbs by unfold Lib.itoa; rw [if_pos h])
    have hl : (Lib.decDigits n.natAbs).length ≤ 20 := by
      have := Lib.nDigits_le20 n.natAbs (by omega); rw [← Lib.decDigits_length] at this; exact this
    obtain ⟨m, hm⟩ : ∃ m, n.natAbs = m := ⟨_, rfl⟩
    obtain ⟨l, hl2⟩ : ∃ l, Lib.decDigits m = l := ⟨_, rfl⟩
    rw [hm] at D W1 E hl
    rw [hl2] at D E hl
    have A : ∀ w, (Op.stringOp .add ⟨#[45]⟩ ⟨l.toArray⟩).run Tryd.prog w = .ok (.string ⟨(45 :: l).toArray⟩) w := fun w => by
      have := run_string_add_lists (P := Tryd.prog) w [45] l (by simp) (by omega)
      exact this
    have n1 : ¬ 9223372036854775807 < 1 + l.length := by omega
    clear hm hl2
    go_enter Tryd.func53, Tryd.ntmps53
    go_wp2_with fail
    refine (D _).mono ?_
    rintro e w' ⟨rfl, q, rfl⟩
    go_wp2_with fail
    go_ret
    exact ⟨ret_str (by rw [E.out, ← cat_minus]), _, rfl⟩
  · have D := fun w => digits_any 18 n.toNat w (by have : (10 : Nat) ^ 19 = 10000000000000000000 := by decide
                                                   omega) (by omega)
    rw [show ((n.toNat : Nat) : Int) = n by omega] at D
    have E := Lib.hid (show Lib.itoa n = Lib.decDigits n.toNat by unfold Lib.itoa; rw [if_neg h])
    have h' : 0 ≤ n := by omega
    clear h
    go_enter Tryd.func53, Tryd.ntmps53
    go_wp2_with fail
    refine (D _).mono ?_
    rintro e w' ⟨rfl, q, rfl⟩
    go_wp2_with fail
    go_ret
    exact ⟨ret_str (by rw [E.out]), _, rfl⟩
theorem print_any (n : Int) (w : World) (h1 : -9223372036854775808 ≤ n) (h2 : n ≤ 9223372036854775807) (htab : Lib.TabIs Tryd.prog w "internal/strconv.uint64pow10" .u64 Lib.pow10Tab) :
    Calls Tryd.prog 52 #[.int .i64 n] w fun e w' => e = .returned (.string ⟨(Lib.itoa n).toArray⟩) ∧ Below w.heap.size w w' := by
  have F := Tryd.strconv_FormatInt_10 n h1 h2 w htab
  clear htab
  go_enter Tryd.func52, Tryd.ntmps52
  go_wp2_with fail
  refine F.mono ?_
  rintro e w' ⟨rfl, k, os, rfl⟩
  have B := below_grow w k os
  generalize Go.Sort.grow (w.drewN k) os = v at *
  go_wp2
  go_ret
  exact ⟨rfl, B⟩
end Go.Proofs.YtakoghdkllfhlaaDoor
