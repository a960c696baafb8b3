/- The contracts of package num's functions on numbers. -/
import Derived.Test.YtgjacapalahgkaaDoorRows
import Derived.Test.YtgjacapalahgkaaDoorM
import Derived.WalkKit
import Derived.ProofKit
import Derived.OpenShut
import Derived.Lib.Hide
import Derived.Outline
import Derived.Deep.QuietTactic
import Derived.BigQuiet
namespace Go.Proofs.YtgjacapalahgkaaDoor
open Go.ChangeShapes Go.WideShapes Go.ChangeAt Go.RowKit

theorem ret_int {k : IntKind} {a b : Int} (h : a = b) : Ending.returned (.int k a) = .returned (.int k b) := by rw [h]
theorem ret_int2 {k l : IntKind} {a b c d : Int} (h : a = b) (h' : c = d) : Ending.returned (.tuple #[.int k a, .int l c]) = .returned (.tuple #[.int k b, .int l d]) := by rw [h, h']

/-- 1 for a number below 0 -/
def sg (n : Int) : Int := if n < 0 then 1 else 0
theorem sg_neg {n : Int} (h : n < 0) : sg n = 1 := by simp [sg, h]
theorem sg_pos {n : Int} (h : 0 ≤ n) : sg n = 0 := by simp [sg]; omega
theorem below_any (n : Int) (w : World) (h1 : -9223372036854775808 ≤ n) (h2 : n ≤ 9223372036854775807) :
    Calls Tryd.prog 18 #[.int .i64 n] w fun e w' => e = .returned (.int .u64 (sg n)) ∧ w = w' := by
  have E := Lib.hid (below_eq n h1 h2)
  go_enter Tryd.func18, Tryd.ntmps18
  go_wp2
  all_goals
    go_ret
    exact ⟨ret_int E.out, rfl⟩
theorem size_any (n : Int) (w : World) (h1 : -9223372036854775808 ≤ n) (h2 : n ≤ 9223372036854775807) :
    Calls Tryd.prog 19 #[.int .i64 n] w fun e w' => e = .returned (.int .u64 n.natAbs) ∧ w = w' := by
  have E := Lib.hid (size_eq n h1 h2)
  go_enter Tryd.func19, Tryd.ntmps19
  go_wp2
  go_ret
  exact ⟨ret_int E.out, rfl⟩
/-- what a size is, with a sign -/
def sd (s m : Int) : Int := if m = 0 then s else -s
theorem signed_yes (s m : Int) (w : World) (h1 : 0 ≤ s) (h2 : s ≤ 9223372036854775807 + m) (h3 : m = 0 ∨ m = 1) :
    Calls Tryd.prog 16 #[.int .u64 s, .int .u64 m] w fun e w' => e = .returned (.tuple #[.int .i64 (sd s m), .int .i64 0]) ∧ w = w' := by
  have E0 : m = 0 → wrap64 (IntKind.u64.wrap (bits BinOp.xor IntKind.u64 s 0)) = sd s m := by
    intro h; subst h; rw [xor_zero s h1 (by omega), IntKind.wrap_u64]; unfold wrap64; simp [sd]; omega
  have E1 : m = 1 → wrap64 (IntKind.u64.wrap (bits BinOp.xor IntKind.u64 s (IntKind.u64.wrap (-1)) - IntKind.u64.wrap (-1))) = sd s m := by
    intro h; subst h; rw [show IntKind.u64.wrap (-1) = 18446744073709551615 from by decide, xor_ones s h1 (by omega), IntKind.wrap_u64]; unfold wrap64; simp [sd]; omega
  rcases h3 with rfl | rfl
  · have F := Lib.hid (E0 rfl)
    clear E0 E1
    go_enter Tryd.func16, Tryd.ntmps16
    go_wp2
    go_ret2
    exact ⟨ret_int2 F.out rfl, rfl⟩
  · have F := Lib.hid (E1 rfl)
    clear E0 E1
    go_enter Tryd.func16, Tryd.ntmps16
    go_wp2
    go_ret2
    exact ⟨ret_int2 F.out rfl, rfl⟩
theorem signed_no (s m : Int) (w : World) (h1 : 0 ≤ s) (h2 : 9223372036854775807 + m < s) (h3 : m = 0 ∨ m = 1) (h4 : s ≤ 18446744073709551615) :
    Calls Tryd.prog 16 #[.int .u64 s, .int .u64 m] w fun e w' => e = .returned (.tuple #[.int .i64 0, .int .i64 6]) ∧ w = w' := by
  rcases h3 with rfl | rfl
  all_goals
    go_enter Tryd.func16, Tryd.ntmps16
    go_wp2
    go_ret2
    exact ⟨rfl, rfl⟩
theorem signed_any (s m : Int) (w : World) (h1 : 0 ≤ s) (h3 : m = 0 ∨ m = 1) (h4 : s ≤ 18446744073709551615) :
    Calls Tryd.prog 16 #[.int .u64 s, .int .u64 m] w fun e w' => e = .returned (.tuple #[.int .i64 (nv (sd s m)), .int .i64 (ne (sd s m))]) ∧ w = w' := by
  by_cases h : s ≤ 9223372036854775807 + m
  · have : -9223372036854775808 ≤ sd s m ∧ sd s m ≤ 9223372036854775807 := by unfold sd; split <;> omega
    rw [nv_yes this.1 this.2, ne_yes this.1 this.2]
    exact signed_yes s m w h1 h h3
  · have : sd s m < -9223372036854775808 ∨ 9223372036854775807 < sd s m := by unfold sd; split <;> omega
    rw [nv_no this, ne_no this]
    exact signed_no s m w h1 (by omega) h3 h4
theorem add_any (a b : Int) (w : World) (h1 : -9223372036854775808 ≤ a) (h2 : a ≤ 9223372036854775807) (h3 : -9223372036854775808 ≤ b) (h4 : b ≤ 9223372036854775807) :
    Calls Tryd.prog 9 #[.int .i64 a, .int .i64 b] w fun e w' => e = .returned (.tuple #[.int .i64 (nv (a + b)), .int .i64 (ne (a + b))]) ∧ w = w' := by
  have hb := i64_bits_bd .and (bits .xor .i64 a (wrap64 (a + b))) (bits .xor .i64 b (wrap64 (a + b)))
  by_cases hs : a + b < -9223372036854775808 ∨ 9223372036854775807 < a + b
  · have E := Lib.hid (And.intro (nv_no hs) (ne_no hs))
    have S := sg_neg ((add_over a b h1 h2 h3 h4).2 hs)
    have C := fun w => below_any _ w hb.1 hb.2
    rw [S] at C
    clear S hs
    go_enter Tryd.func9, Tryd.ntmps9
    go_wp2_with (go_at_call 18; refine (C _).mono ?_; rintro e w' ⟨rfl, rfl⟩)
    go_ret2
    exact ⟨ret_int2 E.out.1.symm E.out.2.symm, rfl⟩
  · have hs' : -9223372036854775808 ≤ a + b ∧ a + b ≤ 9223372036854775807 := by omega
    have E := Lib.hid (And.intro (nv_yes hs'.1 hs'.2) (ne_yes hs'.1 hs'.2))
    have S := sg_pos (show 0 ≤ _ from Int.not_lt.1 (fun x => hs ((add_over a b h1 h2 h3 h4).1 x)))
    have C := fun w => below_any _ w hb.1 hb.2
    rw [S, IntWalk.wrap64_in _ hs'] at C
    clear S hs
    go_enter Tryd.func9, Tryd.ntmps9
    go_wp2_with (go_at_call 18; refine (C _).mono ?_; rintro e w' ⟨rfl, rfl⟩)
    go_ret2
    exact ⟨ret_int2 E.out.1.symm E.out.2.symm, rfl⟩
end Go.Proofs.YtgjacapalahgkaaDoor
