/- The contracts of package num's functions on numbers. -/
import Derived.Test.YtakoghdkllfhlaaDoorRows
import Derived.Test.YtakoghdkllfhlaaDoorTm
import Derived.WalkKit
import Derived.ProofKit
import Derived.OpenShut
import Derived.Lib.Hide
import Derived.Outline
import Derived.Deep.QuietTactic
import Derived.BigQuiet
namespace Go.Proofs.YtakoghdkllfhlaaDoor
open Go.ChangeShapes Go.WideShapes Go.ChangeAt Go.RowKit

theorem tp_ret_int {k : IntKind} {a b : Int} (h : a = b) : Ending.returned (.int k a) = .returned (.int k b) := by rw [h]
theorem tp_ret_int2 {k l : IntKind} {a b c d : Int} (h : a = b) (h' : c = d) : Ending.returned (.tuple #[.int k a, .int l c]) = .returned (.tuple #[.int k b, .int l d]) := by rw [h, h']

/-- what a size is, with a sign -/
def sd (s m : Int) : Int := if m = 0 then s else -s
theorem signed_yes (s m : Int) (w : World) (h1 : 0 ≤ s) (h2 : s ≤ 9223372036854775807 + m) (h3 : m = 0 ∨ m = 1) :
    Calls Tryd.prog 112 #[.int .u64 s, .int .u64 m] w fun e w' => e = .returned (.tuple #[.int .i64 (sd s m), .int .i64 0]) ∧ w = w' := by
  have E0 : m = 0 → wrap64 (IntKind.u64.wrap (bits BinOp.xor IntKind.u64 s 0)) = sd s m := by
    intro h; subst h; rw [xor_zero s h1 (by omega), IntKind.wrap_u64]; unfold wrap64; simp [sd]; omega
  have E1 : m = 1 → wrap64 (IntKind.u64.wrap (bits BinOp.xor IntKind.u64 s (IntKind.u64.wrap (-1)) - IntKind.u64.wrap (-1))) = sd s m := by
    intro h; subst h; rw [show IntKind.u64.wrap (-1) = 18446744073709551615 from by decide, xor_ones s h1 (by omega), IntKind.wrap_u64]; unfold wrap64; simp [sd]; omega
  rcases h3 with rfl | rfl
  · have F := Lib.hid (E0 rfl)
    clear E0 E1
    go_enter Tryd.func112, Tryd.ntmps112
    go_wp2
    go_ret2
    exact ⟨tp_ret_int2 F.out rfl, rfl⟩
  · have F := Lib.hid (E1 rfl)
    clear E0 E1
    go_enter Tryd.func112, Tryd.ntmps112
    go_wp2
    go_ret2
    exact ⟨tp_ret_int2 F.out rfl, rfl⟩
theorem signed_no (s m : Int) (w : World) (h1 : 0 ≤ s) (h2 : 9223372036854775807 + m < s) (h3 : m = 0 ∨ m = 1) (h4 : s ≤ 18446744073709551615) :
    Calls Tryd.prog 112 #[.int .u64 s, .int .u64 m] w fun e w' => e = .returned (.tuple #[.int .i64 0, .int .i64 6]) ∧ w = w' := by
  rcases h3 with rfl | rfl
  all_goals
    go_enter Tryd.func112, Tryd.ntmps112
    go_wp2
    go_ret2
    exact ⟨rfl, rfl⟩
theorem signed_any (s m : Int) (w : World) (h1 : 0 ≤ s) (h3 : m = 0 ∨ m = 1) (h4 : s ≤ 18446744073709551615) :
    Calls Tryd.prog 112 #[.int .u64 s, .int .u64 m] w fun e w' => e = .returned (.tuple #[.int .i64 (nv (sd s m)), .int .i64 (ne (sd s m))]) ∧ w = w' := by
  by_cases h : s ≤ 9223372036854775807 + m
  · have : -9223372036854775808 ≤ sd s m ∧ sd s m ≤ 9223372036854775807 := by unfold sd; split <;> omega
    rw [nv_yes this.1 this.2, ne_yes this.1 this.2]
    exact signed_yes s m w h1 h h3
  · have : sd s m < -9223372036854775808 ∨ 9223372036854775807 < sd s m := by unfold sd; split <;> omega
    rw [nv_no this, ne_no this]
    exact signed_no s m w h1 (by omega) h3 h4
end Go.Proofs.YtakoghdkllfhlaaDoor
