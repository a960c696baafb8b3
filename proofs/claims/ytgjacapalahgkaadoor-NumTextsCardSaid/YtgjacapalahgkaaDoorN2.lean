/- The contracts of product, Mul, Div, Mod. -/
import Derived.Test.YtgjacapalahgkaaDoorN
namespace Go.Proofs.YtgjacapalahgkaaDoor
open Go.ChangeShapes Go.WideShapes Go.ChangeAt Go.RowKit

theorem ret_ib {k : IntKind} {a b : Int} {c d : Bool} (h : a = b) (h' : c = d) : Ending.returned (.tuple #[.int k a, .bool c]) = .returned (.tuple #[.int k b, .bool d]) := by rw [h, h']
theorem le_u64 {x : Int} (h : x < 18446744073709551616) : x ≤ 18446744073709551615 := by omega
theorem qs {P : Program} {f : FuncId} {args : Array Value} {w : World} {n : Nat} {v : Value}
    (h : Calls P f args (w.drewN n) fun e w' => e = .returned v ∧ w.drewN n = w') : Calls P f args (w.drewN n) fun e w'' => e = .returned v ∧ ∃ m, w'' = w.drewN m :=
  h.mono fun _ _ ⟨he, hm⟩ => ⟨he, n, hm.symm⟩
/-- the sign of a product: 1 below 0 -/
def sx (a b : Int) : Int := sg (bits .xor .i64 a b)
theorem sx_eq (a b : Int) (h1 : -9223372036854775808 ≤ a) (h2 : a ≤ 9223372036854775807) (h3 : -9223372036854775808 ≤ b) (h4 : b ≤ 9223372036854775807) :
    sx a b = if (a < 0 ↔ b < 0) then 0 else 1 := by
  unfold sx sg
  by_cases h : (a < 0 ↔ b < 0)
  · rw [if_pos h, if_neg (fun x => (neg_xor a b h1 h2 h3 h4).1 x h)]
  · rw [if_neg h, if_pos ((neg_xor a b h1 h2 h3 h4).2 h)]
theorem sx_or (a b : Int) : sx a b = 0 ∨ sx a b = 1 := by unfold sx sg; split <;> simp
theorem sd_zero (s : Int) : sd s 0 = s := rfl
theorem sd_one (s : Int) : sd s 1 = -s := rfl
theorem sd_mul (a b : Int) (h1 : -9223372036854775808 ≤ a) (h2 : a ≤ 9223372036854775807) (h3 : -9223372036854775808 ≤ b) (h4 : b ≤ 9223372036854775807) :
    sd ((a.natAbs : Int) * b.natAbs) (sx a b) = a * b := by
  have E := sx_eq a b h1 h2 h3 h4
  rcases Int.lt_or_le a 0 with ha | ha <;> rcases Int.lt_or_le b 0 with hb | hb
  · rw [E, if_pos (by omega), sd_zero, show (a.natAbs : Int) = -a by omega, show (b.natAbs : Int) = -b by omega, Int.neg_mul_neg]
  · rw [E, if_neg (by omega), sd_one, show (a.natAbs : Int) = -a by omega, show (b.natAbs : Int) = b by omega, Int.neg_mul, Int.neg_neg]
  · rw [E, if_neg (by omega), sd_one, show (a.natAbs : Int) = a by omega, show (b.natAbs : Int) = -b by omega, Int.mul_neg, Int.neg_neg]
  · rw [E, if_pos (by omega), sd_zero, show (a.natAbs : Int) = a by omega, show (b.natAbs : Int) = b by omega]
theorem sd_div (a b : Int) (h1 : -9223372036854775808 ≤ a) (h2 : a ≤ 9223372036854775807) (h3 : -9223372036854775808 ≤ b) (h4 : b ≤ 9223372036854775807) :
    sd ((a.natAbs : Int) / b.natAbs) (sx a b) = a.tdiv b := by
  have E := sx_eq a b h1 h2 h3 h4
  rcases Int.lt_or_le a 0 with ha | ha <;> rcases Int.lt_or_le b 0 with hb | hb
  · rw [E, if_pos (by omega), sd_zero, show (a.natAbs : Int) = -a by omega, show (b.natAbs : Int) = -b by omega, ← Int.neg_tdiv_neg, Int.tdiv_eq_ediv_of_nonneg (by omega)]
  · rw [E, if_neg (by omega), sd_one, show (a.natAbs : Int) = -a by omega, show (b.natAbs : Int) = b by omega]
    have : a.tdiv b = (- -a).tdiv b := by simp
    rw [this, Int.neg_tdiv, Int.tdiv_eq_ediv_of_nonneg (by omega)]
  · rw [E, if_neg (by omega), sd_one, show (a.natAbs : Int) = a by omega, show (b.natAbs : Int) = -b by omega, Int.ediv_neg, Int.tdiv_eq_ediv_of_nonneg ha]; simp
  · rw [E, if_pos (by omega), sd_zero, show (a.natAbs : Int) = a by omega, show (b.natAbs : Int) = b by omega, Int.tdiv_eq_ediv_of_nonneg ha]
theorem sd_mod (a b : Int) : sd ((a.natAbs : Int) % b.natAbs) (sg a) = a.tmod b := by
  have hb : (b.natAbs : Int) = b ∨ (b.natAbs : Int) = -b := by omega
  rcases Int.lt_or_le a 0 with ha | ha
  · rw [sg_neg ha, sd_one, show (a.natAbs : Int) = -a by omega]
    have : a.tmod b = (- -a).tmod b := by simp
    rw [this, Int.neg_tmod, Int.tmod_eq_emod_of_nonneg (by omega)]
    rcases hb with h | h <;> rw [h] <;> simp
  · rw [sg_pos ha, sd_zero, show (a.natAbs : Int) = a by omega, Int.tmod_eq_emod_of_nonneg ha]
    rcases hb with h | h <;> rw [h] <;> simp

/-- what product tells -/
theorem prod_split (x y : Int) : x * y = (x / 4294967296) * (y / 4294967296) * 18446744073709551616 + ((x / 4294967296) * (y % 4294967296) + (y / 4294967296) * (x % 4294967296)) * 4294967296 + (x % 4294967296) * (y % 4294967296) := by
  have hx : x = (x / 4294967296) * 4294967296 + x % 4294967296 := by omega
  have hy : y = (y / 4294967296) * 4294967296 + y % 4294967296 := by omega
  generalize x / 4294967296 = a at *
  generalize x % 4294967296 = b at *
  generalize y / 4294967296 = c at *
  generalize y % 4294967296 = d at *
  subst hx hy
  grind
theorem mul_bd (a b : Int) (h1 : 0 ≤ a) (h2 : a ≤ 4294967295) (h3 : 0 ≤ b) (h4 : b ≤ 4294967295) : 0 ≤ a * b ∧ a * b ≤ 18446744065119617025 := by
  refine ⟨Int.mul_nonneg h1 h3, ?_⟩
  have := Int.mul_le_mul h2 h4 h3 (by omega : (0:Int) ≤ 4294967295)
  omega
/-- a product that fits -/
theorem div_any (a b : Int) (w : World) (h1 : -9223372036854775808 ≤ a) (h2 : a ≤ 9223372036854775807) (h3 : -9223372036854775808 ≤ b) (h4 : b ≤ 9223372036854775807) (hz : b ≠ 0) :
    Calls Tryd.prog 10 #[.int .i64 a, .int .i64 b] w fun e w' => e = .returned (.tuple #[.int .i64 (nv (a.tdiv b)), .int .i64 (ne (a.tdiv b))]) ∧ ∃ n, w' = w.drewN n := by
  have hb := i64_bits_bd .xor a b
  have B : ∀ w : World, Calls Tryd.prog 18 #[.int .i64 (bits .xor .i64 a b)] w fun e w' => e = .returned (.int .u64 (sx a b)) ∧ w = w' := fun w => below_any _ w hb.1 hb.2
  have hq : (a.natAbs : Int) / b.natAbs ≤ a.natAbs := Int.ediv_le_self _ (by omega)
  have C := fun w => signed_any ((a.natAbs : Int) / b.natAbs) (sx a b) w (Int.ediv_nonneg (by omega) (by omega)) (sx_or a b) (by omega)
  rw [sd_div a b h1 h2 h3 h4] at C
  have hz1 : (b == 0) = false := by simpa using hz
  have hz2 : ((b.natAbs : Int) == 0) = false := by simp; omega
  have hz3 : 1 ≤ (b.natAbs : Int) := by omega
  have hq' : 0 ≤ (a.natAbs : Int) / b.natAbs := Int.ediv_nonneg (by omega) (by omega)
  go_enter Tryd.func10, Tryd.ntmps10
  go_wp2_with fail
  go_quiet ((first | (go_at_call 19; exact qs (size_any _ _ (by omega) (by omega))) | (go_at_call 18; exact qs (B _)) | (go_at_call 16; exact qs (C _))))
  go_wp2
  go_ret2
  exact ⟨rfl, _, rfl⟩
theorem div_zero (a : Int) (w : World) : Calls Tryd.prog 10 #[.int .i64 a, .int .i64 0] w fun e w' => e = .returned (.tuple #[.int .i64 0, .int .i64 7]) ∧ w = w' := by
  go_enter Tryd.func10, Tryd.ntmps10
  go_wp2
  go_ret2
  exact ⟨rfl, rfl⟩
theorem mod_zero (a : Int) (w : World) : Calls Tryd.prog 11 #[.int .i64 a, .int .i64 0] w fun e w' => e = .returned (.tuple #[.int .i64 0, .int .i64 7]) ∧ w = w' := by
  go_enter Tryd.func11, Tryd.ntmps11
  go_wp2
  go_ret2
  exact ⟨rfl, rfl⟩
theorem mod_any (a b : Int) (w : World) (h1 : -9223372036854775808 ≤ a) (h2 : a ≤ 9223372036854775807) (h3 : -9223372036854775808 ≤ b) (h4 : b ≤ 9223372036854775807) (hz : b ≠ 0) :
    Calls Tryd.prog 11 #[.int .i64 a, .int .i64 b] w fun e w' => e = .returned (.tuple #[.int .i64 (a.tmod b), .int .i64 0]) ∧ ∃ n, w' = w.drewN n := by
  have hq : (a.natAbs : Int) % b.natAbs < b.natAbs := Int.emod_lt_of_pos _ (by omega)
  have hq' : 0 ≤ (a.natAbs : Int) % b.natAbs := Int.emod_nonneg _ (by omega)
  have C := fun w => signed_yes ((a.natAbs : Int) % b.natAbs) (sg a) w hq' (by unfold sg; split <;> omega) (by unfold sg; split <;> omega)
  rw [sd_mod a b] at C
  have hz1 : (b == 0) = false := by simpa using hz
  have hz2 : ((b.natAbs : Int) == 0) = false := by simp; omega
  have hz3 : 1 ≤ (b.natAbs : Int) := by omega
  clear hq hq'
  go_enter Tryd.func11, Tryd.ntmps11
  go_wp2_with fail
  go_quiet ((first | (go_at_call 19; exact qs (size_any _ _ (by omega) (by omega))) | (go_at_call 18; exact qs (below_any _ _ (by omega) (by omega))) | (go_at_call 16; exact qs (C _))))
  go_wp2
  go_ret2
  exact ⟨rfl, _, rfl⟩
end Go.Proofs.YtgjacapalahgkaaDoor
