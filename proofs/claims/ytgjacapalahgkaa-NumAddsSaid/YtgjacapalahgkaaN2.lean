/- The contracts of product, Mul, Div, Mod. -/
import Derived.Test.YtgjacapalahgkaaN
namespace Go.Proofs.Ytgjacapalahgkaa
open Go.ChangeShapes Go.WideShapes Go.ChangeAt Go.RowKit

theorem ret_ib {k : IntKind} {a b : Int} {c d : Bool} (h : a = b) (h' : c = d) : Ending.returned (.tuple #[.int k a, .bool c]) = .returned (.tuple #[.int k b, .bool d]) := by rw [h, h']
theorem le_u64 {x : Int} (h : x < 18446744073709551616) : x ≤ 18446744073709551615 := by omega
theorem qs {P : Program} {f : FuncId} {args : Array Value} {w : World} {n : Nat} {v : Value}
    (h : Calls P f args (w.drewN n) fun e w' => e = .returned v ∧ w.drewN n = w') : Calls P f args (w.drewN n) fun e w'' => e = .returned v ∧ ∃ m, w'' = w.drewN m :=
  h.mono fun _ _ ⟨he, hm⟩ => ⟨he, n, hm.symm⟩
/-- the sign of a product: 1 below 0 -/
def sx (a b : Int) : Int := sg (bits .xor .i64 a b)
theorem sx_eq (a b : Int) (h1 : -9223372036854775808 ≤ a) (h2 : a ≤ 9223372036854775807) (h3 : -9223372036854775808 ≤ b) (h4 : b ≤ 9223372036854775807) :
    sx a b = if (a < 0 ↔ b < 0) then 0 else 1 := by
  unfold sx sg
  by_cases h : (a < 0 ↔ b < 0)
  · rw [if_pos h, if_neg (fun x => (neg_xor a b h1 h2 h3 h4).1 x h)]
  · rw [if_neg h, if_pos ((neg_xor a b h1 h2 h3 h4).2 h)]
theorem sx_or (a b : Int) : sx a b = 0 ∨ sx a b = 1 := by unfold sx sg; split <;> simp
theorem sd_zero (s : Int) : sd s 0 = s := rfl
theorem sd_one (s : Int) : sd s 1 = -s := rfl
theorem sd_mul (a b : Int) (h1 : -9223372036854775808 ≤ a) (h2 : a ≤ 9223372036854775807) (h3 : -9223372036854775808 ≤ b) (h4 : b ≤ 9223372036854775807) :
    sd ((a.natAbs : Int) * b.natAbs) (sx a b) = a * b := by
  have E := sx_eq a b h1 h2 h3 h4
  rcases Int.lt_or_le a 0 with ha | ha <;> rcases Int.lt_or_le b 0 with hb | hb
  · rw [E, if_pos (by omega), sd_zero, show (a.natAbs : Int) = -a by omega, show (b.natAbs : Int) = -b by omega, Int.neg_mul_neg]
  · rw [E, if_neg (by omega), sd_one, show (a.natAbs : Int) = -a by omega, show (b.natAbs : Int) = b by omega, Int.neg_mul, Int.neg_neg]
  · rw [E, if_neg (by omega), sd_one, show (a.natAbs : Int) = a by omega, show (b.natAbs : Int) = -b by omega, Int.mul_neg, Int.neg_neg]
  · rw [E, if_pos (by omega), sd_zero, show (a.natAbs : Int) = a by omega, show (b.natAbs : Int) = b by omega]
theorem sd_div (a b : Int) (h1 : -9223372036854775808 ≤ a) (h2 : a ≤ 9223372036854775807) (h3 : -9223372036854775808 ≤ b) (h4 : b ≤ 9223372036854775807) :
    sd ((a.natAbs : Int) / b.natAbs) (sx a b) = a.tdiv b := by
  have E := sx_eq a b h1 h2 h3 h4
  rcases Int.lt_or_le a 0 with ha | ha <;> rcases Int.lt_or_le b 0 with hb | hb
  · rw [E, if_pos (by omega), sd_zero, show (a.natAbs : Int) = -a by omega, show (b.natAbs : Int) = -b by omega, ← Int.neg_tdiv_neg, Int.tdiv_eq_ediv_of_nonneg (by omega)]
  · rw [E, if_neg (by omega), sd_one, show (a.natAbs : Int) = -a by omega, show (b.natAbs : Int) = b by omega]
    have : a.tdiv b = (- -a).tdiv b := by simp
    rw [this, Int.neg_tdiv, Int.tdiv_eq_ediv_of_nonneg (by omega)]
  · rw [E, if_neg (by omega), sd_one, show (a.natAbs : Int) = a by omega, show (b.natAbs : Int) = -b by omega, Int.ediv_neg, Int.tdiv_eq_ediv_of_nonneg ha]; simp
  · rw [E, if_pos (by omega), sd_zero, show (a.natAbs : Int) = a by omega, show (b.natAbs : Int) = b by omega, Int.tdiv_eq_ediv_of_nonneg ha]
theorem sd_mod (a b : Int) : sd ((a.natAbs : Int) % b.natAbs) (sg a) = a.tmod b := by
  have hb : (b.natAbs : Int) = b ∨ (b.natAbs : Int) = -b := by omega
  rcases Int.lt_or_le a 0 with ha | ha
  · rw [sg_neg ha, sd_one, show (a.natAbs : Int) = -a by omega]
    have : a.tmod b = (- -a).tmod b := by simp
    rw [this, Int.neg_tmod, Int.tmod_eq_emod_of_nonneg (by omega)]
    rcases hb with h | h <;> rw [h] <;> simp
  · rw [sg_pos ha, sd_zero, show (a.natAbs : Int) = a by omega, Int.tmod_eq_emod_of_nonneg ha]
    rcases hb with h | h <;> rw [h] <;> simp

/-- what product tells -/
theorem prod_split (x y : Int) : x * y = (x / 4294967296) * (y / 4294967296) * 18446744073709551616 + ((x / 4294967296) * (y % 4294967296) + (y / 4294967296) * (x % 4294967296)) * 4294967296 + (x % 4294967296) * (y % 4294967296) := by
  have hx : x = (x / 4294967296) * 4294967296 + x % 4294967296 := by omega
  have hy : y = (y / 4294967296) * 4294967296 + y % 4294967296 := by omega
  generalize x / 4294967296 = a at *
  generalize x % 4294967296 = b at *
  generalize y / 4294967296 = c at *
  generalize y % 4294967296 = d at *
  subst hx hy
  grind
theorem mul_bd (a b : Int) (h1 : 0 ≤ a) (h2 : a ≤ 4294967295) (h3 : 0 ≤ b) (h4 : b ≤ 4294967295) : 0 ≤ a * b ∧ a * b ≤ 18446744065119617025 := by
  refine ⟨Int.mul_nonneg h1 h3, ?_⟩
  have := Int.mul_le_mul h2 h4 h3 (by omega : (0:Int) ≤ 4294967295)
  omega
/-- a product that fits -/
def fits64 (x y : Int) : Prop := x * y < 18446744073709551616
def Prod (x y : Int) (w : World) (e : Ending) (w' : World) : Prop :=
  w = w' ∧ ((x * y < 18446744073709551616 ∧ e = .returned (.tuple #[.int .u64 (x * y), .bool false])) ∨ (18446744073709551616 ≤ x * y ∧ ∃ p, e = .returned (.tuple #[.int .u64 p, .bool true])))
theorem product_low (x y : Int) (w : World) (h1 : 0 ≤ x) (h2 : x ≤ 4294967295) (h3 : 0 ≤ y) (h4 : y ≤ 9223372036854775808) :
    Calls Try.prog 33 #[.int .u64 x, .int .u64 y] w (Prod x y w) := by
  have S := prod_split x y
  rw [show x / 4294967296 = 0 by omega, show x % 4294967296 = x by omega] at S
  have Y1 : 0 ≤ y / 4294967296 ∧ y / 4294967296 ≤ 2147483648 := by omega
  have Y2 : 0 ≤ y % 4294967296 ∧ y % 4294967296 ≤ 4294967295 := by omega
  have C := mul_bd (y / 4294967296) x Y1.1 (by omega) h1 h2
  have D := mul_bd x (y % 4294967296) h1 h2 Y2.1 Y2.2
  have S' : x * y = y / 4294967296 * x * 4294967296 + x * (y % 4294967296) := by omega
  clear S
  by_cases hm : 4294967296 ≤ y / 4294967296 * x
  · have G := Lib.hid (show 18446744073709551616 ≤ x * y by omega)
    have T : (y / 4294967296 * x / 4294967296 != 0) = true := by simp; omega
    clear S' D
    go_enter Try.func33, Try.ntmps33
    go_wp2
    go_ret2
    exact ⟨rfl, .inr ⟨G.out, _, rfl⟩⟩
  · have T : (y / 4294967296 * x / 4294967296 != 0) = false := by simp; omega
    by_cases hs : y / 4294967296 * x * 4294967296 + x * (y % 4294967296) < 18446744073709551616
    · have G := Lib.hid (show x * y < 18446744073709551616 by omega)
      have SH := Lib.hid S'
      clear S'
      go_enter Try.func33, Try.ntmps33
      go_wp2
      go_ret2
      exact ⟨rfl, .inl ⟨G.out, ret_ib SH.out.symm (decide_eq_false (by omega))⟩⟩
    · have G := Lib.hid (show 18446744073709551616 ≤ x * y by omega)
      clear S'
      go_enter Try.func33, Try.ntmps33
      go_wp2
      go_ret2
      exact ⟨rfl, .inr ⟨G.out, _, ret_ib rfl (decide_eq_true (by rw [IntKind.wrap_u64]; omega))⟩⟩
theorem product_any (x y : Int) (w : World) (h1 : 0 ≤ x) (h2 : x ≤ 9223372036854775808) (h3 : 0 ≤ y) (h4 : y ≤ 9223372036854775808) :
    Calls Try.prog 33 #[.int .u64 x, .int .u64 y] w (Prod x y w) := by
  by_cases hx : x ≤ 4294967295
  · exact product_low x y w h1 hx h3 h4
  have S := prod_split x y
  have X1 : 1 ≤ x / 4294967296 ∧ x / 4294967296 ≤ 2147483648 := by omega
  have X2 : 0 ≤ x % 4294967296 ∧ x % 4294967296 ≤ 4294967295 := by omega
  have Y1 : 0 ≤ y / 4294967296 ∧ y / 4294967296 ≤ 2147483648 := by omega
  have Y2 : 0 ≤ y % 4294967296 ∧ y % 4294967296 ≤ 4294967295 := by omega
  by_cases hy : y ≤ 4294967295
  · rw [show y / 4294967296 = 0 by omega, show y % 4294967296 = y by omega] at S
    have C := mul_bd (x / 4294967296) y (by omega) (by omega) h3 hy
    have D := mul_bd (x % 4294967296) y X2.1 X2.2 h3 hy
    have S' : x * y = x / 4294967296 * y * 4294967296 + x % 4294967296 * y := by omega
    have hy0 : y / 4294967296 = 0 := by omega
    have T0 : (x / 4294967296 != 0) = true := by simp; omega
    clear S Y1 Y2 hx
    by_cases hm : 4294967296 ≤ x / 4294967296 * y
    · have G := Lib.hid (show 18446744073709551616 ≤ x * y by omega)
      have T : (x / 4294967296 * y / 4294967296 != 0) = true := by simp; omega
      clear S' D
      go_enter Try.func33, Try.ntmps33
      go_wp2
      go_ret2
      exact ⟨rfl, .inr ⟨G.out, _, rfl⟩⟩
    · have T : (x / 4294967296 * y / 4294967296 != 0) = false := by simp; omega
      by_cases hs : x / 4294967296 * y * 4294967296 + x % 4294967296 * y < 18446744073709551616
      · have G := Lib.hid (show x * y < 18446744073709551616 by omega)
        have SH := Lib.hid S'
        clear S'
        go_enter Try.func33, Try.ntmps33
        go_wp2
        go_ret2
        exact ⟨rfl, .inl ⟨G.out, ret_ib SH.out.symm (decide_eq_false (by omega))⟩⟩
      · have G := Lib.hid (show 18446744073709551616 ≤ x * y by omega)
        clear S'
        go_enter Try.func33, Try.ntmps33
        go_wp2
        go_ret2
        exact ⟨rfl, .inr ⟨G.out, _, ret_ib rfl (decide_eq_true (by rw [IntKind.wrap_u64]; omega))⟩⟩
  · have B := mul_bd (x / 4294967296) (y % 4294967296) (by omega) (by omega) Y2.1 Y2.2
    have C := mul_bd (y / 4294967296) (x % 4294967296) Y1.1 (by omega) X2.1 X2.2
    have D := mul_bd (x % 4294967296) (y % 4294967296) X2.1 X2.2 Y2.1 Y2.2
    have F : 1 ≤ x / 4294967296 * (y / 4294967296) := by
      have := Int.mul_le_mul X1.1 (show 1 ≤ y / 4294967296 by omega) (by omega) (by omega)
      omega
    have GH := Lib.hid (show 18446744073709551616 ≤ x * y by omega)
    have T1 : (x / 4294967296 != 0) = true := by simp; omega
    have T2 : (y / 4294967296 != 0) = true := by simp; omega
    clear S B C D F
    go_enter Try.func33, Try.ntmps33
    go_wp2
    go_ret2
    exact ⟨rfl, .inr ⟨GH.out, _, rfl⟩⟩
theorem mul_any (a b : Int) (w : World) (h1 : -9223372036854775808 ≤ a) (h2 : a ≤ 9223372036854775807) (h3 : -9223372036854775808 ≤ b) (h4 : b ≤ 9223372036854775807) :
    Calls Try.prog 16 #[.int .i64 a, .int .i64 b] w fun e w' => e = .returned (.tuple #[.int .i64 (nv (a * b)), .int .i64 (ne (a * b))]) ∧ w = w' := by
  have hb := i64_bits_bd .xor a b
  have B : ∀ w : World, Calls Try.prog 24 #[.int .i64 (bits .xor .i64 a b)] w fun e w' => e = .returned (.int .u64 (sx a b)) ∧ w = w' := fun w => below_any _ w hb.1 hb.2
  have hp : (0 : Int) ≤ (a.natAbs : Int) * b.natAbs := Int.mul_nonneg (by omega) (by omega)
  have P := product_any a.natAbs b.natAbs
  by_cases hf : (a.natAbs : Int) * b.natAbs < 18446744073709551616
  · have C := fun w => signed_any ((a.natAbs : Int) * b.natAbs) (sx a b) w hp (sx_or a b) (le_u64 hf)
    rw [sd_mul a b h1 h2 h3 h4] at C
    have H := Lib.hid hf
    clear hf hp
    go_enter Try.func16, Try.ntmps16
    go_wp2_with (first | (go_at_call 26; refine (size_any _ _ (by omega) (by omega)).mono ?_; rintro e w' ⟨rfl, rfl⟩) | (go_at_call 24; refine (B _).mono ?_; rintro e w' ⟨rfl, rfl⟩) | (go_at_call 25; refine (C _).mono ?_; rintro e w' ⟨rfl, rfl⟩) | (go_at_call 33; refine (P _ (by omega) (by omega) (by omega) (by omega)).mono ?_; rintro e w' ⟨rfl, (⟨_, rfl⟩ | ⟨hq, _⟩)⟩; rotate_left; exact absurd hq (by have := H.out; omega)))
    go_ret2
    exact ⟨rfl, rfl⟩
  · have hN : a * b < -9223372036854775808 ∨ 9223372036854775807 < a * b := by
      have e := Int.natAbs_mul a b
      have : ((a * b).natAbs : Int) = (a.natAbs : Int) * b.natAbs := by rw [e]; simp
      omega
    have N1 := nv_no hN
    have N2 := ne_no hN
    have E := Lib.hid (And.intro N1 N2)
    have H := Lib.hid hf
    clear hf hp hN N1 N2
    go_enter Try.func16, Try.ntmps16
    go_wp2_with (first | (go_at_call 26; refine (size_any _ _ (by omega) (by omega)).mono ?_; rintro e w' ⟨rfl, rfl⟩) | (go_at_call 24; refine (B _).mono ?_; rintro e w' ⟨rfl, rfl⟩) | fail)
    refine (P _ (by omega) (by omega) (by omega) (by omega)).mono ?_
    rintro e w' ⟨rfl, (⟨hq, _⟩ | ⟨_, pp, rfl⟩)⟩
    · exact absurd hq (Int.not_lt.2 H.out)
    go_wp2
    go_ret2
    exact ⟨ret_int2 E.out.1.symm E.out.2.symm, rfl⟩
theorem div_any (a b : Int) (w : World) (h1 : -9223372036854775808 ≤ a) (h2 : a ≤ 9223372036854775807) (h3 : -9223372036854775808 ≤ b) (h4 : b ≤ 9223372036854775807) (hz : b ≠ 0) :
    Calls Try.prog 18 #[.int .i64 a, .int .i64 b] w fun e w' => e = .returned (.tuple #[.int .i64 (nv (a.tdiv b)), .int .i64 (ne (a.tdiv b))]) ∧ ∃ n, w' = w.drewN n := by
  have hb := i64_bits_bd .xor a b
  have B : ∀ w : World, Calls Try.prog 24 #[.int .i64 (bits .xor .i64 a b)] w fun e w' => e = .returned (.int .u64 (sx a b)) ∧ w = w' := fun w => below_any _ w hb.1 hb.2
  have hq : (a.natAbs : Int) / b.natAbs ≤ a.natAbs := Int.ediv_le_self _ (by omega)
  have C := fun w => signed_any ((a.natAbs : Int) / b.natAbs) (sx a b) w (Int.ediv_nonneg (by omega) (by omega)) (sx_or a b) (by omega)
  rw [sd_div a b h1 h2 h3 h4] at C
  have hz1 : (b == 0) = false := by simpa using hz
  have hz2 : ((b.natAbs : Int) == 0) = false := by simp; omega
  have hz3 : 1 ≤ (b.natAbs : Int) := by omega
  have hq' : 0 ≤ (a.natAbs : Int) / b.natAbs := Int.ediv_nonneg (by omega) (by omega)
  go_enter Try.func18, Try.ntmps18
  go_wp2_with fail
  go_quiet ((first | (go_at_call 26; exact qs (size_any _ _ (by omega) (by omega))) | (go_at_call 24; exact qs (B _)) | (go_at_call 25; exact qs (C _))))
  go_wp2
  go_ret2
  exact ⟨rfl, _, rfl⟩
theorem div_zero (a : Int) (w : World) : Calls Try.prog 18 #[.int .i64 a, .int .i64 0] w fun e w' => e = .returned (.tuple #[.int .i64 0, .int .i64 7]) ∧ w = w' := by
  go_enter Try.func18, Try.ntmps18
  go_wp2
  go_ret2
  exact ⟨rfl, rfl⟩
theorem mod_zero (a : Int) (w : World) : Calls Try.prog 19 #[.int .i64 a, .int .i64 0] w fun e w' => e = .returned (.tuple #[.int .i64 0, .int .i64 7]) ∧ w = w' := by
  go_enter Try.func19, Try.ntmps19
  go_wp2
  go_ret2
  exact ⟨rfl, rfl⟩
theorem mod_any (a b : Int) (w : World) (h1 : -9223372036854775808 ≤ a) (h2 : a ≤ 9223372036854775807) (h3 : -9223372036854775808 ≤ b) (h4 : b ≤ 9223372036854775807) (hz : b ≠ 0) :
    Calls Try.prog 19 #[.int .i64 a, .int .i64 b] w fun e w' => e = .returned (.tuple #[.int .i64 (a.tmod b), .int .i64 0]) ∧ ∃ n, w' = w.drewN n := by
  have hq : (a.natAbs : Int) % b.natAbs < b.natAbs := Int.emod_lt_of_pos _ (by omega)
  have hq' : 0 ≤ (a.natAbs : Int) % b.natAbs := Int.emod_nonneg _ (by omega)
  have C := fun w => signed_yes ((a.natAbs : Int) % b.natAbs) (sg a) w hq' (by unfold sg; split <;> omega) (by unfold sg; split <;> omega)
  rw [sd_mod a b] at C
  have hz1 : (b == 0) = false := by simpa using hz
  have hz2 : ((b.natAbs : Int) == 0) = false := by simp; omega
  have hz3 : 1 ≤ (b.natAbs : Int) := by omega
  clear hq hq'
  go_enter Try.func19, Try.ntmps19
  go_wp2_with fail
  go_quiet ((first | (go_at_call 26; exact qs (size_any _ _ (by omega) (by omega))) | (go_at_call 24; exact qs (below_any _ _ (by omega) (by omega))) | (go_at_call 25; exact qs (C _))))
  go_wp2
  go_ret2
  exact ⟨rfl, _, rfl⟩
end Go.Proofs.Ytgjacapalahgkaa
