/- Plain mathematics for layer 1: signs of bit operations, numbers that are too great. No Go in sight. -/
import Derived.WalkKit
import Derived.Test.YtncjncacfagldaaDoorRows
import Derived.ProofKit
import Derived.OpenShut
import Derived.Lib.Hide
import Derived.Outline
import Derived.Deep.QuietTactic
import Derived.BigQuiet
namespace Go.Proofs.YtncjncacfagldaaDoor
open Go.RowKit

/-- a number of the numbers -/
def inI (n : Int) : Bool := decide (-9223372036854775808 ≤ n ∧ n ≤ 9223372036854775807)
/-- the number, or 0 -/
def nv (n : Int) : Int := if inI n = true then n else 0
/-- 0, or ErrOver -/
def ne (n : Int) : Int := if inI n = true then 0 else 6
theorem inI_yes {n : Int} (h1 : -9223372036854775808 ≤ n) (h2 : n ≤ 9223372036854775807) : inI n = true := by simp [inI]; omega
theorem inI_no {n : Int} (h : n < -9223372036854775808 ∨ 9223372036854775807 < n) : inI n = false := by simp [inI]; omega
theorem nv_yes {n : Int} (h1 : -9223372036854775808 ≤ n) (h2 : n ≤ 9223372036854775807) : nv n = n := by simp [nv, inI_yes h1 h2]
theorem ne_yes {n : Int} (h1 : -9223372036854775808 ≤ n) (h2 : n ≤ 9223372036854775807) : ne n = 0 := by simp [ne, inI_yes h1 h2]
theorem nv_no {n : Int} (h : n < -9223372036854775808 ∨ 9223372036854775807 < n) : nv n = 0 := by simp [nv, inI_no h]
theorem ne_no {n : Int} (h : n < -9223372036854775808 ∨ 9223372036854775807 < n) : ne n = 6 := by simp [ne, inI_no h]
theorem nv_bd (n : Int) : -9223372036854775808 ≤ nv n ∧ nv n ≤ 9223372036854775807 := by
  by_cases h : inI n = true
  · have : -9223372036854775808 ≤ n ∧ n ≤ 9223372036854775807 := by simpa [inI] using h
    rw [nv_yes this.1 this.2]; exact this
  · simp [nv, h]
theorem ne_or (n : Int) : ne n = 0 ∨ ne n = 6 := by unfold ne; split <;> simp
theorem ne_zero_iff (n : Int) : ne n = 0 ↔ (-9223372036854775808 ≤ n ∧ n ≤ 9223372036854775807) := by
  unfold ne; by_cases h : inI n = true
  · simp only [h, if_true]; simp [inI] at h; simp [h]
  · simp only [h]; simp [inI] at h; simp; omega

theorem i64_toInt (c : BitVec 64) : IntKind.i64.wrap (c.toNat : Int) = c.toInt := by
  rw [IntKind.wrap_i64, BitVec.toInt_eq_toNat_cond]
  have := c.isLt
  split <;> omega
theorem msb_ofInt (x : Int) (h1 : -9223372036854775808 ≤ x) (h2 : x ≤ 9223372036854775807) : (BitVec.ofInt 64 x).msb = decide (x < 0) := by
  rw [BitVec.msb_eq_toInt, BitVec.toInt_ofInt]
  congr 1
  unfold Int.bmod
  simp only [Nat.reducePow]
  split <;> (apply propext; omega)
/-- the sign of 'and' and 'xor' -/
theorem neg_and (x y : Int) (h1 : -9223372036854775808 ≤ x) (h2 : x ≤ 9223372036854775807) (h3 : -9223372036854775808 ≤ y) (h4 : y ≤ 9223372036854775807) :
    (bits .and .i64 x y < 0) ↔ (x < 0 ∧ y < 0) := by
  have e : bits .and .i64 x y = (BitVec.ofInt 64 x &&& BitVec.ofInt 64 y).toInt := i64_toInt _
  have m : (BitVec.ofInt 64 x &&& BitVec.ofInt 64 y).msb = (decide (x < 0) && decide (y < 0)) := by
    rw [BitVec.msb_and, msb_ofInt x h1 h2, msb_ofInt y h3 h4]
  rw [BitVec.msb_eq_toInt] at m
  rw [e]
  have := congrArg (· = true) m
  simpa using this
theorem neg_xor (x y : Int) (h1 : -9223372036854775808 ≤ x) (h2 : x ≤ 9223372036854775807) (h3 : -9223372036854775808 ≤ y) (h4 : y ≤ 9223372036854775807) :
    (bits .xor .i64 x y < 0) ↔ ¬ (x < 0 ↔ y < 0) := by
  have e : bits .xor .i64 x y = (BitVec.ofInt 64 x ^^^ BitVec.ofInt 64 y).toInt := i64_toInt _
  have m : (BitVec.ofInt 64 x ^^^ BitVec.ofInt 64 y).msb = (decide (x < 0) ^^ decide (y < 0)) := by
    rw [BitVec.msb_xor, msb_ofInt x h1 h2, msb_ofInt y h3 h4]
  rw [BitVec.msb_eq_toInt] at m
  rw [e]
  generalize (BitVec.ofInt 64 x ^^^ BitVec.ofInt 64 y).toInt = t at m
  have m' : (t < 0) ↔ ((decide (x < 0) ^^ decide (y < 0)) = true) := by rw [← m]; simp
  rw [m']
  by_cases a : x < 0 <;> by_cases b : y < 0 <;> simp [a, b]
theorem i64_bits_bd (op : BinOp) (x y : Int) : -9223372036854775808 ≤ bits op .i64 x y ∧ bits op .i64 x y ≤ 9223372036854775807 := by
  unfold bits
  rw [IntKind.wrap_i64]; omega
theorem wrap64_bd (x : Int) : -9223372036854775808 ≤ wrap64 x ∧ wrap64 x ≤ 9223372036854775807 := by unfold wrap64; omega

/-- Add's test -/
theorem add_over (a b : Int) (h1 : -9223372036854775808 ≤ a) (h2 : a ≤ 9223372036854775807) (h3 : -9223372036854775808 ≤ b) (h4 : b ≤ 9223372036854775807) :
    (bits .and .i64 (bits .xor .i64 a (wrap64 (a + b))) (bits .xor .i64 b (wrap64 (a + b))) < 0) ↔ (a + b < -9223372036854775808 ∨ 9223372036854775807 < a + b) := by
  have s := wrap64_bd (a + b)
  rw [neg_and _ _ (i64_bits_bd _ _ _).1 (i64_bits_bd _ _ _).2 (i64_bits_bd _ _ _).1 (i64_bits_bd _ _ _).2, neg_xor _ _ h1 h2 s.1 s.2, neg_xor _ _ h3 h4 s.1 s.2]
  unfold wrap64 at *
  omega
theorem sub_over (a b : Int) (h1 : -9223372036854775808 ≤ a) (h2 : a ≤ 9223372036854775807) (h3 : -9223372036854775808 ≤ b) (h4 : b ≤ 9223372036854775807) :
    (bits .and .i64 (bits .xor .i64 a b) (bits .xor .i64 a (wrap64 (a - b))) < 0) ↔ (a - b < -9223372036854775808 ∨ 9223372036854775807 < a - b) := by
  have s := wrap64_bd (a - b)
  rw [neg_and _ _ (i64_bits_bd _ _ _).1 (i64_bits_bd _ _ _).2 (i64_bits_bd _ _ _).1 (i64_bits_bd _ _ _).2, neg_xor _ _ h1 h2 s.1 s.2, neg_xor _ _ h1 h2 h3 h4]
  unfold wrap64 at *
  omega
theorem ofInt_u64' (x : Int) (h1 : 0 ≤ x) (h2 : x < 18446744073709551616) : (BitVec.ofInt 64 x).toNat = x.toNat := by
  rw [BitVec.toNat_ofInt]; omega
theorem xor_zero (x : Int) (h1 : 0 ≤ x) (h2 : x < 18446744073709551616) : bits .xor .u64 x 0 = x := by
  show IntKind.u64.wrap ((BitVec.ofInt 64 x ^^^ BitVec.ofInt 64 0).toNat : Int) = x
  have : BitVec.ofInt 64 0 = 0#64 := rfl
  rw [this, BitVec.xor_zero, ofInt_u64' x h1 h2, IntKind.wrap_u64]; omega
theorem xor_ones (x : Int) (h1 : 0 ≤ x) (h2 : x < 18446744073709551616) : bits .xor .u64 x 18446744073709551615 = 18446744073709551615 - x := by
  show IntKind.u64.wrap ((BitVec.ofInt 64 x ^^^ BitVec.ofInt 64 18446744073709551615).toNat : Int) = _
  have : BitVec.ofInt 64 18446744073709551615 = BitVec.allOnes 64 := by decide
  rw [this, BitVec.xor_allOnes, BitVec.toNat_not, ofInt_u64' x h1 h2, IntKind.wrap_u64]; omega
/-- size -/
theorem size_eq (n : Int) (h1 : -9223372036854775808 ≤ n) (h2 : n ≤ 9223372036854775807) :
    IntKind.u64.wrap (bits .xor .u64 (IntKind.u64.wrap n) (IntKind.u64.wrap (n / 9223372036854775808)) - IntKind.u64.wrap (n / 9223372036854775808)) = n.natAbs := by
  simp only [IntKind.wrap_u64]
  by_cases h : n < 0
  · have e1 : n / 9223372036854775808 % 18446744073709551616 = 18446744073709551615 := by omega
    rw [e1, xor_ones _ (by omega) (by omega)]; omega
  · have e1 : n / 9223372036854775808 % 18446744073709551616 = 0 := by omega
    rw [e1, xor_zero _ (by omega) (by omega)]; omega
theorem below_eq (n : Int) (h1 : -9223372036854775808 ≤ n) (h2 : n ≤ 9223372036854775807) :
    IntKind.u64.wrap n / 9223372036854775808 = if n < 0 then 1 else 0 := by
  rw [IntKind.wrap_u64]; split <;> omega
end Go.Proofs.YtncjncacfagldaaDoor

/- The contracts of package num's functions on numbers. -/
namespace Go.Proofs.YtncjncacfagldaaDoor
open Go.ChangeShapes Go.WideShapes Go.ChangeAt Go.RowKit

theorem tp_ret_int {k : IntKind} {a b : Int} (h : a = b) : Ending.returned (.int k a) = .returned (.int k b) := by rw [h]
theorem tp_ret_int2 {k l : IntKind} {a b c d : Int} (h : a = b) (h' : c = d) : Ending.returned (.tuple #[.int k a, .int l c]) = .returned (.tuple #[.int k b, .int l d]) := by rw [h, h']

/-- what a size is, with a sign -/
def sd (s m : Int) : Int := if m = 0 then s else -s
theorem signed_yes (s m : Int) (w : World) (h1 : 0 ≤ s) (h2 : s ≤ 9223372036854775807 + m) (h3 : m = 0 ∨ m = 1) :
    Calls Tryd.prog 84 #[.int .u64 s, .int .u64 m] w fun e w' => e = .returned (.tuple #[.int .i64 (sd s m), .int .i64 0]) ∧ w = w' := by
  have E0 : m = 0 → wrap64 (IntKind.u64.wrap (bits BinOp.xor IntKind.u64 s 0)) = sd s m := by
    intro h; subst h; rw [xor_zero s h1 (by omega), IntKind.wrap_u64]; unfold wrap64; simp [sd]; omega
  have E1 : m = 1 → wrap64 (IntKind.u64.wrap (bits BinOp.xor IntKind.u64 s (IntKind.u64.wrap (-1)) - IntKind.u64.wrap (-1))) = sd s m := by
    intro h; subst h; rw [show IntKind.u64.wrap (-1) = 18446744073709551615 from by decide, xor_ones s h1 (by omega), IntKind.wrap_u64]; unfold wrap64; simp [sd]; omega
  rcases h3 with rfl | rfl
  · have F := Lib.hid (E0 rfl)
    clear E0 E1
    go_enter Tryd.func84, Tryd.ntmps84
    go_wp2
    go_ret2
    exact ⟨tp_ret_int2 F.out rfl, rfl⟩
  · have F := Lib.hid (E1 rfl)
    clear E0 E1
    go_enter Tryd.func84, Tryd.ntmps84
    go_wp2
    go_ret2
    exact ⟨tp_ret_int2 F.out rfl, rfl⟩
theorem signed_no (s m : Int) (w : World) (h1 : 0 ≤ s) (h2 : 9223372036854775807 + m < s) (h3 : m = 0 ∨ m = 1) (h4 : s ≤ 18446744073709551615) :
    Calls Tryd.prog 84 #[.int .u64 s, .int .u64 m] w fun e w' => e = .returned (.tuple #[.int .i64 0, .int .i64 6]) ∧ w = w' := by
  rcases h3 with rfl | rfl
  all_goals
    go_enter Tryd.func84, Tryd.ntmps84
    go_wp2
    go_ret2
    exact ⟨rfl, rfl⟩
theorem signed_any (s m : Int) (w : World) (h1 : 0 ≤ s) (h3 : m = 0 ∨ m = 1) (h4 : s ≤ 18446744073709551615) :
    Calls Tryd.prog 84 #[.int .u64 s, .int .u64 m] w fun e w' => e = .returned (.tuple #[.int .i64 (nv (sd s m)), .int .i64 (ne (sd s m))]) ∧ w = w' := by
  by_cases h : s ≤ 9223372036854775807 + m
  · have : -9223372036854775808 ≤ sd s m ∧ sd s m ≤ 9223372036854775807 := by unfold sd; split <;> omega
    rw [nv_yes this.1 this.2, ne_yes this.1 this.2]
    exact signed_yes s m w h1 h h3
  · have : sd s m < -9223372036854775808 ∨ 9223372036854775807 < sd s m := by unfold sd; split <;> omega
    rw [nv_no this, ne_no this]
    exact signed_no s m w h1 (by omega) h3 h4
end Go.Proofs.YtncjncacfagldaaDoor
