/- Sets of nodes as words of bits. No Go in sight but the operations' own reckoning. -/
import Derived.Test.YtonnopcafmhaaaaDoorGpB
import Derived.Laws.Entries
import Derived.IntWalk
namespace Go.Proofs.YtonnopcafmhaaaaDoor

/-- the number whose bits are the m nodes from o on -/
def wdN (S : Nat → Bool) (o : Nat) : Nat → Nat
  | 0 => 0
  | m + 1 => (if S (o + m) = true then 2 ^ m else 0) + wdN S o m
theorem wdN_lt (S : Nat → Bool) (o : Nat) : ∀ m, wdN S o m < 2 ^ m
  | 0 => by simp [wdN]
  | m + 1 => by
    have := wdN_lt S o m
    unfold wdN
    rw [Nat.pow_succ]
    split <;> omega
theorem wdN_bit (S : Nat → Bool) (o j : Nat) : ∀ m, (wdN S o m).testBit j = (decide (j < m) && S (o + j))
  | 0 => by simp [wdN]
  | m + 1 => by
    have ih := wdN_bit S o j m
    have hl := wdN_lt S o m
    unfold wdN
    by_cases hs : S (o + m) = true
    · rw [if_pos hs]
      by_cases e : j = m
      · subst e
        rw [Nat.testBit_two_pow_add_eq, ih, hs]
        simp
      · by_cases hj : j < m
        · rw [Nat.testBit_two_pow_add_gt hj, ih, decide_eq_true hj, decide_eq_true (show j < m + 1 by omega)]
        · have h2 : (2 ^ m + wdN S o m) < 2 ^ j := Nat.lt_of_lt_of_le (show _ < 2 ^ (m + 1) by rw [Nat.pow_succ]; omega) (Nat.pow_le_pow_right (by omega) (by omega))
          rw [Nat.testBit_lt_two_pow h2, decide_eq_false (show ¬ j < m + 1 by omega)]
          rfl
    · rw [if_neg hs, Nat.zero_add, ih]
      by_cases e : j = m
      · subst e
        rw [Bool.not_eq_true] at hs
        rw [hs]; simp
      · by_cases hj : j < m
        · rw [decide_eq_true hj, decide_eq_true (show j < m + 1 by omega)]
        · rw [decide_eq_false hj, decide_eq_false (show ¬ j < m + 1 by omega)]
theorem wdN_zero (S : Nat → Bool) (o : Nat) : ∀ m, (∀ j, j < m → S (o + j) = false) → wdN S o m = 0
  | 0, _ => rfl
  | m + 1, h => by
    unfold wdN
    rw [wdN_zero S o m (fun j hj => h j (by omega)), h m (by omega)]; simp
theorem wdN_all (S : Nat → Bool) (o : Nat) : ∀ m, (∀ j, j < m → S (o + j) = true) → wdN S o m + 1 = 2 ^ m
  | 0, _ => rfl
  | m + 1, h => by
    have := wdN_all S o m (fun j hj => h j (by omega))
    unfold wdN
    rw [h m (by omega), if_pos rfl, Nat.pow_succ]; omega
theorem wdN_congr {S T : Nat → Bool} {o : Nat} : ∀ m, (∀ j, j < m → S (o + j) = T (o + j)) → wdN S o m = wdN T o m
  | 0, _ => rfl
  | m + 1, h => by
    unfold wdN
    rw [wdN_congr m (fun j hj => h j (by omega)), h m (by omega)]
/-- one less: the lowest one goes, all below it come -/
theorem wdN_pred (S : Nat → Bool) (o t : Nat) (ht : S (o + t) = true) (hl : ∀ j, j < t → S (o + j) = false) : ∀ m, t < m → wdN S o m = wdN (fun i => if i < o + t then true else if i = o + t then false else S i) o m + 1
  | 0, h => absurd h (Nat.not_lt_zero _)
  | m + 1, h => by
    unfold wdN
    by_cases e : t = m
    · subst e
      rw [if_pos ht, wdN_zero S o t hl, if_neg (by simp), ← wdN_all (fun i => if i < o + t then true else if i = o + t then false else S i) o t (fun j hj => by simp [hj])]
      omega
    · rw [wdN_pred S o t ht hl m (by omega)]
      simp only [if_neg (show ¬ o + m < o + t by omega), if_neg (show ¬ o + m = o + t by omega)]
      omega
theorem wd_ex (S : Nat → Bool) (k : Nat) : ∃ x, x = wdN S (64 * k) 64 := ⟨_, rfl⟩
/-- a set's word (by choice, so that nothing looks into it) -/
noncomputable def wd (S : Nat → Bool) (k : Nat) : Nat := Classical.choose (wd_ex S k)
theorem wd_eq (S : Nat → Bool) (k : Nat) : wd S k = wdN S (64 * k) 64 := Classical.choose_spec (wd_ex S k)
theorem wd_lt (S : Nat → Bool) (k : Nat) : wd S k < 18446744073709551616 := wd_eq S k ▸ wdN_lt S (64 * k) 64
theorem wd_bit (S : Nat → Bool) (k j : Nat) : (wd S k).testBit j = (decide (j < 64) && S (64 * k + j)) := wd_eq S k ▸ wdN_bit S (64 * k) j 64
theorem wd_ext {S : Nat → Bool} {k x : Nat} (h : ∀ j, x.testBit j = (decide (j < 64) && S (64 * k + j))) : x = wd S k :=
  Nat.eq_of_testBit_eq fun j => by rw [h j, wd_bit]
theorem wd_congr {S T : Nat → Bool} {k : Nat} (h : ∀ j, j < 64 → S (64 * k + j) = T (64 * k + j)) : wd S k = wd T k := by rw [wd_eq, wd_eq]; exact wdN_congr 64 h
theorem wd_nil (k : Nat) : wd (fun _ => false) k = 0 := by rw [wd_eq]; exact wdN_zero _ _ _ fun _ _ => rfl
theorem wd_other {S : Nat → Bool} {i k : Nat} (h : i / 64 ≠ k) : wd (upd S i) k = wd S k := wd_congr fun j hj => by
  unfold upd
  rw [if_neg (by omega)]
theorem wd_zero {S : Nat → Bool} {k : Nat} (h : wd S k = 0) (j : Nat) (hj : j < 64) : S (64 * k + j) = false := by
  have := wd_bit S k j
  rw [h, decide_eq_true hj, Nat.zero_testBit] at this
  simpa using this.symm
theorem wd_zero' {S : Nat → Bool} {k : Nat} (h : ∀ j, j < 64 → S (64 * k + j) = false) : wd S k = 0 := by rw [wd_eq]; exact wdN_zero _ _ _ h
/-- a word that isn't nothing has a lowest one -/
theorem wd_low {S : Nat → Bool} {k : Nat} (h : wd S k ≠ 0) : ∃ t, t < 64 ∧ S (64 * k + t) = true ∧ ∀ j, j < t → S (64 * k + j) = false := by
  apply Classical.byContradiction
  intro hn
  apply h
  refine wd_zero' fun j => ?_
  induction j using Nat.strongRecOn with
  | ind j ih =>
    intro hj
    cases hs : S (64 * k + j) with
    | false => rfl
    | true => exact absurd ⟨j, hj, hs, fun i hi => ih i hi (by omega)⟩ hn
open Go
theorem of64 {a : Nat} (_ : a < 18446744073709551616) : BitVec.ofInt 64 (a : Int) = BitVec.ofNat 64 a := by
  rw [BitVec.ofInt_natCast]
theorem wrap64n {a : Nat} (h : a < 18446744073709551616) : IntKind.u64.wrap (a : Int) = a := IntWalk.u64_in _ ⟨by omega, by omega⟩
theorem bits_or {a b : Nat} (ha : a < 18446744073709551616) (hb : b < 18446744073709551616) : bits .or .u64 a b = ((a ||| b : Nat) : Int) := by
  show IntKind.u64.wrap ((BitVec.ofInt 64 (a : Int) ||| BitVec.ofInt 64 (b : Int)).toNat : Int) = _
  rw [of64 ha, of64 hb, BitVec.toNat_or, BitVec.toNat_ofNat, BitVec.toNat_ofNat, Nat.mod_eq_of_lt ha, Nat.mod_eq_of_lt hb]
  exact wrap64n (Nat.or_lt_two_pow (n := 64) ha hb)
theorem bits_and {a b : Nat} (ha : a < 18446744073709551616) (hb : b < 18446744073709551616) : bits .and .u64 a b = ((a &&& b : Nat) : Int) := by
  show IntKind.u64.wrap ((BitVec.ofInt 64 (a : Int) &&& BitVec.ofInt 64 (b : Int)).toNat : Int) = _
  rw [of64 ha, of64 hb, BitVec.toNat_and, BitVec.toNat_ofNat, BitVec.toNat_ofNat, Nat.mod_eq_of_lt ha, Nat.mod_eq_of_lt hb]
  exact wrap64n (Nat.lt_of_le_of_lt Nat.and_le_left ha)
theorem bits_not {a b : Nat} (ha : a < 18446744073709551616) (hb : b < 18446744073709551616) : bits .andNot .u64 a b = ((a &&& (18446744073709551616 - 1 - b) : Nat) : Int) := by
  show IntKind.u64.wrap ((BitVec.ofInt 64 (a : Int) &&& ~~~ BitVec.ofInt 64 (b : Int)).toNat : Int) = _
  rw [of64 ha, of64 hb, BitVec.toNat_and, BitVec.toNat_not, BitVec.toNat_ofNat, BitVec.toNat_ofNat, Nat.mod_eq_of_lt ha, Nat.mod_eq_of_lt hb]
  exact wrap64n (Nat.lt_of_le_of_lt Nat.and_le_left ha)
/-- unions, differences -/
def uni (S T : Nat → Bool) : Nat → Bool := fun i => S i || T i
def dif (S T : Nat → Bool) : Nat → Bool := fun i => S i && !T i
theorem wd_or (S T : Nat → Bool) (k : Nat) : bits .or .u64 (wd S k) (wd T k) = (wd (uni S T) k : Int) := by
  rw [bits_or (wd_lt S k) (wd_lt T k)]
  refine congrArg (Nat.cast : Nat → Int) ?_
  refine wd_ext fun j => ?_
  rw [Nat.testBit_or, wd_bit, wd_bit]
  unfold uni
  cases decide (j < 64) <;> simp
theorem wd_not (S T : Nat → Bool) (k : Nat) : bits .andNot .u64 (wd S k) (wd T k) = (wd (dif S T) k : Int) := by
  rw [bits_not (wd_lt S k) (wd_lt T k)]
  refine congrArg (Nat.cast : Nat → Int) ?_
  refine wd_ext fun j => ?_
  have := Nat.testBit_two_pow_sub_succ (n := 64) (wd_lt T k) j
  rw [Nat.testBit_and, wd_bit, show (18446744073709551616 - 1 - wd T k) = 2 ^ 64 - (wd T k + 1) from by have := wd_lt T k; omega, this, wd_bit]
  unfold dif
  cases hd : decide (j < 64) <;> simp
theorem pow_lt64 {j : Nat} (h : j < 64) : 2 ^ j < 18446744073709551616 := Nat.pow_lt_pow_right (a := 2) (n := 64) (by omega) h
theorem wd_add (S : Nat → Bool) (i : Nat) : bits .or .u64 (wd S (i / 64)) ((2 ^ (i % 64) : Nat) : Int) = (wd (upd S i) (i / 64) : Int) := by
  rw [bits_or (wd_lt S _) (pow_lt64 (Nat.mod_lt _ (by omega)))]
  refine congrArg (Nat.cast : Nat → Int) ?_
  refine wd_ext fun j => ?_
  rw [Nat.testBit_or, wd_bit, Nat.testBit_two_pow]
  unfold upd
  by_cases hj : j < 64
  · by_cases e : i % 64 = j
    · rw [if_pos (by omega), decide_eq_true e, decide_eq_true hj]; simp
    · rw [if_neg (by omega), decide_eq_false e]; simp
  · rw [decide_eq_false hj, decide_eq_false (show ¬ i % 64 = j from fun e => by omega)]; rfl
theorem wd_has (S : Nat → Bool) (i : Nat) : bits .and .u64 ((wd S (i / 64) / 2 ^ (i % 64) : Nat) : Int) 1 = if S i then 1 else 0 := by
  have h1 : wd S (i / 64) / 2 ^ (i % 64) < 18446744073709551616 := Nat.lt_of_le_of_lt (Nat.div_le_self _ _) (wd_lt S _)
  have := bits_and h1 (show 1 < 18446744073709551616 by omega)
  rw [show ((1 : Nat) : Int) = 1 from rfl] at this
  rw [this, Nat.and_one_is_mod]
  clear this h1
  have h2 := wd_bit S (i / 64) (i % 64)
  rw [Nat.testBit_eq_decide_div_mod_eq, decide_eq_true (show i % 64 < 64 by omega), show 64 * (i / 64) + i % 64 = i by omega, Bool.true_and] at h2
  cases hs : S i with
  | true => rw [hs] at h2; rw [if_pos rfl, of_decide_eq_true h2.symm.symm]; rfl
  | false =>
    rw [hs] at h2
    have h3 : wd S (i / 64) / 2 ^ (i % 64) % 2 = 0 := by have := of_decide_eq_false h2; omega
    rw [h3]; rfl
section
variable {S : Nat → Bool} {k t : Nat} (ht : t < 64) (hs : S (64 * k + t) = true) (hl : ∀ j, j < t → S (64 * k + j) = false)
include ht hs hl
theorem wd_pos : 0 < wd S k := by
  have h : wd S k = _ := (wd_eq S k).trans (wdN_pred S (64 * k) t hs hl 64 ht)
  exact h ▸ Nat.succ_pos _
/-- what is left without the lowest -/
theorem wd_drop : bits .and .u64 (wd S k) ((wd S k : Int) - 1) = (wd (fun i => S i && decide (64 * k + t < i)) k : Int) := by
  have hp := wdN_pred S (64 * k) t hs hl 64 ht
  have hq := wd_lt S k
  have e : (wd S k : Int) - 1 = ((wd S k - 1 : Nat) : Int) := by have := wd_pos ht hs hl; omega
  rw [e, bits_and hq (by omega)]
  refine congrArg (Nat.cast : Nat → Int) ?_
  refine wd_ext fun j => ?_
  rw [Nat.testBit_and, wd_bit]
  have e2 : wd S k - 1 = wd (fun i => if i < 64 * k + t then true else if i = 64 * k + t then false else S i) k := by rw [wd_eq] at *; rw [wd_eq]; omega
  rw [e2, wd_bit]
  by_cases hj : j < 64
  · rw [decide_eq_true hj]
    simp only [Bool.true_and]
    by_cases h1 : j < t
    · rw [hl j h1]; simp
    · by_cases h2 : j = t
      · subst h2; simp
      · rw [if_neg (by omega), if_neg (by omega), decide_eq_true (show 64 * k + t < 64 * k + j by omega)]; simp
  · rw [decide_eq_false hj]; rfl
theorem wd_drop_lt : wd (fun i => S i && decide (64 * k + t < i)) k < wd S k := by
  have h := wd_drop ht hs hl
  have hp := wd_pos ht hs hl
  have hq := wd_lt S k
  have e : (wd S k : Int) - 1 = ((wd S k - 1 : Nat) : Int) := by omega
  rw [e, bits_and hq (by omega)] at h
  have h2 : wd S k &&& (wd S k - 1) ≤ wd S k - 1 := Nat.and_le_right
  omega
/-- the lowest one alone -/
theorem wd_alone : bits .and .u64 (wd S k) (18446744073709551616 - (wd S k : Int)) = ((2 ^ t : Nat) : Int) := by
  have hp := wd_pos ht hs hl
  have hq := wd_lt S k
  have e : (18446744073709551616 : Int) - (wd S k : Int) = ((18446744073709551616 - wd S k : Nat) : Int) := by omega
  rw [e, bits_and hq (by omega)]
  refine congrArg (Nat.cast : Nat → Int) ?_
  refine Nat.eq_of_testBit_eq fun j => ?_
  have h3 := wdN_pred S (64 * k) t hs hl 64 ht
  have e2 : wd S k - 1 = wd (fun i => if i < 64 * k + t then true else if i = 64 * k + t then false else S i) k := by rw [wd_eq] at *; rw [wd_eq]; omega
  have h4 := Nat.testBit_two_pow_sub_succ (n := 64) (x := wd S k - 1) (by omega) j
  rw [show 18446744073709551616 - wd S k = 2 ^ 64 - (wd S k - 1 + 1) by omega, Nat.testBit_and, h4, e2, wd_bit, wd_bit, Nat.testBit_two_pow]
  by_cases hj : j < 64
  · rw [decide_eq_true hj]
    simp only [Bool.true_and]
    by_cases h1 : j < t
    · rw [hl j h1, decide_eq_false (show ¬ t = j by omega)]; simp
    · by_cases h2 : j = t
      · subst h2; rw [hs]; simp
      · rw [if_neg (by omega), if_neg (by omega), decide_eq_false (show ¬ t = j by omega)]
        cases S (64 * k + j) <;> rfl
  · rw [decide_eq_false hj, decide_eq_false (show ¬ t = j by omega)]; rfl
end
/-- De Bruijn's table -/
def Kt : List Int := [0, 1, 56, 2, 57, 49, 28, 3, 61, 58, 42, 50, 38, 29, 17, 4, 62, 47, 59, 36, 45, 43, 51, 22, 53, 39, 33, 30, 24, 18, 12, 5, 63, 55, 48, 27, 60, 41, 37, 16, 46, 35, 44, 21, 52, 32, 23, 11, 54, 26, 40, 15, 34, 20, 31, 10, 25, 14, 19, 9, 13, 8, 7, 6]
def Kf (i : Nat) : Int := Kt.getD i 0
theorem bruijn_all : (List.range 64).all (fun t => decide (Kf ((2 ^ t * 285870213051353865) % 18446744073709551616 / 288230376151711744) = (t : Int))) = true := by decide +kernel
theorem bruijn {t : Nat} (h : t < 64) : Kf ((2 ^ t * 285870213051353865) % 18446744073709551616 / 288230376151711744) = (t : Int) := by
  have := List.all_eq_true.1 bruijn_all t (List.mem_range.2 h)
  simpa using this
end Go.Proofs.YtonnopcafmhaaaaDoor
