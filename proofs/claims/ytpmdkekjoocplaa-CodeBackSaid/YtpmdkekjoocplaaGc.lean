/- The reader: truth, number, text, unknown. -/
import Derived.Test.YtpmdkekjoocplaaGb
import Derived.Test.YtpmdkekjoocplaaTe
namespace Go.Proofs.Ytpmdkekjoocplaa
open Go.RowKit

theorem i64_toInt (c : BitVec 64) : IntKind.i64.wrap (c.toNat : Int) = c.toInt := by
  rw [IntKind.wrap_i64, BitVec.toInt_eq_toNat_cond]
  have := c.isLt
  split <;> omega
theorem xor64_zero (x : Int) (h1 : -9223372036854775808 ≤ x) (h2 : x ≤ 9223372036854775807) : bits .xor .i64 x 0 = x := by
  have e : bits .xor .i64 x 0 = (BitVec.ofInt 64 x ^^^ BitVec.ofInt 64 0).toInt := i64_toInt _
  have : BitVec.ofInt 64 0 = 0#64 := rfl
  rw [e, this, BitVec.xor_zero, BitVec.toInt_ofInt]
  unfold Int.bmod; simp only [Nat.reducePow]; split <;> omega
theorem xor64_ones (x : Int) (h1 : -9223372036854775808 ≤ x) (h2 : x ≤ 9223372036854775807) : bits .xor .i64 x (-1) = -x - 1 := by
  have e : bits .xor .i64 x (-1) = (BitVec.ofInt 64 x ^^^ BitVec.ofInt 64 (-1)).toInt := i64_toInt _
  have : BitVec.ofInt 64 (-1) = BitVec.allOnes 64 := by decide
  rw [e, this, BitVec.xor_allOnes, BitVec.toInt_not, BitVec.toNat_ofInt]
  unfold Int.bmod; simp only [Nat.reducePow]; split <;> omega
theorem and_one (m : Int) (h1 : 0 ≤ m) (h2 : m < 18446744073709551616) : bits .and .u64 m 1 = m % 2 := by
  have := bits_mask .u64 64 (by decide) wraps_u64 1 (by decide) m h1 (by omega)
  have e : (2 : Int) ^ 1 - 1 = 1 := by decide
  have e2 : (2 : Int) ^ 1 = 2 := by decide
  rw [e, e2] at this
  exact this
theorem zag_any (m : Nat) (w : World) (h2 : m < 18446744073709551616) :
    Calls Try.prog 44 #[.int .u64 m] w fun e w' => e = .returned (.int .i64 (zag m)) ∧ w = w' := by
  obtain ⟨x, hx⟩ : ∃ x : Int, (m : Int) = x := ⟨_, rfl⟩
  have h1 : 0 ≤ x := by omega
  have h2 : x < 18446744073709551616 := by omega
  have A := and_one x h1 h2
  have E : bits .xor .i64 (x / 2) (-(x % 2)) = zag m := by
    unfold zag
    by_cases h : x % 2 = 0
    · rw [h, if_neg (by omega)]; rw [show -(0 : Int) = 0 from rfl, xor64_zero _ (by omega) (by omega)]; omega
    · rw [show x % 2 = 1 by omega, if_pos (by omega), xor64_ones _ (by omega) (by omega)]; omega
  have H := Lib.hid E
  rw [hx]
  clear E hx
  go_enter Try.func44, Try.ntmps44
  go_wp2
  go_ret
  exact ⟨ret_int H.out, rfl⟩
theorem gs_bd {M : List Nat} (hM : ∀ c, c ∈ M → c < 256) : ∀ (i n k : Nat), i ≤ 9 → gs i M = .ok (n, k) → n * 128 ^ i < 2 ^ 64 := by
  induction M with
  | nil => intro i n k _ h; simp [gs] at h
  | cons c r ih =>
    intro i n k hi h
    rw [gs] at h
    split at h
    · cases h
    · rename_i h9
      split at h
      · rename_i h1
        split at h
        · cases h
        · simp only [Except.ok.injEq, Prod.mk.injEq] at h
          obtain ⟨rfl, _⟩ := h
          rw [Nat.mul_comm]
          exact pow128_64 hi h9 h1
      · rename_i h1
        split at h
        · rename_i n' k' hk
          simp only [Except.ok.injEq, Prod.mk.injEq] at h
          obtain ⟨rfl, _⟩ := h
          have hc := hM c (by simp)
          by_cases hi9 : i = 9
          · omega
          have := ih (fun x hx => hM x (by simp [hx])) (i + 1) n' k' (by omega) hk
          have e8 : 128 ^ (i + 1) * (2 ^ 64 / 128 ^ (i + 1)) = 2 ^ 64 := by
            have : i = 0 ∨ i = 1 ∨ i = 2 ∨ i = 3 ∨ i = 4 ∨ i = 5 ∨ i = 6 ∨ i = 7 ∨ i = 8 := by omega
            rcases this with rfl | rfl | rfl | rfl | rfl | rfl | rfl | rfl | rfl <;> decide
          obtain ⟨q, hq⟩ : ∃ q, 128 ^ (i + 1) * q = 2 ^ 64 := ⟨_, e8⟩
          clear e8
          have h5 : n' < q := by
            have h4 : 128 ^ (i + 1) * n' < 128 ^ (i + 1) * q := by rw [hq, Nat.mul_comm]; exact this
            exact Nat.lt_of_mul_lt_mul_left h4
          have h6 : 128 ^ (i + 1) * (n' + 1) ≤ 2 ^ 64 := by rw [← hq]; exact Nat.mul_le_mul_left _ h5
          have h7 : (c - 128) * 128 ^ i ≤ 127 * 128 ^ i := Nat.mul_le_mul_right _ (by omega)
          have h8 : 128 * n' * 128 ^ i = 128 ^ (i + 1) * n' := by rw [Nat.pow_succ]; ac_rfl
          have h9 : 0 < 128 ^ i := Nat.pow_pos (by omega)
          rw [Nat.mul_add, Nat.mul_one] at h6
          rw [Nat.add_mul, h8]
          rw [Nat.pow_succ] at h6 ⊢
          generalize 128 ^ i * 128 * n' = A at *
          generalize 128 ^ i = B at *
          generalize (c - 128) * B = C at *
          omega
        · cases h
/-- an octet that is a truth -/
def truV (r : List Nat) : Ending := match r with
  | [] => .returned (.tuple #[.int .i64 0, .int .i64 2])
  | c :: _ => .returned (.tuple #[.int .i64 c, .int .i64 (if 1 < c then 4 else 0)])
theorem truV_bad {c : Nat} {r : List Nat} (h : 1 < c) : truV (c :: r) = .returned (.tuple #[.int .i64 c, .int .i64 4]) := by
  show Ending.returned (.tuple #[.int .i64 c, .int .i64 (if 1 < c then 4 else 0)]) = _
  rw [if_pos h]
theorem truV_ok {c : Nat} {r : List Nat} (h : ¬ 1 < c) : truV (c :: r) = .returned (.tuple #[.int .i64 c, .int .i64 0]) := by
  show Ending.returned (.tuple #[.int .i64 c, .int .i64 (if 1 < c then 4 else 0)]) = _
  rw [if_neg h]
set_option maxHeartbeats 1000000 in
theorem truth_any {rb : Nat} {o : Option Addr} {cap : Nat} {M : List Nat} {at' wt : Nat} {w : World} (R : Rdr w rb o cap M at' wt) :
    Calls Try.prog 24 #[.pointer (some ⟨rb, 0, none⟩)] w fun e w' => e = truV (M.drop at') ∧ Rd w rb o cap M (min M.length (at' + 1)) wt w' := by
  have S := octet_any R
  have hM : ∀ c, c ∈ M.drop at' → c < 256 := fun c hc => R.B.b c (List.mem_of_mem_drop hc)
  cases hd : M.drop at' with
  | nil =>
    rw [hd] at S
    have HS := Lib.hid S
    clear S R hd hM
    go_enter Try.func24, Try.ntmps24
    go_wp2_with fail
    refine HS.out.mono ?_
    rintro e w1 ⟨rfl, hR⟩
    have HR := Lib.hid hR
    clear hR
    unfold octV
    go_wp2_with fail
    go_ret2
    exact ⟨rfl, HR.out⟩
  | cons c r =>
    rw [hd] at S hM
    have hc := hM c (by simp)
    have HS := Lib.hid S
    clear S R hd hM
    by_cases h1 : 1 < c
    · go_enter Try.func24, Try.ntmps24
      go_wp2_with fail
      refine HS.out.mono ?_
      rintro e w1 ⟨rfl, hR⟩
      have HR := Lib.hid hR
      clear hR
      unfold octV
      go_wp2_with fail
      go_ret2
      exact ⟨(truV_bad h1).symm, HR.out⟩
    · go_enter Try.func24, Try.ntmps24
      go_wp2_with fail
      refine HS.out.mono ?_
      rintro e w1 ⟨rfl, hR⟩
      have HR := Lib.hid hR
      clear hR
      unfold octV
      go_wp2_with fail
      go_ret2
      exact ⟨(truV_ok h1).symm, HR.out⟩
/-- a number -/
def numV (r : Except Nat (Nat × Nat)) : Ending := match r with
  | .ok (n, _) => .returned (.tuple #[.int .i64 (zag n), .int .i64 0])
  | .error e => .returned (.tuple #[.int .i64 0, .int .i64 e])
set_option maxHeartbeats 1000000 in
theorem number_any {rb : Nat} {o : Option Addr} {cap : Nat} {M : List Nat} {at' wt : Nat} {w : World} (R : Rdr w rb o cap M at' wt) :
    Calls Try.prog 25 #[.pointer (some ⟨rb, 0, none⟩)] w fun e w' => e = numV (gs 0 (M.drop at')) ∧ Rd w rb o cap M (at' + used (gs 0 (M.drop at'))) wt w' := by
  have S := short_any R
  have hM : ∀ c, c ∈ M.drop at' → c < 256 := fun c hc => R.B.b c (List.mem_of_mem_drop hc)
  cases hg : gs 0 (M.drop at') with
  | error x =>
    rw [hg] at S
    have HS := Lib.hid S
    clear S R hg hM
    go_enter Try.func25, Try.ntmps25
    go_wp2_with fail
    refine HS.out.mono ?_
    rintro e w1 ⟨rfl, hR⟩
    have HR := Lib.hid hR
    clear hR
    unfold shV
    go_wp2_with fail
    refine (zag_any 0 _ (by omega)).mono ?_
    rintro e w2 ⟨rfl, rfl⟩
    go_wp2_with fail
    go_ret2
    exact ⟨rfl, HR.out⟩
  | ok p =>
    obtain ⟨n, k⟩ := p
    have hb := gs_bd hM 0 n k (by omega) hg
    rw [hg] at S
    have HS := Lib.hid S
    clear S R hg hM
    go_enter Try.func25, Try.ntmps25
    go_wp2_with fail
    refine HS.out.mono ?_
    rintro e w1 ⟨rfl, hR⟩
    have HR := Lib.hid hR
    clear hR
    unfold shV
    go_wp2_with fail
    refine (zag_any n _ (by omega)).mono ?_
    rintro e w2 ⟨rfl, rfl⟩
    go_wp2_with fail
    go_ret2
    exact ⟨rfl, HR.out⟩
end Go.Proofs.Ytpmdkekjoocplaa
