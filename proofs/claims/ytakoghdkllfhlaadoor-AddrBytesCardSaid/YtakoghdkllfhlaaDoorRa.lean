/- Short forms and texts, plain. -/
import Derived.Test.YtakoghdkllfhlaaDoorA
namespace Go.Proofs.YtakoghdkllfhlaaDoor
open Go.RowKit Go.Lib

/-- a number's short form -/
def shrt (n : Nat) : List Nat := if n < 128 then [n] else (n % 128 + 128) :: shrt (n / 128)
termination_by n
decreasing_by omega
/-- the number whose short form, from its place i on, some bytes begin with; how many they are; or what is wrong -/
def gs : Nat → List Nat → Except Nat (Nat × Nat)
  | _, [] => .error 2
  | i, c :: r =>
    if i = 9 ∧ 1 < c then .error 4
    else if c < 128 then (if c = 0 ∧ 0 < i then .error 4 else .ok (c, 1))
    else match gs (i + 1) r with
      | .ok (n, k) => .ok (c - 128 + 128 * n, k + 1)
      | .error e => .error e
theorem shrt_small {n : Nat} (h : n < 128) : shrt n = [n] := by rw [shrt, if_pos h]
theorem shrt_big {n : Nat} (h : ¬ n < 128) : shrt n = (n % 128 + 128) :: shrt (n / 128) := by rw [shrt, if_neg h]
theorem shrt_bytes (n : Nat) : ∀ c, c ∈ shrt n → c < 256 := by
  induction n using Nat.strongRecOn with
  | ind n ih =>
    intro c hc
    by_cases h : n < 128
    · rw [shrt_small h] at hc; simp at hc; omega
    · rw [shrt_big h] at hc
      rcases List.mem_cons.1 hc with rfl | hc
      · omega
      · exact ih (n / 128) (by omega) c hc
/-- what is laid is read -/
theorem gs_shrt (rest : List Nat) : ∀ (n i : Nat), i ≤ 9 → n * 128 ^ i < 2 ^ 64 → (0 < i → 0 < n) → gs i (shrt n ++ rest) = .ok (n, (shrt n).length) := by
  intro n
  induction n using Nat.strongRecOn with
  | ind n ih =>
    intro i hi hn h0
    by_cases h : n < 128
    · rw [shrt_small h]
      have h9 : ¬ (i = 9 ∧ 1 < n) := fun ⟨e, h1⟩ => by
        subst e
        have : 2 * 128 ^ 9 ≤ n * 128 ^ 9 := Nat.mul_le_mul_right _ h1
        have e : (2 : Nat) * 128 ^ 9 = 2 ^ 64 := by decide
        omega
      have hz : ¬ (n = 0 ∧ 0 < i) := fun ⟨e, h1⟩ => by have := h0 h1; omega
      show gs i (n :: rest) = .ok (n, 1)
      rw [gs, if_neg h9, if_pos h, if_neg hz]
    · rw [shrt_big h]
      have hi8 : i < 9 := by
        refine Decidable.byContradiction fun hh => ?_
        have e : i = 9 := by omega
        subst e
        have : 128 * 128 ^ 9 ≤ n * 128 ^ 9 := Nat.mul_le_mul_right _ (by omega)
        have e : (2 : Nat) ^ 64 ≤ 128 * 128 ^ 9 := by decide
        omega
      have hq : n / 128 * 128 ^ (i + 1) < 2 ^ 64 := by
        rw [Nat.pow_succ, Nat.mul_comm (128 ^ i) 128, ← Nat.mul_assoc]
        exact Nat.lt_of_le_of_lt (Nat.mul_le_mul_right _ (Nat.div_mul_le_self n 128)) hn
      show gs i ((n % 128 + 128) :: (shrt (n / 128) ++ rest)) = _
      rw [gs, if_neg (by omega), if_neg (by omega), ih (n / 128) (by omega) (i + 1) (by omega) hq (fun _ => by omega)]
      simp only [List.length_cons]
      congr 2
      omega
/-- a short form ends by itself -/
theorem gs_ok {i : Nat} {bs : List Nat} {n k : Nat} (h : gs i bs = .ok (n, k)) : k ≤ bs.length ∧ 0 < k := by
  induction bs generalizing i n k with
  | nil => simp [gs] at h
  | cons c r ih =>
    rw [gs] at h
    split at h
    · cases h
    · split at h
      · split at h
        · cases h
        · simp only [Except.ok.injEq, Prod.mk.injEq] at h
          obtain ⟨_, rfl⟩ := h
          simp
      · split at h
        · rename_i n' k' hk
          simp only [Except.ok.injEq, Prod.mk.injEq] at h
          obtain ⟨_, rfl⟩ := h
          have := ih hk
          simp only [List.length_cons]; omega
        · cases h
/-- a number's zigzag -/
def zg (i : Int) : Nat := if 0 ≤ i then (2 * i).toNat else (-2 * i - 1).toNat
def zag (n : Nat) : Int := if n % 2 = 1 then -1 - (n / 2 : Nat) else (n / 2 : Nat)
theorem zag_zg (i : Int) : zag (zg i) = i := by
  unfold zag zg
  split <;> split <;> omega
theorem zg_lt {i : Int} (h1 : -9223372036854775808 ≤ i) (h2 : i ≤ 9223372036854775807) : zg i < 2 ^ 64 := by
  unfold zg; split <;> omega
/-- a text's bytes, and back -/
def sb (s : ByteArray) : List Nat := s.data.toList.map UInt8.toNat
def bs (l : List Nat) : ByteArray := ⟨(l.map UInt8.ofNat).toArray⟩
theorem bs_sb (s : ByteArray) : bs (sb s) = s := by
  unfold bs sb
  rw [List.map_map]
  have : (UInt8.ofNat ∘ UInt8.toNat) = id := by funext x; exact UInt8.ofNat_toNat
  rw [this, List.map_id]
theorem sb_len (s : ByteArray) : (sb s).length = s.size := by
  show (s.data.toList.map UInt8.toNat).length = s.data.size
  rw [List.length_map, Array.length_toList]
/-- the text that some bytes begin with -/
def gstr (b : List Nat) (most : Nat) : Except Nat (ByteArray × Nat) :=
  match gs 0 b with
  | .error e => .error e
  | .ok (n, k) => if most < n then .error 3 else if b.length - k < n then .error 2 else .ok (bs ((b.drop k).take n), k + n)
theorem gstr_enc (s : ByteArray) (rest : List Nat) (h : s.size ≤ 24) : gstr (shrt s.size ++ sb s ++ rest) 24 = .ok (s, (shrt s.size).length + s.size) := by
  unfold gstr
  rw [List.append_assoc, gs_shrt (sb s ++ rest) s.size 0 (by omega) (by omega) (fun h => by omega)]
  simp only
  rw [if_neg (by omega), if_neg (by simp [sb_len])]
  rw [List.drop_left, List.take_left' (by rw [sb_len]), bs_sb]
end Go.Proofs.YtakoghdkllfhlaaDoor
