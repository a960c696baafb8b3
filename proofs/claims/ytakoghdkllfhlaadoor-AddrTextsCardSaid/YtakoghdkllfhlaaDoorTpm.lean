/- Plain mathematics of numbers' texts. No Go in sight. -/
import Derived.Test.YtakoghdkllfhlaaDoorTm
import Derived.Lib.ItoaNum
import Derived.Lib.ItoaLen
namespace Go.Proofs.YtakoghdkllfhlaaDoor
open Go.RowKit

/-- what digits are worth -/
def dval (l : List UInt8) : Int := l.foldl (fun u c => u * 10 + ((c.toNat : Int) - 48)) 0
theorem dval_snoc (l : List UInt8) (c : UInt8) : dval (l ++ [c]) = dval l * 10 + ((c.toNat : Int) - 48) := by simp [dval]
/-- a digit -/
def isDig (c : UInt8) : Prop := 48 ≤ c.toNat ∧ c.toNat ≤ 57
theorem take_snoc_get (l : List UInt8) (k : Nat) (h : k < l.length) : l.take (k + 1) = l.take k ++ [l[k]] := by
  rw [List.take_succ_eq_append_getElem h]
theorem dval_take_bd (l : List UInt8) (h : ∀ c ∈ l, isDig c) : ∀ k, k ≤ l.length → 0 ≤ dval (l.take k) ∧ dval (l.take k) < 10 ^ k := by
  intro k
  induction k with
  | zero => intro _; simp [dval]
  | succ k ih =>
    intro hk
    have i := ih (by omega)
    have d : isDig (l[k]'(by omega)) := h _ (List.getElem_mem _)
    unfold isDig at d
    rw [take_snoc_get l k (by omega), dval_snoc, Int.pow_succ]
    omega
theorem dval_bd (l : List UInt8) (h : ∀ c ∈ l, isDig c) : 0 ≤ dval l ∧ dval l < 10 ^ l.length := by
  have := dval_take_bd l h l.length (Nat.le_refl _)
  rwa [List.take_length] at this
/-- the text of a number from 0 on, or below 0 (m) -/
def IsT (l : List UInt8) (m : Bool) : Prop := l ≠ [] ∧ ¬ (l.head? = some 48 ∧ (1 < l.length ∨ m = true)) ∧ ∀ c ∈ l, isDig c
theorem dval_take_le (l : List UInt8) (h : ∀ c ∈ l, isDig c) (k : Nat) (hk : k < l.length) : dval (l.take k) * 10 ≤ dval l := by
  have key : ∀ j, k + 1 + j ≤ l.length → dval (l.take k) * 10 ≤ dval (l.take (k + 1 + j)) := by
    intro j
    induction j with
    | zero =>
      intro _
      rw [Nat.add_zero, take_snoc_get l k hk, dval_snoc]
      have d : isDig l[k] := h _ (List.getElem_mem hk)
      unfold isDig at d; omega
    | succ j ih =>
      intro hj
      have i := ih (by omega)
      rw [← Nat.add_assoc, take_snoc_get l (k + 1 + j) (by omega), dval_snoc]
      have d : isDig (l[k + 1 + j]'(by omega)) := h _ (List.getElem_mem _)
      have b := dval_bd (l.take (k + 1 + j)) (fun c hc => h c (List.mem_of_mem_take hc))
      unfold isDig at d; omega
  have := key (l.length - (k + 1)) (by omega)
  rwa [show k + 1 + (l.length - (k + 1)) = l.length by omega, List.take_length] at this
theorem digit_nat (x : Nat) (h : x < 10) : (UInt8.ofNat (48 + x)).toNat = 48 + x := by
  rw [UInt8.toNat_ofNat']; omega
theorem dec_dig (u : Nat) : ∀ c ∈ Lib.decDigits u, isDig c := by
  induction u using Nat.strongRecOn with
  | _ u ih =>
    rw [Lib.decDigits]
    split
    · intro c hc
      rw [List.mem_singleton] at hc; subst hc
      have := digit_nat u (by omega)
      unfold isDig; omega
    · intro c hc
      rw [List.mem_append, List.mem_singleton] at hc
      rcases hc with hc | hc
      · exact ih (u / 10) (by omega) c hc
      · subst hc
        have := digit_nat (u % 10) (by omega)
        unfold isDig; omega
theorem dec_val (u : Nat) : dval (Lib.decDigits u) = u := by
  induction u using Nat.strongRecOn with
  | _ u ih =>
    rw [Lib.decDigits]
    split
    · have := digit_nat u (by omega)
      simp only [dval, List.foldl_cons, List.foldl_nil, this]
      omega
    · rw [dval_snoc, ih (u / 10) (by omega), digit_nat (u % 10) (by omega)]
      omega
theorem dec_ne (u : Nat) : Lib.decDigits u ≠ [] := by
  rw [Lib.decDigits]; split <;> simp
theorem dec_head (u : Nat) (h : 1 ≤ u) : (Lib.decDigits u).head? ≠ some 48 := by
  induction u using Nat.strongRecOn with
  | _ u ih =>
    rw [Lib.decDigits]
    split
    · have := digit_nat u (by omega)
      rw [List.head?_cons]
      intro e
      injection e with e
      rw [e] at this
      have e48 : (48 : UInt8).toNat = 48 := rfl
      omega
    · rw [List.head?_append]
      have i := ih (u / 10) (by omega) (by omega)
      cases hh : (Lib.decDigits (u / 10)).head? with
      | none => exact absurd (List.head?_eq_none_iff.1 hh) (dec_ne _)
      | some c => rw [hh] at i; simpa using i
theorem dec_len (k u : Nat) (h : u < 10 ^ (k + 1)) : (Lib.decDigits u).length ≤ k + 1 := by
  induction k generalizing u with
  | zero => rw [Lib.decDigits, dif_pos (by simpa using h)]; simp
  | succ k ih =>
    rw [Lib.decDigits]
    split
    · simp
    · have := ih (u / 10) (by rw [Nat.pow_succ] at h; omega)
      simp; omega
theorem dec_isT (u : Nat) (m : Bool) (h : m = true → 1 ≤ u) : IsT (Lib.decDigits u) m := by
  refine ⟨dec_ne u, fun ⟨h1, h2⟩ => ?_, dec_dig u⟩
  by_cases hu : u = 0
  · subst hu
    rw [Lib.decDigits_one (by decide)] at h2
    rcases h2 with h2 | h2
    · simp at h2
    · have := h h2; omega
  · exact dec_head u (by omega) h1
end Go.Proofs.YtakoghdkllfhlaaDoor
