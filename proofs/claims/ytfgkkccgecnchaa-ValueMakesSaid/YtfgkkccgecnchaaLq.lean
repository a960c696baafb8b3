/- ValueLess: the mathematics of the order. -/
import Derived.Test.YtfgkkccgecnchaaLn
namespace Go.Proofs.Ytfgkkccgecnchaa
open Go.RowKit

theorem cmpI_neg (a b : Int) : cmpI b a = - cmpI a b := by unfold cmpI; split <;> (try split) <;> (try split) <;> (try split) <;> omega
theorem bl_iff (a b : ByteArray) : blt a b = true ↔ a.toList < b.toList := by
  unfold blt
  rw [Go.Proofs.bytesLess_eq, decide_eq_true_eq]
theorem cmpS_neg (a b : ByteArray) : cmpS b a = - cmpS a b := by
  unfold cmpS
  by_cases h1 : blt a b = true
  · have h2 : ¬ blt b a = true := fun h => List.lt_asymm ((bl_iff a b).1 h1) ((bl_iff b a).1 h)
    have h3 : a ≠ b := fun e => by subst e; rw [bl_irrefl] at h1; cases h1
    rw [if_pos h1, if_neg h2, if_neg (fun e => h3 e.symm)]; decide
  · rw [if_neg h1]
    by_cases h3 : a = b
    · subst h3; rw [if_neg h1, if_pos rfl]; decide
    · have h2 : blt b a = true := by
        rw [bl_iff] at h1 ⊢
        rcases List.le_iff_lt_or_eq.1 (List.not_lt.1 h1) with h | h
        · exact h
        · exact absurd (toList_inj h.symm) h3
      rw [if_pos h2, if_neg h3]
theorem ordEls_neg (m : Bool) (ka kb : Nat → ByteArray) : ∀ (x y : List Val) (j : Nat), (∀ X, X ∈ x → ∀ Y, ord Y X = - ord X Y) → ordEls m kb ka j (y.map ord) x = - ordEls m ka kb j (x.map ord) y
  | [], [], _, _ => rfl
  | [], _ :: _, _, _ => rfl
  | _ :: _, [], _, _ => rfl
  | X :: x, Y :: y, j, h => by
    have e1 := ordEls_neg m ka kb x y (j + 1) (fun Z hZ => h Z (by simp [hZ]))
    have e2 := h X (by simp) Y
    simp only [List.map_cons, ordEls]
    by_cases hk : m = true ∧ ka j ≠ kb j
    · rw [if_pos hk, if_pos ⟨hk.1, fun e => hk.2 e.symm⟩]; exact cmpS_neg _ _
    · rw [if_neg hk, if_neg (fun h => hk ⟨h.1, fun e => h.2 e.symm⟩), e1, e2]
      by_cases h0 : ord X Y = 0
      · rw [h0]; simp
      · rw [if_pos (by omega), if_pos h0]
theorem ord_neg (A : Val) : ∀ (B : Val), ord B A = - ord A B := by
  induction A using val_ind with
  | h A ih =>
    intro B
    rw [ord_eq B A, ord_eq A B]
    by_cases hk : A.k = B.k
    · rw [if_neg (show ¬ (B.k ≠ A.k) from fun h => h hk.symm), if_neg (show ¬ (A.k ≠ B.k) from fun h => h hk), ← hk]
      by_cases h1 : A.k = 1 ∨ A.k = 2
      · rw [if_pos h1, if_pos h1]; exact cmpI_neg _ _
      · rw [if_neg h1, if_neg h1]
        by_cases h3 : A.k = 3
        · rw [if_pos h3, if_pos h3]; exact cmpS_neg _ _
        · rw [if_neg h3, if_neg h3]
          by_cases h4 : A.k = 4 ∨ A.k = 5
          · rw [if_pos h4, if_pos h4]
            unfold ordE
            rw [← hk]
            exact ordEls_neg _ _ _ _ _ _ (fun X hX Y => ih X (els_mem hX) Y)
          · rw [if_neg h4, if_neg h4]
            by_cases h6 : A.k = 6
            · rw [if_pos h6, if_pos h6]; exact cmpI_neg _ _
            · rw [if_neg h6, if_neg h6]; rfl
    · rw [if_pos (fun e => hk e.symm), if_pos hk]; exact cmpI_neg _ _
theorem ordEls_zero (m : Bool) (ka kb : Nat → ByteArray) : ∀ (x y : List Val) (j : Nat), ordEls m ka kb j (x.map ord) y = 0 ↔ x.length = y.length ∧ (m = true → ∀ i, i < x.length → ka (j + i) = kb (j + i)) ∧ ∀ (i : Nat) (X Y : Val), x[i]? = some X → y[i]? = some Y → ord X Y = 0
  | [], [], _ => ⟨fun _ => ⟨rfl, fun _ i h => absurd h (Nat.not_lt_zero _), fun i X Y h => by simp at h⟩, fun _ => rfl⟩
  | [], _ :: _, _ => ⟨(fun h => by simp [ordEls] at h), (fun h => by simp at h)⟩
  | _ :: _, [], _ => ⟨(fun h => by simp [ordEls] at h), (fun h => by simp at h)⟩
  | X :: x, Y :: y, j => by
    have ih := ordEls_zero m ka kb x y (j + 1)
    simp only [List.map_cons, ordEls]
    by_cases hk : m = true ∧ ka j ≠ kb j
    · rw [if_pos hk]
      refine ⟨fun h => absurd (cmpS_zero.1 h) hk.2, fun h => absurd (h.2.1 hk.1 0 (by simp)) hk.2⟩
    · rw [if_neg hk]
      by_cases h0 : ord X Y = 0
      · rw [if_neg (by simpa using h0), ih]
        refine ⟨fun ⟨a, b, c⟩ => ⟨by simp [a], fun hm i hi => ?_, fun i X' Y' h1 h2 => ?_⟩, fun ⟨a, b, c⟩ => ⟨by simpa using a, fun hm i hi => ?_, fun i X' Y' h1 h2 => c (i + 1) X' Y' (by simpa using h1) (by simpa using h2)⟩⟩
        · cases i with
          | zero => exact Decidable.byContradiction fun e => hk ⟨hm, e⟩
          | succ i =>
            have := b hm i (by simpa using hi)
            rw [show j + (i + 1) = j + 1 + i by omega]; exact this
        · cases i with
          | zero => simp at h1 h2; subst h1 h2; exact h0
          | succ i => exact c i X' Y' (by simpa using h1) (by simpa using h2)
        · have := b hm (i + 1) (by simpa using hi)
          rw [show j + 1 + i = j + (i + 1) by omega]; exact this
      · rw [if_pos h0]
        exact ⟨fun h => absurd h h0, fun h => absurd (h.2.2 0 X Y rfl rfl) h0⟩
end Go.Proofs.Ytfgkkccgecnchaa
