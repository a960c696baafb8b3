/- To refine is an order: the mathematics. -/
import Derived.Test.YtfgkkccgecnchaaLk
import Derived.Test.YtfgkkccgecnchaaV
import Derived.Sort.Walk0
namespace Go.Proofs.Ytfgkkccgecnchaa

theorem eqL_iff {r : Val → Val → Bool} {x y : List Val} : eqL r x y = true ↔ x.length = y.length ∧ ∀ (j : Nat) (X Y : Val), x[j]? = some X → y[j]? = some Y → r X Y = true := by
  constructor
  · intro h
    refine ⟨Decidable.byContradiction (fun hl => by rw [eqL_len hl] at h; cases h), fun j X Y h1 h2 => ?_⟩
    cases hr : r X Y with
    | true => rfl
    | false => rw [eqL_no j h1 h2 hr] at h; cases h
  · intro ⟨h1, h2⟩; exact eqL_yes h1 h2
theorem cmpI_zero {a b : Int} : cmpI a b = 0 ↔ a = b := by unfold cmpI; split <;> (try split) <;> omega
theorem bl_irrefl (a : ByteArray) : blt a a = false := by
  cases h : blt a a with
  | false => rfl
  | true =>
    unfold blt at h
    rw [Go.Proofs.bytesLess_eq] at h
    exact absurd (of_decide_eq_true h) (List.lt_irrefl _)
theorem cmpS_zero {a b : ByteArray} : cmpS a b = 0 ↔ a = b := by
  unfold cmpS
  constructor
  · intro h
    split at h
    · omega
    · split at h
      · assumption
      · omega
  · intro h; subst h; rw [bl_irrefl]; simp
theorem fits_mono {A : Val} {k o k' o' : Int} (h : fits A k o = true) (hi : Typ.inB (k, o) (k', o') = true) : fits A k' o' = true := by
  have hok := Typ.in_ok hi
  rw [fits_eq] at h ⊢
  by_cases h0 : k' = 0
  · rw [if_pos h0]
  · rw [if_neg h0]
    by_cases a0 : A.k = 0
    · rw [if_pos a0]
    · rw [if_neg a0] at h ⊢
      have hk : k' = k ∧ (o' = o ∨ o' = 0) := by
        unfold Typ.inB Typ.upB at hi
        simp only [Bool.and_eq_true, Bool.or_eq_true, beq_iff_eq, Prod.mk.injEq] at hi
        omega
      obtain ⟨rfl, ho⟩ := hk
      rw [if_neg h0] at h
      by_cases a1 : A.k = 1 ∨ A.k = 2 ∨ A.k = 3
      · rw [if_pos a1] at h ⊢; exact h
      · rw [if_neg a1] at h ⊢
        by_cases a4 : A.k = 4 ∨ A.k = 5
        · rw [if_pos a4] at h ⊢
          rw [Bool.and_eq_true] at h ⊢
          refine ⟨h.1, ?_⟩
          rcases ho with rfl | rfl
          · exact h.2
          · rw [List.all_eq_true]; intro x _; rw [fits_eq, if_pos rfl]
        · rw [if_neg a4] at h ⊢
          by_cases a6 : A.k = 6
          · rw [if_pos a6] at h ⊢; exact Typ.in_trans h hi
          · rw [if_neg a6] at h; cases h
theorem fits_of_ref (A : Val) : ∀ (B : Val) (k o : Int), refV A B = true → fits B k o = true → fits A k o = true := by
  induction A using val_ind with
  | h A ih =>
    intro B k o hr hf
    rw [refV_eq] at hr
    unfold refRaw at hr
    by_cases b6 : B.k = 6
    · rw [if_pos b6] at hr
      rw [fits_eq] at hf
      by_cases h0 : k = 0
      · rw [fits_eq, if_pos h0]
      · rw [if_neg h0, if_neg (by omega), if_neg (by omega), if_neg (by omega), if_pos b6] at hf
        exact fits_mono hr hf
    · rw [if_neg b6] at hr
      by_cases hk : A.k = B.k
      · rw [if_neg (by simpa using hk)] at hr
        rw [fits_eq] at hf ⊢
        rw [hk]
        by_cases h0 : k = 0
        · rw [if_pos h0]
        · rw [if_neg h0] at hf ⊢
          by_cases a0 : B.k = 0
          · rw [if_pos a0]
          · rw [if_neg a0] at hf ⊢
            by_cases a1 : B.k = 1 ∨ B.k = 2 ∨ B.k = 3
            · rw [if_pos a1] at hf ⊢; exact hf
            · rw [if_neg a1] at hf ⊢
              by_cases a4 : B.k = 4 ∨ B.k = 5
              · rw [if_pos a4] at hf ⊢
                rw [Bool.and_eq_true] at hf ⊢
                refine ⟨hf.1, ?_⟩
                have he : eqL refV (els A) (els B) = true := by
                  rw [if_neg (by omega)] at hr
                  by_cases a5 : A.k = 5
                  · rw [if_pos a5, Bool.and_eq_true] at hr; exact hr.2
                  · rw [if_neg a5, if_pos (by omega)] at hr; exact hr
                obtain ⟨e1, e2⟩ := eqL_iff.1 he
                rw [List.all_eq_true] at hf ⊢
                intro x hx
                obtain ⟨j, hj, rfl⟩ := List.getElem_of_mem hx
                have hj2 : j < (els B).length := by omega
                exact ih _ (els_mem (List.getElem_mem hj)) (els B)[j] o 0 (e2 j _ _ (List.getElem?_eq_getElem hj) (List.getElem?_eq_getElem hj2)) (hf.2 _ (List.getElem_mem hj2))
              · rw [if_neg a4] at hf
                rw [if_neg b6] at hf; cases hf
      · rw [if_pos (by simpa using hk)] at hr; cases hr
/-- where the other one is known in itself -/
theorem ref_cases {A B : Val} (h : refV A B = true) (b6 : B.k ≠ 6) : A.k = B.k ∧ ((A.k = 0) ∨ ((A.k = 1 ∨ A.k = 2) ∧ A.i = B.i) ∨ (A.k = 3 ∧ A.s = B.s) ∨ (A.k = 5 ∧ keysH A = keysH B ∧ eqL refV (els A) (els B) = true) ∨ (A.k = 4 ∧ eqL refV (els A) (els B) = true)) := by
  rw [refV_eq] at h
  unfold refRaw at h
  rw [if_neg b6] at h
  by_cases hk : A.k = B.k
  · rw [if_neg (by simpa using hk)] at h
    refine ⟨hk, ?_⟩
    by_cases hp : A.k = 0 ∨ A.k = 1 ∨ A.k = 2 ∨ A.k = 3
    · rw [if_pos hp, decide_eq_true_eq, ord_eq, if_neg (by simpa using hk)] at h
      by_cases h0 : A.k = 0
      · exact .inl h0
      · by_cases h12 : A.k = 1 ∨ A.k = 2
        · rw [if_pos h12] at h; exact .inr (.inl ⟨h12, cmpI_zero.1 h⟩)
        · rw [if_neg h12, if_pos (by omega)] at h
          exact .inr (.inr (.inl ⟨by omega, cmpS_zero.1 h⟩))
    · rw [if_neg hp] at h
      by_cases h5 : A.k = 5
      · rw [if_pos h5, Bool.and_eq_true] at h
        exact .inr (.inr (.inr (.inl ⟨h5, by have := h.1; unfold eqK at this; simpa using this, h.2⟩)))
      · rw [if_neg h5] at h
        by_cases h4 : A.k = 4
        · rw [if_pos h4] at h; exact .inr (.inr (.inr (.inr ⟨h4, h⟩)))
        · rw [if_neg h4] at h; cases h
  · rw [if_pos (by simpa using hk)] at h; cases h
theorem ref_mk {A B : Val} (b6 : B.k ≠ 6) (hk : A.k = B.k) (h : (A.k = 0) ∨ ((A.k = 1 ∨ A.k = 2) ∧ A.i = B.i) ∨ (A.k = 3 ∧ A.s = B.s) ∨ (A.k = 5 ∧ keysH A = keysH B ∧ eqL refV (els A) (els B) = true) ∨ (A.k = 4 ∧ eqL refV (els A) (els B) = true)) : refV A B = true := by
  rw [refV_eq]
  unfold refRaw
  rw [if_neg b6, if_neg (by simpa using hk)]
  rcases h with h | ⟨h, e⟩ | ⟨h, e⟩ | ⟨h, e, f⟩ | ⟨h, e⟩
  · rw [if_pos (by omega), decide_eq_true_eq, ord_eq, if_neg (by simpa using hk), if_neg (by omega), if_neg (by omega), if_neg (by omega), if_neg (by omega)]
  · rw [if_pos (by omega), decide_eq_true_eq, ord_eq, if_neg (by simpa using hk), if_pos h]; exact cmpI_zero.2 e
  · rw [if_pos (by omega), decide_eq_true_eq, ord_eq, if_neg (by simpa using hk), if_neg (by omega), if_pos h]; exact cmpS_zero.2 e
  · rw [if_neg (by omega), if_pos h, f]; unfold eqK; simp [e]
  · rw [if_neg (by omega), if_neg (by omega), if_pos h]; exact e
theorem ref_trans (A : Val) : ∀ (B C : Val), refV A B = true → refV B C = true → refV A C = true := by
  induction A using val_ind with
  | h A ih =>
    intro B C h1 h2
    by_cases c6 : C.k = 6
    · have e : refV B C = fits B C.tk C.to := by rw [refV_eq]; unfold refRaw; rw [if_pos c6]
      have e' : refV A C = fits A C.tk C.to := by rw [refV_eq]; unfold refRaw; rw [if_pos c6]
      rw [e] at h2
      rw [e']
      exact fits_of_ref A B _ _ h1 h2
    · obtain ⟨k2, r2⟩ := ref_cases h2 c6
      obtain ⟨k1, r1⟩ := ref_cases h1 (by omega)
      have hl : eqL refV (els A) (els B) = true → eqL refV (els B) (els C) = true → eqL refV (els A) (els C) = true := by
        intro a b
        obtain ⟨a1, a2⟩ := eqL_iff.1 a
        obtain ⟨b1, b2⟩ := eqL_iff.1 b
        refine eqL_iff.2 ⟨by omega, fun j X Z hX hZ => ?_⟩
        have hj := (List.getElem?_eq_some_iff.1 hX).1
        have hY : (els B)[j]? = some (els B)[j] := List.getElem?_eq_getElem (by omega)
        exact ih X (els_mem (List.mem_of_getElem? hX)) _ Z (a2 j X _ hX hY) (b2 j _ Z hY hZ)
      refine ref_mk c6 (by omega) ?_
      rcases r1 with r | ⟨r, e⟩ | ⟨r, e⟩ | ⟨r, e, f⟩ | ⟨r, f⟩
      · exact .inl r
      · rcases r2 with s | ⟨s, e'⟩ | ⟨s, e'⟩ | ⟨s, e', f'⟩ | ⟨s, f'⟩
        · omega
        · exact .inr (.inl ⟨r, by omega⟩)
        · omega
        · omega
        · omega
      · rcases r2 with s | ⟨s, e'⟩ | ⟨s, e'⟩ | ⟨s, e', f'⟩ | ⟨s, f'⟩
        · omega
        · omega
        · exact .inr (.inr (.inl ⟨r, e.trans e'⟩))
        · omega
        · omega
      · rcases r2 with s | ⟨s, e'⟩ | ⟨s, e'⟩ | ⟨s, e', f'⟩ | ⟨s, f'⟩
        · omega
        · omega
        · omega
        · exact .inr (.inr (.inr (.inl ⟨r, e.trans e', hl f f'⟩)))
        · omega
      · rcases r2 with s | ⟨s, e'⟩ | ⟨s, e'⟩ | ⟨s, e', f'⟩ | ⟨s, f'⟩
        · omega
        · omega
        · omega
        · omega
        · exact .inr (.inr (.inr (.inr ⟨r, hl f f'⟩)))
end Go.Proofs.Ytfgkkccgecnchaa
