/- ValueRefines: mathematics. -/
import Derived.Test.YtfgkkccgecnchaaLn
import Derived.Test.YtfgkkccgecnchaaOf
import Derived.Test.YtfgkkccgecnchaaK
namespace Go.Proofs.Ytfgkkccgecnchaa
open Go.RowKit

theorem Typ.join_up {a b : Typ.Ty} (ha : Typ.okB a.1 a.2 = true) (hb : Typ.okB b.1 b.2 = true) : Typ.inB a (Typ.join a b) = true ∧ Typ.inB b (Typ.join a b) = true :=
  (by decide : ∀ a ∈ Typ.all, ∀ b ∈ Typ.all, Typ.inB a (Typ.join a b) = true ∧ Typ.inB b (Typ.join a b) = true) a (Typ.ok_mem ha) b (Typ.ok_mem hb)
theorem Typ.in_zero {a : Typ.Ty} (ha : Typ.okB a.1 a.2 = true) : Typ.inB a (0, 0) = true :=
  (by decide : ∀ a ∈ Typ.all, Typ.inB a (0, 0) = true) a (Typ.ok_mem ha)
theorem tyEnd_up {a : Typ.Ty} (ha : Typ.okB a.1 a.2 = true) : Typ.inB a (tyEnd a, 0) = true ∧ 0 ≤ tyEnd a ∧ tyEnd a ≤ 3 :=
  (by decide : ∀ a ∈ Typ.all, Typ.inB a (tyEnd a, 0) = true ∧ 0 ≤ tyEnd a ∧ tyEnd a ≤ 3) a (Typ.ok_mem ha)
theorem tyF_up : ∀ (ts : List Typ.Ty) (c : Typ.Ty), (∀ t ∈ ts, Typ.okB t.1 t.2 = true) → Typ.okB c.1 c.2 = true →
    Typ.inB c (tyF (some c) ts, 0) = true ∧ (∀ t ∈ ts, Typ.inB t (tyF (some c) ts, 0) = true) ∧ 0 ≤ tyF (some c) ts ∧ tyF (some c) ts ≤ 3
  | [], c, _, hc => by
    have := tyEnd_up hc
    exact ⟨this.1, fun t ht => absurd ht (by simp), this.2⟩
  | t :: r, c, hts, hc => by
    have ht := hts t (by simp)
    obtain ⟨j1, j2⟩ := Typ.join_up hc ht
    show Typ.inB c (if (Typ.join c t).1 = 0 then 0 else tyF (some (Typ.join c t)) r, 0) = true ∧ (∀ u ∈ t :: r, Typ.inB u (if (Typ.join c t).1 = 0 then 0 else tyF (some (Typ.join c t)) r, 0) = true) ∧ 0 ≤ (if (Typ.join c t).1 = 0 then 0 else tyF (some (Typ.join c t)) r) ∧ (if (Typ.join c t).1 = 0 then 0 else tyF (some (Typ.join c t)) r) ≤ 3
    by_cases h0 : (Typ.join c t).1 = 0
    · rw [if_pos h0]
      exact ⟨Typ.in_zero hc, fun u hu => Typ.in_zero (hts u hu), by omega, by omega⟩
    · rw [if_neg h0]
      obtain ⟨i1, i2, i3⟩ := tyF_up r (Typ.join c t) (fun u hu => hts u (by simp [hu])) (Typ.in_ok j1).2
      refine ⟨Typ.in_trans j1 i1, fun u hu => ?_, i3⟩
      rcases List.mem_cons.1 hu with rfl | hu
      · exact Typ.in_trans j2 i1
      · exact i2 u hu
theorem tyF_none : ∀ (ts : List Typ.Ty), (∀ t ∈ ts, Typ.okB t.1 t.2 = true) → (∀ t ∈ ts, Typ.inB t (tyF none ts, 0) = true) ∧ 0 ≤ tyF none ts ∧ tyF none ts ≤ 3
  | [], _ => ⟨fun t ht => absurd ht (by simp), by decide, by decide⟩
  | t :: r, h => by
    have := tyF_up (t :: r) t h (h t (by simp))
    exact this.2
theorem ok_typeOf (A : Val) : ∀ m, okT m A = true → Typ.okB (typeOf A).1 (typeOf A).2 = true := by
  induction A using val_ind with
  | h A ih =>
    intro m hA
    obtain ⟨oA, cA⟩ := okT_ok hA
    have F := ok1_facts oA
    have k0 := F.1
    rw [typeOf_eq]
    by_cases a1 : A.k = 1 ∨ A.k = 2 ∨ A.k = 3
    · rw [if_pos a1, Typ.ok_iff]; exact .inl ⟨show 0 ≤ A.k by omega, show A.k ≤ 3 by omega, rfl⟩
    · rw [if_neg a1]
      by_cases a4 : A.k = 4 ∨ A.k = 5
      · rw [if_pos a4, Typ.ok_iff]
        have := tyF_none ((els A).map typeOf) (fun t ht => by
          obtain ⟨x, hx, rfl⟩ := List.mem_map.1 ht
          obtain ⟨mx, hm⟩ := cA x (els_mem hx)
          exact ih x (els_mem hx) mx hm)
        exact .inr ⟨a4, this.2⟩
      · rw [if_neg a4]
        by_cases a6 : A.k = 6
        · rw [if_pos a6]; exact F.2.2.2.2.2.2.1 a6
        · rw [if_neg a6]; decide
theorem fits_typeOf (A : Val) : ∀ m, okT m A = true → fits A (typeOf A).1 (typeOf A).2 = true := by
  induction A using val_ind with
  | h A ih =>
    intro m hA
    obtain ⟨oA, cA⟩ := okT_ok hA
    have k0 := (ok1_facts oA).1
    have hF := (ok1_facts oA).2.2.2.2.2.2.1
    rw [typeOf_eq, fits_eq]
    by_cases a1 : A.k = 1 ∨ A.k = 2 ∨ A.k = 3
    · rw [if_pos a1, if_neg (by simp only; omega), if_neg (by omega), if_pos a1]; simp
    · rw [if_neg a1, if_neg a1]
      by_cases a4 : A.k = 4 ∨ A.k = 5
      · rw [if_pos a4, if_neg (by simp only; omega), if_neg (by omega), if_pos a4, Bool.and_eq_true]
        refine ⟨by simp, List.all_eq_true.2 fun x hx => ?_⟩
        obtain ⟨mx, hm⟩ := cA x (els_mem hx)
        have T := tyF_none ((els A).map typeOf) (fun t ht => by
          obtain ⟨y, hy, rfl⟩ := List.mem_map.1 ht
          obtain ⟨my, hmy⟩ := cA y (els_mem hy)
          exact ok_typeOf y my hmy)
        exact fits_mono (ih x (els_mem hx) mx hm) (T.1 _ (List.mem_map.2 ⟨x, hx, rfl⟩))
      · rw [if_neg a4, if_neg a4]
        by_cases a6 : A.k = 6
        · rw [if_pos a6]
          by_cases t0 : A.tk = 0
          · rw [if_pos t0]
          · rw [if_neg t0, if_neg (by omega), if_pos a6]; exact Typ.in_self (hF a6)
        · rw [if_neg a6, if_pos rfl]
theorem ref_self (A : Val) : ∀ m, okT m A = true → refV A A = true := by
  induction A using val_ind with
  | h A ih =>
    intro m hA
    obtain ⟨oA, cA⟩ := okT_ok hA
    have k0 := (ok1_facts oA).1
    have hF := (ok1_facts oA).2.2.2.2.2.2.1
    have hl : eqL refV (els A) (els A) = true := eqL_yes rfl (fun j X Y hX hY => by
      rw [hX] at hY; injection hY with hY; subst hY
      have hm := els_mem (List.mem_of_getElem? hX)
      obtain ⟨mx, hx⟩ := cA X hm
      exact ih X hm mx hx)
    by_cases a6 : A.k = 6
    · rw [refV_eq]; unfold refRaw; rw [if_pos a6, fits_eq]
      by_cases t0 : A.tk = 0
      · rw [if_pos t0]
      · rw [if_neg t0, if_neg (by omega), if_neg (by omega), if_neg (by omega), if_pos a6]; exact Typ.in_self (hF a6)
    · refine ref_mk a6 rfl ?_
      by_cases h0 : A.k = 0
      · exact .inl h0
      · by_cases h1 : A.k = 1 ∨ A.k = 2
        · exact .inr (.inl ⟨h1, rfl⟩)
        · by_cases h3 : A.k = 3
          · exact .inr (.inr (.inl ⟨h3, rfl⟩))
          · by_cases h5 : A.k = 5
            · exact .inr (.inr (.inr (.inl ⟨h5, rfl, hl⟩)))
            · exact .inr (.inr (.inr (.inr ⟨by omega, hl⟩)))
/-- what is unknown of a type, and nothing else -/
abbrev unk (a b : Int) : Val := flat 6 0 ⟨#[]⟩ a b
theorem ref_unk (A : Val) (a b : Int) : refV A (unk a b) = fits A a b := by
  rw [refV_eq]; unfold refRaw; rw [if_pos (show (unk a b).k = 6 from rfl)]; rfl
theorem wf_small {a : Int} (h : 0 ≤ a ∧ a ≤ 5) : (Lit.int .i64 a).wf = true := by
  obtain rfl | rfl | rfl | rfl | rfl | rfl : a = 0 ∨ a = 1 ∨ a = 2 ∨ a = 3 ∨ a = 4 ∨ a = 5 := by omega
  all_goals rfl
theorem sz_unk (a b : Int) : sz (unk a b) = 1 := rfl
theorem unk_lies (n : Nat) (w : World) {a b : Int} (h : Typ.okB a b = true) : Lies n w (unk a b) (vv 6 0 ⟨#[]⟩ (.slice none 0 0) (.slice none 0 0) a b false) := by
  have := (Typ.ok_iff a b).1 h
  exact flat_lies _ _ rfl rfl (wf_small (by omega)) (wf_small (by omega)) (Nat.zero_le _)
end Go.Proofs.Ytfgkkccgecnchaa
