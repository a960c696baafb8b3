/- The tokens of a text that is cut off: all but the last one are the whole text's. No Go in sight. -/
import Derived.Test.YtncjncacfagldaaDoorWXN
namespace Go.Proofs.YtncjncacfagldaaDoor
open Go.RowKit Go.Lib

theorem take_app (p : Nat → Bool) (y : List UInt8) : ∀ x : List UInt8, dropP p x ≠ [] → takeP p (x ++ y) = takeP p x ∧ dropP p (x ++ y) = dropP p x ++ y
  | [], h => absurd rfl h
  | c :: r, h => by
    have ih := take_app p y r
    unfold takeP dropP at *
    rw [List.dropWhile_cons] at h
    rw [List.cons_append, List.takeWhile_cons, List.dropWhile_cons, List.takeWhile_cons, List.dropWhile_cons]
    cases hc : p c.toNat with
    | true =>
      rw [hc] at h
      simp only [if_true] at h ⊢
      obtain ⟨h1, h2⟩ := ih h
      rw [h1, h2]; exact ⟨rfl, rfl⟩
    | false => exact ⟨rfl, rfl⟩
theorem skip_nil : skip [] = [] := rfl
theorem skip_app (y : List UInt8) : ∀ (n : Nat) (x : List UInt8), x.length ≤ n → skip x ≠ [] → skip (x ++ y) = skip x ++ y := by
  intro n
  induction n with
  | zero =>
    intro x h h0
    have : x = [] := List.eq_nil_of_length_eq_zero (by omega)
    subst this
    exact absurd skip_nil h0
  | succ n ih =>
    intro x h h0
    cases hx : dropP isBlank x with
    | nil => exact absurd (by unfold skip; rw [hx]; cases x.length <;> rfl) h0
    | cons c r =>
      have hb := (take_app isBlank y x (by rw [hx]; simp)).2
      rw [hx, List.cons_append] at hb
      by_cases hc : c = 35
      · subst hc
        obtain ⟨e1, l1⟩ := skip_remark x r hx
        obtain ⟨e2, l2⟩ := skip_remark _ _ hb
        have hd : dropP isRemark (35 :: r) ≠ [] := fun hd => by rw [e1, hd] at h0; exact h0 skip_nil
        rw [e1] at h0
        rw [e1, e2, ← List.cons_append, (take_app isRemark y (35 :: r) hd).2]
        exact ih _ (by omega) h0
      · rw [skip_other x r c hx hc, skip_other _ _ c hb hc, List.cons_append]
theorem tk_app {c d : UInt8} {r : List UInt8} {m : Nat} {q : UInt8 ⊕ List UInt8} (y : List UInt8) (h : tk (c :: d :: r) = some (m, q)) : tk (c :: d :: r ++ y) = some (m, q) := by
  by_cases h1 : c = 92
  · subst h1
    rw [tk_e1] at h
    rw [List.cons_append, List.cons_append, tk_e1]
    exact h
  · by_cases h2 : c = 36 ∧ (d :: r).head? = some 123
    · obtain ⟨rfl, h2⟩ := h2
      have h2' : (d :: r ++ y).head? = some 123 := h2
      rw [tk_x _ h2] at h
      have h : (if (dropP isInner r).head? = some 125 then some (3 + (takeP isInner r).length, Sum.inr (takeP isInner r)) else none) = some (m, q) := h
      have e3 : tk (36 :: (d :: r ++ y)) = if (dropP isInner (r ++ y)).head? = some 125 then some (3 + (takeP isInner (r ++ y)).length, .inr (takeP isInner (r ++ y))) else none := tk_x _ h2'
      rw [List.cons_append, e3]
      by_cases h3 : (dropP isInner r).head? = some 125
      · obtain ⟨e1, e2⟩ := take_app isInner y r (fun hn => by rw [hn] at h3; cases h3)
        rw [if_pos h3] at h
        rw [e1, e2, if_pos (by rw [List.head?_append, h3]; rfl)]
        exact h
      · rw [if_neg h3] at h; cases h
    · rw [tk_b c _ h1 h2] at h
      rw [List.cons_append, tk_b _ _ h1 (fun ⟨g1, g2⟩ => h2 ⟨g1, by simpa using g2⟩)]
      exact h
theorem strL_app (y : List UInt8) : ∀ (f : Nat) (l : List UInt8) (p : Plc) (b : List UInt8) (ps : List Prt) (n : Nat) (a : List Prt) (m : Nat) (r : List UInt8) (g : Nat), strL f l p b ps n = some (a, m, r) → f ≤ g → strL g (l ++ y) p b ps n = some (a, m, r ++ y)
  | 0, _, _, _, _, _, _, _, _, _, h, _ => by cases h
  | f + 1, [], _, _, _, _, _, _, _, _, h, _ => by cases h
  | f + 1, c :: t, p, b, ps, n, a, m, r, g, h, hg => by
    obtain ⟨g, rfl⟩ : ∃ k, g = k + 1 := ⟨g - 1, by omega⟩
    rw [strL_cons] at h
    rw [List.cons_append, strL_cons]
    split at h
    · cases h
    · rename_i h10
      rw [if_neg h10]
      split at h
      · rename_i h34
        rw [if_pos h34]
        simp only [Option.some.injEq, Prod.mk.injEq] at h ⊢
        exact ⟨h.1, h.2.1, by rw [h.2.2]⟩
      · rename_i h34
        rw [if_neg h34]
        cases ht : tk (c :: t) with
        | none => rw [ht] at h; cases h
        | some q =>
          obtain ⟨k, q⟩ := q
          rw [ht] at h
          obtain ⟨k1, k2⟩ := tk_len ht
          cases t with
          | nil =>
            simp only [] at h
            rw [List.drop_eq_nil_of_le (by simp only [List.length_cons, List.length_nil]; omega)] at h
            cases f with
            | zero => cases h
            | succ f => cases h
          | cons d t =>
            have ht2 := tk_app y ht
            rw [← List.cons_append, ht2]
            simp only at h ⊢
            have e1 : (c :: d :: t ++ y).drop k = (c :: d :: t).drop k ++ y := List.drop_append_of_le_length k2
            have e2 : (c :: d :: t ++ y).take k = (c :: d :: t).take k := List.take_append_of_le_length k2
            have e3 : (c :: d :: t ++ y).take 2 = (c :: d :: t).take 2 := rfl
            rw [e1, e2, e3]
            exact strL_app y f _ _ _ _ _ _ _ _ g h (by omega)
theorem tokL_app {p : Plc} {l r : List UInt8} {t : Tkn} (y : List UInt8) (h : tokL p l = .ok (t, r)) (hr : r ≠ []) : tokL p (l ++ y) = .ok (t, r ++ y) := by
  cases l with
  | nil => cases h
  | cons c x =>
    rw [← tokL_eq] at h
    rw [List.cons_append, ← tokL_eq, ← List.cons_append]
    by_cases hl : isLetter c.toNat = true
    · rw [if_pos hl] at h ⊢
      split at h
      · cases h
      · rename_i h0
        simp only [Except.ok.injEq, Prod.mk.injEq] at h
        obtain ⟨e1, e2⟩ := take_app isWord y (c :: x) (by rw [h.2]; exact hr)
        rw [e1, e2, if_neg h0]
        simp only [Except.ok.injEq, Prod.mk.injEq]
        exact ⟨h.1, by rw [h.2]⟩
    · rw [if_neg hl] at h ⊢
      by_cases hd : isDgt c.toNat = true
      · rw [if_pos hd] at h ⊢
        split at h
        · rename_i h0
          simp only [Except.ok.injEq, Prod.mk.injEq] at h
          obtain ⟨e1, e2⟩ := take_app isWord y (c :: x) (by rw [h.2]; exact hr)
          rw [e1, e2, if_pos h0]
          simp only [Except.ok.injEq, Prod.mk.injEq]
          exact ⟨h.1, by rw [h.2]⟩
        · cases h
      · rw [if_neg hd] at h ⊢
        split at h
        · rename_i h0
          rw [if_pos h0]
          cases hs : strL (x.length + 1) x (p.step c) [] [] 0 with
          | none => rw [hs] at h; cases h
          | some S =>
            obtain ⟨a, m, z⟩ := S
            rw [hs] at h
            rw [strL_app y _ _ _ _ _ _ _ _ _ ((x ++ y).length + 1) hs (by simp)]
            unfold strE at h ⊢
            simp only at h ⊢
            split at h
            · cases h
            · rename_i h1
              rw [if_neg h1]
              simp only [Except.ok.injEq, Prod.mk.injEq] at h ⊢
              exact ⟨h.1, by rw [h.2]⟩
        · rename_i h0
          rw [if_neg h0]
          have hg := sgn_le (c :: x)
          split at h
          · cases h
          · rename_i h1
            simp only [Except.ok.injEq, Prod.mk.injEq] at h
            cases x with
            | nil =>
              exfalso
              apply hr
              rw [← h.2]
              have : sgn [c] ≠ 0 := h1
              exact List.drop_eq_nil_of_le (by simp only [List.length_cons, List.length_nil]; omega)
            | cons d x =>
              have hs : sgn (c :: d :: x ++ y) = sgn (c :: d :: x) := rfl
              rw [hs, if_neg h1]
              simp only [Except.ok.injEq, Prod.mk.injEq]
              refine ⟨?_, ?_⟩
              · rw [List.take_append_of_le_length hg]; exact h.1
              · rw [List.drop_append_of_le_length hg, h.2]
theorem allL_ne {f : Nat} {p : Plc} {l : List UInt8} {ts : List Tkn} (h : allL f p l = .ok ts) : 1 ≤ ts.length := by
  obtain ⟨xs, e, rfl, -, -⟩ := allL_kinds _ _ _ _ h
  simp
/-- all tokens but the last one of what is ahead -/
theorem allL_cut (y : List UInt8) : ∀ (f : Nat) (x : List UInt8) (p : Plc) (ts : List Tkn) (g : Nat) (us : List Tkn), allL f p x = .ok ts → allL g p (x ++ y) = .ok us → ts.length ≤ us.length ∧ ∀ i, i + 2 < ts.length → us[i]? = ts[i]?
  | 0, _, _, _, _, _, h, _ => by cases h
  | _ + 1, _, _, _, 0, _, _, h => by cases h
  | f + 1, x, p, ts, g + 1, us, h, h2 => by
    have hu := allL_ne h2
    rw [allL] at h
    cases hs : skip x with
    | nil =>
      rw [hs] at h
      simp only [Except.ok.injEq] at h
      subst h
      exact ⟨hu, fun i hi => by simp at hi⟩
    | cons c r =>
      rw [hs] at h
      simp only at h
      have hsl := (skip_suf x).length_le
      rw [hs, List.length_cons] at hsl
      have hk := skip_app y x.length x (Nat.le_refl _) (by rw [hs]; simp)
      rw [hs, List.cons_append] at hk
      have cut2 : ∀ n, n ≤ x.length → (x ++ y).take ((x ++ y).length - (n + y.length)) = x.take (x.length - n) := fun n hn => by
        rw [List.length_append, List.take_append_of_le_length (by omega)]
        congr 1; omega
      rw [allL, hk] at h2
      simp only at h2
      rw [show (r ++ y).length + 1 = (r.length + 1) + y.length by simp; omega, cut2 _ hsl] at h2
      cases ht : tokL (p.adv (x.take (x.length - (r.length + 1)))) (c :: r) with
      | error e => rw [ht] at h; cases h
      | ok tr =>
        obtain ⟨t, z⟩ := tr
        rw [ht] at h
        simp only at h
        obtain ⟨q1, q2, -⟩ := tokL_suf ht
        simp only [List.length_cons] at q2
        cases hx : allL f (p.adv (x.take (x.length - z.length))) z with
        | error e => rw [hx] at h; cases h
        | ok ts' =>
          rw [hx] at h
          simp only [Except.ok.injEq] at h
          subst h
          cases ht2 : tokL (p.adv (x.take (x.length - (r.length + 1)))) (c :: (r ++ y)) with
          | error e => rw [ht2] at h2; cases h2
          | ok tr2 =>
            obtain ⟨t2, z2⟩ := tr2
            rw [ht2] at h2
            simp only at h2
            cases hx2 : allL g (p.adv ((x ++ y).take ((x ++ y).length - z2.length))) z2 with
            | error e => rw [hx2] at h2; cases h2
            | ok us' =>
              rw [hx2] at h2
              simp only [Except.ok.injEq] at h2
              subst h2
              have hn2 := allL_ne hx2
              by_cases hz : z = []
              · subst hz
                have e0 : ts'.length = 1 := by
                  cases f with
                  | zero => cases hx
                  | succ f =>
                    rw [allL, skip_nil] at hx
                    simp only [Except.ok.injEq] at hx
                    rw [← hx]; rfl
                simp only [List.length_cons]
                exact ⟨by omega, fun i hi => by omega⟩
              · have ht3 := tokL_app y ht hz
                rw [List.cons_append, ht2] at ht3
                simp only [Except.ok.injEq, Prod.mk.injEq] at ht3
                obtain ⟨rfl, rfl⟩ := ht3
                rw [show (z ++ y).length = z.length + y.length by simp, cut2 _ (by omega)] at hx2
                obtain ⟨i1, i2⟩ := allL_cut y f z _ ts' g us' hx hx2
                simp only [List.length_cons]
                refine ⟨by omega, fun i hi => ?_⟩
                cases i with
                | zero => rfl
                | succ i => simpa using i2 i (by omega)
theorem lex_cut {x y : List UInt8} {ts us : List Tkn} (h : lexL x = .ok ts) (h2 : lexL (x ++ y) = .ok us) : ts.length ≤ us.length ∧ ∀ i, i + 2 < ts.length → us[i]? = ts[i]? := by
  unfold lexL at h h2
  split at h
  · cases h
  · split at h2
    · cases h2
    · exact allL_cut y _ _ _ _ _ _ h h2
end Go.Proofs.YtncjncacfagldaaDoor
