/- Tokens of joined texts, in plain words. -/
import Derived.Test.YtejpbebfkogmfaaDoorTc
namespace Go.Proofs.YtejpbebfkogmfaaDoor
open Go.RowKit

/-- a line feed ends what a class takes -/
theorem take_dropP_lf (p : Nat → Bool) (hp : p 10 = false) (y : List UInt8) : ∀ x : List UInt8, takeP p (x ++ 10 :: y) = takeP p x ∧ dropP p (x ++ 10 :: y) = dropP p x ++ 10 :: y
  | [] => by
    unfold takeP dropP
    have h : p (UInt8.toNat 10) = false := hp
    constructor
    · rw [List.nil_append, List.takeWhile_cons, h]; rfl
    · rw [List.nil_append, List.dropWhile_cons, h]; rfl
  | c :: r => by
    obtain ⟨h1, h2⟩ := take_dropP_lf p hp y r
    unfold takeP dropP at *
    rw [List.cons_append, List.takeWhile_cons, List.dropWhile_cons, List.takeWhile_cons, List.dropWhile_cons, h1, h2]
    cases p c.toNat
    · exact ⟨rfl, rfl⟩
    · exact ⟨rfl, rfl⟩
theorem dropP_blank (y : List UInt8) : ∀ x : List UInt8, dropP isBlank (x ++ 10 :: y) = if dropP isBlank x = [] then dropP isBlank y else dropP isBlank x ++ 10 :: y
  | [] => by
    unfold dropP
    rw [List.nil_append, List.dropWhile_cons, show isBlank (10 : UInt8).toNat = true from rfl]
    rfl
  | c :: r => by
    have ih := dropP_blank y r
    unfold dropP at *
    rw [List.cons_append, List.dropWhile_cons, List.dropWhile_cons, ih]
    cases isBlank c.toNat
    · rfl
    · rfl
theorem skc_fuel : ∀ (f : Nat) (l : List UInt8) (g : Nat), l.length ≤ f → l.length ≤ g → skc f l = skc g l
  | 0, l, g, h, _ => by
    have : l = [] := List.eq_nil_of_length_eq_zero (by omega)
    subst this
    cases g <;> rfl
  | f + 1, [], g, _, _ => by cases g <;> rfl
  | f + 1, c :: r, g, h, hg => by
    cases g with
    | zero => simp at hg
    | succ g =>
      simp only [List.length_cons] at h hg
      rw [skc, skc]
      split
      · rename_i hc
        subst hc
        have e : dropP isRemark (35 :: r) = dropP isRemark r := by unfold dropP; rw [List.dropWhile_cons]; rfl
        have h1 := dropP_le isBlank (dropP isRemark (35 :: r))
        rw [e] at h1 ⊢
        have h2 := dropP_le isRemark r
        exact skc_fuel f _ g (by omega) (by omega)
      · rfl
theorem skip_remark (l r : List UInt8) (h : dropP isBlank l = 35 :: r) : skip l = skip (dropP isRemark (35 :: r)) ∧ (dropP isRemark (35 :: r)).length < l.length := by
  have h0 := dropP_le isBlank l
  rw [h] at h0
  have e : dropP isRemark (35 :: r) = dropP isRemark r := by unfold dropP; rw [List.dropWhile_cons]; rfl
  have h2 := dropP_le isRemark r
  simp only [List.length_cons] at h0
  rw [e]
  refine ⟨?_, by omega⟩
  unfold skip
  rw [h]
  obtain ⟨n, hn⟩ : ∃ n, l.length = n + 1 := ⟨l.length - 1, by omega⟩
  rw [hn, skc, if_pos rfl, e]
  have h1 := dropP_le isBlank (dropP isRemark r)
  exact skc_fuel _ _ _ (by omega) (by omega)
theorem skip_other (l r : List UInt8) (c : UInt8) (h : dropP isBlank l = c :: r) (hc : c ≠ 35) : skip l = c :: r := by
  unfold skip
  have h0 := dropP_le isBlank l
  rw [h] at h0 ⊢
  simp only [List.length_cons] at h0
  obtain ⟨n, hn⟩ : ∃ n, l.length = n + 1 := ⟨l.length - 1, by omega⟩
  rw [hn, skc, if_neg hc]
theorem skip_lf (y : List UInt8) : ∀ (n : Nat) (x : List UInt8), x.length ≤ n → skip (x ++ 10 :: y) = if skip x = [] then skip y else skip x ++ 10 :: y := by
  intro n
  induction n with
  | zero =>
    intro x h
    have : x = [] := List.eq_nil_of_length_eq_zero (by omega)
    subst this
    have e0 : skip [] = [] := rfl
    have e1 : dropP isBlank [] = [] := rfl
    rw [if_pos e0]
    unfold skip
    rw [dropP_blank, if_pos e1]
    have := dropP_le isBlank y
    exact skc_fuel _ _ _ (by simp only [List.length_append, List.length_cons]; omega) (by omega)
  | succ n ih =>
    intro x h
    have hb := dropP_blank y x
    cases hx : dropP isBlank x with
    | nil =>
      have e : skip x = [] := by unfold skip; rw [hx]; cases x.length <;> rfl
      rw [if_pos e]
      rw [hx, if_pos rfl] at hb
      unfold skip
      rw [hb]
      have := dropP_le isBlank y
      exact skc_fuel _ _ _ (by simp only [List.length_append, List.length_cons]; omega) (by omega)
    | cons c r =>
      rw [hx, if_neg (by simp), List.cons_append] at hb
      by_cases hc : c = 35
      · subst hc
        obtain ⟨e1, l1⟩ := skip_remark x r hx
        obtain ⟨e2, l2⟩ := skip_remark _ _ hb
        rw [e1, e2, ← List.cons_append, (take_dropP_lf isRemark rfl y (35 :: r)).2]
        exact ih _ (by omega)
      · rw [skip_other x r c hx hc, if_neg (by simp), skip_other _ _ c hb hc, List.cons_append]
theorem tk_lf {l : List UInt8} {m : Nat} {q : UInt8 ⊕ List UInt8} (y : List UInt8) (h : tk l = some (m, q)) : tk (l ++ 10 :: y) = some (m, q) := by
  cases l with
  | nil => cases h
  | cons c r =>
    by_cases h1 : c = 92
    · subst h1
      cases r with
      | nil => cases h
      | cons d r' => rw [tk_e1] at h; rw [List.cons_append, List.cons_append, tk_e1]; exact h
    · by_cases h2 : c = 36 ∧ r.head? = some 123
      · obtain ⟨rfl, h2⟩ := h2
        rw [tk_x r h2] at h
        cases r with
        | nil => cases h2
        | cons d r' =>
          have h2' : (d :: r' ++ 10 :: y).head? = some 123 := h2
          have h : (if (dropP isInner r').head? = some 125 then some (3 + (takeP isInner r').length, Sum.inr (takeP isInner r')) else none) = some (m, q) := h
          have e3 : tk (36 :: (d :: r' ++ 10 :: y)) = if (dropP isInner (r' ++ 10 :: y)).head? = some 125 then some (3 + (takeP isInner (r' ++ 10 :: y)).length, .inr (takeP isInner (r' ++ 10 :: y))) else none := tk_x _ h2'
          obtain ⟨e1, e2⟩ := take_dropP_lf isInner rfl y r'
          rw [List.cons_append, e3, e1, e2]
          by_cases h3 : (dropP isInner r').head? = some 125
          · rw [if_pos h3] at h
            rw [if_pos (by rw [List.head?_append, h3]; rfl)]
            exact h
          · rw [if_neg h3] at h; cases h
      · rw [tk_b c r h1 h2] at h
        rw [List.cons_append, tk_b _ _ h1 (fun ⟨g1, g2⟩ => h2 ⟨g1, by
          cases r with
          | nil => simp at g2
          | cons d r' => simpa using g2⟩)]
        exact h
/-- a string with more behind it -/
theorem strL_lf (y : List UInt8) : ∀ (f : Nat) (l : List UInt8) (p : Plc) (b : List UInt8) (ps : List Prt) (n : Nat) (a : List Prt) (m : Nat) (r : List UInt8) (g : Nat), strL f l p b ps n = some (a, m, r) → f ≤ g → strL g (l ++ 10 :: y) p b ps n = some (a, m, r ++ 10 :: y)
  | 0, _, _, _, _, _, _, _, _, _, h, _ => by cases h
  | f + 1, [], _, _, _, _, _, _, _, _, h, _ => by cases h
  | f + 1, c :: t, p, b, ps, n, a, m, r, g, h, hg => by
    obtain ⟨g, rfl⟩ : ∃ k, g = k + 1 := ⟨g - 1, by omega⟩
    rw [strL_cons] at h
    rw [List.cons_append, strL_cons]
    split at h
    · cases h
    · rename_i h10
      rw [if_neg h10]
      split at h
      · rename_i h34
        rw [if_pos h34]
        simp only [Option.some.injEq, Prod.mk.injEq] at h ⊢
        exact ⟨h.1, h.2.1, by rw [h.2.2]⟩
      · rename_i h34
        rw [if_neg h34]
        cases ht : tk (c :: t) with
        | none => rw [ht] at h; cases h
        | some q =>
          obtain ⟨k, q⟩ := q
          rw [ht] at h
          have ht2 := tk_lf y ht
          obtain ⟨k1, k2⟩ := tk_len ht
          rw [← List.cons_append, ht2]
          simp only at h ⊢
          have e1 : (c :: t ++ 10 :: y).drop k = (c :: t).drop k ++ 10 :: y := List.drop_append_of_le_length k2
          have e2 : (c :: t ++ 10 :: y).take k = (c :: t).take k := List.take_append_of_le_length k2
          have e3 : tkP (p.adv ((c :: t ++ 10 :: y).take 2)) ps b q = tkP (p.adv ((c :: t).take 2)) ps b q := by
            cases q with
            | inl x => rfl
            | inr e =>
              cases t with
              | nil =>
                have : tk [c] ≠ some (k, .inr e) := by
                  rw [tk_cons]
                  split
                  · simp
                  · rw [if_neg (fun ⟨_, g2⟩ => by simp at g2)]; simp
                exact absurd ht this
              | cons d t => rfl
          rw [e1, e2, e3]
          exact strL_lf y f _ _ _ _ _ _ _ _ g h (by omega)
/-- a string's size and number of pieces don't hang on its place -/
theorem strL_p : ∀ (f : Nat) (l : List UInt8) (p p' : Plc) (b : List UInt8) (ps ps' : List Prt) (n : Nat), ps.length = ps'.length → (strL f l p b ps n).map (fun x => (x.1.length, x.2)) = (strL f l p' b ps' n).map (fun x => (x.1.length, x.2))
  | 0, _, _, _, _, _, _, _, _ => rfl
  | f + 1, [], _, _, _, _, _, _, _ => rfl
  | f + 1, c :: t, p, p', b, ps, ps', n, h => by
    rw [strL_cons, strL_cons]
    split
    · rfl
    · split
      · have : (flush ps b).length = (flush ps' b).length := by unfold flush; split <;> simp [h]
        simp [this]
      · cases ht : tk (c :: t) with
        | none => rfl
        | some q =>
          obtain ⟨k, q⟩ := q
          simp only
          refine strL_p f _ _ _ _ _ _ _ ?_
          cases q with
          | inl x => exact h
          | inr e => show (flush ps b ++ _).length = (flush ps' b ++ _).length; unfold flush; split <;> simp [h]
theorem two_lf (c : UInt8) : two c 10 = false := by
  unfold two
  simp
theorem sgn_lf (c : UInt8) (r y : List UInt8) : sgn (c :: r ++ 10 :: y) = sgn (c :: r) := by
  cases r with
  | nil =>
    show (if two c 10 = true then 2 else if isMark c.toNat then 1 else 0) = if false = true then 2 else if isMark c.toNat then 1 else 0
    rw [two_lf]
  | cons d r => rfl
theorem tokL_lf {p : Plc} {l r : List UInt8} {t : Tkn} (y : List UInt8) (h : tokL p l = .ok (t, r)) : tokL p (l ++ 10 :: y) = .ok (t, r ++ 10 :: y) := by
  cases l with
  | nil => cases h
  | cons c x =>
    rw [← tokL_eq] at h
    rw [List.cons_append, ← tokL_eq, ← List.cons_append]
    obtain ⟨e1, e2⟩ := take_dropP_lf isWord rfl y (c :: x)
    rw [e1, e2]
    by_cases hl : isLetter c.toNat = true
    · rw [if_pos hl] at h ⊢
      split at h
      · cases h
      · rename_i h0
        rw [if_neg h0]
        simp only [Except.ok.injEq, Prod.mk.injEq] at h ⊢
        exact ⟨h.1, by rw [h.2]⟩
    · rw [if_neg hl] at h ⊢
      by_cases hd : isDgt c.toNat = true
      · rw [if_pos hd] at h ⊢
        split at h
        · rename_i h0
          rw [if_pos h0]
          simp only [Except.ok.injEq, Prod.mk.injEq] at h ⊢
          exact ⟨h.1, by rw [h.2]⟩
        · cases h
      · rw [if_neg hd] at h ⊢
        split at h
        · rename_i h0
          rw [if_pos h0]
          cases hs : strL (x.length + 1) x (p.step c) [] [] 0 with
          | none => rw [hs] at h; cases h
          | some S =>
            obtain ⟨a, m, z⟩ := S
            rw [hs] at h
            rw [strL_lf y _ _ _ _ _ _ _ _ _ ((x ++ 10 :: y).length + 1) hs (by simp)]
            unfold strE at h ⊢
            simp only at h ⊢
            split at h
            · cases h
            · rename_i h1
              rw [if_neg h1]
              simp only [Except.ok.injEq, Prod.mk.injEq] at h ⊢
              exact ⟨h.1, by rw [h.2]⟩
        · rename_i h0
          rw [if_neg h0, sgn_lf]
          have hg := sgn_le (c :: x)
          split at h
          · cases h
          · rename_i h1
            rw [if_neg h1]
            simp only [Except.ok.injEq, Prod.mk.injEq] at h ⊢
            refine ⟨?_, ?_⟩
            · rw [List.take_append_of_le_length hg]; exact h.1
            · rw [List.drop_append_of_le_length hg, h.2]
/-- the same token at another place -/
structure Sim (t u : Tkn) : Prop where
  k : u.k = t.k
  s : u.s = t.s
  n : u.n = t.n
  ps : u.ps.length = t.ps.length
theorem tokL_p (p p' : Plc) (l : List UInt8) : (∃ e, tokL p l = .error e ∧ tokL p' l = .error e) ∨ ∃ t u r, tokL p l = .ok (t, r) ∧ tokL p' l = .ok (u, r) ∧ Sim t u ∧ u.p = p' ∧ t.p = p := by
  cases l with
  | nil => exact .inl ⟨0, rfl, rfl⟩
  | cons c x =>
    rw [← tokL_eq, ← tokL_eq]
    split
    · split
      · exact .inl ⟨_, rfl, rfl⟩
      · exact .inr ⟨_, _, _, rfl, rfl, ⟨rfl, rfl, rfl, rfl⟩, rfl, rfl⟩
    · split
      · split
        · exact .inr ⟨_, _, _, rfl, rfl, ⟨rfl, rfl, rfl, rfl⟩, rfl, rfl⟩
        · exact .inl ⟨_, rfl, rfl⟩
      · split
        · have h := strL_p (x.length + 1) x (p.step c) (p'.step c) [] [] [] 0 rfl
          cases h1 : strL (x.length + 1) x (p.step c) [] [] 0 with
          | none =>
            cases h2 : strL (x.length + 1) x (p'.step c) [] [] 0 with
            | none => exact .inl ⟨4, rfl, rfl⟩
            | some S => rw [h1, h2] at h; cases h
          | some S =>
            cases h2 : strL (x.length + 1) x (p'.step c) [] [] 0 with
            | none => rw [h1, h2] at h; cases h
            | some S' =>
              obtain ⟨a, m, r⟩ := S
              obtain ⟨a', m', r'⟩ := S'
              rw [h1, h2] at h
              simp only [Option.map_some, Option.some.injEq, Prod.mk.injEq] at h
              obtain ⟨g1, rfl, rfl⟩ := h
              unfold strE
              simp only
              split
              · exact .inl ⟨3, rfl, rfl⟩
              · exact .inr ⟨_, _, _, rfl, rfl, ⟨rfl, rfl, rfl, g1.symm⟩, rfl, rfl⟩
        · split
          · exact .inl ⟨_, rfl, rfl⟩
          · exact .inr ⟨_, _, _, rfl, rfl, ⟨rfl, rfl, rfl, rfl⟩, rfl, rfl⟩
theorem Plc.adv_c_eq {p p' : Plc} (h : p'.c = p.c) (l : List UInt8) : (p'.adv l).c = (p.adv l).c := by
  induction l generalizing p p' with
  | nil => exact h
  | cons c r ih =>
    show ((p'.step c).adv r).c = ((p.step c).adv r).c
    refine ih ?_
    unfold Plc.step
    split <;> simp [h]
/-- the same token, so many bytes on, at the same byte of its line -/
structure Mov (m : Nat) (t u : Tkn) : Prop where
  sim : Sim t u
  a : u.p.a = t.p.a + m
  c : u.p.c = t.p.c
def MovR (m : Nat) (x y : Except (Nat × Plc) (List Tkn)) : Prop := match x with
  | .error (e, p) => ∃ q, y = .error (e, q) ∧ q.a = p.a + m ∧ q.c = p.c
  | .ok ts => ∃ us, y = .ok us ∧ us.length = ts.length ∧ ∀ (i : Nat) (t : Tkn), ts[i]? = some t → ∃ u : Tkn, us[i]? = some u ∧ Mov m t u
theorem allL_mov (m : Nat) : ∀ (f g : Nat) (l : List UInt8) (p p' : Plc), p'.a = p.a + m → p'.c = p.c → l.length < f → l.length < g → MovR m (allL f p l) (allL g p' l)
  | 0, _, _, _, _, _, _, h, _ => by omega
  | f + 1, 0, _, _, _, _, _, _, h => by omega
  | f + 1, g + 1, l, p, p', ha, hc, h1, h2 => by
    have sa : ∀ x, (p'.adv x).a = (p.adv x).a + m := fun x => by rw [Plc.adv_a, Plc.adv_a, ha]; omega
    have sc : ∀ x, (p'.adv x).c = (p.adv x).c := fun x => Plc.adv_c_eq hc x
    rw [allL, allL]
    cases hs : skip l with
    | nil =>
      refine ⟨_, rfl, rfl, fun i t ht => ?_⟩
      cases i with
      | zero =>
        simp only [List.getElem?_cons_zero, Option.some.injEq] at ht
        subst ht
        exact ⟨_, rfl, ⟨rfl, rfl, rfl, rfl⟩, sa _, sc _⟩
      | succ i => simp at ht
    | cons c r =>
      simp only
      have hsl := (skip_suf l).length_le
      rw [hs] at hsl
      rcases tokL_p (p.adv (l.take (l.length - (r.length + 1)))) (p'.adv (l.take (l.length - (r.length + 1)))) (c :: r) with ⟨e, e1, e2⟩ | ⟨t, u, z, e1, e2, hS, hu, ht⟩
      · rw [e1, e2]
        exact ⟨_, rfl, sa _, sc _⟩
      · rw [e1, e2]
        simp only
        obtain ⟨q1, q2, -⟩ := tokL_suf e1
        have ih := allL_mov m f g z (p.adv (l.take (l.length - z.length))) (p'.adv (l.take (l.length - z.length))) (sa _) (sc _) (by omega) (by omega)
        cases hx : allL f (p.adv (l.take (l.length - z.length))) z with
        | error e =>
          obtain ⟨e, q⟩ := e
          rw [hx] at ih
          obtain ⟨q', e', a', c'⟩ := ih
          rw [e']
          exact ⟨q', rfl, a', c'⟩
        | ok ts =>
          rw [hx] at ih
          obtain ⟨us, e', l', w'⟩ := ih
          rw [e']
          refine ⟨u :: us, rfl, by simp [l'], fun i v hv => ?_⟩
          cases i with
          | zero =>
            simp only [List.getElem?_cons_zero, Option.some.injEq] at hv
            subst hv
            exact ⟨u, rfl, hS, by rw [hu, ht]; exact sa _, by rw [hu, ht]; exact sc _⟩
          | succ i => exact w' i v hv
/-- the first text's tokens stand ahead -/
theorem allL_join (y : List UInt8) : ∀ (f : Nat) (l : List UInt8) (p : Plc) (ts : List Tkn) (g : Nat), allL f p l = .ok ts → (l ++ 10 :: y).length < g → ts ≠ [] ∧ ∃ h, y.length < h ∧ allL g p (l ++ 10 :: y) = consT ts.dropLast (allL h (p.adv (l ++ [10])) y)
  | 0, _, _, _, _, h, _ => by cases h
  | f + 1, l, p, ts, 0, _, h => by omega
  | f + 1, l, p, ts, g + 1, h, hg => by
    rw [allL] at h
    have hk := skip_lf y l.length l (Nat.le_refl _)
    have hlen : (l ++ 10 :: y).length = l.length + 1 + y.length := by simp; omega
    have hsy := (skip_suf y).length_le
    have cut : ∀ n, n ≤ y.length → (l ++ 10 :: y).take ((l ++ 10 :: y).length - n) = l ++ [10] ++ y.take (y.length - n) := fun n hn => by
      have hl1 : (l ++ [(10 : UInt8)]).length = l.length + 1 := by simp
      rw [hlen, show l ++ 10 :: y = (l ++ [(10 : UInt8)]) ++ y by simp, List.take_append, hl1, List.take_of_length_le (by rw [hl1]; omega)]
      congr 2; omega
    cases hs : skip l with
    | nil =>
      rw [hs] at h hk
      simp only [Except.ok.injEq] at h
      subst h
      refine ⟨by simp, g + 1, by omega, ?_⟩
      show _ = consT [] _
      rw [consT_nil, allL, allL, hk, if_pos rfl]
      cases hy : skip y with
      | nil => simp only; rw [← Plc.adv_app]; simp
      | cons c r =>
        rw [hy, List.length_cons] at hsy
        simp only
        rw [cut _ hsy, Plc.adv_app]
        cases ht : tokL ((p.adv (l ++ [10])).adv (y.take (y.length - (r.length + 1)))) (c :: r) with
        | error e => rfl
        | ok tr =>
          obtain ⟨t, z⟩ := tr
          simp only
          obtain ⟨q1, q2, -⟩ := tokL_suf ht
          simp only [List.length_cons] at q2
          rw [cut _ (by omega), Plc.adv_app]
    | cons c r =>
      rw [hs] at h hk
      have hsl := (skip_suf l).length_le
      rw [hs, List.length_cons] at hsl
      rw [if_neg (by simp), List.cons_append] at hk
      simp only at h
      have cut2 : ∀ n, n ≤ l.length → (l ++ 10 :: y).take ((l ++ 10 :: y).length - (n + (y.length + 1))) = l.take (l.length - n) := fun n hn => by
        rw [hlen, List.take_append_of_le_length (by omega)]
        congr 1; omega
      rw [allL, hk]
      simp only
      rw [show (r ++ 10 :: y).length + 1 = (r.length + 1) + (y.length + 1) by simp; omega, cut2 _ hsl]
      cases ht : tokL (p.adv (l.take (l.length - (r.length + 1)))) (c :: r) with
      | error e => rw [ht] at h; cases h
      | ok tr =>
        obtain ⟨t, z⟩ := tr
        rw [ht] at h
        have ht2 := tokL_lf y ht
        obtain ⟨q1, q2, -⟩ := tokL_suf ht
        simp only [List.length_cons] at q2
        rw [List.cons_append] at ht2
        rw [ht2]
        simp only at h ⊢
        rw [show (z ++ 10 :: y).length = z.length + (y.length + 1) by simp, cut2 _ (by omega)]
        cases hx : allL f (p.adv (l.take (l.length - z.length))) z with
        | error e => rw [hx] at h; cases h
        | ok us =>
          rw [hx] at h
          simp only [Except.ok.injEq] at h
          subst h
          obtain ⟨hne, h', hh, e⟩ := allL_join y f z _ us g hx (by simp only [List.length_append, List.length_cons] at hg ⊢; omega)
          have hz : z <:+ l := q1.trans (by rw [← hs]; exact skip_suf l)
          have hp : (p.adv (l.take (l.length - z.length))).adv (z ++ [10]) = p.adv (l ++ [10]) := by
            rw [← Plc.adv_app]
            obtain ⟨w, rfl⟩ := hz
            rw [List.length_append, Nat.add_sub_cancel, List.take_left, List.append_assoc]
          refine ⟨by simp, h', hh, ?_⟩
          rw [e, hp]
          cases us with
          | nil => exact absurd rfl hne
          | cons v vs =>
            cases allL h' (p.adv (l ++ [10])) y with
            | error e => rfl
            | ok ws => rfl
/-- joined texts -/
theorem lex_join {x y : List UInt8} {ts : List Tkn} (hx : x.length ≤ 2000) (hy : y.length ≤ 2000) (h : lexL x = .ok ts) :
    ts ≠ [] ∧ ∃ R, MovR (x.length + 1) (lexL y) R ∧ lexL (x ++ 10 :: y) = consT ts.dropLast R := by
  have hl : (x ++ 10 :: y).length = x.length + 1 + y.length := by simp; omega
  unfold lexL at h ⊢
  rw [if_neg (by omega)] at h
  rw [if_neg (by omega), if_neg (by omega)]
  obtain ⟨h1, g, hg, e⟩ := allL_join y _ x plc0 ts ((x ++ 10 :: y).length + 1) h (by omega)
  refine ⟨h1, _, ?_, e⟩
  refine allL_mov (x.length + 1) _ _ y plc0 _ ?_ ?_ (by omega) hg
  · rw [Plc.adv_a]; simp
  · rw [Plc.adv_app]
    show (Plc.step _ 10).c = 1
    rfl
end Go.Proofs.YtejpbebfkogmfaaDoor
