/- Tokens of a text in brackets. No Go in sight. -/
import Derived.Test.YtncjncacfagldaaDoorXM
namespace Go.Proofs.YtncjncacfagldaaDoor
open Go.RowKit Go.Lib

theorem tokL_eq (p : Plc) (c : UInt8) (r : List UInt8) : (if isLetter c.toNat = true then (if 24 < (takeP isWord (c :: r)).length then .error 3 else .ok (⟨1, takeP isWord (c :: r), 0, [], p⟩, dropP isWord (c :: r)))
    else if isDgt c.toNat = true then (if pe (takeP isWord (c :: r)) false = 0 then .ok (⟨2, [], pv (takeP isWord (c :: r)) false, [], p⟩, dropP isWord (c :: r)) else .error (pe (takeP isWord (c :: r)) false).toNat)
    else if c = 34 then strE p (strL (r.length + 1) r (p.step c) [] [] 0)
    else if sgn (c :: r) = 0 then .error 23 else .ok (⟨4, (c :: r).take (sgn (c :: r)), 0, [], p⟩, (c :: r).drop (sgn (c :: r)))) = tokL p (c :: r) := by
  show _ = (if isLetter c.toNat = true then _ else if isDgt c.toNat = true then _ else if c = 34 then _ else _)
  congr
/-- a line feed ends what a class takes -/
theorem take_dropP_lf (p : Nat → Bool) (hp : p 10 = false) (y : List UInt8) : ∀ x : List UInt8, takeP p (x ++ 10 :: y) = takeP p x ∧ dropP p (x ++ 10 :: y) = dropP p x ++ 10 :: y
  | [] => by
    unfold takeP dropP
    have h : p (UInt8.toNat 10) = false := hp
    constructor
    · rw [List.nil_append, List.takeWhile_cons, h]; rfl
    · rw [List.nil_append, List.dropWhile_cons, h]; rfl
  | c :: r => by
    obtain ⟨h1, h2⟩ := take_dropP_lf p hp y r
    unfold takeP dropP at *
    rw [List.cons_append, List.takeWhile_cons, List.dropWhile_cons, List.takeWhile_cons, List.dropWhile_cons, h1, h2]
    cases p c.toNat
    · exact ⟨rfl, rfl⟩
    · exact ⟨rfl, rfl⟩
theorem dropP_blank (y : List UInt8) : ∀ x : List UInt8, dropP isBlank (x ++ 10 :: y) = if dropP isBlank x = [] then dropP isBlank y else dropP isBlank x ++ 10 :: y
  | [] => by
    unfold dropP
    rw [List.nil_append, List.dropWhile_cons, show isBlank (10 : UInt8).toNat = true from rfl]
    rfl
  | c :: r => by
    have ih := dropP_blank y r
    unfold dropP at *
    rw [List.cons_append, List.dropWhile_cons, List.dropWhile_cons, ih]
    cases isBlank c.toNat
    · rfl
    · rfl
theorem skc_fuel : ∀ (f : Nat) (l : List UInt8) (g : Nat), l.length ≤ f → l.length ≤ g → skc f l = skc g l
  | 0, l, g, h, _ => by
    have : l = [] := List.eq_nil_of_length_eq_zero (by omega)
    subst this
    cases g <;> rfl
  | f + 1, [], g, _, _ => by cases g <;> rfl
  | f + 1, c :: r, g, h, hg => by
    cases g with
    | zero => simp at hg
    | succ g =>
      simp only [List.length_cons] at h hg
      rw [skc, skc]
      split
      · rename_i hc
        subst hc
        have e : dropP isRemark (35 :: r) = dropP isRemark r := by unfold dropP; rw [List.dropWhile_cons]; rfl
        have h1 := dropP_le isBlank (dropP isRemark (35 :: r))
        rw [e] at h1 ⊢
        have h2 := dropP_le isRemark r
        exact skc_fuel f _ g (by omega) (by omega)
      · rfl
theorem skip_remark (l r : List UInt8) (h : dropP isBlank l = 35 :: r) : skip l = skip (dropP isRemark (35 :: r)) ∧ (dropP isRemark (35 :: r)).length < l.length := by
  have h0 := dropP_le isBlank l
  rw [h] at h0
  have e : dropP isRemark (35 :: r) = dropP isRemark r := by unfold dropP; rw [List.dropWhile_cons]; rfl
  have h2 := dropP_le isRemark r
  simp only [List.length_cons] at h0
  rw [e]
  refine ⟨?_, by omega⟩
  unfold skip
  rw [h]
  obtain ⟨n, hn⟩ : ∃ n, l.length = n + 1 := ⟨l.length - 1, by omega⟩
  rw [hn, skc, if_pos rfl, e]
  have h1 := dropP_le isBlank (dropP isRemark r)
  exact skc_fuel _ _ _ (by omega) (by omega)
theorem skip_other (l r : List UInt8) (c : UInt8) (h : dropP isBlank l = c :: r) (hc : c ≠ 35) : skip l = c :: r := by
  unfold skip
  have h0 := dropP_le isBlank l
  rw [h] at h0 ⊢
  simp only [List.length_cons] at h0
  obtain ⟨n, hn⟩ : ∃ n, l.length = n + 1 := ⟨l.length - 1, by omega⟩
  rw [hn, skc, if_neg hc]
theorem skip_lf (y : List UInt8) : ∀ (n : Nat) (x : List UInt8), x.length ≤ n → skip (x ++ 10 :: y) = if skip x = [] then skip y else skip x ++ 10 :: y := by
  intro n
  induction n with
  | zero =>
    intro x h
    have : x = [] := List.eq_nil_of_length_eq_zero (by omega)
    subst this
    have e0 : skip [] = [] := rfl
    have e1 : dropP isBlank [] = [] := rfl
    rw [if_pos e0]
    unfold skip
    rw [dropP_blank, if_pos e1]
    have := dropP_le isBlank y
    exact skc_fuel _ _ _ (by simp only [List.length_append, List.length_cons]; omega) (by omega)
  | succ n ih =>
    intro x h
    have hb := dropP_blank y x
    cases hx : dropP isBlank x with
    | nil =>
      have e : skip x = [] := by unfold skip; rw [hx]; cases x.length <;> rfl
      rw [if_pos e]
      rw [hx, if_pos rfl] at hb
      unfold skip
      rw [hb]
      have := dropP_le isBlank y
      exact skc_fuel _ _ _ (by simp only [List.length_append, List.length_cons]; omega) (by omega)
    | cons c r =>
      rw [hx, if_neg (by simp), List.cons_append] at hb
      by_cases hc : c = 35
      · subst hc
        obtain ⟨e1, l1⟩ := skip_remark x r hx
        obtain ⟨e2, l2⟩ := skip_remark _ _ hb
        rw [e1, e2, ← List.cons_append, (take_dropP_lf isRemark rfl y (35 :: r)).2]
        exact ih _ (by omega)
      · rw [skip_other x r c hx hc, if_neg (by simp), skip_other _ _ c hb hc, List.cons_append]
theorem tk_lf {l : List UInt8} {m : Nat} {q : UInt8 ⊕ List UInt8} (y : List UInt8) (h : tk l = some (m, q)) : tk (l ++ 10 :: y) = some (m, q) := by
  cases l with
  | nil => cases h
  | cons c r =>
    by_cases h1 : c = 92
    · subst h1
      cases r with
      | nil => cases h
      | cons d r' => rw [tk_e1] at h; rw [List.cons_append, List.cons_append, tk_e1]; exact h
    · by_cases h2 : c = 36 ∧ r.head? = some 123
      · obtain ⟨rfl, h2⟩ := h2
        rw [tk_x r h2] at h
        cases r with
        | nil => cases h2
        | cons d r' =>
          have h2' : (d :: r' ++ 10 :: y).head? = some 123 := h2
          have h : (if (dropP isInner r').head? = some 125 then some (3 + (takeP isInner r').length, Sum.inr (takeP isInner r')) else none) = some (m, q) := h
          have e3 : tk (36 :: (d :: r' ++ 10 :: y)) = if (dropP isInner (r' ++ 10 :: y)).head? = some 125 then some (3 + (takeP isInner (r' ++ 10 :: y)).length, .inr (takeP isInner (r' ++ 10 :: y))) else none := tk_x _ h2'
          obtain ⟨e1, e2⟩ := take_dropP_lf isInner rfl y r'
          rw [List.cons_append, e3, e1, e2]
          by_cases h3 : (dropP isInner r').head? = some 125
          · rw [if_pos h3] at h
            rw [if_pos (by rw [List.head?_append, h3]; rfl)]
            exact h
          · rw [if_neg h3] at h; cases h
      · rw [tk_b c r h1 h2] at h
        rw [List.cons_append, tk_b _ _ h1 (fun ⟨g1, g2⟩ => h2 ⟨g1, by
          cases r with
          | nil => simp at g2
          | cons d r' => simpa using g2⟩)]
        exact h
/-- a string with more behind it -/
theorem strL_lf (y : List UInt8) : ∀ (f : Nat) (l : List UInt8) (p : Plc) (b : List UInt8) (ps : List Prt) (n : Nat) (a : List Prt) (m : Nat) (r : List UInt8) (g : Nat), strL f l p b ps n = some (a, m, r) → f ≤ g → strL g (l ++ 10 :: y) p b ps n = some (a, m, r ++ 10 :: y)
  | 0, _, _, _, _, _, _, _, _, _, h, _ => by cases h
  | f + 1, [], _, _, _, _, _, _, _, _, h, _ => by cases h
  | f + 1, c :: t, p, b, ps, n, a, m, r, g, h, hg => by
    obtain ⟨g, rfl⟩ : ∃ k, g = k + 1 := ⟨g - 1, by omega⟩
    rw [strL_cons] at h
    rw [List.cons_append, strL_cons]
    split at h
    · cases h
    · rename_i h10
      rw [if_neg h10]
      split at h
      · rename_i h34
        rw [if_pos h34]
        simp only [Option.some.injEq, Prod.mk.injEq] at h ⊢
        exact ⟨h.1, h.2.1, by rw [h.2.2]⟩
      · rename_i h34
        rw [if_neg h34]
        cases ht : tk (c :: t) with
        | none => rw [ht] at h; cases h
        | some q =>
          obtain ⟨k, q⟩ := q
          rw [ht] at h
          have ht2 := tk_lf y ht
          obtain ⟨k1, k2⟩ := tk_len ht
          rw [← List.cons_append, ht2]
          simp only at h ⊢
          have e1 : (c :: t ++ 10 :: y).drop k = (c :: t).drop k ++ 10 :: y := List.drop_append_of_le_length k2
          have e2 : (c :: t ++ 10 :: y).take k = (c :: t).take k := List.take_append_of_le_length k2
          have e3 : tkP (p.adv ((c :: t ++ 10 :: y).take 2)) ps b q = tkP (p.adv ((c :: t).take 2)) ps b q := by
            cases q with
            | inl x => rfl
            | inr e =>
              cases t with
              | nil =>
                have : tk [c] ≠ some (k, .inr e) := by
                  rw [tk_cons]
                  split
                  · simp
                  · rw [if_neg (fun ⟨_, g2⟩ => by simp at g2)]; simp
                exact absurd ht this
              | cons d t => rfl
          rw [e1, e2, e3]
          exact strL_lf y f _ _ _ _ _ _ _ _ g h (by omega)
theorem two_lf (c : UInt8) : two c 10 = false := by
  unfold two
  simp
theorem sgn_lf (c : UInt8) (r y : List UInt8) : sgn (c :: r ++ 10 :: y) = sgn (c :: r) := by
  cases r with
  | nil =>
    show (if two c 10 = true then 2 else if isMark c.toNat then 1 else 0) = if false = true then 2 else if isMark c.toNat then 1 else 0
    rw [two_lf]
  | cons d r => rfl
theorem tokL_lf {p : Plc} {l r : List UInt8} {t : Tkn} (y : List UInt8) (h : tokL p l = .ok (t, r)) : tokL p (l ++ 10 :: y) = .ok (t, r ++ 10 :: y) := by
  cases l with
  | nil => cases h
  | cons c x =>
    rw [← tokL_eq] at h
    rw [List.cons_append, ← tokL_eq, ← List.cons_append]
    obtain ⟨e1, e2⟩ := take_dropP_lf isWord rfl y (c :: x)
    rw [e1, e2]
    by_cases hl : isLetter c.toNat = true
    · rw [if_pos hl] at h ⊢
      split at h
      · cases h
      · rename_i h0
        rw [if_neg h0]
        simp only [Except.ok.injEq, Prod.mk.injEq] at h ⊢
        exact ⟨h.1, by rw [h.2]⟩
    · rw [if_neg hl] at h ⊢
      by_cases hd : isDgt c.toNat = true
      · rw [if_pos hd] at h ⊢
        split at h
        · rename_i h0
          rw [if_pos h0]
          simp only [Except.ok.injEq, Prod.mk.injEq] at h ⊢
          exact ⟨h.1, by rw [h.2]⟩
        · cases h
      · rw [if_neg hd] at h ⊢
        split at h
        · rename_i h0
          rw [if_pos h0]
          cases hs : strL (x.length + 1) x (p.step c) [] [] 0 with
          | none => rw [hs] at h; cases h
          | some S =>
            obtain ⟨a, m, z⟩ := S
            rw [hs] at h
            rw [strL_lf y _ _ _ _ _ _ _ _ _ ((x ++ 10 :: y).length + 1) hs (by simp)]
            unfold strE at h ⊢
            simp only at h ⊢
            split at h
            · cases h
            · rename_i h1
              rw [if_neg h1]
              simp only [Except.ok.injEq, Prod.mk.injEq] at h ⊢
              exact ⟨h.1, by rw [h.2]⟩
        · rename_i h0
          rw [if_neg h0, sgn_lf]
          have hg := sgn_le (c :: x)
          split at h
          · cases h
          · rename_i h1
            rw [if_neg h1]
            simp only [Except.ok.injEq, Prod.mk.injEq] at h ⊢
            refine ⟨?_, ?_⟩
            · rw [List.take_append_of_le_length hg]; exact h.1
            · rw [List.drop_append_of_le_length hg, h.2]
/-- the first text's tokens stand ahead -/
theorem allL_join (y : List UInt8) : ∀ (f : Nat) (l : List UInt8) (p : Plc) (ts : List Tkn) (g : Nat), allL f p l = .ok ts → (l ++ 10 :: y).length < g → ts ≠ [] ∧ ∃ h, y.length < h ∧ allL g p (l ++ 10 :: y) = consT ts.dropLast (allL h (p.adv (l ++ [10])) y)
  | 0, _, _, _, _, h, _ => by cases h
  | f + 1, l, p, ts, 0, _, h => by omega
  | f + 1, l, p, ts, g + 1, h, hg => by
    rw [allL] at h
    have hk := skip_lf y l.length l (Nat.le_refl _)
    have hlen : (l ++ 10 :: y).length = l.length + 1 + y.length := by simp; omega
    have hsy := (skip_suf y).length_le
    have cut : ∀ n, n ≤ y.length → (l ++ 10 :: y).take ((l ++ 10 :: y).length - n) = l ++ [10] ++ y.take (y.length - n) := fun n hn => by
      have hl1 : (l ++ [(10 : UInt8)]).length = l.length + 1 := by simp
      rw [hlen, show l ++ 10 :: y = (l ++ [(10 : UInt8)]) ++ y by simp, List.take_append, hl1, List.take_of_length_le (by rw [hl1]; omega)]
      congr 2; omega
    cases hs : skip l with
    | nil =>
      rw [hs] at h hk
      simp only [Except.ok.injEq] at h
      subst h
      refine ⟨by simp, g + 1, by omega, ?_⟩
      show _ = consT [] _
      rw [consT_nil, allL, allL, hk, if_pos rfl]
      cases hy : skip y with
      | nil => simp only; rw [← Plc.adv_app]; simp
      | cons c r =>
        rw [hy, List.length_cons] at hsy
        simp only
        rw [cut _ hsy, Plc.adv_app]
        cases ht : tokL ((p.adv (l ++ [10])).adv (y.take (y.length - (r.length + 1)))) (c :: r) with
        | error e => rfl
        | ok tr =>
          obtain ⟨t, z⟩ := tr
          simp only
          obtain ⟨q1, q2, -⟩ := tokL_suf ht
          simp only [List.length_cons] at q2
          rw [cut _ (by omega), Plc.adv_app]
    | cons c r =>
      rw [hs] at h hk
      have hsl := (skip_suf l).length_le
      rw [hs, List.length_cons] at hsl
      rw [if_neg (by simp), List.cons_append] at hk
      simp only at h
      have cut2 : ∀ n, n ≤ l.length → (l ++ 10 :: y).take ((l ++ 10 :: y).length - (n + (y.length + 1))) = l.take (l.length - n) := fun n hn => by
        rw [hlen, List.take_append_of_le_length (by omega)]
        congr 1; omega
      rw [allL, hk]
      simp only
      rw [show (r ++ 10 :: y).length + 1 = (r.length + 1) + (y.length + 1) by simp; omega, cut2 _ hsl]
      cases ht : tokL (p.adv (l.take (l.length - (r.length + 1)))) (c :: r) with
      | error e => rw [ht] at h; cases h
      | ok tr =>
        obtain ⟨t, z⟩ := tr
        rw [ht] at h
        have ht2 := tokL_lf y ht
        obtain ⟨q1, q2, -⟩ := tokL_suf ht
        simp only [List.length_cons] at q2
        rw [List.cons_append] at ht2
        rw [ht2]
        simp only at h ⊢
        rw [show (z ++ 10 :: y).length = z.length + (y.length + 1) by simp, cut2 _ (by omega)]
        cases hx : allL f (p.adv (l.take (l.length - z.length))) z with
        | error e => rw [hx] at h; cases h
        | ok us =>
          rw [hx] at h
          simp only [Except.ok.injEq] at h
          subst h
          obtain ⟨hne, h', hh, e⟩ := allL_join y f z _ us g hx (by simp only [List.length_append, List.length_cons] at hg ⊢; omega)
          have hz : z <:+ l := q1.trans (by rw [← hs]; exact skip_suf l)
          have hp : (p.adv (l.take (l.length - z.length))).adv (z ++ [10]) = p.adv (l ++ [10]) := by
            rw [← Plc.adv_app]
            obtain ⟨w, rfl⟩ := hz
            rw [List.length_append, Nat.add_sub_cancel, List.take_left, List.append_assoc]
          refine ⟨by simp, h', hh, ?_⟩
          rw [e, hp]
          cases us with
          | nil => exact absurd rfl hne
          | cons v vs =>
            cases allL h' (p.adv (l ++ [10])) y with
            | error e => rfl
            | ok ws => rfl

def tkb (t : Tkn) : Nat × List UInt8 × Int × List (Bool × List UInt8) := (t.k, t.s, t.n, t.ps.map pb)
theorem flush_pb {ps qs : List Prt} (h : ps.map pb = qs.map pb) (b : List UInt8) : (flush ps b).map pb = (flush qs b).map pb := by
  unfold flush
  split
  · exact h
  · rw [List.map_append, List.map_append, h]
/-- a string's pieces don't hang on its place -/
theorem strL_pb : ∀ (f : Nat) (l : List UInt8) (p q : Plc) (b : List UInt8) (ps qs : List Prt) (n : Nat), ps.map pb = qs.map pb → (strL f l p b ps n).map (fun x => (x.1.map pb, x.2)) = (strL f l q b qs n).map (fun x => (x.1.map pb, x.2))
  | 0, _, _, _, _, _, _, _, _ => rfl
  | f + 1, [], _, _, _, _, _, _, _ => rfl
  | f + 1, c :: t, p, q, b, ps, qs, n, h => by
    rw [strL_cons, strL_cons]
    split
    · rfl
    · split
      · simp [flush_pb h b]
      · cases ht : tk (c :: t) with
        | none => rfl
        | some z =>
          obtain ⟨k, z⟩ := z
          simp only
          refine strL_pb f _ _ _ _ _ _ _ ?_
          cases z with
          | inl x => exact h
          | inr e => show (flush ps b ++ _).map pb = (flush qs b ++ _).map pb; rw [List.map_append, List.map_append, flush_pb h b]; rfl
theorem tokL_pb (p q : Plc) (l : List UInt8) {t : Tkn} {r : List UInt8} (h : tokL p l = .ok (t, r)) : ∃ u, tokL q l = .ok (u, r) ∧ tkb u = tkb t := by
  cases l with
  | nil => cases h
  | cons c x =>
    rw [← tokL_eq] at h
    rw [← tokL_eq]
    by_cases hl : isLetter c.toNat = true
    · rw [if_pos hl] at h ⊢
      split at h
      · cases h
      · rename_i h0
        rw [if_neg h0]
        simp only [Except.ok.injEq, Prod.mk.injEq] at h
        exact ⟨_, by rw [h.2], by rw [← h.1]; rfl⟩
    · rw [if_neg hl] at h ⊢
      by_cases hd : isDgt c.toNat = true
      · rw [if_pos hd] at h ⊢
        split at h
        · rename_i h0
          rw [if_pos h0]
          simp only [Except.ok.injEq, Prod.mk.injEq] at h
          exact ⟨_, by rw [h.2], by rw [← h.1]; rfl⟩
        · cases h
      · rw [if_neg hd] at h ⊢
        split at h
        · rename_i h0
          rw [if_pos h0]
          have k := strL_pb (x.length + 1) x (p.step c) (q.step c) [] [] [] 0 rfl
          cases h1 : strL (x.length + 1) x (p.step c) [] [] 0 with
          | none => rw [h1] at h; cases h
          | some S =>
            cases h2 : strL (x.length + 1) x (q.step c) [] [] 0 with
            | none => rw [h1, h2] at k; cases k
            | some S' =>
              obtain ⟨a, m, z⟩ := S
              obtain ⟨a', m', z'⟩ := S'
              rw [h1, h2] at k
              simp only [Option.map_some, Option.some.injEq, Prod.mk.injEq] at k
              obtain ⟨g1, rfl, rfl⟩ := k
              rw [h1] at h
              unfold strE at h ⊢
              simp only at h ⊢
              split at h
              · cases h
              · rename_i h3
                rw [if_neg h3]
                simp only [Except.ok.injEq, Prod.mk.injEq] at h
                exact ⟨_, by rw [h.2], by rw [← h.1]; unfold tkb; simp only; rw [g1]⟩
        · rename_i h0
          rw [if_neg h0]
          split at h
          · cases h
          · rename_i h1
            rw [if_neg h1]
            simp only [Except.ok.injEq, Prod.mk.injEq] at h
            exact ⟨_, by rw [h.2], by rw [← h.1]; rfl⟩
theorem allL_pb : ∀ (f g : Nat) (l : List UInt8) (p q : Plc) (ts : List Tkn), l.length < f → l.length < g → allL f p l = .ok ts → ∃ us, allL g q l = .ok us ∧ us.map tkb = ts.map tkb
  | 0, _, _, _, _, _, h, _, _ => by omega
  | f + 1, 0, _, _, _, _, _, h, _ => by omega
  | f + 1, g + 1, l, p, q, ts, h1, h2, h => by
    rw [allL] at h
    rw [allL]
    cases hs : skip l with
    | nil =>
      rw [hs] at h
      simp only [Except.ok.injEq] at h
      exact ⟨_, rfl, by rw [← h]; rfl⟩
    | cons c r =>
      rw [hs] at h
      simp only at h ⊢
      have hsl := (skip_suf l).length_le
      rw [hs, List.length_cons] at hsl
      cases ht : tokL (p.adv (l.take (l.length - (r.length + 1)))) (c :: r) with
      | error e => rw [ht] at h; cases h
      | ok tr =>
        obtain ⟨t, z⟩ := tr
        rw [ht] at h
        obtain ⟨u, hu, hb⟩ := tokL_pb _ (q.adv (l.take (l.length - (r.length + 1)))) _ ht
        rw [hu]
        simp only at h ⊢
        obtain ⟨q1, q2, -⟩ := tokL_suf ht
        simp only [List.length_cons] at q2
        cases hx : allL f (p.adv (l.take (l.length - z.length))) z with
        | error e => rw [hx] at h; cases h
        | ok vs =>
          rw [hx] at h
          simp only [Except.ok.injEq] at h
          obtain ⟨us, hus, e⟩ := allL_pb f g z _ (q.adv (l.take (l.length - z.length))) vs (by omega) (by omega) hx
          rw [hus]
          exact ⟨_, rfl, by rw [← h, List.map_cons, List.map_cons, hb, e]⟩
theorem skip_40 (r : List UInt8) : skip (40 :: r) = 40 :: r := skip_other _ _ 40 (by unfold dropP; rw [List.dropWhile_cons, if_neg (by decide)]) (by decide)
theorem two_40 (d : UInt8) : two 40 d = false := by unfold two; simp
theorem tokL_40 (p : Plc) (r : List UInt8) : tokL p (40 :: r) = .ok (⟨4, [40], 0, [], p⟩, r) := by
  have hs : sgn (40 :: r) = 1 := by
    cases r with
    | nil => rfl
    | cons d r =>
      show (if two 40 d = true then 2 else if isMark (40 : UInt8).toNat then 1 else 0) = 1
      rw [two_40]; rfl
  rw [← tokL_eq, if_neg (by decide), if_neg (by decide), if_neg (by decide), hs]
  rfl
theorem allL_41 (h : Nat) (p : Plc) : ∃ q q' : Plc, allL (h + 2) p [41] = .ok [⟨4, [41], 0, [], q⟩, ⟨0, [], 0, [], q'⟩] := by
  have e1 : skip [41] = [41] := rfl
  have e2 : ∀ q, tokL q [41] = .ok (⟨4, [41], 0, [], q⟩, []) := fun q => by
    rw [← tokL_eq, if_neg (by decide), if_neg (by decide), if_neg (by decide)]
    rfl
  rw [allL, e1]
  simp only
  rw [e2]
  simp only
  rw [allL]
  exact ⟨_, _, rfl⟩
/-- the tokens of a text in brackets -/
theorem lex_group {s : List UInt8} {ts : List Tkn} (hs : s.length + 3 ≤ 32768) (h : lexL s = .ok ts) : ts ≠ [] ∧ ∃ us, lexL (40 :: (s ++ [10, 41])) = .ok us ∧ us.map tkb = (4, [40], 0, []) :: (ts.map tkb).dropLast ++ [(4, [41], 0, []), (0, [], 0, [])] := by
  unfold lexL at h ⊢
  rw [if_neg (by omega)] at h
  have hl : (40 :: (s ++ [10, 41]) : List UInt8).length = s.length + 3 := by simp
  rw [if_neg (by omega), hl, allL, skip_40]
  simp only
  rw [tokL_40]
  simp only
  obtain ⟨vs, hv, e⟩ := allL_pb _ (s.length + 1) s _ (plc0.adv ((40 :: (s ++ [10, 41])).take ((40 :: (s ++ [10, 41]) : List UInt8).length - (s ++ [10, 41]).length))) ts (by omega) (by omega) h
  obtain ⟨h1, g, hg, e2⟩ := allL_join [41] _ s _ vs (s.length + 3) hv (by simp)
  obtain ⟨g, rfl⟩ : ∃ k, g = k + 2 := ⟨g - 2, by simp at hg; omega⟩
  obtain ⟨q, q', e3⟩ := allL_41 g ((plc0.adv ((40 :: (s ++ [10, 41])).take ((40 :: (s ++ [10, 41]) : List UInt8).length - (s ++ [10, 41]).length))).adv (s ++ [10]))
  rw [e2, e3]
  have hn : ts ≠ [] := fun hn => h1 (by rw [hn] at e; simpa using e)
  refine ⟨hn, _, rfl, ?_⟩
  rw [List.map_cons, List.map_append, ← e, ← List.map_dropLast]
  rfl
end Go.Proofs.YtncjncacfagldaaDoor
