/- The lexer in plain words: what is left is an end; all tokens. -/
import Derived.Test.YtejpbebfkogmfaaDoorI
namespace Go.Proofs.YtejpbebfkogmfaaDoor
open Go.RowKit

theorem suf_drop {r l : List UInt8} (h : r <:+ l) : l.drop (l.length - r.length) = r := by
  obtain ⟨t, rfl⟩ := h
  rw [List.length_append, Nat.add_sub_cancel, List.drop_left]
theorem dropP_suf (p : Nat → Bool) (l : List UInt8) : dropP p l <:+ l := List.dropWhile_suffix _
theorem skc_suf : ∀ (f : Nat) (l : List UInt8), skc f l <:+ l
  | 0, l => List.suffix_refl l
  | f + 1, [] => List.suffix_refl _
  | f + 1, c :: r => by
    rw [skc]
    split
    · exact ((skc_suf f _).trans (dropP_suf _ _)).trans (dropP_suf _ _)
    · exact List.suffix_refl _
theorem skip_suf (l : List UInt8) : skip l <:+ l := (skc_suf _ _).trans (dropP_suf _ _)
theorem strL_suf : ∀ (f : Nat) (l : List UInt8) (p : Plc) (b : List UInt8) (ps : List Prt) (n : Nat) (a : List Prt) (m : Nat) (r : List UInt8), strL f l p b ps n = some (a, m, r) → r <:+ l
  | 0, _, _, _, _, _, _, _, _, h => by cases h
  | f + 1, [], _, _, _, _, _, _, _, h => by cases h
  | f + 1, c :: t, p, b, ps, n, a, m, r, h => by
    rw [strL_cons] at h
    split at h
    · cases h
    · split at h
      · simp only [Option.some.injEq, Prod.mk.injEq] at h
        rw [← h.2.2]; exact List.suffix_cons _ _
      · cases ht : tk (c :: t) with
        | none => rw [ht] at h; cases h
        | some q =>
          obtain ⟨k, q⟩ := q
          rw [ht] at h
          exact (strL_suf f _ _ _ _ _ _ _ _ h).trans (List.drop_suffix _ _)
/-- what is left behind a token -/
theorem tokL_suf {p : Plc} {c : UInt8} {r x : List UInt8} {t : Tkn} (h : tokL p (c :: r) = .ok (t, x)) : x <:+ (c :: r) ∧ x.length < (c :: r).length ∧ t.p = p := by
  have hw : isWord c.toNat = true → (dropP isWord (c :: r)).length < (c :: r).length := fun hw => by
    rw [dropP_cons_yes _ _ _ hw]
    have := dropP_le isWord r
    simp only [List.length_cons]; omega
  have h : (if isLetter c.toNat = true then (if 24 < (takeP isWord (c :: r)).length then .error 3 else .ok (⟨1, takeP isWord (c :: r), 0, [], p⟩, dropP isWord (c :: r)))
    else if isDgt c.toNat = true then (if pe (takeP isWord (c :: r)) false = 0 then .ok (⟨2, [], pv (takeP isWord (c :: r)) false, [], p⟩, dropP isWord (c :: r)) else .error (pe (takeP isWord (c :: r)) false).toNat)
    else if c = 34 then strE p (strL (r.length + 1) r (p.step c) [] [] 0)
    else if sgn (c :: r) = 0 then .error 23 else .ok (⟨4, (c :: r).take (sgn (c :: r)), 0, [], p⟩, (c :: r).drop (sgn (c :: r)))) = .ok (t, x) := by
    rw [← h]
    show _ = (if isLetter c.toNat = true then _ else if isDgt c.toNat = true then _ else if c = 34 then _ else _)
    congr
  by_cases hl : isLetter c.toNat = true
  · rw [if_pos hl] at h
    split at h
    · cases h
    · simp only [Except.ok.injEq, Prod.mk.injEq] at h
      obtain ⟨rfl, rfl⟩ := h
      exact ⟨dropP_suf _ _, hw (by unfold isWord; rw [hl, Bool.or_true]), rfl⟩
  · rw [if_neg hl] at h
    by_cases hd : isDgt c.toNat = true
    · rw [if_pos hd] at h
      split at h
      · simp only [Except.ok.injEq, Prod.mk.injEq] at h
        obtain ⟨rfl, rfl⟩ := h
        exact ⟨dropP_suf _ _, hw (by unfold isWord; rw [hd, Bool.true_or]), rfl⟩
      · cases h
    · rw [if_neg hd] at h
      split at h
      · cases hs : strL (r.length + 1) r (p.step c) [] [] 0 with
        | none => rw [hs] at h; cases h
        | some S =>
          obtain ⟨a, m, y⟩ := S
          rw [hs] at h
          unfold strE at h
          simp only at h
          split at h
          · cases h
          · simp only [Except.ok.injEq, Prod.mk.injEq] at h
            obtain ⟨rfl, rfl⟩ := h
            have := strL_suf _ _ _ _ _ _ _ _ _ hs
            exact ⟨this.trans (List.suffix_cons _ _), by have := this.length_le; simp only [List.length_cons]; omega, rfl⟩
      · split at h
        · cases h
        · rename_i h0
          simp only [Except.ok.injEq, Prod.mk.injEq] at h
          obtain ⟨rfl, rfl⟩ := h
          exact ⟨List.drop_suffix _ _, by rw [List.length_drop]; simp only [List.length_cons]; omega, rfl⟩
/-- tokens, and those behind them -/
def consT (acc : List Tkn) (r : Except (Nat × Plc) (List Tkn)) : Except (Nat × Plc) (List Tkn) := match r with
  | .error e => .error e
  | .ok ts => .ok (acc ++ ts)
theorem consT_nil (r : Except (Nat × Plc) (List Tkn)) : consT [] r = r := by cases r <;> rfl
theorem skip_at (L : List UInt8) (k : Nat) (hk : k ≤ L.length) : L.drop (btw L k) = skip (L.drop k) ∧ k ≤ btw L k ∧ btw L k ≤ L.length := by
  have h := skip_suf (L.drop k)
  have h2 := h.length_le
  rw [List.length_drop] at h2
  have h3 : skip (L.drop k) <:+ L := h.trans (List.drop_suffix _ _)
  unfold btw
  exact ⟨suf_drop h3, by omega, by omega⟩
theorem plc_at (L : List UInt8) (k : Nat) (hk : k ≤ L.length) : (plc L k).adv ((L.drop k).take ((L.drop k).length - (skip (L.drop k)).length)) = plc L (btw L k) := by
  obtain ⟨h1, h2, h3⟩ := skip_at L k hk
  rw [plc_add, List.length_drop]
  have h := (skip_suf (L.drop k)).length_le
  rw [List.length_drop] at h
  unfold btw
  congr 1; omega
theorem adv_all (p : Plc) (l : List UInt8) (n : Nat) (h : l.length ≤ n) : p.adv (l.take n) = p.adv l := by rw [List.take_of_length_le h]
/-- one round -/
theorem allL_end {L : List UInt8} {k f : Nat} (hk : k ≤ L.length) (h : btw L k = L.length) : allL (f + 1) (plc L k) (L.drop k) = .ok [⟨0, [], 0, [], plc L L.length⟩] := by
  obtain ⟨h1, h2, h3⟩ := skip_at L k hk
  have hp := plc_at L k hk
  rw [h, List.drop_length] at h1
  rw [← h1, List.length_nil, Nat.sub_zero, List.take_length, h] at hp
  rw [allL, ← h1]
  simp only
  rw [hp]
theorem allL_err {L : List UInt8} {k f e : Nat} (hk : k ≤ L.length) (h : btw L k < L.length) (ht : tokL (plc L (btw L k)) (L.drop (btw L k)) = .error e) : allL (f + 1) (plc L k) (L.drop k) = .error (e, plc L (btw L k)) := by
  obtain ⟨h1, h2, h3⟩ := skip_at L k hk
  have hp := plc_at L k hk
  rw [h1] at ht
  cases hs : skip (L.drop k) with
  | nil => rw [hs] at h1; have := congrArg List.length h1; rw [List.length_drop] at this; simp at this; omega
  | cons c r =>
    rw [hs] at hp ht
    rw [List.length_cons] at hp
    rw [allL, hs]
    simp only
    rw [hp, ht]
theorem allL_tok {L r : List UInt8} {k f : Nat} {t : Tkn} (hk : k ≤ L.length) (h : btw L k < L.length) (ht : tokL (plc L (btw L k)) (L.drop (btw L k)) = .ok (t, r)) : allL (f + 1) (plc L k) (L.drop k) = consT [t] (allL f (plc L (L.length - r.length)) (L.drop (L.length - r.length))) ∧ btw L k < L.length - r.length ∧ L.length - r.length ≤ L.length ∧ t.p = plc L (btw L k) := by
  obtain ⟨h1, h2, h3⟩ := skip_at L k hk
  have hp := plc_at L k hk
  have ht0 := ht
  rw [h1] at ht
  cases hs : skip (L.drop k) with
  | nil => rw [hs] at h1; have := congrArg List.length h1; rw [List.length_drop] at this; simp at this; omega
  | cons c x =>
    rw [hs] at hp ht
    obtain ⟨q1, q2, q3⟩ := tokL_suf ht
    have q4 : r <:+ L := (q1.trans (by rw [← hs]; exact skip_suf _)).trans (List.drop_suffix k L)
    have q5 := suf_drop q4
    have q6 := q4.length_le
    have q7 : (c :: x).length = L.length - btw L k := by rw [← hs, ← h1, List.length_drop]
    rw [List.length_cons] at hp
    refine ⟨?_, by omega, by omega, q3⟩
    rw [allL, hs]
    simp only
    rw [hp, ht]
    simp only
    have q8 : (plc L k).adv ((L.drop k).take ((L.drop k).length - r.length)) = plc L (L.length - r.length) := by
      rw [plc_add, List.length_drop]
      congr 1; omega
    rw [q8, q5]
    cases allL f (plc L (L.length - r.length)) r <;> rfl
end Go.Proofs.YtejpbebfkogmfaaDoor
