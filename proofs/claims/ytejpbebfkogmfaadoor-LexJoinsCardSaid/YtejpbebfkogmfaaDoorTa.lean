/- Of tokens: where they stand, how they begin. -/
import Derived.Test.YtejpbebfkogmfaaDoorQb
import Derived.Lib.ItoaNum
namespace Go.Proofs.YtejpbebfkogmfaaDoor
open Go.RowKit

/-- tokens that stand from a place on -/
inductive TS (L : List UInt8) : Nat → List Tkn → Prop where
  | fin (k : Nat) (hk : k ≤ L.length) : TS L k [⟨0, [], 0, [], plc L L.length⟩]
  | tok {k j z : Nat} {t : Tkn} {r : List UInt8} {ts : List Tkn} (h1 : k ≤ j) (h2 : j < z) (h3 : z ≤ L.length) (hp : t.p = plc L j) (ht : tokL (plc L j) (L.drop j) = .ok (t, r)) (hr : L.drop z = r) (h : TS L z ts) : TS L k (t :: ts)
theorem ts_of {L : List UInt8} : ∀ (f k : Nat) (ts : List Tkn), k ≤ L.length → allL f (plc L k) (L.drop k) = .ok ts → TS L k ts
  | 0, _, _, _, h => by cases h
  | f + 1, k, ts, hk, h => by
    obtain ⟨h1, h2, h3⟩ := skip_at L k hk
    rcases Nat.lt_or_ge (btw L k) L.length with hlt | hge
    · cases ht : tokL (plc L (btw L k)) (L.drop (btw L k)) with
      | error e => rw [allL_err hk hlt ht] at h; cases h
      | ok tr =>
        obtain ⟨t, r⟩ := tr
        obtain ⟨q1, q2, q3, q4⟩ := allL_tok (f := f) hk hlt ht
        rw [q1] at h
        cases hts : allL f (plc L (L.length - r.length)) (L.drop (L.length - r.length)) with
        | error e => rw [hts] at h; cases h
        | ok us =>
          rw [hts] at h
          simp only [consT, Except.ok.injEq] at h
          subst h
          refine TS.tok h2 q2 q3 q4 ht ?_ (ts_of f _ us q3 hts)
          have hne : L.drop (btw L k) ≠ [] := fun e => by
            have := congrArg List.length e
            rw [List.length_drop] at this
            simp only [List.length_nil] at this; omega
          cases hd : L.drop (btw L k) with
          | nil => exact absurd hd hne
          | cons c x =>
            rw [hd] at ht
            obtain ⟨s1, -, -⟩ := tokL_suf ht
            exact suf_drop (s1.trans (by rw [← hd]; exact List.drop_suffix _ _))
    · have hj : btw L k = L.length := by omega
      rw [allL_end hk hj] at h
      simp only [Except.ok.injEq] at h
      subst h
      exact TS.fin k hk
theorem lex_ts {L : List UInt8} {ts : List Tkn} (h : lexL L = .ok ts) : TS L 0 ts := by
  unfold lexL at h
  split at h
  · cases h
  · exact ts_of _ 0 ts (Nat.zero_le _) (by rw [List.drop_zero]; exact h)
/-- a number's digits are its text -/
theorem dec_dval : ∀ (n : Nat) (l : List UInt8), l.length = n → IsT l false → Lib.decDigits (dval l).toNat = l
  | 0, l, h, ht => absurd (List.eq_nil_of_length_eq_zero h) ht.1
  | n + 1, l, h, ht => by
    obtain ⟨l', c, rfl⟩ : ∃ l' c, l = l' ++ [c] := by
      rcases List.eq_nil_or_concat l with h0 | ⟨l', c, h0⟩
      · exact absurd h0 ht.1
      · exact ⟨l', c, by rw [h0]; simp⟩
    have hc : isDig c := ht.2.2 c (by simp)
    have hl : l'.length = n := by simpa using h
    rw [dval_snoc]
    have b0 := dval_bd l' (fun x hx => ht.2.2 x (by simp [hx]))
    unfold isDig at hc
    have hcc : UInt8.ofNat (48 + (c.toNat - 48)) = c := by rw [show 48 + (c.toNat - 48) = c.toNat by omega, UInt8.ofNat_toNat]
    by_cases hn : l' = []
    · subst hn
      rw [show dval [] = 0 from rfl, show ((0 : Int) * 10 + ((c.toNat : Int) - 48)).toNat = c.toNat - 48 by omega, Lib.decDigits, dif_pos (by omega), hcc]
      rfl
    · have ht' : IsT l' false := ⟨hn, fun ⟨x1, x2⟩ => ht.2.1 ⟨by rw [List.head?_append, x1]; rfl, .inl (by have : 0 < l'.length := List.length_pos_iff.2 hn; simp; omega)⟩, fun x hx => ht.2.2 x (by simp [hx])⟩
      have ih := dec_dval n l' hl ht'
      have h1 : 1 ≤ dval l' := by
        rcases Int.lt_or_le (dval l') 1 with hlt | hle
        · exfalso
          have h0 : dval l' = 0 := by omega
          rw [h0] at ih
          have hh : l'.head? = some 48 := by rw [← ih]; rw [show (0 : Int).toNat = 0 from rfl, Lib.decDigits, dif_pos (by decide)]; rfl
          exact ht.2.1 ⟨by rw [List.head?_append, hh]; rfl, .inl (by have : 0 < l'.length := List.length_pos_iff.2 hn; simp; omega)⟩
        · exact hle
      rw [Lib.decDigits, dif_neg (by omega), show (dval l' * 10 + ((c.toNat : Int) - 48)).toNat / 10 = (dval l').toNat by omega, ih, show (dval l' * 10 + ((c.toNat : Int) - 48)).toNat % 10 = c.toNat - 48 by omega, hcc]
end Go.Proofs.YtejpbebfkogmfaaDoor
