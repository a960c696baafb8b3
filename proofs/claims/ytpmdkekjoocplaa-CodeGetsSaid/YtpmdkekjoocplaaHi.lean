/- CodeGets' walk, if the reference's get is told. -/
import Derived.Test.YtpmdkekjoocplaaHh
import Derived.Test.YtpmdkekjoocplaaGp
import Derived.Test.YtpmdkekjoocplaaU
namespace Go.Proofs.Ytpmdkekjoocplaa
open Go.RowKit Go.Lib Typ

theorem gstr_le {b : List Nat} {m : Nat} {s : ByteArray} {k : Nat} (h : gstr b m = .ok (s, k)) : k ≤ b.length := gstr_len h
theorem keyR_le {ks : List ByteArray} {b : List Nat} {s : ByteArray} {k : Nat} (h : keyR ks b = .ok (s, k)) : k ≤ b.length := by
  unfold keyR at h
  split at h
  · cases h
  · rename_i s2 k2 he
    split at h
    · cases h
    · cases h; exact gstr_len he
theorem decE_len {f : List Nat → Except Nat (Val × Nat)} (hf : ∀ b V u, f b = .ok (V, u) → u ≤ b.length) (m : Bool) : ∀ (n : Nat) (ks0 : List ByteArray) (l0 : List Val) (u0 : Nat) (b : List Nat) (ks : List ByteArray) (l : List Val) (u : Nat),
    decE f m n ks0 l0 u0 b = .ok (ks, l, u) → u ≤ u0 + b.length := by
  intro n
  induction n with
  | zero =>
    intro ks0 l0 u0 b ks l u h
    rw [decE] at h
    simp only [Except.ok.injEq, Prod.mk.injEq] at h
    obtain ⟨_, _, rfl⟩ := h
    omega
  | succ n ih =>
    intro ks0 l0 u0 b ks l u h
    cases m with
    | false =>
      rw [decE_no] at h
      cases hx : f b with
      | error e => rw [hx] at h; cases h
      | ok p =>
        obtain ⟨X, k2⟩ := p
        rw [hx] at h
        have h1 := ih _ _ _ _ _ _ _ h
        have h2 := hf _ _ _ hx
        rw [List.length_drop] at h1; omega
    | true =>
      rw [decE_key] at h
      cases hk : keyR ks0 b with
      | error e => rw [hk] at h; cases h
      | ok q =>
        obtain ⟨s, k⟩ := q
        rw [hk] at h
        simp only at h
        have hk1 := keyR_le hk
        cases hx : f (b.drop k) with
        | error e => rw [hx] at h; cases h
        | ok p =>
          obtain ⟨X, k2⟩ := p
          rw [hx] at h
          have h1 := ih _ _ _ _ _ _ _ h
          have h2 := hf _ _ _ hx
          rw [List.length_drop] at h2
          rw [List.length_drop, List.length_drop] at h1; omega
theorem decB_len {f : List Nat → Except Nat (Val × Nat)} (hf : ∀ b V u, f b = .ok (V, u) → u ≤ b.length) {c : Nat} {r : List Nat} {V : Val} {u : Nat} (h : decB tok f c r = .ok (V, u)) : u ≤ r.length + 1 := by
  unfold decB at h
  split at h
  · cases h; omega
  · split at h
    · split at h
      · cases h
      · split at h
        · cases h
        · cases h; simp
    · split at h
      · split at h
        · cases h
        · rename_i n k hg
          have := (gs_ok hg).1
          cases h; omega
      · split at h
        · split at h
          · cases h
          · rename_i s k hg
            have := gstr_len hg
            cases h; omega
        · split at h
          · split at h
            · cases h
            · split at h
              · cases h; simp
              · cases h
          · split at h
            · split at h
              · cases h
              · rename_i n k hg
                have h5 := (gs_ok hg).1
                split at h
                · cases h
                · split at h
                  · cases h
                  · rename_i ks l w he
                    have h6 := decE_len hf _ _ _ _ _ _ _ _ _ he
                    rw [List.length_drop] at h6
                    cases h; omega
            · cases h
theorem dec_len : ∀ (d : Nat) (b : List Nat) (V : Val) (u : Nat), dec tok d b = .ok (V, u) → u ≤ b.length := by
  intro d
  induction d with
  | zero => intro b V u h; cases h
  | succ d ih =>
    intro b V u h
    cases b with
    | nil => cases h
    | cons c r => rw [dec_cons] at h; exact decB_len ih h
/-- what both answer -/
def gt (M : List Nat) : Val × Nat × Nat := match getR M with
  | .error z => (.mk 0 0 ⟨#[]⟩ [] [] 0 0 false, 0, z)
  | .ok (V, k) => (V, k, 0)
theorem gt_sz (M : List Nat) (h : M.length ≤ 1000) : sz (gt M).1 ≤ 60000 := by
  unfold gt getR
  cases hd : dec tok 8 M with
  | error z => simp [sz, szL]
  | ok p =>
    obtain ⟨V, k⟩ := p
    have h1 := dec_sz 8 M V k hd
    simp only
    split
    · simp only [sz, szL]; simp
    · rename_i V' k' he
      split at he
      · cases he
      · cases he
        simp only
        have h2 : k ≤ M.length := dec_len 8 M V k hd
        omega
theorem GetPost.gt {M : List Nat} {w w' : World} {e : Ending} (h : GetPost M w e w') : ∃ v, e = .returned (.tuple #[v, .int .i64 (gt M).2.1, .int .i64 (gt M).2.2]) ∧ Lies w'.heap.size w' (gt M).1 v ∧ Below w.heap.size w w' := by
  obtain ⟨hb, h⟩ := h
  unfold Go.Proofs.Ytpmdkekjoocplaa.gt
  cases hg : getR M with
  | error z =>
    rw [hg] at h
    exact ⟨_, h, flat_lies _ _ rfl rfl rfl rfl (Nat.zero_le _) false, hb⟩
  | ok p =>
    obtain ⟨V, k⟩ := p
    rw [hg] at h
    obtain ⟨v, he, hl⟩ := h
    exact ⟨v, he, hl.mono fun b hb => hb.2, hb⟩
theorem bts_lent {w : World} {g : Nat} {M : List Nat} (h : RowI w g 5 .u8 (M.length + 8) (lentF (M.map Int.ofNat))) (hM : ∀ c, c ∈ M → c < 256) (hl : M.length ≤ 1000) : Bts w.heap.size w (some ⟨g, 0, none⟩) (M.length + 8) M := by
  refine ⟨⟨by omega, by unfold maxLen; omega, (fun h => by cases h), fun _ => ⟨g, 0, rfl, h.lt, fun j hj m hm2 => ?_⟩⟩, hM, fun a e => by injection e with e; rw [← e]⟩
  obtain rfl : m = 0 := by omega
  rw [Nat.zero_add, Nat.mul_one, Nat.add_zero, h.cell j (by omega), lentF_lo _ _ (by simpa using hj)]
  rw [List.getD_eq_getElem?_getD, List.getElem?_map, List.getElem?_eq_getElem hj]
  show _ = some (Value.int .u8 ((M.getD j 0 : Nat) : Int))
  rw [List.getD_eq_getElem?_getD, List.getElem?_eq_getElem hj]; rfl
theorem rdi_of {n : Nat} {w : World} {o : Option Addr} {cap : Nat} {M : List Nat} (B : Bts n w o cap M) (hn : n ≤ w.heap.size) : RdI w o (M.map Int.ofNat) := fun i hi => by
  have hi' : i < M.length := by simpa using hi
  obtain ⟨b, off, e, hb, c⟩ := B.at hi'
  refine ⟨b, off, e, by omega, ?_⟩
  rw [c, List.getD_eq_getElem?_getD, List.getD_eq_getElem?_getD, List.getElem?_map, List.getElem?_eq_getElem hi']; rfl
end Go.Proofs.Ytpmdkekjoocplaa
