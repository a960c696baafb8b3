/- Bytes of the call's own, as a row; how much a value that is read holds. -/
import Derived.Test.YtpmdkekjoocplaaHf
import Derived.Test.YtpmdkekjoocplaaGh
namespace Go.Proofs.Ytpmdkekjoocplaa
open Go.RowKit Typ

theorem bcs_get (M : List Nat) (j : Nat) (h : j < M.length) : (bcs M).getD j undef = .int .u8 ((M.getD j 0 : Nat) : Int) := by
  unfold bcs
  rw [List.getD_eq_getElem?_getD, List.getD_eq_getElem?_getD, List.getElem?_map, List.getElem?_eq_getElem h]; rfl
theorem bts_of_own {w : World} {base : Nat} {v : Value} {M : List Nat} (h : w.ownsRow base 5 1 v M.length (bcs M)) (hM : ∀ c, c ∈ M → c < 256) : ∃ o cap, v = .slice o M.length cap ∧ Bts w.heap.size w o cap M := by
  rcases h.2 with ⟨rfl, h0⟩ | ⟨g, cap, cur, rfl, hb, hg, hn, hm, hc, ht⟩
  · refine ⟨none, 0, by rw [h0], ⟨?_, hM, fun a e => by cases e⟩⟩
    rw [h0]; exact RowP.nil _ _ _ _
  · have hgl : g < w.heap.size := (Array.getElem?_eq_some_iff.1 hg).1
    refine ⟨some ⟨g, 0, none⟩, cap, rfl, ⟨⟨hn, hm, (fun h => by cases h), fun _ => ⟨g, 0, rfl, hgl, fun j hj m hm2 => ?_⟩⟩, hM, fun a e => by injection e with e; rw [← e]⟩⟩
    obtain rfl : m = 0 := by omega
    rw [cell_of_row w g _ cur 5 (0, 0) hg, Nat.zero_add, Nat.mul_one, Nat.add_zero]
    have h5 : (bcs M)[j]? = cur[j]? := by rw [← ht, List.getElem?_take_of_lt (by omega), Array.getElem?_toList]
    rw [← h5]
    have := bcs_get M j hj
    rw [List.getD_eq_getElem?_getD, List.getElem?_eq_getElem (by rw [bcs_len]; exact hj)] at this
    simp only [Option.getD_some] at this
    rw [List.getElem?_eq_getElem (by rw [bcs_len]; exact hj), this]
/-- bytes that were written out -/
theorem bts_lit {n : Nat} {w : World} {g : Nat} {M : List Nat} (h : w.heap[g]? = some (.cells (bcs M).toArray 5 (0, 0))) (hg : g < n) (hM : ∀ c, c ∈ M → c < 256) (hl : M.length ≤ 1000) : Bts n w (some ⟨g, 0, none⟩) M.length M := by
  refine ⟨⟨Nat.le_refl _, by unfold maxLen; omega, (fun h => by cases h), fun _ => ⟨g, 0, rfl, hg, fun j hj m hm2 => ?_⟩⟩, hM, fun a e => by injection e with e; rw [← e]⟩
  obtain rfl : m = 0 := by omega
  rw [cell_of_row w g _ _ 5 (0, 0) h, Nat.zero_add, Nat.mul_one, Nat.add_zero]
  have := bcs_get M j hj
  rw [List.getD_eq_getElem?_getD, List.getElem?_eq_getElem (by rw [bcs_len]; exact hj)] at this
  simp only [Option.getD_some] at this
  rw [List.getElem?_toArray, List.getElem?_eq_getElem (by rw [bcs_len]; exact hj), this]
/-- what is read holds no more than there were bytes -/
theorem decE_sz {f : List Nat → Except Nat (Val × Nat)} (hf : ∀ b V u, f b = .ok (V, u) → sz V ≤ u) (m : Bool) : ∀ (n : Nat) (ks0 : List ByteArray) (l0 : List Val) (u0 : Nat) (b : List Nat) (ks : List ByteArray) (l : List Val) (u : Nat),
    decE f m n ks0 l0 u0 b = .ok (ks, l, u) → ks.length + szL l + u0 ≤ ks0.length + szL l0 + u := by
  intro n
  induction n with
  | zero =>
    intro ks0 l0 u0 b ks l u h
    rw [decE] at h
    simp only [Except.ok.injEq, Prod.mk.injEq] at h
    obtain ⟨rfl, rfl, rfl⟩ := h
    omega
  | succ n ih =>
    intro ks0 l0 u0 b ks l u h
    have happ : ∀ (X : Val), szL (l0 ++ [X]) = szL l0 + sz X := fun X => by rw [szL_eq, szL_eq, List.map_append, List.sum_append]; simp
    cases m with
    | false =>
      rw [decE_no] at h
      cases hx : f b with
      | error e => rw [hx] at h; cases h
      | ok p =>
        obtain ⟨X, k2⟩ := p
        rw [hx] at h
        have h1 := ih _ _ _ _ _ _ _ h
        have h2 := hf _ _ _ hx
        rw [happ] at h1; omega
    | true =>
      rw [decE_key] at h
      cases hk : keyR ks0 b with
      | error e => rw [hk] at h; cases h
      | ok q =>
        obtain ⟨s, k⟩ := q
        rw [hk] at h
        simp only at h
        have hk0 : 0 < k := by
          unfold keyR at hk
          split at hk
          · cases hk
          · rename_i s2 k2 he
            split at hk
            · cases hk
            · cases hk
              unfold gstr at he
              split at he
              · cases he
              · rename_i n3 k3 hg
                have := (gs_ok hg).2
                split at he
                · cases he
                · split at he
                  · cases he
                  · simp only [Except.ok.injEq, Prod.mk.injEq] at he
                    omega
        cases hx : f (b.drop k) with
        | error e => rw [hx] at h; cases h
        | ok p =>
          obtain ⟨X, k2⟩ := p
          rw [hx] at h
          have h1 := ih _ _ _ _ _ _ _ h
          have h2 := hf _ _ _ hx
          rw [happ, List.length_append, List.length_singleton] at h1; omega
theorem szL_sum (l : List Val) : szL l = (l.map sz).sum := szL_eq l
theorem decB_sz {f : List Nat → Except Nat (Val × Nat)} (hf : ∀ b V u, f b = .ok (V, u) → sz V ≤ u) {c : Nat} {r : List Nat} {V : Val} {u : Nat} (h : decB tok f c r = .ok (V, u)) : sz V ≤ u := by
  unfold decB at h
  split at h
  · cases h; rw [sz]; simp [szL]
  · split at h
    · split at h
      · cases h
      · split at h
        · cases h
        · cases h; rw [sz]; simp [szL]
    · split at h
      · split at h
        · cases h
        · cases h; rw [sz]; simp [szL]
      · split at h
        · split at h
          · cases h
          · cases h; rw [sz]; simp [szL]
        · split at h
          · split at h
            · cases h
            · split at h
              · cases h; rw [sz]; simp [szL]
              · cases h
          · split at h
            · split at h
              · cases h
              · split at h
                · cases h
                · split at h
                  · cases h
                  · rename_i ks l w he
                    cases h
                    have := decE_sz hf _ _ _ _ _ _ _ _ _ he
                    rw [sz]
                    simp only [List.length_nil, szL] at this
                    omega
            · cases h
theorem dec_sz : ∀ (d : Nat) (b : List Nat) (V : Val) (u : Nat), dec tok d b = .ok (V, u) → sz V ≤ u := by
  intro d
  induction d with
  | zero => intro b V u h; cases h
  | succ d ih =>
    intro b V u h
    cases b with
    | nil => cases h
    | cons c r => rw [dec_cons] at h; exact decB_sz ih h
end Go.Proofs.Ytpmdkekjoocplaa
