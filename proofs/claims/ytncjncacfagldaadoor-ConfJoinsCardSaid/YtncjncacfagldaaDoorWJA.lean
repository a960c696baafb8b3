/- Items of tokens that stand further on: the same, places aside. No Go in sight. -/
import Derived.Test.YtncjncacfagldaaDoorWCZ
namespace Go.Proofs.YtncjncacfagldaaDoor
open Go.RowKit Go.Lib

/-- an expression that is read -/
theorem read_ok {C : Cx} {p : Nat} (h : (readM C p).2.2.1 = 0) : ((fs C (3 * C.L.length + 3)).ex ⟨p, 0, ps0⟩).2.e = 0 ∧ ¬ 24 < xdp ((fs C (3 * C.L.length + 3)).ex ⟨p, 0, ps0⟩).1 ∧ readM C p = (((fs C (3 * C.L.length + 3)).ex ⟨p, 0, ps0⟩).1, ((fs C (3 * C.L.length + 3)).ex ⟨p, 0, ps0⟩).2.p, 0, ps0) := by
  unfold readM at h ⊢
  dsimp only at h ⊢
  generalize (fs C (3 * C.L.length + 3)).ex ⟨p, 0, ps0⟩ = E at h ⊢
  generalize C.pl ⟨p, 0, ps0⟩ = f at h ⊢
  by_cases hd : E.2.e = 0 ∧ 24 < xdp E.1
  · rw [show judgeC E.1 E.2 f = (12, f) from if_pos hd] at h
    simp at h
  · rw [show judgeC E.1 E.2 f = (E.2.e, E.2.q) from if_neg hd] at h ⊢
    by_cases h0 : E.2.e = 0
    · exact ⟨h0, fun h => hd ⟨h0, h⟩, by simp [h0]⟩
    · simp [h0] at h
theorem read_mk {C : Cx} {p : Nat} (h0 : ((fs C (3 * C.L.length + 3)).ex ⟨p, 0, ps0⟩).2.e = 0) (hd : ¬ 24 < xdp ((fs C (3 * C.L.length + 3)).ex ⟨p, 0, ps0⟩).1) : readM C p = (((fs C (3 * C.L.length + 3)).ex ⟨p, 0, ps0⟩).1, ((fs C (3 * C.L.length + 3)).ex ⟨p, 0, ps0⟩).2.p, 0, ps0) := by
  unfold readM
  dsimp only
  generalize (fs C (3 * C.L.length + 3)).ex ⟨p, 0, ps0⟩ = E at h0 hd ⊢
  rw [show judgeC E.1 E.2 (C.pl ⟨p, 0, ps0⟩) = (E.2.e, E.2.q) from if_neg fun h => hd h.2]
  simp [h0]
section
variable {d n : Nat} {C D : Cx}
/-- an item that is read, told -/
theorem item_ok {C : Cx} {rec : Nat → Res (List It)} {acc : List It} {p : Nat} {i : It} {q : Nat} (h : itemM C rec acc p = .ok (i, q)) : (C.tk p).k = 1 ∧ acc.length ≠ 128 ∧ i.nm = (C.tk p).s ∧
    ((C.has (p + 1) 4 [61] = true ∧ (C.tk p).s ∉ attrs acc ∧ (readM C (p + 1 + 1)).2.2.1 = 0 ∧ i = .mk false (C.tk p).s [] (readM C (p + 1 + 1)).1 [] (C.tk p).p.ps ∧ q = (readM C (p + 1 + 1)).2.1) ∨
     (C.has (p + 1) 4 [61] = false ∧ ∃ lb q1 l, labelsM C (C.L.length + 1) (p + 1) [] = .ok (lb, q1) ∧ C.has q1 4 [123] = true ∧ rec (q1 + 1) = .ok (l, q) ∧ i = .mk true (C.tk p).s lb zeroX l (C.tk p).p.ps)) := by
  unfold itemM at h
  split at h
  · cases h
  · rename_i hk
    split at h
    · cases h
    · rename_i hl
      refine ⟨by omega, hl, ?_⟩
      split at h
      · rename_i hs
        unfold attributeM at h
        split at h
        · cases h
        · rename_i hm
          split at h
          · rename_i h0
            injection h with h; injection h with h1 h2
            subst h1
            exact ⟨rfl, .inl ⟨hs, hm, h0, rfl, h2.symm⟩⟩
          · cases h
      · rename_i hs
        rw [blockM_eq] at h
        cases hb : labelsM C (C.L.length + 1) (p + 1) [] with
        | error e => rw [hb] at h; cases h
        | ok y =>
          obtain ⟨lb, q1⟩ := y
          rw [hb] at h
          unfold bkM at h
          simp only [] at h
          split at h
          · rename_i hc
            cases hr : rec (q1 + 1) with
            | error e => rw [hr] at h; cases h
            | ok z =>
              obtain ⟨l, q2⟩ := z
              rw [hr] at h
              injection h with h; injection h with h1 h2
              subst h1; subst h2
              exact ⟨rfl, .inr ⟨by simpa using hs, lb, q1, l, rfl, hc, hr, rfl⟩⟩
          · cases h
theorem item_mkA {C : Cx} (rec : Nat → Res (List It)) {acc : List It} {p : Nat} (hk : (C.tk p).k = 1) (hl : acc.length ≠ 128) (hs : C.has (p + 1) 4 [61] = true) (hm : (C.tk p).s ∉ attrs acc) (h0 : (readM C (p + 1 + 1)).2.2.1 = 0) : itemM C rec acc p = .ok (.mk false (C.tk p).s [] (readM C (p + 1 + 1)).1 [] (C.tk p).p.ps, (readM C (p + 1 + 1)).2.1) := by
  unfold itemM
  rw [if_neg (by omega), if_neg hl, if_pos hs]
  unfold attributeM
  rw [if_neg hm, if_pos h0]
theorem item_mkB {C : Cx} {rec : Nat → Res (List It)} {acc : List It} {p : Nat} (hk : (C.tk p).k = 1) (hl : acc.length ≠ 128) (hs : C.has (p + 1) 4 [61] = false) {lb : List (List UInt8)} {q1 : Nat} (hb : labelsM C (C.L.length + 1) (p + 1) [] = .ok (lb, q1)) (hc : C.has q1 4 [123] = true) {l : List It} {q : Nat} (hr : rec (q1 + 1) = .ok (l, q)) : itemM C rec acc p = .ok (.mk true (C.tk p).s lb zeroX l (C.tk p).p.ps, q) := by
  unfold itemM
  rw [if_neg (by omega), if_neg hl, if_neg (by rw [hs]; decide), blockM_eq, hb]
  unfold bkM
  simp only []
  rw [if_pos hc, hr]
end
theorem items_ext {C : Cx} : ∀ (f k : Nat) (x : List UInt8) (acc : List It) (p : Nat) (l : List It) (q : Nat), itemsL C f k x acc p = .ok (l, q) → ∃ m, l = acc ++ m
  | 0, _, _, _, _, _, _, h => by rw [itemsL] at h; cases h
  | f + 1, k, x, acc, p, l, q, h => by
    rw [itemsL_succ] at h
    split at h
    · injection h with h; injection h with h1 _; subst h1; exact ⟨[], by simp⟩
    · cases hi : itemM C (itemsL C f 4 [125] []) acc p with
      | error e => rw [hi] at h; cases h
      | ok y =>
        obtain ⟨i, q1⟩ := y
        rw [hi] at h
        obtain ⟨m, g2⟩ := items_ext f k x _ q1 l q h
        exact ⟨i :: m, by rw [g2]; simp⟩
/-- what is wrong has a number -/
theorem labels_nz {C : Cx} : ∀ (f p : Nat) (acc : List (List UInt8)) (e : Nat × Ps), labelsM C f p acc = .error e → e.1 ≠ 0
  | 0, _, _, _, h => by cases h
  | f + 1, p, acc, e, h => by
    rw [labelsM] at h
    split at h
    · split at h
      · injection h with h; rw [← h]; exact Nat.succ_ne_zero _
      · split at h
        · injection h with h; rw [← h]; exact Nat.succ_ne_zero _
        · exact labels_nz f _ _ e h
    · cases h
theorem item_nz {C : Cx} {rec : Nat → Res (List It)} (hrec : ∀ p e, rec p = .error e → e.1 ≠ 0) {acc : List It} {p : Nat} {e : Nat × Ps} (h : itemM C rec acc p = .error e) : e.1 ≠ 0 := by
  unfold itemM at h
  split at h
  · injection h with h; rw [← h]; exact Nat.succ_ne_zero _
  · split at h
    · injection h with h; rw [← h]; exact Nat.succ_ne_zero _
    · split at h
      · unfold attributeM at h
        split at h
        · injection h with h; rw [← h]; exact Nat.succ_ne_zero _
        · split at h
          · cases h
          · rename_i h0
            injection h with h; rw [← h]; exact h0
      · rw [blockM_eq] at h
        cases hb : labelsM C (C.L.length + 1) (p + 1) [] with
        | error e' => rw [hb] at h; injection h with h; rw [← h]; exact labels_nz _ _ _ _ hb
        | ok y =>
          obtain ⟨lb, q1⟩ := y
          rw [hb] at h
          unfold bkM at h
          simp only [] at h
          split at h
          · cases hr : rec (q1 + 1) with
            | error e' => rw [hr] at h; injection h with h; rw [← h]; exact hrec _ _ hr
            | ok z => rw [hr] at h; cases h
          · injection h with h; rw [← h]; exact Nat.succ_ne_zero _
theorem items_nz {C : Cx} : ∀ (f k : Nat) (x : List UInt8) (acc : List It) (p : Nat) (e : Nat × Ps), itemsL C f k x acc p = .error e → e.1 ≠ 0
  | 0, _, _, _, _, e, h => by rw [itemsL] at h; injection h with h; rw [← h]; exact Nat.succ_ne_zero _
  | f + 1, k, x, acc, p, e, h => by
    rw [itemsL_succ] at h
    split at h
    · cases h
    · cases hi : itemM C (itemsL C f 4 [125] []) acc p with
      | error e' => rw [hi] at h; injection h with h; rw [← h]; exact item_nz (fun p e => items_nz f 4 [125] [] p e) hi
      | ok y =>
        obtain ⟨i, q1⟩ := y
        rw [hi] at h
        exact items_nz f k x _ q1 e h
/-- a text that has items -/
theorem conf_good {L : List UInt8} (h : (confM L).2.1 = 0) : ∃ ts l q, lexL L = .ok ts ∧ itemsL ⟨ts, ps0, innM⟩ (ts.length + 1) 0 [] [] 0 = .ok (l, q) ∧ idpL l ≤ 8 ∧ confM L = (l, 0, ps0) := by
  cases hl : lexL L with
  | error ep =>
    obtain ⟨e, p⟩ := ep
    have e1 : confM L = ([], e, p.ps) := by unfold confM; rw [hl]
    rw [e1] at h
    exact absurd h (lexL_nz hl).1
  | ok ts =>
    rw [conf_eq hl] at h ⊢
    cases hi : itemsL ⟨ts, ps0, innM⟩ (ts.length + 1) 0 [] [] 0 with
    | error e =>
      obtain ⟨c, q⟩ := e
      rw [hi] at h
      exact absurd h (items_nz _ _ _ _ _ _ hi)
    | ok y =>
      obtain ⟨l, q⟩ := y
      rw [hi] at h
      unfold cfOf at h ⊢
      simp only [] at h ⊢
      by_cases hd : 8 < idpL l
      · rw [if_pos hd] at h; cases h
      · exact ⟨ts, l, q, rfl, hi, by omega, by rw [if_neg hd]⟩
end Go.Proofs.YtncjncacfagldaaDoor
