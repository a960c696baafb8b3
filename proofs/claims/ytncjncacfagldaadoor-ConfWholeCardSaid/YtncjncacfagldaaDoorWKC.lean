/- The items of a text that is cut off: no more than the whole text's. No Go in sight. -/
import Derived.Test.YtncjncacfagldaaDoorWJA
import Derived.Test.YtncjncacfagldaaDoorWKA
import Derived.Test.YtncjncacfagldaaDoorWKB
namespace Go.Proofs.YtncjncacfagldaaDoor
open Go.RowKit Go.Lib

/-- a reading goes on -/
theorem read_ge {C : Cx} (p : Nat) (h0 : (readM C p).2.2.1 = 0) : p ≤ (readM C p).2.1 := by
  obtain ⟨e0, -, e2⟩ := read_ok h0
  rw [e2]
  rcases (fs_v (m := p) C (3 * C.L.length + 3)).ex (s := ⟨p, 0, ps0⟩) (.inr (Nat.le_refl _)) with h | h
  · exact absurd e0 h
  · exact h
theorem read_lc {m : Nat} {C D : Cx} (h : Ag m C D) {p : Nat} (h0 : (readM C p).2.2.1 = 0) (hq : (readM C p).2.1 < m) : readM D p = readM C p := by
  have hp := read_ge p h0
  obtain ⟨e0, e1, e2⟩ := read_ok h0
  rw [e2] at hq hp
  have hq : ((fs C (3 * C.L.length + 3)).ex ⟨p, 0, ps0⟩).2.p < m := hq
  have hp : p ≤ ((fs C (3 * C.L.length + 3)).ex ⟨p, 0, ps0⟩).2.p := hp
  have hc := h.lc
  have hd := h.ld
  rcases (fs_lc h (3 * C.L.length + 3) (3 * D.L.length + 3)).ex (s := ⟨p, 0, ps0⟩) rfl (by show p < m; omega) (by show 3 * (m - p) + 3 ≤ _; omega) with g | ⟨g1, -, -, -, g5⟩
  · rcases g with g | g
    · exact absurd e0 g
    · omega
  · rw [e2, read_mk (C := D) (by rw [← g1]; exact e0) (by rw [← g5]; exact e1), ← g1, ← g5]
theorem Ag.has {m : Nat} {C D : Cx} (h : Ag m C D) {p : Nat} (hp : p < m) (k : Nat) (x : List UInt8) : D.has p k x = C.has p k x := h.is (s := ⟨p, 0, ps0⟩) hp k x
theorem labels_lc {m : Nat} {C D : Cx} (h : Ag m C D) : ∀ (f g p : Nat) (acc lb : List (List UInt8)) (q : Nat), labelsM C f p acc = .ok (lb, q) → q < m → m - p < f → m - p < g → labelsM D g p acc = .ok (lb, q)
  | 0, _, _, _, _, _, _, _, hf, _ => by omega
  | _ + 1, 0, _, _, _, _, _, _, _, hg => by omega
  | f + 1, g + 1, p, acc, lb, q, hl, hq, hf, hg => by
    have hge := labelsM_ge C _ _ _ _ _ hl
    rw [labelsM] at hl ⊢
    rw [h.tk p (by omega)]
    by_cases hk : (C.tk p).k = 3
    · rw [if_pos hk] at hl ⊢
      split at hl
      · cases hl
      · rename_i h1
        rw [if_neg h1]
        split at hl
        · cases hl
        · rename_i h2
          rw [if_neg h2]
          have hge2 := labelsM_ge C _ _ _ _ _ hl
          exact labels_lc h f g (p + 1) _ _ _ hl hq (by omega) (by omega)
    · rw [if_neg hk] at hl ⊢
      exact hl
theorem item_lc {m : Nat} {C D : Cx} (h : Ag m C D) {rec rec' : Nat → Res (List It)} (hge : ∀ p l q, rec p = .ok (l, q) → p ≤ q) (hrec : ∀ p l q, rec p = .ok (l, q) → q ≤ m → rec' p = .ok (l, q)) {acc : List It} {p : Nat} {i : It} {q : Nat} (hi : itemM C rec acc p = .ok (i, q)) (hq : q < m) : itemM D rec' acc p = .ok (i, q) := by
  obtain ⟨hk, hl, -, hcase⟩ := item_ok hi
  have hc0 := h.lc
  have hd0 := h.ld
  rcases hcase with ⟨hs, hm, h0, rfl, rfl⟩ | ⟨hs, lb, q1, l, hb, hc, hr, rfl⟩
  · have hp := read_ge _ h0
    have e := read_lc h h0 hq
    have := item_mkA rec' (C := D) (acc := acc) (p := p) (by rw [h.tk p (by omega)]; exact hk) hl (by rw [h.has (by omega)]; exact hs) (by rw [h.tk p (by omega)]; exact hm) (by rw [e]; exact h0)
    rw [this, h.tk p (by omega), e]
  · have g1 := labelsM_up hb
    have g2 := hge _ _ _ hr
    have := item_mkB (C := D) (acc := acc) (p := p) (rec := rec') (by rw [h.tk p (by omega)]; exact hk) hl (by rw [h.has (by omega)]; exact hs) (labels_lc h _ _ _ _ _ _ hb (by omega) (by omega) (by omega)) (by rw [h.has (by omega)]; exact hc) (hrec _ _ _ hr (by omega))
    rw [this, h.tk p (by omega)]
theorem items_gt {C : Cx} : ∀ (f k : Nat) (x : List UInt8) (acc : List It) (p : Nat) (l : List It) (q : Nat), itemsL C f k x acc p = .ok (l, q) → p < q
  | 0, _, _, _, _, _, _, h => by rw [itemsL] at h; cases h
  | f + 1, k, x, acc, p, l, q, h => by
    rw [itemsL_succ] at h
    split at h
    · injection h with h; injection h with _ h2; omega
    · cases hi : itemM C (itemsL C f 4 [125] []) acc p with
      | error e => rw [hi] at h; cases h
      | ok y =>
        obtain ⟨i, q1⟩ := y
        rw [hi] at h
        have h1 := itemM_gt read_ge (fun p l q hc => Nat.le_of_lt (items_gt f 4 [125] [] p l q hc)) hi
        have h2 := items_gt f k x _ q1 l q h
        omega
theorem items_lc {m : Nat} {C D : Cx} (h : Ag m C D) : ∀ (f : Nat) (acc : List It) (p : Nat) (l : List It) (q : Nat), itemsL C f 4 [125] acc p = .ok (l, q) → q ≤ m → ∀ g, f ≤ g → itemsL D g 4 [125] acc p = .ok (l, q)
  | 0, _, _, _, _, h, _, _, _ => by rw [itemsL] at h; cases h
  | f + 1, acc, p, l, q, hl, hq, g, hg => by
    obtain ⟨g, rfl⟩ : ∃ k, g = k + 1 := ⟨g - 1, by omega⟩
    have hpq := items_gt _ _ _ _ _ _ _ hl
    rw [itemsL_succ] at hl ⊢
    rw [h.has (by omega)]
    split at hl
    · rename_i hh
      rw [if_pos hh]; exact hl
    · rename_i hh
      rw [if_neg hh]
      cases hi : itemM C (itemsL C f 4 [125] []) acc p with
      | error e => rw [hi] at hl; cases hl
      | ok y =>
        obtain ⟨i, q1⟩ := y
        rw [hi] at hl
        simp only [] at hl
        have h2 := items_gt _ _ _ _ _ _ _ hl
        rw [item_lc h (fun p l q hc => Nat.le_of_lt (items_gt _ _ _ _ _ _ _ hc)) (fun p l q hc hm => items_lc h f [] p l q hc hm g (by omega)) hi (by omega)]
        exact items_lc h f _ q1 l q hl hq g (by omega)
/-- an item has a second token -/
theorem item_lt {m : Nat} {C : Cx} (hz : ∀ i, m + 1 ≤ i → (C.tk i).k = 0) {rec : Nat → Res (List It)} {acc : List It} {p : Nat} {i : It} {q : Nat} (hi : itemM C rec acc p = .ok (i, q)) : p < m ∧ (C.tk p).k = 1 := by
  obtain ⟨hk, -, -, hcase⟩ := item_ok hi
  refine ⟨?_, hk⟩
  rcases hcase with ⟨hs, -⟩ | ⟨-, lb, q1, l, hb, hc, -⟩
  · by_cases hp : m + 1 ≤ p + 1
    · have h4 := (is_k hs).1
      have h4 : (C.tk (p + 1)).k = 4 := h4
      rw [hz _ hp] at h4; cases h4
    · omega
  · have g1 := labelsM_up hb
    by_cases hp : m + 1 ≤ q1
    · have h4 := (is_k hc).1
      have h4 : (C.tk q1).k = 4 := h4
      rw [hz _ hp] at h4; cases h4
    · omega
theorem items_cnt {m : Nat} {C D : Cx} (h : Ag m C D) (hz : ∀ i, m + 1 ≤ i → (C.tk i).k = 0) : ∀ (f : Nat) (acc : List It) (p : Nat) (l : List It) (q g : Nat) (l' : List It) (q' : Nat), itemsL C f 0 [] acc p = .ok (l, q) → itemsL D g 0 [] acc p = .ok (l', q') → f ≤ g → l.length ≤ l'.length
  | 0, _, _, _, _, _, _, _, h, _, _ => by rw [itemsL] at h; cases h
  | _ + 1, _, _, _, _, 0, _, _, _, h, _ => by rw [itemsL] at h; cases h
  | f + 1, acc, p, l, q, g + 1, l', q', hl, hl', hg => by
    have hext := items_ext _ _ _ _ _ _ _ hl'
    rw [itemsL_succ] at hl
    split at hl
    · injection hl with hl; injection hl with h1 _
      subst h1
      obtain ⟨k, rfl⟩ := hext
      simp
    · cases hi : itemM C (itemsL C f 4 [125] []) acc p with
      | error e => rw [hi] at hl; cases hl
      | ok y =>
        obtain ⟨i, q1⟩ := y
        rw [hi] at hl
        simp only [] at hl
        obtain ⟨hp, hk⟩ := item_lt hz hi
        have hD : D.has p 0 [] = false := by
          unfold Cx.has Cx.is
          simp only []
          rw [h.tk p hp, hk]
          rfl
        rw [itemsL_succ, if_neg (by rw [hD]; decide)] at hl'
        cases f with
        | zero => rw [itemsL] at hl; cases hl
        | succ f =>
          by_cases hh : C.has q1 0 [] = true
          · rw [itemsL_succ, if_pos hh] at hl
            injection hl with hl; injection hl with h1 _
            subst h1
            cases hi' : itemM D (itemsL D g 4 [125] []) acc p with
            | error e => rw [hi'] at hl'; cases hl'
            | ok y' =>
              obtain ⟨i', q1'⟩ := y'
              rw [hi'] at hl'
              obtain ⟨k, rfl⟩ := items_ext _ _ _ _ _ _ _ hl'
              simp
          · have hn := hl
            rw [itemsL_succ, if_neg hh] at hn
            cases hi2 : itemM C (itemsL C f 4 [125] []) (acc ++ [i]) q1 with
            | error e => rw [hi2] at hn; cases hn
            | ok y2 =>
              obtain ⟨i2, q2⟩ := y2
              have hq1 := (item_lt hz hi2).1
              rw [item_lc h (fun p l q hc => Nat.le_of_lt (items_gt _ _ _ _ _ _ _ hc)) (fun p l q hc hm => items_lc h (f + 1) [] p l q hc hm g (by omega)) hi hq1] at hl'
              exact items_cnt h hz (f + 1) _ q1 l q g l' q' hl hl' (by omega)
/-- what is ahead has no more items -/
theorem conf_cut {x y : List UInt8} (ha : (confM (x ++ y)).2.1 = 0) (hb : (confM x).2.1 = 0) : (confM x).1.length ≤ (confM (x ++ y)).1.length := by
  obtain ⟨us, a, qa, l1, i1, -, e1⟩ := conf_good ha
  obtain ⟨ts, b, qb, l2, i2, -, e2⟩ := conf_good hb
  rw [e1, e2]
  obtain ⟨c1, c2⟩ := lex_cut l2 l1
  obtain ⟨xs, z, rfl, hz, -⟩ := lexL_kinds l2
  have hlen : (xs ++ [z]).length = xs.length + 1 := by simp
  have hA : Ag (xs.length - 1) ⟨xs ++ [z], ps0, innM⟩ ⟨us, ps0, innM⟩ := ⟨fun i hi => by
    unfold Cx.tk
    show (us[i]?).getD tk0 = ((xs ++ [z])[i]?).getD tk0
    rw [c2 i (by omega)], rfl, rfl, by show xs.length - 1 ≤ (xs ++ [z]).length; omega, by show xs.length - 1 ≤ us.length; omega⟩
  exact items_cnt hA (fun i hi => tk_out (C := ⟨xs ++ [z], ps0, innM⟩) rfl hz (by omega)) _ _ _ _ _ _ _ _ i2 i1 (by omega)
theorem conf_nil : (confM []).1 = [] := by
  have hl : lexL [] = .ok [⟨0, [], 0, [], plc0.adv []⟩] := by
    unfold lexL
    rw [if_neg (by decide)]
    show allL (0 + 1) plc0 [] = _
    rw [allL, skip_nil]
  rw [conf_eq hl]
  show (cfOf (itemsL _ (1 + 1) 0 [] [] 0)).1 = []
  have hh : (⟨[⟨0, [], 0, [], plc0.adv []⟩], ps0, innM⟩ : Cx).has 0 0 [] = true := rfl
  rw [itemsL_succ, if_pos hh]
  rfl
end Go.Proofs.YtncjncacfagldaaDoor
