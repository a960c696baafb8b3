/- Where a reading of an expression ends. No Go in sight. -/
import Derived.Test.YtncjncacfagldaaDoorWCN
import Derived.Test.YtncjncacfagldaaDoorWXN
namespace Go.Proofs.YtncjncacfagldaaDoor
open Go.RowKit Go.Lib

/-- a reading that begins at the end finds nothing -/
theorem fs_none {C : Cx} {p : Nat} (hk : (C.tk p).k = 0) (m : Nat) : ((fs C (m + 3)).ex ⟨p, 0, ps0⟩).2.e ≠ 0 := by
  have hs : C.sign ⟨p, 0, ps0⟩ = sg0 := by unfold Cx.sign; rw [if_neg (by show ¬ (C.tk p).k = 4; omega)]
  have hf : (firstM C (fs C m) ⟨p, 0, ps0⟩).2.e ≠ 0 := by
    unfold firstM
    rw [hs, if_neg (by show ¬ (C.tk p).k = 1; omega), if_neg (by show ¬ (C.tk p).k = 2; omega), if_neg (by show ¬ (C.tk p).k = 3; omega), if_neg (by decide), if_neg (by decide), if_neg (by decide)]
    exact stray_e C _
  have hu : ((fs C (m + 1)).un ⟨p, 0, ps0⟩).2.e ≠ 0 := by
    show (unaryM C (fs C m) ⟨p, 0, ps0⟩).2.e ≠ 0
    unfold unaryM
    rw [hs, if_pos (by decide)]
    exact postL_e C (fs_e C m) _ _ hf
  have hj : ((fs C (m + 2)).jo 1 ⟨p, 0, ps0⟩).2.e ≠ 0 := joinL_e C (fs_e C (m + 1)) 1 _ _ _ hu
  show (exprM C (fs C (m + 2)) ⟨p, 0, ps0⟩).2.e ≠ 0
  unfold exprM
  dsimp only
  split
  · exact (fs_e C (m + 2)).ex (wants_e C ((fs_e C (m + 2)).ex (pass_e hj)) _ _)
  · exact hj
theorem read_at {C : Cx} {n : Nat} (hL : C.L.length = n + 1) (hz : ∀ i, n ≤ i → (C.tk i).k = 0) (hinn : ∀ l h h', (C.inn l h).2.1 = 0 → (C.inn l h').2.1 = 0 ∧ bareX (C.inn l h).1 = bareX (C.inn l h').1) (p : Nat) (h : (readM C p).2.2.1 = 0) : p ≤ (readM C p).2.1 ∧ (readM C p).2.1 < C.L.length := by
  have he : ((fs C (3 * C.L.length + 3)).ex ⟨p, 0, ps0⟩).2.e = 0 ∧ (readM C p).2.1 = ((fs C (3 * C.L.length + 3)).ex ⟨p, 0, ps0⟩).2.p := by
    unfold readM at h ⊢
    dsimp only at h ⊢
    generalize (fs C (3 * C.L.length + 3)).ex ⟨p, 0, ps0⟩ = E at h ⊢
    generalize C.pl ⟨p, 0, ps0⟩ = f at h ⊢
    by_cases hd : E.2.e = 0 ∧ 24 < xdp E.1
    · rw [show judgeC E.1 E.2 f = (12, f) from if_pos hd] at h
      simp at h
    · rw [show judgeC E.1 E.2 f = (E.2.e, E.2.q) from if_neg hd] at h ⊢
      by_cases h0 : E.2.e = 0
      · simp [h0]
      · simp [h0] at h
  rw [he.2]
  by_cases hp : n ≤ p
  · exact absurd he.1 (fs_none (hz p hp) _)
  · have hr : Rel 0 n C C := ⟨fun i _ => ⟨rfl, rfl, rfl, rfl⟩, hz, fun h4 => by have := hz n (Nat.le_refl _); rw [Nat.add_zero] at h4; omega, hinn, by omega, by omega⟩
    have := (fs_oc hr (3 * C.L.length + 3) (3 * C.L.length + 3)).ex (s := ⟨p, 0, ps0⟩) (t := ⟨p, 0, ps0⟩) ⟨rfl, rfl, rfl, by show p ≤ n; omega⟩ (by rw [hL]; show 3 * (n - p) + 3 ≤ _; omega)
    rcases this with h1 | ⟨h1, h2, -⟩
    · exact absurd he.1 h1
    · exact ⟨h2, by have := h1.n; omega⟩
end Go.Proofs.YtncjncacfagldaaDoor
/- How deep items are that a text gives. No Go in sight. -/
namespace Go.Proofs.YtncjncacfagldaaDoor
open Go.RowKit Go.Lib

theorem idpL_app (l : List It) (x : It) : idpL (l ++ [x]) = max (idpL l) (idp x) := by
  induction l with
  | nil => show max (idp x) 0 = max 0 (idp x); omega
  | cons c r ih => show max (idp c) (idpL (r ++ [x])) = max (max (idp c) (idpL r)) (idp x); rw [ih]; omega
theorem itemM_d {C : Cx} {rec : Nat → Res (List It)} {m : Nat} (hrec : ∀ p l q, rec p = .ok (l, q) → idpL l ≤ m) {acc : List It} {p : Nat} {x : It} {q : Nat} (h : itemM C rec acc p = .ok (x, q)) : idp x ≤ 1 + m := by
  unfold itemM at h
  split at h
  · cases h
  · split at h
    · cases h
    · split at h
      · unfold attributeM at h
        split at h
        · cases h
        · split at h
          · injection h with h; injection h with h1 _
            subst h1
            show (if false = true then 1 + idpL [] else 0) ≤ 1 + m
            simp
          · cases h
      · rw [blockM_eq] at h
        cases hl : labelsM C (C.L.length + 1) (p + 1) [] with
        | error e => rw [hl] at h; cases h
        | ok y =>
          obtain ⟨lb, q1⟩ := y
          rw [hl] at h
          unfold bkM at h
          simp only [] at h
          split at h
          · cases hc : rec (q1 + 1) with
            | error e => rw [hc] at h; cases h
            | ok z =>
              obtain ⟨l, q2⟩ := z
              rw [hc] at h
              have h2 := hrec _ _ _ hc
              injection h with h; injection h with h3 _
              subst h3
              show (if true = true then 1 + idpL l else 0) ≤ 1 + m
              simp; omega
          · cases h
theorem itemsL_d {C : Cx} : ∀ (f k : Nat) (x : List UInt8) (acc : List It) (p : Nat) (l : List It) (q : Nat), itemsL C f k x acc p = .ok (l, q) → idpL l ≤ max (idpL acc) f := by
  intro f
  induction f with
  | zero => intro k x acc p l q h; rw [itemsL] at h; cases h
  | succ f ih =>
    intro k x acc p l q h
    rw [itemsL_succ] at h
    split at h
    · injection h with h; injection h with h1 _; subst h1; omega
    · cases hi : itemM C (itemsL C f 4 [125] []) acc p with
      | error e => rw [hi] at h; cases h
      | ok y =>
        obtain ⟨i, q1⟩ := y
        rw [hi] at h
        have h1 : idp i ≤ 1 + f := itemM_d (fun p l q hc => by have := ih _ _ _ _ _ _ hc; rw [show idpL [] = 0 from rfl] at this; omega) hi
        have h2 := ih _ _ _ _ _ _ h
        rw [idpL_app] at h2
        omega
end Go.Proofs.YtncjncacfagldaaDoor
/- A new reader of items over a text's tokens. -/
namespace Go.Proofs.YtncjncacfagldaaDoor
open Go.RowKit Go.Lib

/-- the tokens of a text as a reader's memory -/
theorem kd_new {w3 w5 : World} {B R n : Nat} {vl : Value} {a : List (Tkn × Option Addr × Nat)} {L : List UInt8} {ts : List Tkn} (hat : a.map (·.1) = ts) (hl : lexL L = .ok ts)
    (h1 : ∃ o cap, vl = .slice o a.length cap ∧ RowP (fun k => B ≤ k ∧ k < w3.heap.size) w3 o cap a.length 7 (fun j m => tc7 ((a[j]?).getD (tk0, none, 0)) m))
    (h2 : ∀ x ∈ a, RowP (fun k => B ≤ k ∧ k < w3.heap.size) w3 x.2.1 x.2.2 x.1.ps.length 5 (fun j m => pc5 ((x.1.ps[j]?).getD prt0) m))
    (hn : w3.heap.size ≤ n) (hb : Below w3.heap.size w3 w5) (hR : n ≤ R) (tb : Tab w3) (lv : Lev w3) (h2n : 2 ≤ w3.heap.size)
    (hblk : w5.heap[R]? = some (.cells #[vl, .int .i64 0] 75 (0, 0))) (hnn : n ≤ w5.heap.size) : Kd w5 R ⟨a, vl, n⟩ 0 := by
  have key : ∀ k, (B ≤ k ∧ k < w3.heap.size) → Ok n R k ∧ w5.heap[k]? = w3.heap[k]? := fun k hk => ⟨⟨by omega, by omega⟩, hb.block k hk.2⟩
  obtain ⟨o, cap, e, r⟩ := h1
  exact ⟨hblk, ⟨⟨o, cap, e, r.keptP key⟩, fun x hx => (h2 x hx).keptP key, tb.at (hb.block 0 (by omega)), lv.at (hb.block 1 (by omega)), by omega, by show 2 ≤ n; omega⟩,
    sz_mk hat (lexL_g hl).1 (lexL_g hl).2.1 (lexL_g hl).2.2 _ _ _ (by decide) (by decide) (by decide), inq_lex hat (lexL_g hl).1 _ _ _, Nat.zero_le _, hnn⟩
/-- just the last token is the end's -/
theorem ends_new {n : Nat} {vl : Value} {a : List (Tkn × Option Addr × Nat)} {L : List UInt8} {ts : List Tkn} (hat : a.map (·.1) = ts) (hl : lexL L = .ok ts) : Ends ⟨a, vl, n⟩ ∧ 0 < a.length ∧ ∀ p, (readM (Kz.cx ⟨a, vl, n⟩) p).2.2.1 = 0 → p ≤ (readM (Kz.cx ⟨a, vl, n⟩) p).2.1 ∧ (readM (Kz.cx ⟨a, vl, n⟩) p).2.1 < a.length := by
  obtain ⟨xs, e, rfl, he, hx⟩ := lexL_kinds hl
  have hL : (Kz.cx ⟨a, vl, n⟩).L = xs ++ [e] := hat
  have hal : a.length = xs.length + 1 := by have := congrArg List.length hat; simpa using this
  have hz : ∀ i, xs.length ≤ i → ((Kz.cx ⟨a, vl, n⟩).tk i).k = 0 := fun i hi => by
    unfold Cx.tk
    rw [hL, List.getElem?_append_right hi]
    rcases Nat.lt_or_ge i (xs.length + 1) with h | h
    · obtain rfl : i = xs.length := by omega
      simpa using he
    · rw [List.getElem?_eq_none (by simp; omega)]; rfl
  refine ⟨fun i hi hk => ?_, by omega, fun p hp => ?_⟩
  · rw [← Kz.tk_eq] at hk
    have hi' : i < a.length := hi
    show i + 1 < a.length
    by_cases h : xs.length ≤ i
    · exact absurd (hz i h) hk
    · omega
  · have := read_at (C := Kz.cx ⟨a, vl, n⟩) (n := xs.length) (by rw [hL]; simp) hz (fun l h h' => inn_move l h h') p hp
    rw [hL] at this
    simp at this
    rw [hal]
    exact this
end Go.Proofs.YtncjncacfagldaaDoor
