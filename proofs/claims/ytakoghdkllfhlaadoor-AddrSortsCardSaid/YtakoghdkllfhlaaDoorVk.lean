/- Objects in memory, one behind the other. -/
import Derived.Test.YtakoghdkllfhlaaDoorVa
import Derived.Test.YtakoghdkllfhlaaDoorVf
namespace Go.Proofs.YtakoghdkllfhlaaDoor
open Go.RowKit

/-- object k's cells, from o on -/
structure Hc (w : World) (b o : Nat) (k : Obt) : Prop where
  c0 : w.cell? ⟨b, o, none⟩ = some (.string k.a.t)
  c1 : w.cell? ⟨b, o + 1, none⟩ = some (.string k.a.n)
  c2 : w.cell? ⟨b, o + 2, none⟩ = some (.int .i64 k.a.kd)
  c3 : w.cell? ⟨b, o + 3, none⟩ = some (.int .i64 k.a.i)
  c4 : w.cell? ⟨b, o + 4, none⟩ = some (.string k.a.k)
  c5 : w.cell? ⟨b, o + 5, none⟩ = some (.int .u32 k.N)
theorem Hc.kept {w w' : World} {b o m : Nat} {a : Obt} (h : Hc w b o a) (hb : Below m w w') (hm : b < m) : Hc w' b o a :=
  ⟨(hb.cell (p := ⟨b, _, none⟩) hm).trans h.c0, (hb.cell (p := ⟨b, _, none⟩) hm).trans h.c1, (hb.cell (p := ⟨b, _, none⟩) hm).trans h.c2, (hb.cell (p := ⟨b, _, none⟩) hm).trans h.c3, (hb.cell (p := ⟨b, _, none⟩) hm).trans h.c4, (hb.cell (p := ⟨b, _, none⟩) hm).trans h.c5⟩
/-- a slice's objects -/
structure Ks (w : World) (p : Option Addr) (cap : Nat) (l : List Obt) : Prop where
  lc : l.length ≤ cap
  cm : cap ≤ maxLen
  nz : p = none → cap = 0
  el : 0 < l.length → ∃ b o, p = some ⟨b, o, none⟩ ∧ b < w.heap.size ∧ ∀ i x, l[i]? = some x → Hc w b (o + i * 6) x
theorem Ks.below {w w' : World} {p : Option Addr} {cap : Nat} {l : List Obt} (h : Ks w p cap l) (hb : Below w.heap.size w w') : Ks w' p cap l :=
  ⟨h.lc, h.cm, h.nz, fun hl => by
    obtain ⟨b, o, e, hlt, hc⟩ := h.el hl
    exact ⟨b, o, e, Nat.lt_of_lt_of_le hlt hb.size, fun i x hx => (hc i x hx).kept hb hlt⟩⟩
theorem Ks.nil (w : World) : Ks w none 0 [] := ⟨Nat.le_refl _, Nat.zero_le _, fun _ => rfl, fun h => absurd h (Nat.lt_irrefl _)⟩
theorem Ks.at {w : World} {p : Option Addr} {cap : Nat} {l : List Obt} (h : Ks w p cap l) {i : Nat} (hi : i < l.length) : ∃ b o x, p = some ⟨b, o, none⟩ ∧ b < w.heap.size ∧ l[i]? = some x ∧ Hc w b (o + i * 6) x := by
  obtain ⟨b, o, e, hlt, hc⟩ := h.el (by omega)
  exact ⟨b, o, l[i], e, hlt, List.getElem?_eq_getElem hi, hc i _ (List.getElem?_eq_getElem hi)⟩
theorem ke_len (k : Obt) : (ke k).length = 6 := rfl
theorem flat_len (l : List Obt) : (l.flatMap ke).length = l.length * 6 := by
  induction l with
  | nil => rfl
  | cons a r ih =>
    have l6 : (ke a).length = 6 := rfl
    rw [List.flatMap_cons, List.length_append, ih, l6, List.length_cons]; omega
theorem flat_get {l : List Obt} {i : Nat} {x : Obt} (h : l[i]? = some x) (m : Nat) (hm : m < 6) : (l.flatMap ke)[i * 6 + m]? = (ke x)[m]? := by
  induction l generalizing i with
  | nil => simp at h
  | cons a r ih =>
    have l6 : (ke a).length = 6 := rfl
    rw [List.flatMap_cons]
    cases i with
    | zero =>
      simp only [List.getElem?_cons_zero, Option.some.injEq] at h
      subst h
      rw [Nat.zero_mul, Nat.zero_add, List.getElem?_append_left (by omega)]
    | succ i =>
      simp only [List.getElem?_cons_succ] at h
      rw [List.getElem?_append_right (by omega), l6, show (i + 1) * 6 + m - 6 = i * 6 + m by omega]
      exact ih h
theorem own_cell {w : World} {B e z n g l c : Nat} {xs : List Value} (h : w.ownsRow B e z (.slice (some ⟨g, 0, none⟩) l c) n xs) {i : Nat} {v : Value} (hv : xs[i]? = some v) : w.cell? ⟨g, i, none⟩ = some v := by
  have := h.cells (g := g) rfl i v hv
  have ea : (⟨g, 0, none⟩ : Addr).add i = ⟨g, i, none⟩ := by unfold Addr.add; split <;> simp_all
  rwa [ea] at this
/-- what a row of one's own holds -/
theorem ks_of_own {w : World} {B : Nat} {v : Value} {l : List Obt} (h : w.ownsRow B 26 6 v l.length (l.flatMap ke)) : ∃ p cap, v = .slice p l.length cap ∧ Ks w p cap l := by
  rcases h.2 with ⟨rfl, h0⟩ | ⟨g, cap, cur, rfl, hbase, hgb, r1, r2, r3, r4⟩
  · have : l = [] := List.eq_nil_of_length_eq_zero h0
    subst this
    exact ⟨none, 0, rfl, Ks.nil w⟩
  · refine ⟨_, cap, rfl, r1, r2, (fun e => by cases e), fun _ => ⟨g, 0, rfl, (Array.getElem?_eq_some_iff.1 hgb).1, fun i x hx => ?_⟩⟩
    have key : ∀ m u, m < 6 → (ke x)[m]? = some u → w.cell? ⟨g, i * 6 + m, none⟩ = some u := fun m u hm hu => own_cell h ((flat_get hx m hm).trans hu)
    rw [Nat.zero_add]
    exact ⟨key 0 _ (by omega) rfl, key 1 _ (by omega) rfl, key 2 _ (by omega) rfl, key 3 _ (by omega) rfl, key 4 _ (by omega) rfl, key 5 _ (by omega) rfl⟩
end Go.Proofs.YtakoghdkllfhlaaDoor
