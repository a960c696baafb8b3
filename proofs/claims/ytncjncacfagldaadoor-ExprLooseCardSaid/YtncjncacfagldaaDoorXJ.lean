/- ExprLoose: what the model answers for two signs; joined texts in a region; a parser's answer kept in two boxes. -/
import Derived.Test.YtncjncacfagldaaDoorXG
import Derived.Test.YtncjncacfagldaaDoorXH
import Derived.Laws.Concat
namespace Go.Proofs.YtncjncacfagldaaDoor
open Go.RowKit Go.Lib

theorem exec_cat {a : Act} {o : Oper} {x y : Operand} {s t u : ByteArray} {W : World} (ho : o.op = .binOp .add 9 x y 9) (hx : a.eval x = .string s) (hy : a.eval y = .string t) (h : s.size + t.size ≤ 9223372036854775807) (hu : s ++ t = u) :
    (execOp a.eval o).run Tryd.prog W = .ok (.value (.string u)) W := by
  subst hu
  have hr := run_string_add_sum (P := Tryd.prog) (w := W) s t h
  unfold execOp
  simp only [ho, hx, hy]
  simp only [Sem.run_bind, Sem.run_pure]
  have e1 : Sem.run Tryd.prog (eqGuard BinOp.add 9 x y (Value.string s) (Value.string t)) W = .ok () W := by simp [eqGuard]
  have e2 : Sem.run Tryd.prog (binOp BinOp.add 9 (Value.string s) (Value.string t)) W = .ok (.string (s ++ t)) W := by simp [go_sem, h]
  rw [e1, Result.andThen_ok, e2, Result.andThen_ok]
theorem tx_app (a b : List UInt8) : tx a ++ tx b = tx (a ++ b) := by
  have h : (tx a ++ tx b).data = (tx (a ++ b)).data := by
    rw [ByteArray.data_append]
    show a.toArray ++ b.toArray = (a ++ b).toArray
    simp
  exact ByteArray.ext h
theorem tx_sz (a : List UInt8) : (tx a).size = a.length := by show a.toArray.size = _; simp
theorem ba_eq {a b : ByteArray} (h : (a.data.toList == b.data.toList) = true) : a = b := by
  have h1 : a.data.toList = b.data.toList := by simpa using h
  exact ByteArray.ext (Array.toList_inj.1 h1)
theorem val_eq {A B : Val} (h1 : A.k = B.k) (h2 : A.i = B.i) (h3 : A.s = B.s) (h4 : A.tk = B.tk) (h5 : A.to = B.to) (h6 : A.x = B.x) (h7 : A.l = B.l) (h8 : A.ks = B.ks) : A = B := by
  cases A; cases B
  cases h1; cases h2; cases h3; cases h4; cases h5; cases h6; cases h7; cases h8
  rfl
theorem sameXC_ok : ∀ (f : Nat) (A B : Ex), sameXC f A B = true → sameX false A B = true
  | 0, _, _, h => by cases h
  | f + 1, A, B, h => by
    rw [sameXC] at h
    simp only [Bool.and_eq_true, decide_eq_true_eq, List.isEmpty_iff] at h
    obtain ⟨h1, h2, h3, h4, h5, h6, h7, h8, h9, h10, h11, h12, h13, h14, h15⟩ := h
    have hv : A.v = B.v := val_eq (by simpa using h4) (by simpa using h5) (ba_eq h6) (by simpa using h7) (by simpa using h8) (by simpa using h9) (h10.trans h11.symm) (h12.trans h13.symm)
    rw [sx_yes h1 (ba_eq h2) (ba_eq h3) (by rw [hv]; exact sameV_self _)]
    refine eqX_yes (by simpa using h14) fun j X Y hx hy => sameXC_ok f X Y ?_
    have hz : (A.l.zip B.l)[j]? = some (X, Y) := by rw [List.getElem?_zip_eq_some]; exact ⟨hx, hy⟩
    exact List.all_eq_true.1 h15 (X, Y) (List.mem_of_getElem? hz)
/-- two signs, and what the three texts are -/
theorem loose_at (i k : Nat) (hi : i < 13) (hk : k < 13) : (parseM (looseB i k)).2.1 = 0 ∧ (parseM (looseC i k)).2.1 = 0 ∧
    (lv' i = 3 → lv' k = 3 → (parseM (looseA i k)).2.1 = 4) ∧
    (¬ (lv' i = 3 ∧ lv' k = 3) → lv' k ≤ lv' i → (parseM (looseA i k)).2.1 = 0 ∧ sameX false (parseM (looseA i k)).1 (parseM (looseB i k)).1 = true) ∧
    (¬ (lv' i = 3 ∧ lv' k = 3) → ¬ lv' k ≤ lv' i → (parseM (looseA i k)).2.1 = 0 ∧ sameX false (parseM (looseA i k)).1 (parseM (looseC i k)).1 = true) := by
  have h := List.all_eq_true.1 (List.all_eq_true.1 loose_all i (List.mem_range.2 hi)) k (List.mem_range.2 hk)
  simp only [parse_c]
  unfold looseOk at h
  simp only [Bool.and_eq_true, beq_iff_eq] at h
  obtain ⟨h1, h2, h3⟩ := h
  refine ⟨h1, h2, fun a b => ?_, fun a b => ?_, fun a b => ?_⟩
  · rw [if_pos ⟨a, b⟩] at h3
    simpa using h3
  · rw [if_neg a, if_pos b] at h3
    simp only [Bool.and_eq_true, beq_iff_eq] at h3
    exact ⟨h3.1, sameXC_ok _ _ _ h3.2⟩
  · rw [if_neg a, if_neg b] at h3
    simp only [Bool.and_eq_true, beq_iff_eq] at h3
    exact ⟨h3.1, sameXC_ok _ _ _ h3.2⟩
theorem sg_len : ∀ i, (sg' i).length ≤ 2 := by
  intro i
  by_cases h : i < 13
  · have : ∀ j, j < 13 → (sg' j).length ≤ 2 := by decide
    exact this i h
  · unfold sg'; rw [List.getD_eq_getElem?_getD, List.getElem?_eq_none (by show 13 ≤ i; omega)]; decide
theorem loose_len (i k : Nat) : (looseA i k).length ≤ 100 ∧ (looseB i k).length ≤ 100 ∧ (looseC i k).length ≤ 100 := by
  have h1 := sg_len i
  have h2 := sg_len k
  unfold looseA looseB looseC
  simp only [List.length_append, List.length_cons, List.length_nil]
  omega
/-- what a call of Parse leaves, kept in two boxes -/
def PK (N : Nat) (W0 w : World) (g1 g2 : Nat) (M : Ex × Nat × Ps) : Prop := ∃ oV cV oK cK o cap n, w.heap[g1]? = some (.cells (xc M.1 oV cV oK cK o cap) 33 (0, 0)) ∧ w.heap[g2]? = some (.cells #[.int .i64 (M.2.1 : Int), .int .i64 M.2.2.a, .int .i64 M.2.2.l, .int .i64 M.2.2.c, .string ⟨#[]⟩] 36 (0, 0)) ∧ XL n w M.1 (.agg (xc M.1 oV cV oK cK o cap)) ∧ n ≤ w.heap.size ∧ Below N W0 w
theorem PK.kept {N : Nat} {W0 w w' : World} {g1 g2 : Nat} {M : Ex × Nat × Ps} (h : PK N W0 w g1 g2 M) {K : Nat} (k : Below K w w') (hk : w.heap.size ≤ K) (hN : N ≤ K) : PK N W0 w' g1 g2 M := by
  obtain ⟨oV, cV, oK, cK, o, cap, n, h1, h2, h3, h4, h5⟩ := h
  exact ⟨oV, cV, oK, cK, o, cap, n, (k.block _ (Nat.lt_of_lt_of_le (Array.getElem?_eq_some_iff.1 h1).1 hk)).trans h1, (k.block _ (Nat.lt_of_lt_of_le (Array.getElem?_eq_some_iff.1 h2).1 hk)).trans h2, h3.bl (fun i hi => hi) (k.mono (Nat.le_trans h4 hk)), Nat.le_trans h4 k.size, h5.trans (k.mono hN)⟩
theorem PK.kept0 {N : Nat} {W0 w w' : World} {g1 g2 : Nat} {M : Ex × Nat × Ps} (h : PK N W0 w g1 g2 M) {K : Nat} (k : Below K w w') (hk : w.heap.size ≤ K) : PK 0 W0 w' g1 g2 M := by
  obtain ⟨oV, cV, oK, cK, o, cap, n, h1, h2, h3, h4, h5⟩ := h
  exact PK.kept ⟨oV, cV, oK, cK, o, cap, n, h1, h2, h3, h4, h5.mono (Nat.zero_le _)⟩ k hk (Nat.zero_le _)
theorem sg_cell : ∀ j, j < 13 → (#[.string ⟨#[124, 124]⟩, .string ⟨#[38, 38]⟩, .string ⟨#[61, 61]⟩, .string ⟨#[33, 61]⟩, .string ⟨#[60]⟩, .string ⟨#[60, 61]⟩, .string ⟨#[62]⟩, .string ⟨#[62, 61]⟩, .string ⟨#[43]⟩, .string ⟨#[45]⟩, .string ⟨#[42]⟩, .string ⟨#[47]⟩, .string ⟨#[37]⟩] : Array Value)[j]? = some (.string (tx (sg' j)))
  | 0, _ => rfl
  | 1, _ => rfl
  | 2, _ => rfl
  | 3, _ => rfl
  | 4, _ => rfl
  | 5, _ => rfl
  | 6, _ => rfl
  | 7, _ => rfl
  | 8, _ => rfl
  | 9, _ => rfl
  | 10, _ => rfl
  | 11, _ => rfl
  | 12, _ => rfl
  | n + 13, h => by omega
theorem lv_cell : ∀ j, j < 13 → (#[.int .i64 1, .int .i64 2, .int .i64 3, .int .i64 3, .int .i64 3, .int .i64 3, .int .i64 3, .int .i64 3, .int .i64 4, .int .i64 4, .int .i64 5, .int .i64 5, .int .i64 5] : Array Value)[j]? = some (.int .i64 (lv' j : Int))
  | 0, _ => rfl
  | 1, _ => rfl
  | 2, _ => rfl
  | 3, _ => rfl
  | 4, _ => rfl
  | 5, _ => rfl
  | 6, _ => rfl
  | 7, _ => rfl
  | 8, _ => rfl
  | 9, _ => rfl
  | 10, _ => rfl
  | 11, _ => rfl
  | 12, _ => rfl
  | n + 13, h => by omega
end Go.Proofs.YtncjncacfagldaaDoor
