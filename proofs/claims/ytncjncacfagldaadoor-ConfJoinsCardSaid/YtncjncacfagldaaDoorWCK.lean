/- Contracts: items. -/
import Derived.Test.YtncjncacfagldaaDoorWCJ
import Derived.Great.BuildSlice
namespace Go.Proofs.YtncjncacfagldaaDoor
open Go.RowKit Go.Lib

theorem fill_cl (c0 c1 c2 c3 c4 c5 c6 c7 c8 c9 c10 c11 c12 c13 c14 c15 c16 c17 c18 c19 c20 c21 : Value) : Instr.fill (fun k => some (k * 22, 22)) ((Array.range (1 * 22)).map ((Value.agg #[.bool false, .string ⟨#[]⟩, .slice none 0 0, .int .i64 0, .string ⟨#[]⟩, .string ⟨#[]⟩, .int .i64 0, .int .i64 0, .string ⟨#[]⟩, .slice none 0 0, .slice none 0 0, .int .i64 0, .int .i64 0, .bool false, .slice none 0 0, .int .i64 0, .int .i64 0, .int .i64 0, .slice none 0 0, .int .i64 0, .int .i64 0, .int .i64 0]).cells[· % (Value.agg #[.bool false, .string ⟨#[]⟩, .slice none 0 0, .int .i64 0, .string ⟨#[]⟩, .string ⟨#[]⟩, .int .i64 0, .int .i64 0, .string ⟨#[]⟩, .slice none 0 0, .slice none 0 0, .int .i64 0, .int .i64 0, .bool false, .slice none 0 0, .int .i64 0, .int .i64 0, .int .i64 0, .slice none 0 0, .int .i64 0, .int .i64 0, .int .i64 0]).cells.size]!)) [(0, .agg #[c0, c1, c2, c3, c4, c5, c6, c7, c8, c9, c10, c11, c12, c13, c14, c15, c16, c17, c18, c19, c20, c21])] = some #[c0, c1, c2, c3, c4, c5, c6, c7, c8, c9, c10, c11, c12, c13, c14, c15, c16, c17, c18, c19, c20, c21] := by kernel_rfl
theorem fill_it (cs : Array Value) (h : cs.size = 22) {i : TypeInfo} (hs : i.size = 22) : Instr.fill (fun k => some (k * i.size, i.size)) ((Array.range (1 * i.size)).map ((Value.agg #[.bool false, .string ⟨#[]⟩, .slice none 0 0, .int .i64 0, .string ⟨#[]⟩, .string ⟨#[]⟩, .int .i64 0, .int .i64 0, .string ⟨#[]⟩, .slice none 0 0, .slice none 0 0, .int .i64 0, .int .i64 0, .bool false, .slice none 0 0, .int .i64 0, .int .i64 0, .int .i64 0, .slice none 0 0, .int .i64 0, .int .i64 0, .int .i64 0]).cells[· % (Value.agg #[.bool false, .string ⟨#[]⟩, .slice none 0 0, .int .i64 0, .string ⟨#[]⟩, .string ⟨#[]⟩, .int .i64 0, .int .i64 0, .string ⟨#[]⟩, .slice none 0 0, .slice none 0 0, .int .i64 0, .int .i64 0, .bool false, .slice none 0 0, .int .i64 0, .int .i64 0, .int .i64 0, .slice none 0 0, .int .i64 0, .int .i64 0, .int .i64 0]).cells.size]!)) [(0, .agg cs)] = some cs := by
  rw [hs]
  obtain ⟨l⟩ := cs
  match l, h with
  | [c0, c1, c2, c3, c4, c5, c6, c7, c8, c9, c10, c11, c12, c13, c14, c15, c16, c17, c18, c19, c20, c21], _ => exact fill_cl c0 c1 c2 c3 c4 c5 c6 c7 c8 c9 c10 c11 c12 c13 c14 c15 c16 c17 c18 c19 c20 c21
theorem build_it {ops : Array Oper} {rest : List Oper} {o : Oper} {a : Act} {w : World} {Q : Exit → Act → World → Prop} (hg : o.guard = none) (x : Operand) (ho : o.op = .buildSlice 48 1 #[(0, x)]) (cs : Array Value) (hx : a.eval x = .agg cs) (h22 : cs.size = 22)
    (h : wpList Tryd.prog ops Q rest (a.put o.dst (.slice (some ⟨w.heap.size, 0, none⟩) 1 1)) (w.alloc (.cells cs 52))) : wpList Tryd.prog ops Q (o :: rest) a w := by
  obtain ⟨i, hi, hz, hs, hb⟩ := info_parts info52
  refine wpList_buildSlice hg 48 52 1 #[(0, x)] ho cs i _ Tryd.underlying48 hi hz (by rw [hs]; decide) (by rw [hs]; decide) ?_ h
  have := fill_it cs h22 hs
  rw [← hx] at this
  rw [show (#[(0, x)].map fun (y : Nat × Operand) => (y.1, a.eval y.2)).toList = [(0, a.eval x)] from by simp]
  exact this
/-- behind items -/
def IsPost (w : World) (R : Nat) (K : Kz) (k : Nat) : Res (List It) → Ending → World → Prop
  | .ok (l, q), e, w' => (∃ v, e = .returned (.tuple #[v, dgv 0 ps0]) ∧ PayI l (fun b => w.heap.size ≤ b ∧ b < w'.heap.size) w' v) ∧ Kd w' R K q ∧ (k ≠ 0 → q < K.acc.length) ∧ Fm R w w'
  | .error (c, q), e, w' => e = .returned (.tuple #[.slice none 0 0, dgv c q]) ∧ Fm R w w' ∧ c ≠ 0
theorem IsPost.rd {w : World} {R : Nat} {K : Kz} {k : Nat} (hk : k ≠ 0) {m : Res (List It)} {e : Ending} {w' : World} (h : IsPost w R K k m e w') : RdP PayI w R K m e w' := by
  cases m with
  | error x => obtain ⟨rfl, h1, h2⟩ := h; exact ⟨_, _, _, rfl, ⟨Nat.le_refl _, rfl, rfl, rfl, h2⟩, h1⟩
  | ok x => obtain ⟨⟨v, rfl, hp⟩, h1, h2, h3⟩ := h; exact ⟨_, _, _, rfl, ⟨Nat.le_refl _, rfl, rfl, hp, h1, h2 hk⟩, h3⟩
theorem labelsM_up {C : Cx} {p q : Nat} {lb : List (List UInt8)} (h : labelsM C (C.L.length + 1) p [] = .ok (lb, q)) : p ≤ q := labelsM_ge C _ _ _ _ _ h
theorem itemsL_succ (C : Cx) (f k : Nat) (x : List UInt8) (acc : List It) (p : Nat) : itemsL C (f + 1) k x acc p = if C.has p k x then .ok (acc, p + 1) else match itemM C (itemsL C f 4 [125] []) acc p with
  | .error e => .error e
  | .ok (i, q) => itemsL C f k x (acc ++ [i]) q := by
  rw [itemsL]
  cases itemM C (itemsL C f 4 [125] []) acc p <;> rfl
theorem itemM_gt {C : Cx} (hr : ∀ p, (readM C p).2.2.1 = 0 → p ≤ (readM C p).2.1) {rec : Nat → Res (List It)} (hrec : ∀ p l q, rec p = .ok (l, q) → p ≤ q) {acc : List It} {p : Nat} {x : It} {q : Nat} (h : itemM C rec acc p = .ok (x, q)) : p < q := by
  unfold itemM at h
  split at h
  · cases h
  · split at h
    · cases h
    · split at h
      · unfold attributeM at h
        split at h
        · cases h
        · split at h
          · rename_i h0
            injection h with h; injection h with _ h2
            have := hr (p + 1 + 1) h0; omega
          · cases h
      · rw [blockM_eq] at h
        cases hl : labelsM C (C.L.length + 1) (p + 1) [] with
        | error e => rw [hl] at h; cases h
        | ok y =>
          obtain ⟨lb, q1⟩ := y
          rw [hl] at h
          have h1 := labelsM_up hl
          unfold bkM at h
          simp only [] at h
          split at h
          · cases hc : rec (q1 + 1) with
            | error e => rw [hc] at h; cases h
            | ok z =>
              obtain ⟨l, q2⟩ := z
              rw [hc] at h
              have h2 := hrec _ _ _ hc
              injection h with h; injection h with _ h3
              omega
          · cases h
theorem itemsL_ge {C : Cx} (hr : ∀ p, (readM C p).2.2.1 = 0 → p ≤ (readM C p).2.1) : ∀ (f k : Nat) (x : List UInt8) (acc : List It) (p : Nat) (l : List It) (q : Nat), itemsL C f k x acc p = .ok (l, q) → p ≤ q := by
  intro f
  induction f with
  | zero => intro k x acc p l q h; rw [itemsL] at h; cases h
  | succ f ih =>
    intro k x acc p l q h
    rw [itemsL_succ] at h
    split at h
    · injection h with h; injection h with _ h2; omega
    · cases hi : itemM C (itemsL C f 4 [125] []) acc p with
      | error e => rw [hi] at h; cases h
      | ok y =>
        obtain ⟨i, q1⟩ := y
        rw [hi] at h
        have h1 := itemM_gt hr (fun p l q hc => ih _ _ _ _ _ _ hc) hi
        have h2 := ih _ _ _ _ _ _ h
        omega
end Go.Proofs.YtncjncacfagldaaDoor
