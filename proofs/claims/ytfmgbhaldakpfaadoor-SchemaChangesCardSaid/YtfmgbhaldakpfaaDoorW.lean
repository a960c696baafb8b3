/- A struct stored into a row; rows that a call fills. -/
import Derived.Test.YtfmgbhaldakpfaaDoorB
import Derived.Laws.Rows
import Derived.Laws.CopyRow
import Derived.Laws.MakeOwn
import Derived.Laws.CopyOwn
import Derived.Deep.WholeRow
namespace Go.Proofs.YtfmgbhaldakpfaaDoor
open Go.RowKit

section
variable {P : Program}
theorem run_storeVar_at (w : World) (g o : Nat) (ty t : TypeId) (cs part : Array Value) (hg : w.heap[g]? = some (.cells cs t (0, 0)))
    (hfit : o + part.size ≤ cs.size) (hi : (P.info? ty).map (·.size) = some part.size) (h1 : part.all (·.oneCell') = true) :
    (storeVar ty ⟨g, o, none⟩ (.agg part)).run P w = .ok () (w.setRow g (cs.toList.take o ++ part.toList ++ cs.toList.drop (o + part.size)).toArray) := by
  have := run_storeCells_at P g o t part.toList 0 cs w hg (by simpa using hfit) (fun v hv => (Array.all_eq_true_iff_forall_mem.1 h1) v (by simpa using hv))
  cases hq : P.info? ty with
  | none => simp [hq] at hi
  | some i =>
    have hs : part.size = i.size := by simp [hq] at hi; omega
    simp only [Nat.add_zero, Array.length_toList] at this
    simp [storeVar, sizeOf, typeInfo, hq, Value.cells, hs, this]
theorem wpList_store_at {ops : Array Oper} {rest : List Oper} {o : Oper} {a : Act} {w : World} {Q : Exit → Act → World → Prop} (hgd : o.guard = none) (ty : TypeId) (x y : Operand) (ho : o.op = .store ty x y)
    (g off : Nat) (hx : a.eval x = .pointer (some ⟨g, off, none⟩)) (part : Array Value) (hy : a.eval y = .agg part) (t : TypeId) (cs : Array Value) (hg : w.heap[g]? = some (.cells cs t (0, 0)))
    (hfit : off + part.size ≤ cs.size) (hi : (P.info? ty).map (·.size) = some part.size) (h1 : part.all (·.oneCell') = true)
    (h : wpList P ops Q rest (a.put o.dst undef) (w.setRow g (cs.toList.take off ++ part.toList ++ cs.toList.drop (off + part.size)).toArray)) : wpList P ops Q (o :: rest) a w :=
  wpList_plain hgd fun _ hK => by
    unfold Oper.wp execOp
    simp only [ho, hx, hy, Instr.storeAt, Instr.sureAddr, Sem.run_bind, Sem.run_pure, Result.andThen_ok, run_storeVar_at w g off ty t cs part hg hfit hi h1]
    exact hK _ _ h
end
/-- block g is a row of len elements of z cells, whose first j hold C -/
def Out (w : World) (g : Nat) (T : TypeId) (len z j : Nat) (C : Nat → Nat → Value) : Prop :=
  ∃ cs : Array Value, w.heap[g]? = some (.cells cs T (0, 0)) ∧ cs.size = len * z ∧ ∀ i, i < j → ∀ m, m < z → cs[i * z + m]? = some (C i m)
theorem Out.lt {w : World} {g : Nat} {T : TypeId} {len z j : Nat} {C : Nat → Nat → Value} (h : Out w g T len z j C) : g < w.heap.size := by
  obtain ⟨cs, h1, _⟩ := h; exact (Array.getElem?_eq_some_iff.1 h1).1
theorem Out.same {w w' : World} {g : Nat} {T : TypeId} {len z j : Nat} {C : Nat → Nat → Value} (h : Out w g T len z j C) (e : w'.heap[g]? = w.heap[g]?) : Out w' g T len z j C := by
  obtain ⟨cs, h1, h2⟩ := h; exact ⟨cs, by rw [e]; exact h1, h2⟩
theorem Out.keep {w w' : World} {g n : Nat} {T : TypeId} {len z j : Nat} {C : Nat → Nat → Value} (h : Out w g T len z j C) (b : Below n w w') (hg : g < n) : Out w' g T len z j C := h.same (b.block g hg)
theorem Out.made (w : World) (T : TypeId) (len z : Nat) (zs : Array Value) (C : Nat → Nat → Value) : Out (w.alloc (.cells (madeCells zs (len * z)) T)) w.heap.size T len z 0 C :=
  ⟨_, heap_alloc_new w _, size_madeCells _ _, fun _ hi => absurd hi (Nat.not_lt_zero _)⟩
theorem splice_get (cs : List Value) (part : List Value) (o i : Nat) (h : o + part.length ≤ cs.length) :
    (cs.take o ++ part ++ cs.drop (o + part.length))[i]? = if i < o then cs[i]? else if i < o + part.length then part[i - o]? else cs[i]? := by
  have l1 : (cs.take o).length = o := by rw [List.length_take]; omega
  by_cases h1 : i < o
  · rw [if_pos h1, List.append_assoc, List.getElem?_append_left (by omega), List.getElem?_take_of_lt h1]
  · rw [if_neg h1]
    by_cases h2 : i < o + part.length
    · rw [if_pos h2, List.getElem?_append_left (by rw [List.length_append]; omega), List.getElem?_append_right (by omega), l1]
    · rw [if_neg h2, List.getElem?_append_right (by rw [List.length_append]; omega), List.length_append, l1, List.getElem?_drop]
      congr 1; omega
theorem Out.store {w : World} {g : Nat} {T : TypeId} {len z j : Nat} {C : Nat → Nat → Value} {cs : Array Value} {part : Array Value} (h1 : w.heap[g]? = some (.cells cs T (0, 0))) (h2 : cs.size = len * z)
    (h3 : ∀ i, i < j → ∀ m, m < z → cs[i * z + m]? = some (C i m)) (hj : j < len) (hp : part.size = z) (D : Nat → Value) (hD : ∀ m, m < z → part[m]? = some (D m)) :
    Out (w.setRow g (cs.toList.take (j * z) ++ part.toList ++ cs.toList.drop (j * z + part.size)).toArray) g T len z (j + 1) (fun i m => if i = j then D m else C i m) := by
  have hjz : j * z + z ≤ len * z := by rw [← Nat.succ_mul]; exact Nat.mul_le_mul_right z hj
  refine ⟨_, setRow_heap w g _ _ T _ h1, ?_, fun i hi m hm => ?_⟩
  · simp only [List.size_toArray, List.length_append, List.length_take, List.length_drop, Array.length_toList]; omega
  · have hs := splice_get cs.toList part.toList (j * z) (i * z + m) (by simp only [Array.length_toList]; omega)
    simp only [Array.length_toList] at hs
    rw [List.getElem?_toArray, hs]
    show _ = some (if i = j then D m else C i m)
    by_cases e : i = j
    · subst e
      rw [if_neg (by omega), if_pos (by omega), if_pos rfl, Nat.add_sub_cancel_left, Array.getElem?_toList]
      exact hD m hm
    · have : i < j := by omega
      have h4 : i * z + z ≤ j * z := by rw [← Nat.succ_mul]; exact Nat.mul_le_mul_right z this
      rw [if_pos (by omega), if_neg e, Array.getElem?_toList]
      exact h3 i this m hm
theorem setRow_other (w : World) (g : Nat) (cs : Array Value) (k : Nat) (h : k ≠ g) : (w.setRow g cs).heap[k]? = w.heap[k]? := by
  simp only [World.setRow, Array.getElem?_modify]
  rw [if_neg (fun e => h e.symm)]
end Go.Proofs.YtfmgbhaldakpfaaDoor
