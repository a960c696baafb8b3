/- Arrays held whole: a row of integers in a block. -/
import Derived.Test.YtbdahkbgjbaenaaDoorB
import Derived.Laws.Rows
import Derived.Laws.CopyRow
import Derived.Laws.CopyOwn
import Derived.Deep.WholeRow
namespace Go.Proofs.YtbdahkbgjbaenaaDoor
open Go.RowKit

/-- n integers of a kind, as cells -/
def mk (k : IntKind) (n : Nat) (F : Nat → Int) : Array Value := Array.ofFn (fun j : Fin n => Value.int k (F j))
theorem mk_size (k : IntKind) (n : Nat) (F : Nat → Int) : (mk k n F).size = n := by simp [mk]
theorem mk_get (k : IntKind) (n : Nat) (F : Nat → Int) (j : Nat) (h : j < n) : (mk k n F)[j]? = some (.int k (F j)) := by simp [mk, h]
theorem mk_one (k : IntKind) (n : Nat) (F : Nat → Int) : (mk k n F).all (·.oneCell') = true := by
  rw [Array.all_eq_true]; intro i hi; simp [mk, Value.oneCell']
theorem mk_congr {k : IntKind} {n : Nat} {F G : Nat → Int} (h : ∀ j, j < n → F j = G j) : mk k n F = mk k n G := by
  unfold mk; congr 1; funext j; rw [h j j.isLt]
def upd (F : Nat → Int) (i : Nat) (v : Int) : Nat → Int := fun j => if j = i then v else F j
theorem upd_same (F : Nat → Int) (i : Nat) (v : Int) : upd F i v i = v := by simp [upd]
theorem upd_other (F : Nat → Int) (i : Nat) (v : Int) (j : Nat) (h : j ≠ i) : upd F i v j = F j := by simp [upd, h]
theorem mk_set (k : IntKind) (n : Nat) (F : Nat → Int) (i : Nat) (v : Int) : (mk k n F).setIfInBounds i (.int k v) = mk k n (upd F i v) := by
  apply Array.ext_getElem?
  intro j
  rw [Array.getElem?_setIfInBounds, mk_size]
  by_cases hj : j < n
  · rw [mk_get k n _ j hj, mk_get k n _ j hj]
    by_cases e : i = j
    · subst e; rw [if_pos rfl, if_pos hj, upd_same]
    · rw [if_neg e, upd_other _ _ _ _ (fun h => e h.symm)]
  · have e1 : (mk k n F)[j]? = none := by simp [mk_size]; omega
    have e2 : (mk k n (upd F i v))[j]? = none := by simp [mk_size]; omega
    rw [e1, e2]
    by_cases e : i = j
    · subst e; rw [if_pos rfl, if_neg hj]
    · rw [if_neg e]
/-- block g of w is such a row -/
def Row (w : World) (g : Nat) (T : TypeId) (k : IntKind) (n : Nat) (F : Nat → Int) : Prop := w.heap[g]? = some (.cells (mk k n F) T (0, 0))
section
variable {w : World} {g : Nat} {T : TypeId} {k : IntKind} {n : Nat} {F : Nat → Int}
theorem Row.lt (h : Row w g T k n F) : g < w.heap.size := (Array.getElem?_eq_some_iff.1 h).1
theorem Row.cell (h : Row w g T k n F) (j : Nat) (hj : j < n) : w.cell? ⟨g, j, none⟩ = some (.int k (F j)) := by
  rw [cell_of_row w g j _ T (0, 0) h, mk_get k n F j hj]
theorem Row.free (h : Row w g T k n F) (j : Nat) : w.frozen? ⟨g, j, none⟩ = false := frozen_of_row w g j _ T h
theorem Row.set (h : Row w g T k n F) (j : Nat) (v : Int) : Row (w.setCell ⟨g, j, none⟩ (.int k v)) g T k n (upd F j v) := by
  unfold Row; rw [heap_setCell_same w g j _ T _ h, mk_set]
theorem Row.set_other (h : Row w g T k n F) (a : Addr) (v : Value) (hg : g ≠ a.block) : Row (w.setCell a v) g T k n F := by
  unfold Row; rw [heap_setCell_other w a g v hg]; exact h
theorem Row.drewN (h : Row w g T k n F) (q : Nat) : Row (w.drewN q) g T k n F := h
theorem Row.below {B : Nat} {w' : World} (h : Row w g T k n F) (hb : Below B w w') (hg : g < B) : Row w' g T k n F := by
  unfold Row; rw [hb.block g hg]; exact h
theorem Row.congr {G : Nat → Int} (h : Row w g T k n F) (e : ∀ j, j < n → F j = G j) : Row w g T k n G := by
  unfold Row; rw [← mk_congr e]; exact h
theorem Row.alloc (h : Row w g T k n F) (o : Obj) : Row (w.alloc o) g T k n F := by
  unfold Row; rw [Below.heap_alloc w o g h.lt]; exact h
theorem Row.made (w : World) (T : TypeId) (k : IntKind) (n : Nat) (F : Nat → Int) : Row (w.alloc (.cells (mk k n F) T)) w.heap.size T k n F := heap_alloc_new w _
end

section
variable {P : Program}
/-- a whole array (or struct) out of the middle of a block -/
theorem run_loadVar_at (w : World) (g o : Nat) (ty t : TypeId) (cs : Array Value) (d : TypeDesc) (part : Array Value) (hg : w.heap[g]? = some (.cells cs t (0, 0)))
    (hp : ∀ j, j < part.size → cs[o + j]? = part[j]?)
    (hu : P.underlying ty = some d) (hd : (match d with | .struct _ | .array _ _ => true | _ => false) = true) (hi : (P.info? ty).map (·.size) = some part.size) :
    (loadVar ty ⟨g, o, none⟩).run P w = .ok (.agg part) w := by
  have hl : (loadCells ⟨g, o, none⟩ part.toList.length).run P w = .ok part.toList.toArray w :=
    run_loadCells_list (P := P) w ⟨g, o, none⟩ part.toList (fun j v hv => by
      have hadd : (⟨g, o, none⟩ : Addr).add j = ⟨g, o + j, none⟩ := by unfold Addr.add; split <;> simp_all
      have hlt : j < part.size := by
        have := List.getElem?_eq_some_iff.1 hv
        obtain ⟨h, _⟩ := this
        simpa using h
      rw [hadd, cell_of_row w g (o + j) cs t (0, 0) hg, hp j hlt]
      simpa using hv)
  cases hq : P.info? ty with
  | none => simp [hq] at hi
  | some i =>
    have hs : i.size = part.size := by simpa [hq] using hi
    have hagg : (isAgg ty).run P w = .ok true w := by
      unfold isAgg
      rw [Sem.run_bind, run_underlying hu w]
      cases d <;> simp_all
    simp only [Array.length_toList, Array.toArray_toList] at hl
    simp [loadVar, Sem.run_bind, hagg, sizeOf, typeInfo, hq, hs, hl]
theorem run_loadAt_at (w : World) (g o : Nat) (ty t : TypeId) (cs : Array Value) (d : TypeDesc) (part : Array Value) (hg : w.heap[g]? = some (.cells cs t (0, 0)))
    (hp : ∀ j, j < part.size → cs[o + j]? = part[j]?)
    (hu : P.underlying ty = some d) (hd : (match d with | .struct _ | .array _ _ => true | _ => false) = true) (hi : (P.info? ty).map (·.size) = some part.size) :
    (Instr.loadAt ty (.pointer (some ⟨g, o, none⟩))).run P w = .ok (.agg part) w := by
  simp only [Instr.loadAt, Instr.sureAddr, Sem.run_bind, Sem.run_pure, Result.andThen]
  exact run_loadVar_at w g o ty t cs d part hg hp hu hd hi
theorem wpList_load_at {ops : Array Oper} {rest : List Oper} {o : Oper} {a : Act} {w : World} {Q : Exit → Act → World → Prop} (hgd : o.guard = none) (ty : TypeId) (x : Operand) (ho : o.op = .load ty x)
    (g off : Nat) (hx : a.eval x = .pointer (some ⟨g, off, none⟩)) (t : TypeId) (cs part : Array Value) (d : TypeDesc) (hg : w.heap[g]? = some (.cells cs t (0, 0)))
    (hp : ∀ j, j < part.size → cs[off + j]? = part[j]?)
    (hu : P.underlying ty = some d) (hd : (match d with | .struct _ | .array _ _ => true | _ => false) = true) (hi : (P.info? ty).map (·.size) = some part.size)
    (h : wpList P ops Q rest (a.put o.dst (.agg part)) w) : wpList P ops Q (o :: rest) a w :=
  wpList_plain hgd fun _ hK => by
    unfold Oper.wp execOp
    simp only [ho, hx, Instr.loadAt, Instr.sureAddr, Sem.run_bind, Sem.run_pure, Result.andThen_ok, run_loadVar_at w g off ty t cs d part hg hp hu hd hi]
    exact hK _ _ h
/-- a whole array into the middle of a block -/
theorem run_storeVar_at (w : World) (g o : Nat) (ty t : TypeId) (cs part : Array Value) (hg : w.heap[g]? = some (.cells cs t (0, 0)))
    (hfit : o + part.size ≤ cs.size) (hi : (P.info? ty).map (·.size) = some part.size) (h1 : part.all (·.oneCell') = true) :
    (storeVar ty ⟨g, o, none⟩ (.agg part)).run P w = .ok () (w.setRow g (cs.toList.take o ++ part.toList ++ cs.toList.drop (o + part.size)).toArray) := by
  have := run_storeCells_at P g o t part.toList 0 cs w hg (by simpa using hfit) (fun v hv => (Array.all_eq_true_iff_forall_mem.1 h1) v (by simpa using hv))
  cases hq : P.info? ty with
  | none => simp [hq] at hi
  | some i =>
    have hs : part.size = i.size := by simp [hq] at hi; omega
    simp only [Nat.add_zero, Array.length_toList] at this
    simp [storeVar, sizeOf, typeInfo, hq, Value.cells, hs, this]
theorem wpList_store_at {ops : Array Oper} {rest : List Oper} {o : Oper} {a : Act} {w : World} {Q : Exit → Act → World → Prop} (hgd : o.guard = none) (ty : TypeId) (x y : Operand) (ho : o.op = .store ty x y)
    (g off : Nat) (hx : a.eval x = .pointer (some ⟨g, off, none⟩)) (part : Array Value) (hy : a.eval y = .agg part) (t : TypeId) (cs : Array Value) (hg : w.heap[g]? = some (.cells cs t (0, 0)))
    (hfit : off + part.size ≤ cs.size) (hi : (P.info? ty).map (·.size) = some part.size) (h1 : part.all (·.oneCell') = true)
    (h : wpList P ops Q rest (a.put o.dst undef) (w.setRow g (cs.toList.take off ++ part.toList ++ cs.toList.drop (off + part.size)).toArray)) : wpList P ops Q (o :: rest) a w :=
  wpList_plain hgd fun _ hK => by
    unfold Oper.wp execOp
    simp only [ho, hx, hy, Instr.storeAt, Instr.sureAddr, Sem.run_bind, Sem.run_pure, Result.andThen_ok, run_storeVar_at w g off ty t cs part hg hfit hi h1]
    exact hK _ _ h
theorem wpList_store_row {ops : Array Oper} {rest : List Oper} {o : Oper} {a : Act} {w : World} {Q : Exit → Act → World → Prop} (hgd : o.guard = none) (ty : TypeId) (x y : Operand) (ho : o.op = .store ty x y)
    (g : Nat) (hx : a.eval x = .pointer (some ⟨g, 0, none⟩)) (part : Array Value) (hy : a.eval y = .agg part) (t : TypeId) (cs : Array Value) (hg : w.heap[g]? = some (.cells cs t (0, 0)))
    (hfit : cs.size = part.size) (hi : (P.info? ty).map (·.size) = some part.size) (h1 : part.all (·.oneCell') = true)
    (h : wpList P ops Q rest (a.put o.dst undef) (w.setRow g part)) : wpList P ops Q (o :: rest) a w :=
  wpList_plain hgd fun _ hK => wp_store_row ty x y ho g part hx hy t cs hg hi hfit h1 (hK _ _ h)
end
theorem Row.setRow {w : World} {g : Nat} {T : TypeId} {k : IntKind} {n : Nat} {F : Nat → Int} (h : Row w g T k n F) (k' : IntKind) (m : Nat) (G : Nat → Int) : Row (w.setRow g (mk k' m G)) g T k' m G := setRow_heap w g _ _ T _ h
end Go.Proofs.YtbdahkbgjbaenaaDoor
