/- A map of the call's own, as a partial function from keys to elements; of whatever program. -/
import Derived.Test.YtfmgbhaldakpfaaDoorSmp
namespace Go.Proofs.YtfmgbhaldakpfaaDoor
open Go.ChangeShapes Go.WideShapes Go.MapKept Go.RowKit
open Go.Maps (Keyed)
open Go.ChangeMaps (setBlock modify_eq_set heap_setBlock_same heap_setBlock_other)

/-- block b is a map that holds f -/
def Mo (P : Program) (k : TypeId) (w : World) (b : Nat) (f : Value → Option Value) : Prop :=
  ∃ es clock, w.heap[b]? = some (.map es clock) ∧ Stamped es clock ∧ (∀ x ∈ es.toList, ∃ l, keyOf P k x.key = some l) ∧ (∀ x ∈ es.toList, f x.key = some x.val) ∧ ∀ y, (∀ x ∈ es.toList, x.key ≠ y) → f y = none
noncomputable def ins (f : Value → Option Value) (y v : Value) : Value → Option Value := fun x => open Classical in if x = y then some v else f x
theorem ins_same (f : Value → Option Value) (y v : Value) : ins f y v y = some v := by unfold ins; simp
theorem ins_other (f : Value → Option Value) {y x : Value} (v : Value) (h : x ≠ y) : ins f y v x = f x := by unfold ins; simp [h]

variable {P : Program} {k t e : TypeId} {w w' : World} {b : Nat} {f : Value → Option Value}
theorem Mo.lt (h : Mo P k w b f) : b < w.heap.size := by
  obtain ⟨es, clock, hb, _⟩ := h
  exact (Array.getElem?_eq_some_iff.1 hb).1
theorem Mo.kept (h : Mo P k w b f) (hb : w'.heap[b]? = w.heap[b]?) : Mo P k w' b f := by
  obtain ⟨es, clock, h0, h1⟩ := h
  exact ⟨es, clock, hb.trans h0, h1⟩
theorem Mo.keep (h : Mo P k w b f) (hb : Below w.heap.size w w') : Mo P k w' b f := h.kept (hb.block b h.lt)
theorem Mo.made (w : World) (P : Program) (k : TypeId) : Mo P k (w.alloc (.map #[] 0)) w.heap.size fun _ => none :=
  ⟨#[], 0, (MapKept.heap_alloc w _).1, stamped_empty 0, by simp, by simp, fun _ _ => rfl⟩
/-- 'v, ok := m[k]' -/
theorem Mo.look (h : Mo P k w b f) (K : Keyed P k) (ht : P.underlying t = some (.map k e)) {z : Value} (hz : ∀ u : World, (zeroValue e).run P u = .ok z u) {key : Value} {kl : Lit} (hkey : keyOf P k key = some kl) :
    (Instr.lookup t (.map (some b)) key true).run P w = .ok (.tuple #[(f key).getD z, .bool (f key).isSome]) w := by
  obtain ⟨es, clock, hb, hst, hks, hvs, hns⟩ := h
  rcases K.find w hkey es.toList hks with ⟨h1, h2⟩ | ⟨j, e0, h1, h2, h3⟩
  · rw [hns key h2]
    simp [Instr.lookup, run_underlying ht, MapKept.run_getObj_map hb, K.check w _ hkey, h1, hz, Result.andThen]
  · have := hvs e0 (List.mem_of_getElem? h2)
    rw [h3] at this
    rw [this]
    simp [Instr.lookup, run_underlying ht, MapKept.run_getObj_map hb, K.check w _ hkey, h1, Result.andThen]
/-- 'm[k] = v' -/
theorem Mo.put (h : Mo P k w b f) (K : Keyed P k) (ht : P.underlying t = some (.map k e)) {key : Value} {kl : Lit} (hkey : keyOf P k key = some kl) (v : Value) :
    ∃ w1, (Instr.mapUpdate t (.map (some b)) key v).run P w = .ok () w1 ∧ Mo P k w1 b (ins f key v) ∧ w.grownBy w1 (some b) := by
  obtain ⟨es, clock, hb, hst, hks, hvs, hns⟩ := h
  rcases K.find w hkey es.toList hks with ⟨h1, h2⟩ | ⟨j, e0, h1, h2, h3⟩
  · refine ⟨setBlock w b (.map (es.push ⟨key, v, clock⟩) (clock + 1)), ?_, ⟨_, _, heap_setBlock_same hb _, stamped_push hst h2, ?_, ?_, ?_⟩, grown_set hb⟩
    · simp [Instr.mapUpdate, run_underlying ht, MapKept.run_getObj_map hb, K.check w false hkey, h1, MapKept.run_setObj_map _ hb, Result.andThen, setBlock]
    · intro x hx
      simp only [Array.toList_push, List.mem_append, List.mem_singleton] at hx
      rcases hx with hx | rfl
      · exact hks x hx
      · exact ⟨kl, hkey⟩
    · intro x hx
      simp only [Array.toList_push, List.mem_append, List.mem_singleton] at hx
      rcases hx with hx | rfl
      · rw [ins_other f v (h2 x hx)]; exact hvs x hx
      · exact ins_same f key v
    · intro y hy
      have h5 : y ≠ key := fun e => hy ⟨key, v, clock⟩ (by simp) e.symm
      rw [ins_other f v h5]
      exact hns y fun x hx => hy x (by simp only [Array.toList_push, List.mem_append]; exact .inl hx)
  · have hj : es[j]? = some e0 := by simpa using h2
    have hjl : j < es.toList.length := (List.getElem?_eq_some_iff.1 h2).1
    have hlist : (es.modify j (fun e' => { e' with key := key, val := v })).toList = es.toList.set j { e0 with key := key, val := v } := by rw [Array.toList_modify, modify_eq_set _ _ _ _ h2]
    have hkeyf : ∀ e', es[j]? = some e' → ({ e' with key := key, val := v } : MapEntry).key = e'.key := fun e' he' => by rw [hj] at he'; cases he'; exact h3.symm
    have who : ∀ x ∈ es.toList.set j { e0 with key := key, val := v }, x = { e0 with key := key, val := v } ∨ (x ∈ es.toList ∧ x.key ≠ key) := by
      intro x hx
      obtain ⟨i, hi, ex⟩ := List.getElem_of_mem hx
      rw [List.getElem_set] at ex
      split at ex
      · exact Or.inl ex.symm
      · rename_i hne
        have hi' : i < es.toList.length := by simpa using hi
        refine Or.inr ⟨ex ▸ List.getElem_mem hi', ?_⟩
        rw [← h3]
        exact other_at hst h2 (by rw [List.getElem?_eq_getElem hi', ex]) (fun e1 => hne e1.symm)
    refine ⟨setBlock w b (.map (es.modify j (fun e' => { e' with key := key, val := v })) clock), ?_, ⟨_, _, heap_setBlock_same hb _, stamped_modify hst _ _ (fun _ _ => rfl) (fun e' _ he' => hkeyf e' he'), ?_, ?_, ?_⟩, grown_set hb⟩
    · simp [Instr.mapUpdate, run_underlying ht, MapKept.run_getObj_map hb, K.check w false hkey, h1, hj, h3, K.stays w hkey, MapKept.run_setObj_map _ hb, Result.andThen, setBlock]
    · intro x hx
      rw [hlist] at hx
      rcases who x hx with rfl | ⟨hx', _⟩
      · exact ⟨kl, hkey⟩
      · exact hks x hx'
    · intro x hx
      rw [hlist] at hx
      rcases who x hx with rfl | ⟨hx', hne⟩
      · exact ins_same f key v
      · rw [ins_other f v hne]; exact hvs x hx'
    · intro y hy
      rw [hlist] at hy
      have h5 : y ≠ key := fun e => hy { e0 with key := key, val := v } (List.mem_iff_getElem.2 ⟨j, by simpa using hjl, by simp⟩) e.symm
      rw [ins_other f v h5]
      refine hns y fun x hx hxy => ?_
      obtain ⟨i, hi, ex⟩ := List.getElem_of_mem hx
      by_cases hij : i = j
      · subst hij
        rw [List.getElem?_eq_getElem hi, ex] at h2
        injection h2 with h2
        subst h2
        exact h5 (hxy ▸ h3)
      · refine hy x (List.mem_iff_getElem.2 ⟨i, by simpa using hi, ?_⟩) hxy
        rw [List.getElem_set_ne (fun e => hij e.symm)]
        exact ex
end Go.Proofs.YtfmgbhaldakpfaaDoor
