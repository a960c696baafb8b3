/- A map of the call's own, as a function from keys to elements; of whatever program. -/
import Derived.Test.YtfmgbhaldakpfaaDoorD
import Derived.Maps.Own
import Derived.Maps.OwnOps
import Derived.WideKeyEntry
import Derived.DeepKeys4
namespace Go.Proofs.YtfmgbhaldakpfaaDoor
open Go.ChangeShapes Go.WideShapes Go.MapKept Go.RowKit
open Go.Maps (Keyed)
open Go.ChangeMaps (setBlock modify_eq_set heap_setBlock_same heap_setBlock_other)

/-- block b is a map; at each key it holds f of it, z where nothing was laid -/
def Has (P : Program) (k : TypeId) (z : Value) (w : World) (b : Nat) (f : Value → Value) : Prop :=
  ∃ es clock, w.heap[b]? = some (.map es clock) ∧ Stamped es clock ∧ (∀ x ∈ es.toList, ∃ l, keyOf P k x.key = some l) ∧ (∀ x ∈ es.toList, x.val = f x.key) ∧ ∀ y, (∀ x ∈ es.toList, x.key ≠ y) → f y = z
noncomputable def put (f : Value → Value) (y v : Value) : Value → Value := fun x => open Classical in if x = y then v else f x
theorem put_same (f : Value → Value) (y v : Value) : put f y v y = v := by unfold put; simp
theorem put_other (f : Value → Value) {y x : Value} (v : Value) (h : x ≠ y) : put f y v x = f x := by unfold put; simp [h]

variable {P : Program} {k t e : TypeId} {z : Value} {w w' : World} {b : Nat} {f : Value → Value}
theorem Has.lt (h : Has P k z w b f) : b < w.heap.size := by
  obtain ⟨es, clock, hb, _⟩ := h
  exact (Array.getElem?_eq_some_iff.1 hb).1
theorem Has.kept (h : Has P k z w b f) (hb : w'.heap[b]? = w.heap[b]?) : Has P k z w' b f := by
  obtain ⟨es, clock, h0, h1⟩ := h
  exact ⟨es, clock, hb.trans h0, h1⟩
theorem Has.below (h : Has P k z w b f) {n : Nat} (hb : Below n w w') (hn : b < n) : Has P k z w' b f := h.kept (hb.block b hn)
theorem Has.drew (h : Has P k z w b f) : Has P k z w.drew b f := h
theorem Has.made (w : World) (P : Program) (k : TypeId) (z : Value) : Has P k z (w.alloc (.map #[] 0)) w.heap.size fun _ => z :=
  ⟨#[], 0, (MapKept.heap_alloc w _).1, stamped_empty 0, by simp, by simp, fun _ _ => rfl⟩
theorem Has.alloc (h : Has P k z w b f) (o : Obj) : Has P k z (w.alloc o) b f := h.kept ((MapKept.heap_alloc w o).2 b h.lt)
theorem Has.set (h : Has P k z w b f) (p : Addr) (v : Value) (hp : p.block ≠ b) : Has P k z (w.setCell p v) b f := by
  refine h.kept ?_
  unfold World.setCell
  split <;> simp [Array.getElem?_modify, hp]
/-- 'm[k]' -/
theorem Has.look (h : Has P k z w b f) (K : Keyed P k) (ht : P.underlying t = some (.map k e)) (hz : ∀ u : World, (zeroValue e).run P u = .ok z u) {key : Value} {kl : Lit} (hkey : keyOf P k key = some kl) :
    (Instr.lookup t (.map (some b)) key false).run P w = .ok (f key) w := by
  obtain ⟨es, clock, hb, hst, hks, hvs, hns⟩ := h
  rcases K.find w hkey es.toList hks with ⟨h1, h2⟩ | ⟨j, e0, h1, h2, h3⟩
  · rw [hns key h2]
    simp [Instr.lookup, run_underlying ht, MapKept.run_getObj_map hb, K.check w _ hkey, h1, hz, Result.andThen]
  · have := hvs e0 (List.mem_of_getElem? h2)
    rw [h3] at this
    rw [← this]
    simp [Instr.lookup, run_underlying ht, MapKept.run_getObj_map hb, K.check w _ hkey, h1, Result.andThen]
theorem grown_set {es es' : Array MapEntry} {clock clock' : Nat} (hb : w.heap[b]? = some (.map es clock)) : w.grownBy (setBlock w b (.map es' clock')) (some b) :=
  ⟨rfl, rfl, rfl, by simp [setBlock], fun i _ hi => heap_setBlock_other hb _ (fun e => hi (by rw [e]))⟩
theorem Has.mk' {es es' : Array MapEntry} {clock clock' : Nat} (hb : w.heap[b]? = some (.map es clock)) (h1 : Stamped es' clock') (h2 : ∀ x ∈ es'.toList, ∃ l, keyOf P k x.key = some l) (h3 : ∀ x ∈ es'.toList, x.val = f x.key) (h4 : ∀ y, (∀ x ∈ es'.toList, x.key ≠ y) → f y = z) :
    Has P k z (setBlock w b (.map es' clock')) b f := ⟨es', clock', heap_setBlock_same hb _, h1, h2, h3, h4⟩
theorem other_at {es : Array MapEntry} {clock : Nat} (hs : Stamped es clock) {j i : Nat} {e0 x : MapEntry} (h2 : es.toList[j]? = some e0) (hi : es.toList[i]? = some x) (hne : i ≠ j) : x.key ≠ e0.key := by
  intro he
  have hn : es.toList.Pairwise (fun x y => x.key ≠ y.key) := ((stamped_iff es clock).1 hs).2.2
  obtain ⟨hj, ej⟩ := List.getElem?_eq_some_iff.1 h2
  obtain ⟨hi', ei⟩ := List.getElem?_eq_some_iff.1 hi
  rw [← ej, ← ei] at he
  rcases Nat.lt_or_gt_of_ne hne with h | h
  · exact List.pairwise_iff_getElem.1 hn i j hi' hj h he
  · exact List.pairwise_iff_getElem.1 hn j i hj hi' h he.symm
/-- 'm[k] op= x': the entry is fetched, and written -/
theorem Has.entry (h : Has P k z w b f) (K : Keyed P k) (ht : P.underlying t = some (.map k e)) (hz : ∀ u : World, (zeroValue e).run P u = .ok z u) {key : Value} {kl : Lit} (hkey : keyOf P k key = some kl) :
    ∃ (st : Nat) (w1 : World), (Instr.mapEntry t (.map (some b)) key).run P w = .ok (.tuple #[f key, goInt st]) w1 ∧ Has P k z w1 b f ∧ w.grownBy w1 (some b) ∧
      ∀ v, ∃ w2, (Instr.entryStore t (.map (some b)) (goInt st) v).run P w1 = .ok () w2 ∧ Has P k z w2 b (put f key v) ∧ w1.grownBy w2 (some b) := by
  obtain ⟨es, clock, hb, hst, hks, hvs, hns⟩ := h
  have s1 := hst.1
  have s2 := hst.2.1
  rcases K.find w hkey es.toList hks with ⟨h1, h2⟩ | ⟨j, e0, h1, h2, h3⟩
  · have hH : Has P k z (setBlock w b (.map (es.push ⟨key, z, clock⟩) (clock + 1))) b f := by
      refine Has.mk' hb (stamped_push hst h2) ?_ ?_ ?_
      · intro x hx
        simp only [Array.toList_push, List.mem_append, List.mem_singleton] at hx
        rcases hx with hx | rfl
        · exact hks x hx
        · exact ⟨kl, hkey⟩
      · intro x hx
        simp only [Array.toList_push, List.mem_append, List.mem_singleton] at hx
        rcases hx with hx | rfl
        · exact hvs x hx
        · exact (hns key h2).symm
      · intro y hy
        exact hns y fun x hx => hy x (by simp only [Array.toList_push, List.mem_append]; exact .inl hx)
    refine ⟨clock, _, ?_, hH, grown_set hb, fun v => ⟨setBlock (setBlock w b (.map (es.push ⟨key, z, clock⟩) (clock + 1))) b (.map (es.push ⟨key, v, clock⟩) (clock + 1)), ?_, ?_, ?_⟩⟩
    · rw [hns key h2]
      simp [Instr.mapEntry, run_underlying ht, MapKept.run_getObj_map hb, K.check w false hkey, h1, hz, MapKept.run_setObj_map _ hb, Result.andThen, setBlock]
    · have hb2 : (setBlock w b (.map (es.push ⟨key, z, clock⟩) (clock + 1))).heap[b]? = some (.map (es.push ⟨key, z, clock⟩) (clock + 1)) := heap_setBlock_same hb _
      have hidx : (es.push ⟨key, z, clock⟩).findIdx? (fun e => ((e.born : Nat) : Int) == ((clock : Nat) : Int)) = some es.size := by
        rw [WideElems.findIdx_arr]
        have := WideElems.findIdx_born (l := (es.push ⟨key, z, clock⟩).toList) (j := es.size) (e0 := ⟨key, z, clock⟩) (by
          simp only [Array.toList_push, List.map_append, List.map_cons, List.map_nil]
          refine List.nodup_append.2 ⟨s2, by simp, fun a ha c hc e1 => ?_⟩
          simp only [List.mem_singleton] at hc
          obtain ⟨x, hx, rfl⟩ := List.mem_map.1 ha
          have := s1 x hx
          omega) (by simp)
        exact this
      have hmod : (es.push ⟨key, z, clock⟩).modify es.size (fun e => { e with val := v }) = es.push ⟨key, v, clock⟩ := by
        apply Array.ext'
        rw [Array.toList_modify, Array.toList_push, Array.toList_push, ← Array.length_toList, WideElems.modify_last]
      generalize setBlock w b (.map (es.push ⟨key, z, clock⟩) (clock + 1)) = W1 at hb2 ⊢
      simp [Instr.entryStore, MapKept.run_getObj_map hb2, asInt, asIntOf, goInt, hidx, hmod, MapKept.run_setObj_map _ hb2, Result.andThen, setBlock]
    · refine Has.mk' (heap_setBlock_same hb _) (stamped_push hst h2) ?_ ?_ ?_
      · intro x hx
        simp only [Array.toList_push, List.mem_append, List.mem_singleton] at hx
        rcases hx with hx | rfl
        · exact hks x hx
        · exact ⟨kl, hkey⟩
      · intro x hx
        simp only [Array.toList_push, List.mem_append, List.mem_singleton] at hx
        rcases hx with hx | rfl
        · rw [put_other f v (h2 x hx)]; exact hvs x hx
        · exact (put_same f key v).symm
      · intro y hy
        have h5 : y ≠ key := fun e => hy ⟨key, v, clock⟩ (by simp) e.symm
        rw [put_other f v h5]
        exact hns y fun x hx => hy x (by simp only [Array.toList_push, List.mem_append]; exact .inl hx)
    · exact grown_set (heap_setBlock_same hb _)
  · have hj : es[j]? = some e0 := by simpa using h2
    have hjl : j < es.toList.length := (List.getElem?_eq_some_iff.1 h2).1
    have hsame : es.modify j (fun e => { e with key := key }) = es := by
      apply Array.ext'
      rw [Array.toList_modify, modify_eq_set _ _ _ _ h2]
      have : ({ e0 with key := key } : MapEntry) = e0 := by rw [← h3]
      rw [this]
      exact WideElems.set_self _ _ _ h2
    have hv0 : f key = e0.val := by rw [hvs e0 (List.mem_of_getElem? h2), h3]
    refine ⟨e0.born, setBlock w b (.map es clock), ?_, Has.mk' hb hst hks hvs hns, grown_set hb, fun v => ⟨setBlock (setBlock w b (.map es clock)) b (.map (es.modify j (fun e => { e with val := v })) clock), ?_, ?_, grown_set (heap_setBlock_same hb _)⟩⟩
    · rw [hv0]
      simp [Instr.mapEntry, run_underlying ht, MapKept.run_getObj_map hb, K.check w false hkey, h1, hj, h3, K.stays w hkey, hsame, MapKept.run_setObj_map _ hb, Result.andThen, setBlock]
    · have hb2 : (setBlock w b (.map es clock)).heap[b]? = some (.map es clock) := heap_setBlock_same hb _
      have hidx : es.findIdx? (fun e => ((e.born : Nat) : Int) == ((e0.born : Nat) : Int)) = some j := by
        rw [WideElems.findIdx_arr]
        exact WideElems.findIdx_born s2 h2
      generalize setBlock w b (.map es clock) = W1 at hb2 ⊢
      simp [Instr.entryStore, MapKept.run_getObj_map hb2, asInt, asIntOf, goInt, hidx, MapKept.run_setObj_map _ hb2, Result.andThen, setBlock]
    · have hlist : (es.modify j (fun e' => { e' with val := v })).toList = es.toList.set j { e0 with val := v } := by rw [Array.toList_modify, modify_eq_set _ _ _ _ h2]
      have who : ∀ x ∈ es.toList.set j { e0 with val := v }, x = { e0 with val := v } ∨ (x ∈ es.toList ∧ x.key ≠ key) := by
        intro x hx
        obtain ⟨i, hi, ex⟩ := List.getElem_of_mem hx
        rw [List.getElem_set] at ex
        split at ex
        · exact Or.inl ex.symm
        · rename_i hne
          have hi' : i < es.toList.length := by simpa using hi
          refine Or.inr ⟨ex ▸ List.getElem_mem hi', ?_⟩
          rw [← h3]
          exact other_at hst h2 (by rw [List.getElem?_eq_getElem hi', ex]) (fun e1 => hne e1.symm)
      refine Has.mk' (heap_setBlock_same hb _) (stamped_modify hst _ _ (fun _ _ => rfl) (fun e' _ he' => rfl)) ?_ ?_ ?_
      · intro x hx
        rw [hlist] at hx
        rcases who x hx with rfl | ⟨hx', _⟩
        · exact ⟨kl, by show keyOf P k e0.key = _; rw [h3]; exact hkey⟩
        · exact hks x hx'
      · intro x hx
        rw [hlist] at hx
        rcases who x hx with rfl | ⟨hx', hne⟩
        · show v = put f key v e0.key
          rw [h3, put_same]
        · rw [put_other f v hne]; exact hvs x hx'
      · intro y hy
        rw [hlist] at hy
        have h5 : y ≠ key := fun e => hy { e0 with val := v } (List.mem_iff_getElem.2 ⟨j, by simpa using hjl, by simp⟩) (by show e0.key = y; rw [h3, e])
        rw [put_other f v h5]
        refine hns y fun x hx hxy => ?_
        obtain ⟨i, hi, ex⟩ := List.getElem_of_mem hx
        by_cases hij : i = j
        · subst hij
          rw [List.getElem?_eq_getElem hi, ex] at h2
          injection h2 with h2
          subst h2
          exact h5 (hxy ▸ h3)
        · refine hy x (List.mem_iff_getElem.2 ⟨i, by simpa using hi, ?_⟩) hxy
          rw [List.getElem_set_ne (fun e => hij e.symm)]
          exact ex
end Go.Proofs.YtfmgbhaldakpfaaDoor

/- A map of the call's own, as a partial function from keys to elements; of whatever program. -/
namespace Go.Proofs.YtfmgbhaldakpfaaDoor
open Go.ChangeShapes Go.WideShapes Go.MapKept Go.RowKit
open Go.Maps (Keyed)
open Go.ChangeMaps (setBlock modify_eq_set heap_setBlock_same heap_setBlock_other)

/-- block b is a map that holds f -/
def Mo (P : Program) (k : TypeId) (w : World) (b : Nat) (f : Value → Option Value) : Prop :=
  ∃ es clock, w.heap[b]? = some (.map es clock) ∧ Stamped es clock ∧ (∀ x ∈ es.toList, ∃ l, keyOf P k x.key = some l) ∧ (∀ x ∈ es.toList, f x.key = some x.val) ∧ ∀ y, (∀ x ∈ es.toList, x.key ≠ y) → f y = none
noncomputable def ins (f : Value → Option Value) (y v : Value) : Value → Option Value := fun x => open Classical in if x = y then some v else f x
theorem ins_same (f : Value → Option Value) (y v : Value) : ins f y v y = some v := by unfold ins; simp
theorem ins_other (f : Value → Option Value) {y x : Value} (v : Value) (h : x ≠ y) : ins f y v x = f x := by unfold ins; simp [h]

variable {P : Program} {k t e : TypeId} {w w' : World} {b : Nat} {f : Value → Option Value}
theorem Mo.lt (h : Mo P k w b f) : b < w.heap.size := by
  obtain ⟨es, clock, hb, _⟩ := h
  exact (Array.getElem?_eq_some_iff.1 hb).1
theorem Mo.kept (h : Mo P k w b f) (hb : w'.heap[b]? = w.heap[b]?) : Mo P k w' b f := by
  obtain ⟨es, clock, h0, h1⟩ := h
  exact ⟨es, clock, hb.trans h0, h1⟩
theorem Mo.keep (h : Mo P k w b f) (hb : Below w.heap.size w w') : Mo P k w' b f := h.kept (hb.block b h.lt)
theorem Mo.made (w : World) (P : Program) (k : TypeId) : Mo P k (w.alloc (.map #[] 0)) w.heap.size fun _ => none :=
  ⟨#[], 0, (MapKept.heap_alloc w _).1, stamped_empty 0, by simp, by simp, fun _ _ => rfl⟩
/-- 'v, ok := m[k]' -/
theorem Mo.look (h : Mo P k w b f) (K : Keyed P k) (ht : P.underlying t = some (.map k e)) {z : Value} (hz : ∀ u : World, (zeroValue e).run P u = .ok z u) {key : Value} {kl : Lit} (hkey : keyOf P k key = some kl) :
    (Instr.lookup t (.map (some b)) key true).run P w = .ok (.tuple #[(f key).getD z, .bool (f key).isSome]) w := by
  obtain ⟨es, clock, hb, hst, hks, hvs, hns⟩ := h
  rcases K.find w hkey es.toList hks with ⟨h1, h2⟩ | ⟨j, e0, h1, h2, h3⟩
  · rw [hns key h2]
    simp [Instr.lookup, run_underlying ht, MapKept.run_getObj_map hb, K.check w _ hkey, h1, hz, Result.andThen]
  · have := hvs e0 (List.mem_of_getElem? h2)
    rw [h3] at this
    rw [this]
    simp [Instr.lookup, run_underlying ht, MapKept.run_getObj_map hb, K.check w _ hkey, h1, Result.andThen]
/-- 'm[k] = v' -/
theorem Mo.put (h : Mo P k w b f) (K : Keyed P k) (ht : P.underlying t = some (.map k e)) {key : Value} {kl : Lit} (hkey : keyOf P k key = some kl) (v : Value) :
    ∃ w1, (Instr.mapUpdate t (.map (some b)) key v).run P w = .ok () w1 ∧ Mo P k w1 b (ins f key v) ∧ w.grownBy w1 (some b) := by
  obtain ⟨es, clock, hb, hst, hks, hvs, hns⟩ := h
  rcases K.find w hkey es.toList hks with ⟨h1, h2⟩ | ⟨j, e0, h1, h2, h3⟩
  · refine ⟨setBlock w b (.map (es.push ⟨key, v, clock⟩) (clock + 1)), ?_, ⟨_, _, heap_setBlock_same hb _, stamped_push hst h2, ?_, ?_, ?_⟩, grown_set hb⟩
    · simp [Instr.mapUpdate, run_underlying ht, MapKept.run_getObj_map hb, K.check w false hkey, h1, MapKept.run_setObj_map _ hb, Result.andThen, setBlock]
    · intro x hx
      simp only [Array.toList_push, List.mem_append, List.mem_singleton] at hx
      rcases hx with hx | rfl
      · exact hks x hx
      · exact ⟨kl, hkey⟩
    · intro x hx
      simp only [Array.toList_push, List.mem_append, List.mem_singleton] at hx
      rcases hx with hx | rfl
      · rw [ins_other f v (h2 x hx)]; exact hvs x hx
      · exact ins_same f key v
    · intro y hy
      have h5 : y ≠ key := fun e => hy ⟨key, v, clock⟩ (by simp) e.symm
      rw [ins_other f v h5]
      exact hns y fun x hx => hy x (by simp only [Array.toList_push, List.mem_append]; exact .inl hx)
  · have hj : es[j]? = some e0 := by simpa using h2
    have hjl : j < es.toList.length := (List.getElem?_eq_some_iff.1 h2).1
    have hlist : (es.modify j (fun e' => { e' with key := key, val := v })).toList = es.toList.set j { e0 with key := key, val := v } := by rw [Array.toList_modify, modify_eq_set _ _ _ _ h2]
    have hkeyf : ∀ e', es[j]? = some e' → ({ e' with key := key, val := v } : MapEntry).key = e'.key := fun e' he' => by rw [hj] at he'; cases he'; exact h3.symm
    have who : ∀ x ∈ es.toList.set j { e0 with key := key, val := v }, x = { e0 with key := key, val := v } ∨ (x ∈ es.toList ∧ x.key ≠ key) := by
      intro x hx
      obtain ⟨i, hi, ex⟩ := List.getElem_of_mem hx
      rw [List.getElem_set] at ex
      split at ex
      · exact Or.inl ex.symm
      · rename_i hne
        have hi' : i < es.toList.length := by simpa using hi
        refine Or.inr ⟨ex ▸ List.getElem_mem hi', ?_⟩
        rw [← h3]
        exact other_at hst h2 (by rw [List.getElem?_eq_getElem hi', ex]) (fun e1 => hne e1.symm)
    refine ⟨setBlock w b (.map (es.modify j (fun e' => { e' with key := key, val := v })) clock), ?_, ⟨_, _, heap_setBlock_same hb _, stamped_modify hst _ _ (fun _ _ => rfl) (fun e' _ he' => hkeyf e' he'), ?_, ?_, ?_⟩, grown_set hb⟩
    · simp [Instr.mapUpdate, run_underlying ht, MapKept.run_getObj_map hb, K.check w false hkey, h1, hj, h3, K.stays w hkey, MapKept.run_setObj_map _ hb, Result.andThen, setBlock]
    · intro x hx
      rw [hlist] at hx
      rcases who x hx with rfl | ⟨hx', _⟩
      · exact ⟨kl, hkey⟩
      · exact hks x hx'
    · intro x hx
      rw [hlist] at hx
      rcases who x hx with rfl | ⟨hx', hne⟩
      · exact ins_same f key v
      · rw [ins_other f v hne]; exact hvs x hx'
    · intro y hy
      rw [hlist] at hy
      have h5 : y ≠ key := fun e => hy { e0 with key := key, val := v } (List.mem_iff_getElem.2 ⟨j, by simpa using hjl, by simp⟩) e.symm
      rw [ins_other f v h5]
      refine hns y fun x hx hxy => ?_
      obtain ⟨i, hi, ex⟩ := List.getElem_of_mem hx
      by_cases hij : i = j
      · subst hij
        rw [List.getElem?_eq_getElem hi, ex] at h2
        injection h2 with h2
        subst h2
        exact h5 (hxy ▸ h3)
      · refine hy x (List.mem_iff_getElem.2 ⟨i, by simpa using hi, ?_⟩) hxy
        rw [List.getElem_set_ne (fun e => hij e.symm)]
        exact ex
end Go.Proofs.YtfmgbhaldakpfaaDoor
