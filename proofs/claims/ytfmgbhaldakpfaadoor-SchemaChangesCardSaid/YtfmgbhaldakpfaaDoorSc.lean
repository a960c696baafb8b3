/- The attributes by their places: byPlace, Find. -/
import Derived.Test.YtfmgbhaldakpfaaDoorSb
import Derived.Test.YtfmgbhaldakpfaaDoorSmp
import Derived.Deep.RegionWith
namespace Go.Proofs.YtfmgbhaldakpfaaDoor
open Go.ChangeShapes Go.WideShapes Go.MapKept Go.RowKit
open Go.Maps (Keyed)

theorem uniqB : (List.range 19).all (fun i => (List.range 19).all fun j => i == j || !(decide ((rw' i).1 = (rw' j).1) && decide ((rw' i).2.nm = (rw' j).2.nm))) = true := by kernel_rfl
theorem uniq (i j : Nat) (hi : i < 19) (hj : j < 19) (h1 : (rw' i).1 = (rw' j).1) (h2 : (rw' i).2.nm = (rw' j).2.nm) : i = j := by
  have h := uniqB
  rw [List.all_eq_true] at h
  have h := h i (List.mem_range.2 hi)
  rw [List.all_eq_true] at h
  have h := h j (List.mem_range.2 hj)
  simpa [h1, h2] using h
theorem mem_attrs (t : ByteArray) (a : Atr) : a ∈ attrs t ↔ ∃ j, j < 19 ∧ (rw' j).1 = t ∧ (rw' j).2 = a := by
  unfold attrs
  rw [List.mem_map]
  constructor
  · rintro ⟨r, hr, rfl⟩
    rw [List.mem_filter] at hr
    obtain ⟨j, hj, e⟩ := List.getElem_of_mem hr.1
    refine ⟨j, by rw [tab_len] at hj; exact hj, ?_⟩
    have : rw' j = r := by unfold rw'; rw [List.getD_eq_getElem?_getD, List.getElem?_eq_getElem hj, Option.getD_some, e]
    rw [this]
    exact ⟨by simpa using hr.2, rfl⟩
  · rintro ⟨j, hj, e1, e2⟩
    refine ⟨rw' j, ?_, e2⟩
    rw [List.mem_filter]
    refine ⟨?_, by simpa using e1⟩
    have hj' : j < tab.length := by rw [tab_len]; exact hj
    unfold rw'; rw [List.getD_eq_getElem?_getD, List.getElem?_eq_getElem hj', Option.getD_some]
    exact List.getElem_mem hj'
/-- the attribute of that name -/
def find (t n : ByteArray) : Option Atr := (attrs t).find? fun a => decide (a.nm = n)
/-- among the first k rows, from the last one on -/
def findR (t n : ByteArray) : Nat → Option Atr
  | 0 => none
  | k + 1 => if (rw' k).1 = t ∧ (rw' k).2.nm = n then some (rw' k).2 else findR t n k
theorem findR_some {t n : ByteArray} {a : Atr} : ∀ k, findR t n k = some a → ∃ j, j < k ∧ (rw' j).1 = t ∧ (rw' j).2.nm = n ∧ (rw' j).2 = a
  | 0, h => by cases h
  | k + 1, h => by
    unfold findR at h
    split at h
    · rename_i hc; injection h with h; exact ⟨k, by omega, hc.1, hc.2, h⟩
    · obtain ⟨j, hj, r⟩ := findR_some k h; exact ⟨j, by omega, r⟩
theorem findR_none {t n : ByteArray} : ∀ k, findR t n k = none → ∀ j, j < k → ¬ ((rw' j).1 = t ∧ (rw' j).2.nm = n)
  | 0, _, j, hj => by omega
  | k + 1, h, j, hj => by
    unfold findR at h
    split at h
    · cases h
    · rename_i hc
      by_cases e : j = k
      · subst e; exact hc
      · exact findR_none k h j (by omega)
theorem findR_all (t n : ByteArray) : findR t n 19 = find t n := by
  cases h1 : findR t n 19 with
  | none =>
    cases h2 : find t n with
    | none => rfl
    | some b =>
      unfold find at h2
      obtain ⟨j, hj, e1, e2⟩ := (mem_attrs t b).1 (List.mem_of_find?_eq_some h2)
      have h3 := List.find?_some h2
      exact absurd ⟨e1, by rw [e2]; simpa using h3⟩ (findR_none 19 h1 j hj)
  | some a =>
    obtain ⟨j, hj, e1, e2, e3⟩ := findR_some 19 h1
    cases h2 : find t n with
    | none =>
      unfold find at h2
      rw [List.find?_eq_none] at h2
      have := h2 a ((mem_attrs t a).2 ⟨j, hj, e1, e3⟩)
      rw [e3] at e2; simp [e2] at this
    | some b =>
      unfold find at h2
      obtain ⟨i, hi, f1, f2⟩ := (mem_attrs t b).1 (List.mem_of_find?_eq_some h2)
      have h3 := List.find?_some h2
      have h3 : b.nm = n := by simpa using h3
      have := uniq j i hj hi (by rw [e1, f1]) (by rw [e2, f2, h3])
      subst this
      rw [← e3, ← f2]
theorem find_mem {t n : ByteArray} {a : Atr} (h : find t n = some a) : a ∈ attrs t ∧ a.nm = n := ⟨List.mem_of_find?_eq_some h, by simpa using List.find?_some h⟩

abbrev pk (t n : ByteArray) : Value := .agg #[.string t, .string n]
/-- what the map holds -/
def Fm (k : Nat) (f : Value → Option Value) : Prop := ∀ t n, f (pk t n) = (findR t n k).map av
theorem Fm.zero : Fm 0 fun _ => none := fun _ _ => rfl
theorem Fm.step {k : Nat} {f : Value → Option Value} (h : Fm k f) : Fm (k + 1) (ins f (pk (rw' k).1 (rw' k).2.nm) (av (rw' k).2)) := by
  intro t n
  unfold findR
  by_cases e : (rw' k).1 = t ∧ (rw' k).2.nm = n
  · rw [if_pos e, ← e.1, ← e.2, ins_same]; rfl
  · rw [if_neg e, ins_other, h t n]
    intro h2
    apply e
    simp only [Value.agg.injEq] at h2
    have := congrArg Array.toList h2
    simp at this
    exact ⟨this.1.symm, this.2.symm⟩
theorem laidOut : laidOutB Tryd.prog = true := by kernel_rfl
theorem row66 : (66 : TypeId) < Tryd.prog.types.size := of_decide_eq_true (by kernel_rfl)
theorem wide66 : (match Tryd.prog.underlying 66 with | some (.array _ _) | some (.struct _) => true | _ => false) = true := by rw [Tryd.underlying66]
set_option maxRecDepth 100000 in
theorem law66 : Keyed Tryd.prog 66 := Keyed.of_law (deep_law_laid laidOut (m := 2) (by omega) row66 (by kernel_rfl) wide66)
theorem co66 : Tryd.prog.cellsOf 66 = 2 := by kernel_rfl
theorem co9 : Tryd.prog.cellsOf 9 = 1 := by kernel_rfl
theorem kt66 : Tryd.prog.keyType 66 = true := by kernel_rfl
set_option maxRecDepth 100000 in
theorem lits_str (d : Nat) (s : ByteArray) (h : s.size ≤ maxLen) : Tryd.prog.keyLits (d + 1) 9 [.string s] = some [.string s.data.toList] := by
  simp [Program.keyLits, Tryd.underlying9, h]
set_option maxRecDepth 100000 in
theorem lits_66 (d : Nat) (t n : ByteArray) (h1 : t.size ≤ maxLen) (h2 : n.size ≤ maxLen) : ∃ l, Tryd.prog.keyLits (d + 2) 66 [.string t, .string n] = some l := by
  unfold Program.keyLits
  rw [Tryd.underlying66]
  simp [co66, co9, lits_str _ _ h1, lits_str _ _ h2, List.mapM_cons]
set_option maxRecDepth 100000 in
theorem pk_key (t n : ByteArray) (h1 : t.size ≤ maxLen) (h2 : n.size ≤ maxLen) : ∃ l, keyOf Tryd.prog 66 (pk t n) = some l := by
  obtain ⟨l, hl⟩ := lits_66 124 t n h1 h2
  unfold keyOf
  rw [Tryd.underlying66]
  simp [kt66, Value.formed, Tryd.underlying66, co66, Value.cells]
  exact ⟨_, l, hl, rfl⟩
abbrev azv : Value := .agg #[.string ⟨#[]⟩, .int .i64 0, .int .i64 0, .bool false, .bool false, .bool false, .bool false]
theorem zero31 (w : World) : (zeroValue 31).run Tryd.prog w = .ok azv w := by kernel_rfl
theorem rw_size (k : Nat) (hk : k < 19) : (rw' k).1.size ≤ 20 ∧ (rw' k).2.nm.size ≤ 20 := by
  have h : (List.range 19).all (fun k => decide ((rw' k).1.size ≤ 20) && decide ((rw' k).2.nm.size ≤ 20)) = true := by kernel_rfl
  rw [List.all_eq_true] at h
  simpa using h k (List.mem_range.2 hk)
theorem make63 (w : World) : (Instr.makeMap 63 (some (.int .i64 19))).run Tryd.prog w = .ok (.map (some w.heap.size)) (w.alloc (.map #[] 0)) := by
  simp [Instr.makeMap, Result.andThen, go_sem]
/-- byPlace's map -/
def PlacePost (w : World) (e : Ending) (w' : World) : Prop := ∃ b f, e = .returned (.map (some b)) ∧ Mo Tryd.prog 66 w' b f ∧ Fm 19 f ∧ Below w.heap.size w w'
set_option maxHeartbeats 2000000 in
set_option maxRecDepth 100000 in
theorem byPlace_any (w : World) (hT : Tab w) : Calls Tryd.prog 31 #[] w (PlacePost w) := by
  have hmm := make63
  have hT' := hT.below (Below.refl 1 w) (by omega)
  obtain ⟨T, fr, hT0⟩ := hT
  have h0 := (Array.getElem?_eq_some_iff.1 hT0).1
  have HT : Hid ((w.alloc (.map #[] 0)).heap[0]? = some (.cells tabC T fr)) := by
    exact (((Below.refl w.heap.size w).alloc (Nat.le_refl _) (.map #[] 0)).block 0 h0).trans hT0
  have HM := Lib.hid (Mo.made w Tryd.prog 66)
  have HB : Hid (Below w.heap.size w (w.alloc (.map #[] 0))) := (Below.refl _ _).alloc (Nat.le_refl _) _
  have hIx := Lib.hid idx_row
  clear hT0 hT'
  go_enter Tryd.func31, Tryd.ntmps31
  go_wp2_with (with_reducible refine wpList_load_row rfl 57 _ rfl 0 rfl T tabC fr _ HT.out Tryd.underlying57 rfl info57 ?_)
  clear hmm
  go_loopw [6] (fun i wr => ∃ (k : Nat) (f : Value → Option Value), k ≤ 19 ∧ i = .int .i64 k ∧ Hid (Mo Tryd.prog 66 wr w.heap.size f) ∧ Hid (Fm k f) ∧ Hid (Below w.heap.size w wr)) (fun i _ => 19 - (intOf i).toNat)
  case atStart => exact ⟨0, _, by omega, rfl, HM.out, Fm.zero, HB.out⟩
  case round =>
    clear HM HB HT
    obtain ⟨k, f, hk, rfl, HM, HF, HB⟩ := hrel
    by_cases hlt : k < 19
    · have hlt' : (k : Int) < 19 := by omega
      have HX := hIx.out k hlt
      obtain ⟨z1, z2⟩ := rw_size k hlt
      have HS := Lib.hid HF.out.step
      obtain ⟨r, hr⟩ : ∃ r, rw' k = r := ⟨_, rfl⟩
      rw [hr] at HX z1 z2 HS
      obtain ⟨kl, hkl⟩ := pk_key r.1 r.2.nm (by unfold maxLen; omega) (by unfold maxLen; omega)
      have hb0 : Below wr.heap.size wr (wr.alloc (.cells (rowC r) 56)) := (Below.refl _ _).alloc (Nat.le_refl _) _
      obtain ⟨w1, e1, m1, g1⟩ := (HM.out.keep hb0).put law66 Tryd.underlying63 hkl (av r.2)
      have HE : Hid (Mo Tryd.prog 66 w1 w.heap.size (ins f (pk r.1 r.2.nm) (av r.2)) ∧ Below w.heap.size w w1) := ⟨m1, (HB.out.trans (hb0.mono HB.out.size)).grown g1 (Nat.le_trans HB.out.size hb0.size) (fun i hi => by injection hi with hi; omega)⟩
      clear hb0 m1 g1 hr
      go_wp2_with fail
      go_roundw
      case rel => exact ⟨k + 1, _, by omega, by go_num, HE.out.1, HS.out, HE.out.2⟩
      case measure => simp [intOf]; omega
    · have hk19 : k = 19 := by omega
      subst hk19
      go_wp2_with fail
      go_ret
      exact ⟨_, f, rfl, HM.out, HF.out, HB.out⟩
end Go.Proofs.YtfmgbhaldakpfaaDoor
