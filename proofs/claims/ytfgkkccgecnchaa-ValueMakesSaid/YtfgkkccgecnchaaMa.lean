/- The map of places that Make lays; keys that are sorted. -/
import Derived.Test.YtfgkkccgecnchaaSk
import Derived.Test.YtfgkkccgecnchaaLq
import Derived.Maps.OwnSet
namespace Go.Proofs.Ytfgkkccgecnchaa
open Go.RowKit Go.Maps

/-- the places of the first j keys -/
def pm (ks : List ByteArray) : Nat → DataW Unit
  | 0 => .map []
  | j + 1 => (pm ks j).put (.string (kk ks j).data.toList) (.lit (.int .i64 j))
theorem isk (x : List UInt8) : WideAt.IsKeyLit (.string x) := trivial
/-- no key twice among the first j -/
def Dst (ks : List ByteArray) (j : Nat) : Prop := ∀ i k, i < k → k < j → kk ks i ≠ kk ks k
theorem bdata_inj {a b : ByteArray} (h : a.data.toList = b.data.toList) : a = b := by
  obtain ⟨x⟩ := a; obtain ⟨y⟩ := b
  congr 1
  exact Array.toList_inj.1 h
theorem pm_tidy (ks : List ByteArray) : ∀ j, Tidy (pm ks j)
  | 0 => tidy_empty
  | j + 1 => (pm_tidy ks j).put (isk _) _
theorem pm_has (ks : List ByteArray) (x : List UInt8) : ∀ j, has (pm ks j) (.string x) = true ↔ ∃ i, i < j ∧ (kk ks i).data.toList = x
  | 0 => by constructor
            · intro h; exact absurd h (by simp [pm, has])
            · rintro ⟨i, h, _⟩; omega
  | j + 1 => by
    by_cases e : x = (kk ks j).data.toList
    · subst e
      constructor
      · intro _; exact ⟨j, by omega, rfl⟩
      · intro _; exact has_put_same (pm_tidy ks j).isMap (isk _) _
    · have : has (pm ks (j + 1)) (.string x) = has (pm ks j) (.string x) := has_put_other (by simpa using e) _
      rw [this, pm_has ks x j]
      constructor
      · rintro ⟨i, h, he⟩; exact ⟨i, by omega, he⟩
      · rintro ⟨i, h, he⟩
        by_cases hij : i = j
        · subst hij; exact absurd he.symm e
        · exact ⟨i, by omega, he⟩
theorem pm_size_le (ks : List ByteArray) : ∀ j, size (pm ks j) ≤ j
  | 0 => Nat.le_refl _
  | j + 1 => by
    have h := pm_size_le ks j
    have := size_put (k := .string (kk ks j).data.toList) (pm_tidy ks j) (.lit (.int .i64 j))
    show size ((pm ks j).put _ _) ≤ j + 1
    rw [this]
    split <;> omega
theorem pm_size (ks : List ByteArray) : ∀ j, size (pm ks j) = j ↔ Dst ks j
  | 0 => ⟨fun _ i k _ h => by omega, fun _ => rfl⟩
  | j + 1 => by
    have h := pm_size_le ks j
    have e : size (pm ks (j + 1)) = if has (pm ks j) (.string (kk ks j).data.toList) then size (pm ks j) else size (pm ks j) + 1 := size_put (k := .string (kk ks j).data.toList) (pm_tidy ks j) (.lit (.int .i64 j))
    have hh := pm_has ks (kk ks j).data.toList j
    constructor
    · intro hs
      rw [e] at hs
      by_cases hc : has (pm ks j) (.string (kk ks j).data.toList) = true
      · rw [if_pos hc] at hs; omega
      · rw [if_neg hc] at hs
        have hd := (pm_size ks j).1 (by omega)
        intro i k hik hk he
        by_cases hkj : k = j
        · subst hkj; exact hc (hh.2 ⟨i, hik, by rw [he]⟩)
        · exact hd i k hik (by omega) he
    · intro hd
      have hc : ¬ has (pm ks j) (.string (kk ks j).data.toList) = true := fun hc => by
        obtain ⟨i, hi, he⟩ := hh.1 hc
        exact hd i j hi (by omega) (bdata_inj he)
      have := (pm_size ks j).2 (fun i k hik hk => hd i k hik (by omega))
      rw [e, if_neg hc]; omega
theorem pm_at (ks : List ByteArray) (z : DataW Unit) : ∀ j i, Dst ks j → i < j → (pm ks j).atKey (.string (kk ks i).data.toList) z = .lit (.int .i64 i)
  | 0, i, _, h => by omega
  | j + 1, i, hd, h => by
    by_cases e : i = j
    · subst e; exact atKey_put_same (pm_tidy ks i).isMap (isk _) _ _
    · have : (pm ks (j + 1)).atKey (.string (kk ks i).data.toList) z = (pm ks j).atKey (.string (kk ks i).data.toList) z := atKey_put_other (by intro h; injection h with h; exact hd i j (by omega) (by omega) (bdata_inj h)) _ _
      rw [this]
      exact pm_at ks z j i (fun a b h1 h2 => hd a b h1 (by omega)) (by omega)
theorem kk_get {ks : List ByteArray} {i : Nat} (h : i < ks.length) : kk ks i = ks[i] := by
  unfold kk; rw [List.getD_eq_getElem?_getD, List.getElem?_eq_getElem h]; rfl
theorem pm_perm {ks : List ByteArray} (hd : Dst ks ks.length) : (ks.map fun s => s.data.toList).Perm (strKeys (pm ks ks.length)) := by
  obtain ⟨es, e, hp⟩ := pm_tidy ks ks.length
  have hh := fun x => pm_has ks x ks.length
  rw [e] at hh ⊢
  have hks : ∀ p ∈ es, ∃ x, p.1 = .string x := by
    have : ∀ j (es : List (Lit × DataW Unit)), pm ks j = .map es → ∀ p ∈ es, ∃ x, p.1 = .string x := by
      intro j
      induction j with
      | zero => intro es e p hp; unfold pm at e; injection e with e; subst e; cases hp
      | succ j ih =>
        intro es e p hp
        obtain ⟨es', e', _⟩ := pm_tidy ks j
        unfold pm at e
        rw [e'] at e
        have e2 : (DataW.insert (Lit.string (kk ks j).data.toList, DataW.lit (.int .i64 j)) (es'.filter fun p => !p.1.sameKey (.string (kk ks j).data.toList))) = es := by
          have : (DataW.map es').put (.string (kk ks j).data.toList) (.lit (.int .i64 j)) = .map (DataW.insert (Lit.string (kk ks j).data.toList, DataW.lit (.int .i64 j)) (es'.filter fun p => !p.1.sameKey (.string (kk ks j).data.toList))) := rfl
          rw [this] at e; injection e
        rw [← e2] at hp
        rcases List.mem_cons.1 ((WideShapes.insert_perm _ _).mem_iff.1 hp) with rfl | h
        · exact ⟨_, rfl⟩
        · exact ih es' e' p (List.mem_filter.1 h).1
    exact this _ es e
  refine perm_strKeys hp hks ?_ fun x => ?_
  · refine List.pairwise_map.2 (List.pairwise_iff_getElem.2 fun i j hi hj hij he => ?_)
    exact hd i j hij hj (by rw [kk_get hi, kk_get hj]; exact bdata_inj he)
  · rw [hh x, List.mem_map]
    constructor
    · rintro ⟨s, hs, rfl⟩
      obtain ⟨i, hi, rfl⟩ := List.getElem_of_mem hs
      exact ⟨i, hi, by rw [kk_get hi]⟩
    · rintro ⟨i, hi, rfl⟩
      exact ⟨ks[i], List.getElem_mem hi, by rw [kk_get hi]⟩
/-- the keys, sorted -/
structure Srt (ks rs : List ByteArray) : Prop where
  len : rs.length = ks.length
  fro : ∀ j, j < rs.length → ∃ i, i < ks.length ∧ kk rs j = kk ks i
  all : ∀ i, i < ks.length → ∃ j, j < rs.length ∧ kk rs j = kk ks i
  up : ∀ j k, j < k → k < rs.length → blt (kk rs j) (kk rs k) = true
def ba (x : List UInt8) : ByteArray := ⟨x.toArray⟩
theorem ba_data (s : ByteArray) : ba s.data.toList = s := by cases s; simp [ba]
theorem ba_list (x : List UInt8) : (ba x).toList = x := by rw [ByteArray.toList_eq]; simp [ba]
theorem srt_of {ks : List ByteArray} (hd : Dst ks ks.length) {ss : List (List UInt8)} (hp : ss.Perm (strKeys (pm ks ks.length))) : Srt ks ((ss.mergeSort (fun x y => decide (x ≤ y))).map ba) := by
  have hq : (ss.mergeSort (fun x y => decide (x ≤ y))).Perm (ks.map fun s => s.data.toList) := ((List.mergeSort_perm ss _).trans hp).trans (pm_perm hd).symm
  have hs : (ss.mergeSort (fun x y => decide (x ≤ y))).Pairwise (fun a b => a ≤ b) := by
    refine (List.pairwise_mergeSort (le := fun x y : List UInt8 => decide (x ≤ y)) (fun a b c h1 h2 => ?_) (fun a b => ?_) ss).imp (fun {a b} h => by simpa using h)
    · simp only [decide_eq_true_eq] at *; exact List.le_trans h1 h2
    · simp only [Bool.or_eq_true, decide_eq_true_eq]; exact List.le_total a b
  generalize ss.mergeSort (fun x y => decide (x ≤ y)) = ts at *
  have hl : ts.length = ks.length := by rw [hq.length_eq]; simp
  have hnd : ts.Nodup := by
    refine hq.nodup_iff.2 (List.pairwise_map.2 (List.pairwise_iff_getElem.2 fun i j hi hj hij he => ?_))
    exact hd i j hij hj (by rw [kk_get hi, kk_get hj]; exact bdata_inj he)
  have hk : ∀ j (h : j < ts.length), kk (ts.map ba) j = ba ts[j] := fun j h => by rw [kk_get (by simpa using h)]; simp
  refine ⟨by simpa using hl, fun j hj => ?_, fun i hi => ?_, fun j k hjk hk' => ?_⟩
  · have hj' : j < ts.length := by simpa using hj
    obtain ⟨s, hs', he⟩ := List.mem_map.1 (hq.mem_iff.1 (List.getElem_mem hj'))
    obtain ⟨i, hi, rfl⟩ := List.getElem_of_mem hs'
    exact ⟨i, hi, by rw [hk j hj', ← he, ba_data, kk_get hi]⟩
  · have hm : ks[i].data.toList ∈ ts := hq.mem_iff.2 (List.mem_map.2 ⟨_, List.getElem_mem hi, rfl⟩)
    obtain ⟨j, hj, he⟩ := List.getElem_of_mem hm
    exact ⟨j, by simpa using hj, by rw [hk j hj, he, ba_data, kk_get hi]⟩
  · have hk2 : k < ts.length := by simpa using hk'
    have hj2 : j < ts.length := by omega
    rw [bl_iff, hk j hj2, hk k hk2, ba_list, ba_list]
    have h1 : ts[j] ≤ ts[k] := List.pairwise_iff_getElem.1 hs j k hj2 hk2 hjk
    have h2 : ts[j] ≠ ts[k] := List.pairwise_iff_getElem.1 hnd j k hj2 hk2 hjk
    rcases List.le_iff_lt_or_eq.1 h1 with h | h
    · exact h
    · exact absurd h h2
end Go.Proofs.Ytfgkkccgecnchaa
