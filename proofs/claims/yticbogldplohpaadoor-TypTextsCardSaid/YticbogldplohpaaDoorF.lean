/- Contracts: All, of the program and of the reference. -/
import Derived.Test.YticbogldplohpaaDoorY
import Derived.OwnWalk
import Derived.Deep.DeepMust
import Derived.Laws.AppendOwn
import Derived.Maps.AppendAt
namespace Go.Proofs.YticbogldplohpaaDoor
open Go.RowKit

/-- the types of the codes below j -/
def L (j : Nat) : List Ty := ((List.range j).map fun c => (((c / 8 : Nat) : Int), ((c % 8 : Nat) : Int))).filter fun t => okB t.1 t.2
def cellsL (l : List Ty) : List Value := l.flatMap fun t => [.int .i64 t.1, .int .i64 t.2]
theorem cellsL_snoc (l : List Ty) (t : Ty) : cellsL (l ++ [t]) = cellsL l ++ [.int .i64 t.1, .int .i64 t.2] := by simp [cellsL]
theorem L_yes (j : Nat) (h : okB ((j / 8 : Nat) : Int) ((j % 8 : Nat) : Int) = true) : L (j + 1) = L j ++ [(((j / 8 : Nat) : Int), ((j % 8 : Nat) : Int))] := by
  unfold L; rw [List.range_succ, List.map_append, List.filter_append]; simp at h ⊢; simp [h]
theorem L_no (j : Nat) (h : okB ((j / 8 : Nat) : Int) ((j % 8 : Nat) : Int) = false) : L (j + 1) = L j := by
  unfold L; rw [List.range_succ, List.map_append, List.filter_append]; simp at h ⊢; simp [h]
theorem L48 : L 48 = all := by decide
theorem L255 : L 255 = all := by decide +kernel
theorem L_len (j : Nat) : (L j).length ≤ j := by
  unfold L
  refine Nat.le_trans (List.length_filter_le _ _) (by simp)
theorem cellsL_len (l : List Ty) : (cellsL l).length = l.length * 2 := by
  unfold cellsL; induction l with
  | nil => rfl
  | cons a l ih => simp [ih]; omega
theorem cellsL_get (l : List Ty) (i : Nat) (t : Ty) (h : l[i]? = some t) : (cellsL l)[2 * i]? = some (.int .i64 t.1) ∧ (cellsL l)[2 * i + 1]? = some (.int .i64 t.2) := by
  induction l generalizing i with
  | nil => simp at h
  | cons a l ih =>
    cases i with
    | zero => simp at h; subst h; simp [cellsL]
    | succ i =>
      have := ih i (by simpa using h)
      have e : cellsL (a :: l) = .int .i64 a.1 :: .int .i64 a.2 :: cellsL l := rfl
      rw [e, show 2 * (i + 1) = 2 * i + 1 + 1 by omega]
      exact ⟨by simpa using this.1, by simpa using this.2⟩
theorem info23 : (Tryd.prog.info? 23).map (fun i => (i.zero, i.size, i.bytes)) = some (some (.agg #[.int .i64 0, .int .i64 0]), 2, 16) := by kernel_rfl
theorem owns_form2 {w : World} {B : Nat} {T : TypeId} {v : Value} {n : Nat} {xs : List Value} (h : w.ownsRow B T 2 v n xs) (hn : 0 < n) :
    ∃ g cap, v = .slice (some ⟨g, 0, none⟩) n cap ∧ B ≤ g ∧ g < w.heap.size ∧ n ≤ cap ∧ cap ≤ maxLen ∧ (∀ j u, xs[j]? = some u → w.cell? ⟨g, j, none⟩ = some u) := by
  obtain ⟨h1, h2 | ⟨g, cap, cur, e, h3, h4, h5, h6, h7, h8⟩⟩ := h
  · omega
  · refine ⟨g, cap, e, h3, (Array.getElem?_eq_some_iff.1 h4).1, h5, h6, fun j u hj => ?_⟩
    have c : w.cell? ⟨g, j, none⟩ = cur[j]? := by simp [World.cell?, h4]
    rw [c, ← Array.getElem?_toList]
    rw [← h8] at hj
    rw [List.getElem?_take] at hj
    split at hj
    · exact hj
    · cases hj
theorem cell_two_new (w : World) (a b : Value) (T : TypeId) : ∀ j u, [a, b][j]? = some u → (w.alloc (.cells #[a, b] T)).cell? ((⟨w.heap.size, 0, none⟩ : Addr).add j) = some u := by
  intro j u hu
  have : (⟨w.heap.size, 0, none⟩ : Addr).add j = ⟨w.heap.size, j, none⟩ := by unfold Addr.add; split <;> simp_all
  rw [this]
  match j, hu with
  | 0, hu => simp at hu; subst hu; simp [go_sem]
  | 1, hu => simp at hu; subst hu; simp [go_sem]
  | j + 2, hu => simp at hu
theorem owns_below {w w' : World} {B size : Nat} {T : TypeId} {v : Value} {n : Nat} {xs : List Value} (h : w.ownsRow B T size v n xs) (b : Below w.heap.size w w') : w'.ownsRow B T size v n xs := by
  obtain ⟨h1, h2 | ⟨g, cap, cur, e, h3, h4, h5⟩⟩ := h
  · exact ⟨h1, .inl h2⟩
  · exact ⟨h1, .inr ⟨g, cap, cur, e, h3, (b.block g (Array.getElem?_eq_some_iff.1 h4).1).trans h4, h5⟩⟩
/-- a slice of all types, at block g -/
structure AllAt (w : World) (g : Nat) : Prop where
  lt : g < w.heap.size
  at0 : ∀ i t, all[i]? = some t → w.cell? ⟨g, 2 * i, none⟩ = some (.int .i64 t.1)
  at1 : ∀ i t, all[i]? = some t → w.cell? ⟨g, 2 * i + 1, none⟩ = some (.int .i64 t.2)
def AllPost (w : World) (e : Ending) (w' : World) : Prop := (∃ g cap, e = .returned (.slice (some ⟨g, 0, none⟩) 12 cap) ∧ 12 ≤ cap ∧ cap ≤ maxLen ∧ AllAt w' g) ∧ Below w.heap.size w w'
theorem all_post {w wr : World} {v : Value} (h : wr.ownsRow w.heap.size 23 2 v all.length (cellsL all)) (hb : Below w.heap.size w wr) : AllPost w (.returned v) wr := by
  obtain ⟨g, cap, e, h1, h2, h3, h4, h5⟩ := owns_form2 h (by decide)
  subst e
  exact ⟨⟨g, cap, rfl, h3, h4, h2, fun i t ht => h5 _ _ (cellsL_get _ _ _ ht).1, fun i t ht => h5 _ _ (cellsL_get _ _ _ ht).2⟩, hb⟩
set_option maxHeartbeats 2000000 in
theorem rall_any (w : World) : Calls Tryd.prog 15 #[] w (AllPost w) := by
  obtain ⟨i0, hi, hz0, hz1, hz2⟩ := info_parts info23
  go_enter Tryd.func15, Tryd.ntmps15
  go_wp2
  go_loopw [1, 2] (fun v c wr => ∃ j : Nat, j ≤ 48 ∧ c = .int .i64 j ∧ Hid (wr.ownsRow w.heap.size 23 2 v (L j).length (cellsL (L j))) ∧ Hid (Below w.heap.size w wr)) (fun _ c _ => 48 - (intOf c).toNat)
  case atStart => exact ⟨0, by omega, rfl, World.ownsRow_nil _ _ _ _, Below.refl _ _⟩
  case round =>
    obtain ⟨j, hj, rfl, HO, HB⟩ := hrel
    by_cases hlt : j < 48
    · cases hk : okB ((j / 8 : Nat) : Int) ((j % 8 : Nat) : Int) with
      | false =>
        have C := fun w => rcheck_no _ _ w hk
        have HL := Lib.hid (L_no j hk)
        clear hk
        simp only [Int.natCast_ediv, Int.natCast_emod, Int.cast_ofNat_Int] at C
        go_wp2_with fail
        refine (C _).mono ?_
        rintro e w2 ⟨rfl, b2⟩
        have HO2 := Lib.hid (owns_below (HO.out.alloc (.cells #[.int .i64 (j / 8), .int .i64 (j % 8)] 23)) b2)
        have HB2 := Lib.hid ((HB.out.alloc HB.out.size (.cells #[.int .i64 (j / 8), .int .i64 (j % 8)] 23)).trans (b2.mono (by have := HB.out.size; simp; omega)))
        clear b2 HO HB C
        go_wp2
        go_roundw
        case rel => exact ⟨j + 1, by omega, by go_num, by unfold Hid; rw [HL.out]; exact HO2.out, HB2.out⟩
        case measure => simp [intOf]; omega
      | true =>
        have C := fun w => rcheck_ok _ _ w hk
        have HL := Lib.hid (L_yes j hk)
        have HN := L_len j
        clear hk
        simp only [Int.natCast_ediv, Int.natCast_emod, Int.cast_ofNat_Int] at C HL
        go_wp2_with fail
        refine (C _).mono ?_
        rintro e w2 ⟨rfl, b2⟩
        have X := (Bx.new wr (j / 8) (j % 8)).keep b2
        have HO2 := Lib.hid ((owns_below (HO.out.alloc (.cells #[.int .i64 (j / 8), .int .i64 (j % 8)] 23)) b2).alloc (.cells #[.int .i64 (j / 8), .int .i64 (j % 8)] 23))
        have HB2 := Lib.hid ((HB.out.alloc HB.out.size (.cells #[.int .i64 (j / 8), .int .i64 (j % 8)] 23)).trans (b2.mono (by have := HB.out.size; simp; omega)))
        have sz := HB2.out.size
        obtain ⟨l0, c0, c1⟩ := X
        clear b2 HO HB C
        go_wp2_with (at_builtin; go_must (refine wpList_append_own _ rfl (.tmp 15) (.tmp 17) 40 rfl w.heap.size 23 i0 (.agg #[.int .i64 0, .int .i64 0]) 2 16 Tryd.underlying40 hi hz0 hz1 hz2 rfl (by decide) _ (L j).length _ rfl HO2.out ⟨w2.heap.size, 0, none⟩ 1 1 [.int .i64 (j / 8), .int .i64 (j % 8)] rfl rfl (cell_two_new _ _ _ _) (by intro u hu; simp at hu; rcases hu with rfl | rfl <;> rfl) (by unfold maxLen; omega) (by omega) (by simp; omega) ?_))
        intro v7 w7 o7 g7 _
        have HO7 := Lib.hid o7
        have HB7 := Lib.hid ((HB2.out.alloc HB2.out.size (.cells #[.int .i64 (j / 8), .int .i64 (j % 8)] 23)).grown g7 (by have := HB2.out.size; simp; omega) (fun k hk => (HO2.out.lt k hk).1))
        clear o7 g7
        go_wp2_with fail
        go_roundw
        case rel => exact ⟨j + 1, by omega, by go_num, by unfold Hid; rw [HL.out, cellsL_snoc, List.length_append]; exact HO7.out, HB7.out⟩
        case measure => simp [intOf]; omega
    · have hj48 : j = 48 := by omega
      subst hj48
      rw [L48] at HO
      go_wp2
      go_ret
      exact all_post HO.out HB.out
end Go.Proofs.YticbogldplohpaaDoor
