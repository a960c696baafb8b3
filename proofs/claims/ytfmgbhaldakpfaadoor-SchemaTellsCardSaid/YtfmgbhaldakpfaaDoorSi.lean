/- Attributes in a row; the reference's Find. -/
import Derived.Test.YtfmgbhaldakpfaaDoorSh
namespace Go.Proofs.YtfmgbhaldakpfaaDoor
open Go.RowKit

/-- attribute j -/
def aa (l : List Atr) (j : Nat) : Atr := l.getD j zAt
theorem aa_mem {l : List Atr} {j : Nat} (h : j < l.length) : aa l j ∈ l := by
  unfold aa; rw [List.getD_eq_getElem?_getD, List.getElem?_eq_getElem h]; exact List.getElem_mem h
theorem aa_get {l : List Atr} {j : Nat} (h : j < l.length) : l[j]? = some (aa l j) := by
  unfold aa; rw [List.getD_eq_getElem?_getD, List.getElem?_eq_getElem h]; rfl
/-- the cells of an attribute from p on -/
structure EA (w : World) (b p : Nat) (a : Atr) : Prop where
  c0 : w.cell? ⟨b, p, none⟩ = some (.string a.nm)
  c1 : w.cell? ⟨b, p + 1, none⟩ = some (.int .i64 a.tk)
  c2 : w.cell? ⟨b, p + 2, none⟩ = some (.int .i64 a.to)
  c3 : w.cell? ⟨b, p + 3, none⟩ = some (.bool a.nd)
  c4 : w.cell? ⟨b, p + 4, none⟩ = some (.bool a.cm)
  c5 : w.cell? ⟨b, p + 5, none⟩ = some (.bool a.an)
  c6 : w.cell? ⟨b, p + 6, none⟩ = some (.bool a.ow)
theorem AtRow.el {P : Nat → Prop} {w : World} {o : Option Addr} {cap : Nat} {l : List Atr} (h : AtRow P w o cap l) {j : Nat} (hj : j < l.length) : ∃ b off, o = some ⟨b, off, none⟩ ∧ P b ∧ EA w b (off + j * 7) (aa l j) := by
  obtain ⟨_, _, _, h4⟩ := h
  obtain ⟨b, off, e, hb, hc⟩ := h4 (by omega)
  exact ⟨b, off, e, hb, hc j hj 0 (by omega), hc j hj 1 (by omega), hc j hj 2 (by omega), hc j hj 3 (by omega), hc j hj 4 (by omega), hc j hj 5 (by omega), hc j hj 6 (by omega)⟩
theorem AtRow.blk {P : Nat → Prop} {w : World} {o : Option Addr} {cap : Nat} {l : List Atr} (h : AtRow P w o cap l) {j : Nat} (hj : j < l.length) : ∃ b off, o = some ⟨b, off, none⟩ ∧ P b := by
  obtain ⟨b, off, e, hb, _⟩ := h.el hj; exact ⟨b, off, e, hb⟩
/-- no name of the first j -/
def noName (l : List Atr) (n : ByteArray) (j : Nat) : Prop := ∀ i, i < j → (aa l i).nm ≠ n
theorem nn_find {t n : ByteArray} (h : noName (attrs t) n (attrs t).length) : find t n = none := by
  unfold find
  rw [List.find?_eq_none]
  intro a ha
  obtain ⟨i, hi, e⟩ := List.getElem_of_mem ha
  have := h i hi
  have e2 : aa (attrs t) i = a := by unfold aa; rw [List.getD_eq_getElem?_getD, List.getElem?_eq_getElem hi, Option.getD_some, e]
  rw [e2] at this
  simpa using this
theorem nn_some {t n : ByteArray} {j : Nat} (h : noName (attrs t) n j) (hj : j < (attrs t).length) (e : (aa (attrs t) j).nm = n) : find t n = some (aa (attrs t) j) := by
  unfold find
  rw [List.find?_eq_some_iff_getElem]
  refine ⟨by simpa using e, j, hj, ?_, fun i hi => ?_⟩
  · unfold aa; rw [List.getD_eq_getElem?_getD, List.getElem?_eq_getElem hj]; rfl
  · have h2 := h i hi
    have hi' : i < (attrs t).length := by omega
    unfold aa at h2
    rw [List.getD_eq_getElem?_getD, List.getElem?_eq_getElem hi', Option.getD_some] at h2
    simpa using h2
/-- what the reference's Find answers -/
def RFP (F : Option Atr) (w : World) (e : Ending) (w' : World) : Prop :=
  Below w.heap.size w w' ∧ match F with
    | none => e = .returned (.tuple #[azv, .bool false])
    | some a => e = .returned (.tuple #[av a, .bool true])
theorem attrs_len (t : ByteArray) : (attrs t).length ≤ 19 := by rw [← pre_all]; exact pre_len t 19
set_option maxHeartbeats 2000000 in
set_option maxRecDepth 100000 in
theorem rfind_any (t n : ByteArray) (w : World) : Calls Tryd.prog 10 #[.string t, .string n] w (RFP (find t n) w) := by
  have HP := Lib.hid (rattrs_any t (w.alloc (.cells az 31)))
  have HZ : Hid ((w.alloc (.cells az 31)).heap[w.heap.size]? = some (.cells az 31 (0, 0))) := heap_alloc_new _ _
  have hal := attrs_len t
  have HND := Lib.hid (fun h => nn_find (t := t) (n := n) h)
  have HNS := Lib.hid (fun j h hj e => nn_some (t := t) (n := n) (j := j) h hj e)
  generalize find t n = F at *
  go_enter Tryd.func10, Tryd.ntmps10
  go_wp2_with fail
  refine HP.out.mono ?_
  rintro e w1 ⟨o, cap, rfl, hR, hB⟩
  obtain ⟨l, hl⟩ : ∃ l, attrs t = l := ⟨_, rfl⟩
  rw [hl] at hR hal HND HNS ⊢
  have Q1 : Hid (w1.heap[w.heap.size]? = some (.cells az 31 (0, 0))) := (hB.block _ (by simp)).trans HZ.out
  have B0 := Lib.hid ((((Below.refl w.heap.size w).alloc (Nat.le_refl _) (.cells az 31))).trans (hB.mono (by simp)))
  have HR := Lib.hid hR
  clear HP HZ hR hB hl
  go_wp2_with fail
  go_loop [7] (fun i => ∃ j : Nat, j ≤ l.length ∧ i = .int .i64 j ∧ Hid (noName l n j)) (fun i => l.length - (intOf i).toNat)
  case atStart => exact ⟨0, Nat.zero_le _, rfl, fun i hi => absurd hi (Nat.not_lt_zero i)⟩
  case round =>
    obtain ⟨j, hj, rfl, HJ⟩ := hrel
    by_cases hlt : j < l.length
    · obtain ⟨b, off, rfl, hb, E⟩ := AtRow.el HR.out hlt
      have HNS2 := Lib.hid (HNS.out j HJ.out hlt)
      obtain ⟨c0, c1, c2, c3, c4, c5, c6⟩ := E
      have HX := Lib.hid (HNS.out j HJ.out hlt)
      have HA : Hid (aa l j = aa l j) := rfl
      obtain ⟨a, ha⟩ : ∃ a, aa l j = a := ⟨_, rfl⟩
      rw [ha] at c0 c1 c2 c3 c4 c5 c6 HX
      have HA := Lib.hid ha
      clear ha HNS2
      have hlt' : (j : Int) < (l.length : Int) := by omega
      by_cases he : a.nm = n
      · obtain ⟨e1, e2⟩ := str_eq he
        have HF := Lib.hid (HX.out he)
        have R := Lib.hid (store_box' Q1.out (ac a) rfl)
        have BW := Lib.hid (below_setRow B0.out (Nat.le_refl _) (over az (ac a)))
        clear he
        go_wp2_with ((with_reducible refine wpList_store_at rfl 31 (.tmp 4) (.tmp 26) rfl w.heap.size 0 rfl _ rfl 31 az Q1.out ?sta1 ?sta2 ?sta3 ?sta4); case' sta4 => generalize World.setRow _ _ _ = w5 at *)
        case sta2 => have := size31; simpa using this
        case sta3 => simp [Value.oneCell']
        obtain ⟨p0, p1, p2, p3, p4, p5, p6, p7⟩ := rc7 (show w5.heap[w.heap.size]? = some (.cells (ac a) 31 (0, 0)) from R.out)
        exact bodyPost_ret (v := .tuple #[av a, .bool true]) (by simp [results, Tryd.results10, go_sem, p0, p1, p2, p3, p4, p5, p6]) rfl (by rw [HF.out]; exact ⟨BW.out, rfl⟩)
      · obtain ⟨e1, e2⟩ := str_ne he
        have HE := Lib.hid he
        clear he
        go_wp2_with fail
        go_round
        case rel => exact ⟨j + 1, by omega, by go_num, Lib.hid fun i hi => by
          by_cases e : i = j
          · subst e; rw [HA.out]; exact HE.out
          · exact HJ.out i (by omega)⟩
        case measure => simp [intOf]; omega
    · have hjl : j = l.length := by omega
      have HF := Lib.hid (HND.out (by rw [← hjl]; exact HJ.out))
      have R := Lib.hid (store_box' Q1.out az rfl)
      have BW := Lib.hid (below_setRow B0.out (Nat.le_refl _) (over az az))
      clear hjl
      go_wp2_with ((with_reducible refine wpList_store_at rfl 31 (.tmp 4) (.tmp 27) rfl w.heap.size 0 rfl _ rfl 31 az Q1.out ?stb1 ?stb2 ?stb3 ?stb4); case' stb4 => generalize World.setRow _ _ _ = w5 at *)
      case stb2 => have := size31; simpa using this
      case stb3 => simp [Value.oneCell']
      obtain ⟨p0, p1, p2, p3, p4, p5, p6, p7⟩ := rc7 (show w5.heap[w.heap.size]? = some (.cells az 31 (0, 0)) from R.out)
      exact bodyPost_ret (v := .tuple #[azv, .bool false]) (by simp [results, Tryd.results10, go_sem, p0, p1, p2, p3, p4, p5, p6]) rfl (by rw [HF.out]; exact ⟨BW.out, rfl⟩)
end Go.Proofs.YtfmgbhaldakpfaaDoor
