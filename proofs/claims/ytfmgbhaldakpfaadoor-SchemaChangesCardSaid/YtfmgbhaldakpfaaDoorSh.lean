/- The reference's Attrs. -/
import Derived.Test.YtfmgbhaldakpfaaDoorSe
namespace Go.Proofs.YtfmgbhaldakpfaaDoor
open Go.RowKit

theorem flat_get {α : Type} (f : α → List Value) (z : Nat) (hz : ∀ a, (f a).length = z) : ∀ (l : List α) (j m : Nat) (a : α), l[j]? = some a → m < z → (l.flatMap f)[j * z + m]? = (f a)[m]?
  | [], j, m, a, h, _ => by simp at h
  | b :: r, 0, m, a, h, hm => by
    simp at h; subst h
    rw [List.flatMap_cons, List.getElem?_append_left (by rw [hz]; omega)]
    simp
  | b :: r, j + 1, m, a, h, hm => by
    have ih := flat_get f z hz r j m a (by simpa using h) hm
    rw [List.flatMap_cons, List.getElem?_append_right (by rw [hz, Nat.add_mul]; omega), ← ih, hz]
    congr 1; rw [Nat.add_mul]; omega
theorem tab_at (k : Nat) (h : k < 19) : tab[k]? = some (rw' k) := by
  have h' : k < tab.length := by rw [tab_len]; exact h
  unfold rw'; rw [List.getD_eq_getElem?_getD, List.getElem?_eq_getElem h', Option.getD_some]
/-- the reference's table in memory -/
def Tbl (w : World) (g : Nat) : Prop := w.heap[g]? = some (.cells tcs.toArray 61 (0, 0))
theorem Tbl.cells {w : World} {g : Nat} (h : Tbl w g) (k : Nat) (hk : k < 19) : w.cell? ⟨g, k * 5, none⟩ = some (.string (rw' k).1) ∧ w.cell? ⟨g, k * 5 + 1, none⟩ = some (.string (rw' k).2.nm) ∧ w.cell? ⟨g, k * 5 + 2, none⟩ = some (.int .i64 (rw' k).2.tk) ∧ w.cell? ⟨g, k * 5 + 3, none⟩ = some (.int .i64 (rw' k).2.to) ∧ w.cell? ⟨g, k * 5 + 4, none⟩ = some (.string (isB (rw' k).2)) := by
  have c := fun m (hm : m < 5) => flat_get (fun r => (tcell r).toList) 5 (fun _ => rfl) tab k m _ (tab_at k hk) hm
  have e := fun m => cell_of_row w g (k * 5 + m) _ _ _ h
  refine ⟨?_, ?_, ?_, ?_, ?_⟩
  · exact (e 0).trans ((List.getElem?_toArray).trans (c 0 (by omega)))
  · exact (e 1).trans ((List.getElem?_toArray).trans (c 1 (by omega)))
  · exact (e 2).trans ((List.getElem?_toArray).trans (c 2 (by omega)))
  · exact (e 3).trans ((List.getElem?_toArray).trans (c 3 (by omega)))
  · exact (e 4).trans ((List.getElem?_toArray).trans (c 4 (by omega)))
theorem own_ty {w : World} {B e z n N : Nat} {v : Value} {xs : List Value} {cs : Array Value} {t : TypeId} {fr : Nat × Nat} (h : w.ownsRow B e z v n xs) (hN : w.heap[N]? = some (.cells cs t fr)) (ht : e ≠ t) : ∀ k, v.ownBlock = some k → k ≠ N := by
  rintro k hk rfl
  rcases h.2 with ⟨rfl, _⟩ | ⟨g, cap, cur, rfl, _, hgg, _⟩
  · cases hk
  · simp only [Value.ownBlock, Option.some.injEq] at hk
    subst hk
    rw [hgg] at hN
    simp only [Option.some.injEq, Obj.cells.injEq] at hN
    exact ht hN.2.1
def RAttrsPost (t : ByteArray) (w : World) (e : Ending) (w' : World) : Prop :=
  ∃ o cap, e = .returned (.slice o (attrs t).length cap) ∧ AtRow (Fr w w') w' o cap (attrs t) ∧ Below w.heap.size w w'
def RtsRel (t : ByteArray) (w0 : World) (g k : Nat) (v : Value) (wr : World) : Prop := AtsRel t w0 k v wr ∧ Tbl wr g ∧ w0.heap.size ≤ g
set_option maxHeartbeats 2000000 in
set_option maxRecDepth 100000 in
theorem rattrs_any (t : ByteArray) (w : World) : Calls Tryd.prog 8 #[.string t] w (RAttrsPost t w) := by
  obtain ⟨i31, hi, hzz⟩ := Option.map_eq_some_iff.1 info31
  simp only [Prod.mk.injEq] at hzz
  obtain ⟨hz, hs1, hb1⟩ := hzz
  have H19 := Lib.hid (pre_all t)
  have HT := Lib.hid (table_any w)
  go_enter Tryd.func8, Tryd.ntmps8
  go_wp2_with fail
  refine HT.out.mono ?_
  rintro e w1 ⟨g, rfl, hg, ⟨cs, rfl, hcs⟩, hB⟩
  have HA : Hid (RtsRel t w g 0 (.slice none 0 0) w1) := ⟨⟨World.ownsRow_nil _ _ _ _, hB, fun _ => rfl⟩, hcs, hg⟩
  clear hB hcs hg
  go_wp2_with fail
  go_loopw [4, 5] (fun x i wr => ∃ (k : Nat) (v : Value), k ≤ 19 ∧ i = .int .i64 k ∧ x = v ∧ Hid (RtsRel t w g k v wr)) (fun _ i _ => 19 - (intOf i).toNat)
  case atStart => exact ⟨0, _, by omega, rfl, rfl, HA⟩
  case round =>
    obtain ⟨k, v, hk, rfl, hv, hA⟩ := hrel
    obtain rfl := hv.symm
    by_cases hlt : k < 19
    · have hlt' : (k : Int) < 19 := by omega
      obtain ⟨c0, c1, c2, c3, c4⟩ := hA.out.2.1.cells k hlt
      have hgl : g < wr.heap.size := (Array.getElem?_eq_some_iff.1 hA.out.2.1).1
      obtain ⟨r, hr⟩ : ∃ r, rw' k = r := ⟨_, rfl⟩
      rw [hr] at c0 c1 c2 c3 c4
      have HR := Lib.hid hr
      clear hr
      by_cases he : r.1 = t
      · obtain ⟨e1, e2⟩ := str_eq he
        have HE := Lib.hid he
        clear he
        have HAt := Lib.hid (attr_any r wr)
        have hpl := pre_len t k
        obtain ⟨n, hn⟩ : ∃ n, (pre t k).length = n := ⟨_, rfl⟩
        rw [hn] at hpl
        have HN := Lib.hid hn
        clear hn
        have hsz := hA.out.1.2.1.size
        go_wp2_with fail
        refine HAt.out.mono ?_
        rintro e w2 ⟨rfl, hB2⟩
        have hown : Hid ((w2.alloc (.cells (ac r.2) 31)).ownsRow w.heap.size 31 7 v n (acs (pre t k))) := by
          have := (own_below hA.out.1.1 hB2 (Nat.le_refl _)).alloc (.cells (ac r.2) 31)
          rw [HN.out] at this
          exact this
        have hB3 := bal hB2 (.cells (ac r.2) 31)
        have HB := Lib.hid (And.intro hB3 ((((Below.refl (g + 1) wr).trans (hB3.mono hgl))).block g (Nat.lt_succ_self _)))
        have hz2 := hB2.size
        clear hB2 hB3
        go_wp2_with (at_builtin; go_must (refine wpList_append_lies _ rfl (.tmp 20) (.tmp 26) 23 rfl w.heap.size 31 i31 _ 7 40 Tryd.underlying23 hi hz hs1 hb1 rfl (by omega) v n (acs (pre t k)) rfl hown.out ⟨w2.heap.size, 0, none⟩ 1 1 (atL r.2) rfl rfl (World.news_of_block (heap_alloc_new _ _)) (atL_one r.2) (by omega) (by unfold maxLen; omega) (by omega) (by simp; omega) (w2.heap.size + 1) (by simp) ?_))
        intro g2 cap w3 hown2 hgrow hat hlt2
        have HE2 := Lib.hid (And.intro hown2 (And.intro hgrow hat))
        clear hown2 hgrow hat
        go_wp2_with fail
        go_roundw
        case rel =>
          have st := hA.out.1.step hlt (by rw [HR.out]; exact HE.out) HN.out HB.out.1 (by rw [HR.out]; exact HE2.out.1) HE2.out.2.1
          refine ⟨k + 1, _, by omega, by go_num, rfl, Lib.hid ⟨st, ?_, hA.out.2.2⟩⟩
          have hne : v.ownBlock ≠ some g := fun e => own_ty hA.out.1.1 hA.out.2.1 (by decide) g e rfl
          exact ((HE2.out.2.1.block g (by simp; omega) (fun e => hne e.symm)).trans HB.out.2).trans hA.out.2.1
        case measure => simp [intOf]; omega
      · have hne := str_ne he
        obtain ⟨e1, e2⟩ := hne
        have HE := Lib.hid he
        clear he
        go_wp2_with fail
        go_roundw
        case rel => exact ⟨k + 1, _, by omega, by go_num, rfl, Lib.hid ⟨hA.out.1.skip hlt (by rw [HR.out]; exact HE.out) (Below.refl _ _), hA.out.2⟩⟩
        case measure => simp [intOf]; omega
    · have hk19 : k = 19 := by omega
      subst hk19
      obtain ⟨h1, h2, h3⟩ := hA.out.1
      obtain ⟨o, c, rfl, hR⟩ := own_row h1 rfl
      rw [H19.out] at hR ⊢
      have HP : Hid (RAttrsPost t w (.returned (.slice o (attrs t).length c)) wr) := ⟨o, c, rfl, hR.mono fun b hb => hb, h2⟩
      clear h1 h2 h3 hR
      go_wp2_with fail
      go_ret
      exact HP.out
end Go.Proofs.YtfmgbhaldakpfaaDoor

/- Attributes in a row; the reference's Find. -/
namespace Go.Proofs.YtfmgbhaldakpfaaDoor
open Go.RowKit

/-- attribute j -/
def aa (l : List Atr) (j : Nat) : Atr := l.getD j zAt
theorem aa_mem {l : List Atr} {j : Nat} (h : j < l.length) : aa l j ∈ l := by
  unfold aa; rw [List.getD_eq_getElem?_getD, List.getElem?_eq_getElem h]; exact List.getElem_mem h
theorem aa_get {l : List Atr} {j : Nat} (h : j < l.length) : l[j]? = some (aa l j) := by
  unfold aa; rw [List.getD_eq_getElem?_getD, List.getElem?_eq_getElem h]; rfl
/-- the cells of an attribute from p on -/
structure EA (w : World) (b p : Nat) (a : Atr) : Prop where
  c0 : w.cell? ⟨b, p, none⟩ = some (.string a.nm)
  c1 : w.cell? ⟨b, p + 1, none⟩ = some (.int .i64 a.tk)
  c2 : w.cell? ⟨b, p + 2, none⟩ = some (.int .i64 a.to)
  c3 : w.cell? ⟨b, p + 3, none⟩ = some (.bool a.nd)
  c4 : w.cell? ⟨b, p + 4, none⟩ = some (.bool a.cm)
  c5 : w.cell? ⟨b, p + 5, none⟩ = some (.bool a.an)
  c6 : w.cell? ⟨b, p + 6, none⟩ = some (.bool a.ow)
theorem AtRow.el {P : Nat → Prop} {w : World} {o : Option Addr} {cap : Nat} {l : List Atr} (h : AtRow P w o cap l) {j : Nat} (hj : j < l.length) : ∃ b off, o = some ⟨b, off, none⟩ ∧ P b ∧ EA w b (off + j * 7) (aa l j) := by
  obtain ⟨_, _, _, h4⟩ := h
  obtain ⟨b, off, e, hb, hc⟩ := h4 (by omega)
  exact ⟨b, off, e, hb, hc j hj 0 (by omega), hc j hj 1 (by omega), hc j hj 2 (by omega), hc j hj 3 (by omega), hc j hj 4 (by omega), hc j hj 5 (by omega), hc j hj 6 (by omega)⟩
theorem AtRow.blk {P : Nat → Prop} {w : World} {o : Option Addr} {cap : Nat} {l : List Atr} (h : AtRow P w o cap l) {j : Nat} (hj : j < l.length) : ∃ b off, o = some ⟨b, off, none⟩ ∧ P b := by
  obtain ⟨b, off, e, hb, _⟩ := h.el hj; exact ⟨b, off, e, hb⟩
/-- no name of the first j -/
def noName (l : List Atr) (n : ByteArray) (j : Nat) : Prop := ∀ i, i < j → (aa l i).nm ≠ n
theorem nn_find {t n : ByteArray} (h : noName (attrs t) n (attrs t).length) : find t n = none := by
  unfold find
  rw [List.find?_eq_none]
  intro a ha
  obtain ⟨i, hi, e⟩ := List.getElem_of_mem ha
  have := h i hi
  have e2 : aa (attrs t) i = a := by unfold aa; rw [List.getD_eq_getElem?_getD, List.getElem?_eq_getElem hi, Option.getD_some, e]
  rw [e2] at this
  simpa using this
theorem nn_some {t n : ByteArray} {j : Nat} (h : noName (attrs t) n j) (hj : j < (attrs t).length) (e : (aa (attrs t) j).nm = n) : find t n = some (aa (attrs t) j) := by
  unfold find
  rw [List.find?_eq_some_iff_getElem]
  refine ⟨by simpa using e, j, hj, ?_, fun i hi => ?_⟩
  · unfold aa; rw [List.getD_eq_getElem?_getD, List.getElem?_eq_getElem hj]; rfl
  · have h2 := h i hi
    have hi' : i < (attrs t).length := by omega
    unfold aa at h2
    rw [List.getD_eq_getElem?_getD, List.getElem?_eq_getElem hi', Option.getD_some] at h2
    simpa using h2
/-- what the reference's Find answers -/
def RFP (F : Option Atr) (w : World) (e : Ending) (w' : World) : Prop :=
  Below w.heap.size w w' ∧ match F with
    | none => e = .returned (.tuple #[azv, .bool false])
    | some a => e = .returned (.tuple #[av a, .bool true])
theorem attrs_len (t : ByteArray) : (attrs t).length ≤ 19 := by rw [← pre_all]; exact pre_len t 19
set_option maxHeartbeats 2000000 in
set_option maxRecDepth 100000 in
theorem rfind_any (t n : ByteArray) (w : World) : Calls Tryd.prog 10 #[.string t, .string n] w (RFP (find t n) w) := by
  have HP := Lib.hid (rattrs_any t (w.alloc (.cells az 31)))
  have HZ : Hid ((w.alloc (.cells az 31)).heap[w.heap.size]? = some (.cells az 31 (0, 0))) := heap_alloc_new _ _
  have hal := attrs_len t
  have HND := Lib.hid (fun h => nn_find (t := t) (n := n) h)
  have HNS := Lib.hid (fun j h hj e => nn_some (t := t) (n := n) (j := j) h hj e)
  generalize find t n = F at *
  go_enter Tryd.func10, Tryd.ntmps10
  go_wp2_with fail
  refine HP.out.mono ?_
  rintro e w1 ⟨o, cap, rfl, hR, hB⟩
  obtain ⟨l, hl⟩ : ∃ l, attrs t = l := ⟨_, rfl⟩
  rw [hl] at hR hal HND HNS ⊢
  have Q1 : Hid (w1.heap[w.heap.size]? = some (.cells az 31 (0, 0))) := (hB.block _ (by simp)).trans HZ.out
  have B0 := Lib.hid ((((Below.refl w.heap.size w).alloc (Nat.le_refl _) (.cells az 31))).trans (hB.mono (by simp)))
  have HR := Lib.hid hR
  clear HP HZ hR hB hl
  go_wp2_with fail
  go_loop [7] (fun i => ∃ j : Nat, j ≤ l.length ∧ i = .int .i64 j ∧ Hid (noName l n j)) (fun i => l.length - (intOf i).toNat)
  case atStart => exact ⟨0, Nat.zero_le _, rfl, fun i hi => absurd hi (Nat.not_lt_zero i)⟩
  case round =>
    obtain ⟨j, hj, rfl, HJ⟩ := hrel
    by_cases hlt : j < l.length
    · obtain ⟨b, off, rfl, hb, E⟩ := AtRow.el HR.out hlt
      have HNS2 := Lib.hid (HNS.out j HJ.out hlt)
      obtain ⟨c0, c1, c2, c3, c4, c5, c6⟩ := E
      have HX := Lib.hid (HNS.out j HJ.out hlt)
      have HA : Hid (aa l j = aa l j) := rfl
      obtain ⟨a, ha⟩ : ∃ a, aa l j = a := ⟨_, rfl⟩
      rw [ha] at c0 c1 c2 c3 c4 c5 c6 HX
      have HA := Lib.hid ha
      clear ha HNS2
      have hlt' : (j : Int) < (l.length : Int) := by omega
      by_cases he : a.nm = n
      · obtain ⟨e1, e2⟩ := str_eq he
        have HF := Lib.hid (HX.out he)
        have R := Lib.hid (store_box' Q1.out (ac a) rfl)
        have BW := Lib.hid (below_setRow B0.out (Nat.le_refl _) (over az (ac a)))
        clear he
        go_wp2_with ((with_reducible refine wpList_store_at rfl 31 (.tmp 4) (.tmp 26) rfl w.heap.size 0 rfl _ rfl 31 az Q1.out ?sta1 ?sta2 ?sta3 ?sta4); case' sta4 => generalize World.setRow _ _ _ = w5 at *)
        case sta2 => have := size31; simpa using this
        case sta3 => simp [Value.oneCell']
        obtain ⟨p0, p1, p2, p3, p4, p5, p6, p7⟩ := rc7 (show w5.heap[w.heap.size]? = some (.cells (ac a) 31 (0, 0)) from R.out)
        exact bodyPost_ret (v := .tuple #[av a, .bool true]) (by simp [results, Tryd.results10, go_sem, p0, p1, p2, p3, p4, p5, p6]) rfl (by rw [HF.out]; exact ⟨BW.out, rfl⟩)
      · obtain ⟨e1, e2⟩ := str_ne he
        have HE := Lib.hid he
        clear he
        go_wp2_with fail
        go_round
        case rel => exact ⟨j + 1, by omega, by go_num, Lib.hid fun i hi => by
          by_cases e : i = j
          · subst e; rw [HA.out]; exact HE.out
          · exact HJ.out i (by omega)⟩
        case measure => simp [intOf]; omega
    · have hjl : j = l.length := by omega
      have HF := Lib.hid (HND.out (by rw [← hjl]; exact HJ.out))
      have R := Lib.hid (store_box' Q1.out az rfl)
      have BW := Lib.hid (below_setRow B0.out (Nat.le_refl _) (over az az))
      clear hjl
      go_wp2_with ((with_reducible refine wpList_store_at rfl 31 (.tmp 4) (.tmp 27) rfl w.heap.size 0 rfl _ rfl 31 az Q1.out ?stb1 ?stb2 ?stb3 ?stb4); case' stb4 => generalize World.setRow _ _ _ = w5 at *)
      case stb2 => have := size31; simpa using this
      case stb3 => simp [Value.oneCell']
      obtain ⟨p0, p1, p2, p3, p4, p5, p6, p7⟩ := rc7 (show w5.heap[w.heap.size]? = some (.cells az 31 (0, 0)) from R.out)
      exact bodyPost_ret (v := .tuple #[azv, .bool false]) (by simp [results, Tryd.results10, go_sem, p0, p1, p2, p3, p4, p5, p6]) rfl (by rw [HF.out]; exact ⟨BW.out, rfl⟩)
end Go.Proofs.YtfmgbhaldakpfaaDoor
