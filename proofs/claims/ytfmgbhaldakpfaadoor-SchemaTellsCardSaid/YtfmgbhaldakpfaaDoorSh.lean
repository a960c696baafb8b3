/- The reference's Attrs. -/
import Derived.Test.YtfmgbhaldakpfaaDoorSg
namespace Go.Proofs.YtfmgbhaldakpfaaDoor
open Go.RowKit

theorem flat_get {α : Type} (f : α → List Value) (z : Nat) (hz : ∀ a, (f a).length = z) : ∀ (l : List α) (j m : Nat) (a : α), l[j]? = some a → m < z → (l.flatMap f)[j * z + m]? = (f a)[m]?
  | [], j, m, a, h, _ => by simp at h
  | b :: r, 0, m, a, h, hm => by
    simp at h; subst h
    rw [List.flatMap_cons, List.getElem?_append_left (by rw [hz]; omega)]
    simp
  | b :: r, j + 1, m, a, h, hm => by
    have ih := flat_get f z hz r j m a (by simpa using h) hm
    rw [List.flatMap_cons, List.getElem?_append_right (by rw [hz, Nat.add_mul]; omega), ← ih, hz]
    congr 1; rw [Nat.add_mul]; omega
theorem tab_at (k : Nat) (h : k < 19) : tab[k]? = some (rw' k) := by
  have h' : k < tab.length := by rw [tab_len]; exact h
  unfold rw'; rw [List.getD_eq_getElem?_getD, List.getElem?_eq_getElem h', Option.getD_some]
/-- the reference's table in memory -/
def Tbl (w : World) (g : Nat) : Prop := w.heap[g]? = some (.cells tcs.toArray 61 (0, 0))
theorem Tbl.cells {w : World} {g : Nat} (h : Tbl w g) (k : Nat) (hk : k < 19) : w.cell? ⟨g, k * 5, none⟩ = some (.string (rw' k).1) ∧ w.cell? ⟨g, k * 5 + 1, none⟩ = some (.string (rw' k).2.nm) ∧ w.cell? ⟨g, k * 5 + 2, none⟩ = some (.int .i64 (rw' k).2.tk) ∧ w.cell? ⟨g, k * 5 + 3, none⟩ = some (.int .i64 (rw' k).2.to) ∧ w.cell? ⟨g, k * 5 + 4, none⟩ = some (.string (isB (rw' k).2)) := by
  have c := fun m (hm : m < 5) => flat_get (fun r => (tcell r).toList) 5 (fun _ => rfl) tab k m _ (tab_at k hk) hm
  have e := fun m => cell_of_row w g (k * 5 + m) _ _ _ h
  refine ⟨?_, ?_, ?_, ?_, ?_⟩
  · exact (e 0).trans ((List.getElem?_toArray).trans (c 0 (by omega)))
  · exact (e 1).trans ((List.getElem?_toArray).trans (c 1 (by omega)))
  · exact (e 2).trans ((List.getElem?_toArray).trans (c 2 (by omega)))
  · exact (e 3).trans ((List.getElem?_toArray).trans (c 3 (by omega)))
  · exact (e 4).trans ((List.getElem?_toArray).trans (c 4 (by omega)))
theorem own_ty {w : World} {B e z n N : Nat} {v : Value} {xs : List Value} {cs : Array Value} {t : TypeId} {fr : Nat × Nat} (h : w.ownsRow B e z v n xs) (hN : w.heap[N]? = some (.cells cs t fr)) (ht : e ≠ t) : ∀ k, v.ownBlock = some k → k ≠ N := by
  rintro k hk rfl
  rcases h.2 with ⟨rfl, _⟩ | ⟨g, cap, cur, rfl, _, hgg, _⟩
  · cases hk
  · simp only [Value.ownBlock, Option.some.injEq] at hk
    subst hk
    rw [hgg] at hN
    simp only [Option.some.injEq, Obj.cells.injEq] at hN
    exact ht hN.2.1
def RAttrsPost (t : ByteArray) (w : World) (e : Ending) (w' : World) : Prop :=
  ∃ o cap, e = .returned (.slice o (attrs t).length cap) ∧ AtRow (Fr w w') w' o cap (attrs t) ∧ Below w.heap.size w w'
def RtsRel (t : ByteArray) (w0 : World) (g k : Nat) (v : Value) (wr : World) : Prop := AtsRel t w0 k v wr ∧ Tbl wr g ∧ w0.heap.size ≤ g
set_option maxHeartbeats 2000000 in
set_option maxRecDepth 100000 in
theorem rattrs_any (t : ByteArray) (w : World) : Calls Tryd.prog 8 #[.string t] w (RAttrsPost t w) := by
  obtain ⟨i31, hi, hzz⟩ := Option.map_eq_some_iff.1 info31
  simp only [Prod.mk.injEq] at hzz
  obtain ⟨hz, hs1, hb1⟩ := hzz
  have H19 := Lib.hid (pre_all t)
  have HT := Lib.hid (table_any w)
  go_enter Tryd.func8, Tryd.ntmps8
  go_wp2_with fail
  refine HT.out.mono ?_
  rintro e w1 ⟨g, rfl, hg, ⟨cs, rfl, hcs⟩, hB⟩
  have HA : Hid (RtsRel t w g 0 (.slice none 0 0) w1) := ⟨⟨World.ownsRow_nil _ _ _ _, hB, fun _ => rfl⟩, hcs, hg⟩
  clear hB hcs hg
  go_wp2_with fail
  go_loopw [4, 5] (fun x i wr => ∃ (k : Nat) (v : Value), k ≤ 19 ∧ i = .int .i64 k ∧ x = v ∧ Hid (RtsRel t w g k v wr)) (fun _ i _ => 19 - (intOf i).toNat)
  case atStart => exact ⟨0, _, by omega, rfl, rfl, HA⟩
  case round =>
    obtain ⟨k, v, hk, rfl, hv, hA⟩ := hrel
    obtain rfl := hv.symm
    by_cases hlt : k < 19
    · have hlt' : (k : Int) < 19 := by omega
      obtain ⟨c0, c1, c2, c3, c4⟩ := hA.out.2.1.cells k hlt
      have hgl : g < wr.heap.size := (Array.getElem?_eq_some_iff.1 hA.out.2.1).1
      obtain ⟨r, hr⟩ : ∃ r, rw' k = r := ⟨_, rfl⟩
      rw [hr] at c0 c1 c2 c3 c4
      have HR := Lib.hid hr
      clear hr
      by_cases he : r.1 = t
      · obtain ⟨e1, e2⟩ := str_eq he
        have HE := Lib.hid he
        clear he
        have HAt := Lib.hid (attr_any r wr)
        have hpl := pre_len t k
        obtain ⟨n, hn⟩ : ∃ n, (pre t k).length = n := ⟨_, rfl⟩
        rw [hn] at hpl
        have HN := Lib.hid hn
        clear hn
        have hsz := hA.out.1.2.1.size
        go_wp2_with fail
        refine HAt.out.mono ?_
        rintro e w2 ⟨rfl, hB2⟩
        have hown : Hid ((w2.alloc (.cells (ac r.2) 31)).ownsRow w.heap.size 31 7 v n (acs (pre t k))) := by
          have := (own_below hA.out.1.1 hB2 (Nat.le_refl _)).alloc (.cells (ac r.2) 31)
          rw [HN.out] at this
          exact this
        have hB3 := bal hB2 (.cells (ac r.2) 31)
        have HB := Lib.hid (And.intro hB3 ((((Below.refl (g + 1) wr).trans (hB3.mono hgl))).block g (Nat.lt_succ_self _)))
        have hz2 := hB2.size
        clear hB2 hB3
        go_wp2_with (at_builtin; go_must (refine wpList_append_lies _ rfl (.tmp 20) (.tmp 26) 23 rfl w.heap.size 31 i31 _ 7 40 Tryd.underlying23 hi hz hs1 hb1 rfl (by omega) v n (acs (pre t k)) rfl hown.out ⟨w2.heap.size, 0, none⟩ 1 1 (atL r.2) rfl rfl (World.news_of_block (heap_alloc_new _ _)) (atL_one r.2) (by omega) (by unfold maxLen; omega) (by omega) (by simp; omega) (w2.heap.size + 1) (by simp) ?_))
        intro g2 cap w3 hown2 hgrow hat hlt2
        have HE2 := Lib.hid (And.intro hown2 (And.intro hgrow hat))
        clear hown2 hgrow hat
        go_wp2_with fail
        go_roundw
        case rel =>
          have st := hA.out.1.step hlt (by rw [HR.out]; exact HE.out) HN.out HB.out.1 (by rw [HR.out]; exact HE2.out.1) HE2.out.2.1
          refine ⟨k + 1, _, by omega, by go_num, rfl, Lib.hid ⟨st, ?_, hA.out.2.2⟩⟩
          have hne : v.ownBlock ≠ some g := fun e => own_ty hA.out.1.1 hA.out.2.1 (by decide) g e rfl
          exact ((HE2.out.2.1.block g (by simp; omega) (fun e => hne e.symm)).trans HB.out.2).trans hA.out.2.1
        case measure => simp [intOf]; omega
      · have hne := str_ne he
        obtain ⟨e1, e2⟩ := hne
        have HE := Lib.hid he
        clear he
        go_wp2_with fail
        go_roundw
        case rel => exact ⟨k + 1, _, by omega, by go_num, rfl, Lib.hid ⟨hA.out.1.skip hlt (by rw [HR.out]; exact HE.out) (Below.refl _ _), hA.out.2⟩⟩
        case measure => simp [intOf]; omega
    · have hk19 : k = 19 := by omega
      subst hk19
      obtain ⟨h1, h2, h3⟩ := hA.out.1
      obtain ⟨o, c, rfl, hR⟩ := own_row h1 rfl
      rw [H19.out] at hR ⊢
      have HP : Hid (RAttrsPost t w (.returned (.slice o (attrs t).length c)) wr) := ⟨o, c, rfl, hR.mono fun b hb => hb, h2⟩
      clear h1 h2 h3 hR
      go_wp2_with fail
      go_ret
      exact HP.out
end Go.Proofs.YtfmgbhaldakpfaaDoor
