/- The attributes of a type, by the program. -/
import Derived.Test.YtfmgbhaldakpfaaDoorSa
import Derived.Test.YtfmgbhaldakpfaaDoorG
namespace Go.Proofs.YtfmgbhaldakpfaaDoor
open Go.RowKit

theorem ownsRow_kept {w w' : World} {base e size n : Nat} {v : Value} {xs : List Value} (h : w.ownsRow base e size v n xs) (hb : ∀ g, v.ownBlock = some g → w'.heap[g]? = w.heap[g]?) : w'.ownsRow base e size v n xs := by
  refine ⟨h.1, ?_⟩
  rcases h.2 with hn | ⟨g, cap, cur, rfl, hg, hgg, rest⟩
  · exact .inl hn
  · exact .inr ⟨g, cap, cur, rfl, hg, by rw [hb g rfl]; exact hgg, rest⟩
theorem own_below {w w' : World} {base e size n N : Nat} {v : Value} {xs : List Value} (h : w.ownsRow base e size v n xs) (hb : Below N w w') (hN : w.heap.size ≤ N) : w'.ownsRow base e size v n xs :=
  ownsRow_kept h fun g hg => hb.block g (Nat.lt_of_lt_of_le (h.lt g hg).2 hN)
/-- attributes' cells -/
def acs (l : List Atr) : List Value := l.flatMap atL
theorem acs_app (a b : List Atr) : acs (a ++ b) = acs a ++ acs b := by simp [acs]
theorem acs_len (l : List Atr) : (acs l).length = l.length * 7 := by
  induction l with
  | nil => rfl
  | cons a r ih => unfold acs at *; rw [List.flatMap_cons, List.length_append, ih]; simp; omega
theorem acs_get : ∀ (l : List Atr) (j m : Nat), j < l.length → m < 7 → (acs l)[j * 7 + m]? = some ((atL (l.getD j zAt)).getD m undef)
  | [], j, m, h, _ => by simp at h
  | a :: r, 0, m, _, hm => by
    unfold acs
    rw [List.flatMap_cons, List.getElem?_append_left (by simp; omega)]
    simp only [List.getD_cons_zero]
    rw [List.getElem?_eq_getElem (by simp; omega), List.getD_eq_getElem?_getD, List.getElem?_eq_getElem (by simp; omega), Option.getD_some]
    congr 1
    simp
  | a :: r, j + 1, m, h, hm => by
    have ih := acs_get r j m (by simpa using h) hm
    unfold acs at *
    rw [List.flatMap_cons, List.getElem?_append_right (by simp; omega), List.getD_cons_succ]
    rw [← ih]; congr 1; simp; omega
/-- a row of the call's own, as it is read -/
theorem own_row {w : World} {B n : Nat} {v : Value} {l : List Atr} (h : w.ownsRow B 31 7 v n (acs l)) (hn : n = l.length) : ∃ o cap, v = .slice o l.length cap ∧ AtRow (fun b => B ≤ b ∧ b < w.heap.size) w o cap l := by
  subst hn
  rcases h.2 with ⟨rfl, h0⟩ | ⟨g, cap, cur, rfl, hg, hgg, rest⟩
  · have hl : l = [] := by
      cases l with
      | nil => rfl
      | cons a r => simp [acs] at h0
    subst hl
    exact ⟨none, 0, rfl, RowP.nil _ _ _ _⟩
  · have hc := fun j x hx => h.cells (g := g) rfl j x hx
    have hlt := (h.lt g rfl).2
    refine ⟨some ⟨g, 0, none⟩, cap, rfl, ?_⟩
    refine ⟨rest.1, rest.2.1, fun e => (by cases e), fun hl => ⟨g, 0, rfl, ⟨hg, hlt⟩, fun j hj m hm => ?_⟩⟩
    have := hc (j * 7 + m) _ (acs_get l j m hj hm)
    have ea : (⟨g, 0, none⟩ : Addr).add (j * 7 + m) = ⟨g, 0 + j * 7 + m, none⟩ := by unfold Addr.add; split <;> simp_all <;> omega
    rw [ea] at this
    exact this
/-- what Attrs answers -/
def AttrsPost (t : ByteArray) (w : World) (e : Ending) (w' : World) : Prop :=
  (attrs t = [] ∧ e = .returned (.tuple #[.slice none 0 0, .int .i64 9]) ∧ Below w.heap.size w w') ∨
  (attrs t ≠ [] ∧ ∃ o cap, e = .returned (.tuple #[.slice o (attrs t).length cap, .int .i64 0]) ∧ AtRow (Fr w w') w' o cap (attrs t) ∧ Below w.heap.size w w')
/-- at the head of the loop -/
def AtsRel (t : ByteArray) (w0 : World) (k : Nat) (v : Value) (wr : World) : Prop :=
  wr.ownsRow w0.heap.size 31 7 v (pre t k).length (acs (pre t k)) ∧ Below w0.heap.size w0 wr ∧ (pre t k = [] → v = .slice none 0 0)
theorem AtsRel.step {t : ByteArray} {w0 wr w1 w2 : World} {k n g cap : Nat} {v : Value} (h : AtsRel t w0 k v wr) (hk : k < 19) (e : (rw' k).1 = t) (hn : (pre t k).length = n) (h1 : Below wr.heap.size wr w1)
    (hown : w2.ownsRow w0.heap.size 31 7 (.slice (some ⟨g, 0, none⟩) (n + 1) cap) (n + 1) (acs (pre t k) ++ atL (rw' k).2)) (hg : w1.grownBy w2 v.ownBlock) : AtsRel t w0 (k + 1) (.slice (some ⟨g, 0, none⟩) (n + 1) cap) w2 := by
  obtain ⟨h2, h3, h4⟩ := h
  subst hn
  refine ⟨?_, (h3.trans (h1.mono h3.size)).grown hg (Nat.le_trans h3.size h1.size) (fun g hg => (h2.lt g hg).1), fun hp => ?_⟩
  · rw [pre_yes t k hk e, List.length_append, acs_app]
    show w2.ownsRow _ _ _ _ _ (acs (pre t k) ++ acs [(rw' k).2])
    rw [show acs [(rw' k).2] = atL (rw' k).2 by simp [acs]]
    exact hown
  · rw [pre_yes t k hk e] at hp; simp at hp
theorem AtsRel.skip {t : ByteArray} {w0 wr w1 : World} {k : Nat} {v : Value} (h : AtsRel t w0 k v wr) (hk : k < 19) (e : (rw' k).1 ≠ t) (h1 : Below wr.heap.size wr w1) : AtsRel t w0 (k + 1) v w1 := by
  obtain ⟨h2, h3, h4⟩ := h
  unfold AtsRel
  rw [pre_no t k hk e]
  exact ⟨own_below h2 h1 (Nat.le_refl _), h3.trans (h1.mono h3.size), h4⟩
theorem atL_one (a : Atr) : ∀ u ∈ atL a, u.oneCell' = true := fun u hu => by
  simp only [atL, List.mem_cons, List.not_mem_nil, or_false] at hu
  rcases hu with rfl | rfl | rfl | rfl | rfl | rfl | rfl <;> rfl
set_option maxHeartbeats 2000000 in
set_option maxRecDepth 100000 in
theorem attrs_any (t : ByteArray) (w : World) (hT : Tab w) : Calls Tryd.prog 7 #[.string t] w (AttrsPost t w) := by
  obtain ⟨T, fr, hT0⟩ := hT
  have h0 := (Array.getElem?_eq_some_iff.1 hT0).1
  have HT := Lib.hid hT0
  obtain ⟨i31, hi, hzz⟩ := Option.map_eq_some_iff.1 info31
  simp only [Prod.mk.injEq] at hzz
  obtain ⟨hz, hs1, hb1⟩ := hzz
  have hIx := Lib.hid idx_row
  have HA : Hid (AtsRel t w 0 (.slice none 0 0) w) := ⟨World.ownsRow_nil _ _ _ _, Below.refl _ _, fun _ => rfl⟩
  have H19 := Lib.hid (pre_all t)
  have hneq := fun (u : World) (a : Option Addr) (n c : Nat) => Lib.run_eql_slice_nil (P := Tryd.prog) u 23 31 a n c 0 0 Tryd.underlying23
  clear hT0
  go_enter Tryd.func7, Tryd.ntmps7
  go_wp2_with (with_reducible refine wpList_load_row rfl 57 _ rfl 0 rfl T tabC fr _ HT.out Tryd.underlying57 rfl info57 ?_)
  go_loopw [4, 8] (fun x i wr => ∃ (k : Nat) (v : Value), k ≤ 19 ∧ i = .int .i64 k ∧ x = v ∧ Hid (AtsRel t w k v wr)) (fun _ i _ => 19 - (intOf i).toNat)
  case atStart => exact ⟨0, _, by omega, rfl, rfl, HA⟩
  case round =>
    obtain ⟨k, v, hk, rfl, hv, hA⟩ := hrel
    obtain rfl := hv.symm
    by_cases hlt : k < 19
    · have hlt' : (k : Int) < 19 := by omega
      have HX := hIx.out k hlt
      have hB : wr.heap.size < wr.heap.size + 1 := Nat.lt_succ_self _
      obtain ⟨r, hr⟩ : ∃ r, rw' k = r := ⟨_, rfl⟩
      rw [hr] at HX
      have HR := Lib.hid hr
      clear hr
      by_cases he : r.1 = t
      · obtain ⟨e1, e2⟩ := str_eq he
        have HE := Lib.hid he
        clear he
        have hown : Hid (∀ (o : Obj), (wr.alloc o).ownsRow w.heap.size 31 7 v (pre t k).length (acs (pre t k))) := fun o => hA.out.1.alloc o
        have hpl := pre_len t k
        obtain ⟨n, hn⟩ : ∃ n, (pre t k).length = n := ⟨_, rfl⟩
        rw [hn] at hpl hown
        have HN := Lib.hid hn
        clear hn
        have hsz := hA.out.2.1.size
        go_wp2_with (at_builtin; go_must (refine wpList_append_lies _ rfl (.tmp 15) (.tmp 18) 23 rfl w.heap.size 31 i31 _ 7 40 Tryd.underlying23 hi hz hs1 hb1 rfl (by omega) v n (acs (pre t k)) rfl ((hown.out _).alloc _) ⟨wr.heap.size + 1, 0, none⟩ 1 1 (atL r.2) rfl rfl (World.news_of_block (heap_alloc2_new _ _ _)) (atL_one r.2) (by omega) (by unfold maxLen; omega) (by omega) (by simp; omega) (wr.heap.size + 2) (by simp) ?_))
        intro g cap w2 hown2 hgrow hat hlt2
        have HE2 := Lib.hid (And.intro hown2 (And.intro hgrow hat))
        clear hown2 hgrow hat
        go_wp2_with fail
        go_roundw
        case rel => exact ⟨k + 1, _, by omega, by go_num, rfl, Lib.hid (hA.out.step hlt (by rw [HR.out]; exact HE.out) HN.out (((Below.refl _ _).alloc (Nat.le_refl _) _).alloc (by simp) _) (by rw [HR.out]; exact HE2.out.1) HE2.out.2.1)⟩
        case measure => simp [intOf]; omega
      · have hne := str_ne he
        obtain ⟨e1, e2⟩ := hne
        have HE := Lib.hid he
        clear he
        go_wp2_with fail
        go_roundw
        case rel => exact ⟨k + 1, _, by omega, by go_num, rfl, Lib.hid (hA.out.skip hlt (by rw [HR.out]; exact HE.out) ((Below.refl _ _).alloc (Nat.le_refl _) _))⟩
        case measure => simp [intOf]; omega
    · have hk19 : k = 19 := by omega
      subst hk19
      have hlt' : ¬ (((19 : Nat) : Int) < 19) := by omega
      obtain ⟨h1, h2, h3⟩ := hA.out
      obtain ⟨o, c, rfl, hR⟩ := own_row h1 rfl
      rw [H19.out] at h1 h3 hR ⊢
      have HP : Hid (attrs t ≠ [] → AttrsPost t w (.returned (.tuple #[.slice o (attrs t).length c, .int .i64 0])) wr) := fun hp => .inr ⟨hp, o, c, rfl, hR.mono fun b hb => hb, h2⟩
      have HW := Lib.hid h2
      by_cases hp : attrs t = []
      · have hv := h3 hp
        injection hv with q1 q2 q3
        subst q1 q3
        have hN : Hid (attrs t = []) := hp
        rw [q2]
        clear h1 h2 h3 hR hp q2
        go_wp2_with fail
        go_ret2
        exact .inl ⟨hN.out, rfl, HW.out⟩
      · have ho : o.isNone = false := by
          obtain ⟨_, _, h5, h6⟩ := hR
          cases o with
          | none =>
            have : 0 < (attrs t).length := List.length_pos_iff.2 hp
            obtain ⟨b, off, hh, _⟩ := h6 this; cases hh
          | some a => rfl
        obtain ⟨n, hn⟩ : ∃ n, (attrs t).length = n := ⟨_, rfl⟩
        have HPP := HP.out hp
        rw [hn] at HPP
        have HPP := Lib.hid HPP
        rw [hn]
        clear h1 h2 h3 hR hp HP hn
        go_wp2_with fail
        go_ret2
        exact HPP.out
end Go.Proofs.YtfmgbhaldakpfaaDoor
