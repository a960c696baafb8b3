/- Contracts: the reference's List and Turned. -/
import Derived.Test.YtonnopcafmhaaaaDoorD2
namespace Go.Proofs.YtonnopcafmhaaaaDoor
open Go.RowKit

theorem rowI_lstN {A : Nat → Nat → Bool} {n i : Nat} (hn : n ≤ 128) (hi : i < n) (hf : ∀ i k, A i k = true → k < n) : rowI A n i = nl (lstN (A i) n) := by
  rw [rowI_nat hi]
  have h := lst_skip (S := A i) (n := n) (128 - n) fun j _ => by
    cases ha : A i (n + j) with
    | false => rfl
    | true => have := hf i _ ha; omega
  rw [show n + (128 - n) = 128 by omega] at h
  rw [h]; rfl
set_option maxHeartbeats 4000000 in
theorem rlist_any {w : World} {g n : Nat} {A : Nat → Nat → Bool} (i : Int) (h : RG w g n A) (hf : ∀ i k, A i k = true → k < n) :
    Calls Tryd.prog 16 #[.pointer (some ⟨g, 0, none⟩), .int .i64 i] w fun e w' => ∃ v, e = .returned v ∧ Is w' w.heap.size v (rowI A n i) ∧ Below w.heap.size w w' := by
  obtain ⟨i3, hi3, hz0, hz1, hz2⟩ := info_parts info3
  have hn := h.le
  obtain ⟨sp, cap, HG⟩ := h.open
  have HG := Lib.hid HG
  obtain ⟨B, hB⟩ : ∃ k, w.heap.size = k := ⟨_, rfl⟩
  rw [hB] at HG
  have HB := Lib.hid hB
  clear h hB
  by_cases hi : 0 ≤ i ∧ i < n
  · obtain ⟨x, rfl⟩ : ∃ k : Nat, i = k := ⟨i.toNat, by omega⟩
    have hx : x < n := by omega
    have HRI := Lib.hid (rowI_lstN hn hx hf)
    have x0 : (0 : Int) ≤ x := by omega
    have xn : (x : Int) < n := by omega
    clear hi hf
    go_enter Tryd.func16, Tryd.ntmps16
    go_wp2
    go_loopg [5, 6] n (fun k v c wr => ∃ s : Nat, s ≤ n ∧ k = n - s ∧ c = .int .i64 s ∧ Hid (wr.ownsRow B 3 1 v (lstN (A x) s).length (iv (nl (lstN (A x) s)))) ∧ Hid (Below B w wr))
    case atStart => exact ⟨0, by omega, by omega, rfl, World.ownsRow_nil _ _ _ _, Below.refl _ _⟩
    case round =>
      obtain ⟨s, hs, rfl, rfl, HO, HW⟩ := hrel
      have k0 := HG.out.c0 _ HW.out
      by_cases hst : s < n
      · obtain ⟨r, qb, rfl, k1, k2⟩ := HG.out.rows _ HW.out x hx
        have k3 := HG.out.c1 _ HW.out
        have ca := World.rowIs.cell k2 hst
        unfold rv at k1
        have s0 : (0 : Int) ≤ s := by omega
        have sn : (s : Int) < n := by omega
        clear k2
        cases ha : A x s with
        | false =>
          have HO2 := HO
          rw [← lstN_no ha] at HO2
          rw [ha] at ca
          clear ha HO
          go_wp2
          go_roundg (n - (s + 1))
          case rel => exact ⟨s + 1, by omega, rfl, by go_num, HO2.out, HW.out⟩
          case measure => omega
        | true =>
          have HYS := Lib.hid (lstN_yes ha)
          have HLX : Hid ((lstN (A x) s).length ≤ 128) := by
            unfold Hid
            rw [lstN_len]
            exact Nat.le_trans (cnt_le _ _) (by omega)
          have HOW := Lib.hid (HO.out.alloc (.cells #[.int .i64 (s : Int)] 3))
          have hsz : Hid (B ≤ wr.heap.size) := by unfold Hid; have := HW.out.size; have := HB.out; omega
          rw [ha] at ca
          generalize hLs : lstN (A x) s = Ls at *
          clear ha hLs
          go_wp2_with (at_builtin; go_must (refine wpList_append_own _ rfl (.tmp 37) (.tmp 39) 23 rfl B 3 i3 (.int .i64 0) 1 8 Tryd.underlying23 hi3 hz0 hz1 hz2 rfl (by decide) _ Ls.length _ rfl HOW.out ⟨wr.heap.size, 0, none⟩ 1 1 [.int .i64 (s : Int)] rfl rfl (cell_one_new _ _ _) (by intro u hu; simp at hu; subst hu; rfl) (by have := HLX.out; unfold maxLen; omega) (by have := HLX.out; omega) (by have := hsz.out; simp; omega) ?_))
          intro v7 w7 o7 g7 _
          have HO7 : Hid (w7.ownsRow B 3 1 v7 (lstN (A x) (s + 1)).length (iv (nl (lstN (A x) (s + 1))))) := by
            unfold Hid
            rw [HYS.out, nl_snoc, iv_snoc, List.length_append]
            exact o7
          have HW7 : Hid (Below B w w7) := (HW.out.alloc hsz.out _).grown g7 (by have := hsz.out; simp; omega) (fun k hk => (HOW.out.lt k hk).1)
          clear o7 g7 HO HOW hsz HW ca k0 k1 k3
          go_wp2_with fail
          go_roundg (n - (s + 1))
          case rel => exact ⟨s + 1, by omega, rfl, by go_num, HO7.out, HW7.out⟩
          case measure => omega
      · have hst : s = n := by omega
        subst hst
        have HI : Hid (Is wr w.heap.size u5 (rowI A s x)) := by
          have h1 : Ow wr B u5 (nl (lstN (A x) s)) := by
            show World.ownsRow _ _ _ _ _ (nl _).length _
            rw [nl_len]; exact HO.out
          rw [HRI.out, HB.out]
          exact h1.is
        have HE : Hid (Below w.heap.size w wr) := by unfold Hid; rw [HB.out]; exact HW.out
        clear HO HW
        go_wp2
        go_ret
        exact ⟨_, rfl, HI.out, HE.out⟩
  · have HRI : Hid (rowI A n i = []) := by unfold Hid rowI; rw [if_neg hi]
    have k0 := HG.out.c0 _ (Below.refl _ _)
    clear hf
    go_enter Tryd.func16, Tryd.ntmps16
    go_wp2
    go_loopg [5, 6] 0 (fun k v c wr => v = .slice none 0 0 ∧ c = .int .i64 0 ∧ w = wr)
    case atStart => exact ⟨rfl, rfl, rfl⟩
    case round =>
      obtain ⟨rfl, rfl, rfl⟩ := hrel
      have HE : Hid (Is w w.heap.size (.slice none 0 0) (rowI A n i)) := by unfold Hid; rw [HRI.out]; exact Is.nil _ _
      by_cases hn0 : 0 < n
      · have hn1 : (0 : Int) < n := by omega
        by_cases h0 : 0 ≤ i
        · have h1 : decide (i < (n : Int)) = false := decide_eq_false fun h => hi ⟨h0, h⟩
          clear hi
          go_wp2
          go_ret
          exact ⟨_, rfl, HE.out, Below.refl _ _⟩
        · clear hi
          go_wp2
          go_ret
          exact ⟨_, rfl, HE.out, Below.refl _ _⟩
      · have hn1 : n = 0 := by omega
        subst hn1
        clear hi
        go_wp2
        go_ret
        exact ⟨_, rfl, HE.out, Below.refl _ _⟩
end Go.Proofs.YtonnopcafmhaaaaDoor
