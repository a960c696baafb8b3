/- Contracts: byText, Parse. -/
import Derived.Test.YticbogldplohpaaDoorT
import Derived.Test.YticbogldplohpaaDoorG
import Derived.Test.YticbogldplohpaaDoorMo
import Derived.Deep.RegionWith
namespace Go.Proofs.YticbogldplohpaaDoor
open Go.RowKit
open Go.Maps (Keyed)

/-- the type at place i -/
def tK (i : Nat) : Int := (all.getD i (0, 0)).1
def tO (i : Nat) : Int := (all.getD i (0, 0)).2
theorem all_at (i : Nat) (h : i < 12) : all[i]? = some (tK i, tO i) := by
  unfold tK tO
  have : i < all.length := h
  simp [List.getD, this]
theorem AllAt.cell {w : World} {g : Nat} (h : AllAt w g) (i : Nat) (hi : i < 12) : w.cell? ⟨g, i * 2, none⟩ = some (.int .i64 (tK i)) ∧ w.cell? ⟨g, i * 2 + 1, none⟩ = some (.int .i64 (tO i)) := by
  have e : i * 2 = 2 * i := by omega
  rw [e]
  exact ⟨h.at0 i _ (all_at i hi), h.at1 i _ (all_at i hi)⟩
theorem AllAt.keep {w w' : World} {g : Nat} (h : AllAt w g) (b : Below w.heap.size w w') : AllAt w' g :=
  ⟨Nat.lt_of_lt_of_le h.lt b.size, fun i t ht => (b.cell (p := ⟨g, 2 * i, none⟩) h.lt).trans (h.at0 i t ht), fun i t ht => (b.cell (p := ⟨g, 2 * i + 1, none⟩) h.lt).trans (h.at1 i t ht)⟩
def txtAt (i : Nat) : ByteArray := txt (tK i) (tO i)
theorem txt_inj : ∀ i, i < 12 → ∀ j, j < 12 → txtAt i = txtAt j → i = j := by decide
theorem txt_size : ∀ i, i < 12 → (txtAt i).size ≤ 20 := by decide
/-- what the map holds after j types -/
noncomputable def fm : Nat → Value → Option Value
  | 0 => fun _ => none
  | j + 1 => ins (fm j) (.string (txtAt j)) (ty (tK j) (tO j))
theorem fm_none (x : Value) : ∀ j, (∀ i, i < j → x ≠ .string (txtAt i)) → fm j x = none
  | 0, _ => rfl
  | j + 1, h => by
    show ins (fm j) _ _ x = none
    rw [ins_other _ _ (h j (by omega))]
    exact fm_none x j fun i hi => h i (by omega)
theorem fm_some (i : Nat) : ∀ j, i < j → j ≤ 12 → fm j (.string (txtAt i)) = some (ty (tK i) (tO i))
  | 0, h, _ => by omega
  | j + 1, h, hj => by
    show ins (fm j) _ _ _ = _
    by_cases e : i = j
    · subst e; exact ins_same _ _ _
    · rw [ins_other _ _ (fun h2 => e (txt_inj i (by omega) j (by omega) (by injection h2)))]
      exact fm_some i j (by omega) (by omega)
theorem law9 : Keyed Tryd.prog 9 := Maps.string_keyed Tryd.underlying9
theorem zero23 (w : World) : (zeroValue 23).run Tryd.prog w = .ok (ty 0 0) w := by kernel_rfl
theorem all_ne {w : World} {g b : Nat} {f : Value → Option Value} (h : AllAt w g) (m : Mo Tryd.prog 9 w b f) : g ≠ b := by
  intro e
  subst e
  obtain ⟨es, c, hb, _⟩ := m
  have := h.at0 0 (0, 0) rfl
  simp [World.cell?, hb] at this
theorem AllAt.grown {w w' : World} {g b : Nat} (h : AllAt w g) (hg : w.grownBy w' (some b)) (hn : g ≠ b) : AllAt w' g := by
  have e : w'.heap[g]? = w.heap[g]? := hg.block g h.lt (by simp [hn])
  exact ⟨Nat.lt_of_lt_of_le h.lt hg.size, fun i t ht => (World.cell?_of_block e).trans (h.at0 i t ht), fun i t ht => (World.cell?_of_block e).trans (h.at1 i t ht)⟩
def TextPost (w : World) (e : Ending) (w' : World) : Prop := ∃ b, e = .returned (.map (some b)) ∧ Mo Tryd.prog 9 w' b (fm 12) ∧ Below w.heap.size w w'
set_option maxHeartbeats 4000000 in
theorem bytext_any (w : World) (hw : Wd w) : Calls Tryd.prog 14 #[] w (TextPost w) := by
  have hmm := @run_makeMap Tryd.prog
  have HW := Lib.hid hw
  clear hw
  go_enter Tryd.func14, Tryd.ntmps14
  go_wp2_with fail
  refine (all_any _).mono ?_
  rintro e W0 ⟨⟨g, cap, rfl, hcap, hmx, hAll⟩, b1⟩
  have HM := Lib.hid ((Mo.made w Tryd.prog 9).keep b1)
  have HA := Lib.hid hAll
  have B1 := Lib.hid (((Below.refl _ _).alloc (Nat.le_refl _) _ : Below w.heap.size w (w.alloc (.map #[] 0))).trans (b1.mono (by simp)))
  unfold maxLen at hmx
  clear b1 hAll hmm
  go_wp2
  go_loopw [7] (fun i wr => ∃ j : Nat, j ≤ 12 ∧ i = .int .i64 j ∧ Hid (Mo Tryd.prog 9 wr w.heap.size (fm j)) ∧ Hid (AllAt wr g ∧ g ≠ w.heap.size) ∧ Hid (Below w.heap.size w wr)) (fun i _ => 12 - (intOf i).toNat)
  case atStart => exact ⟨0, by omega, rfl, HM.out, ⟨HA.out, all_ne HA.out HM.out⟩, B1.out⟩
  case round =>
    clear HM HA B1
    obtain ⟨j, hj, rfl, HM, HA, HB⟩ := hrel
    by_cases hlt : j < 12
    · have hj0 : (0 : Int) ≤ (j : Int) := by omega
      have hj1 : (j : Int) < 12 := by omega
      obtain ⟨a0, a1⟩ := HA.out.1.cell j hlt
      have hkey : keyOf Tryd.prog 9 (.string (txtAt j)) = some (.string (txtAt j).data.toList) := WideMaps.keyOf_string_mk Tryd.underlying9 (by have := txt_size j hlt; unfold maxLen; omega)
      have X0 := (Bx.new wr (tK j) (tO j))
      have BD : Below wr.heap.size wr (wr.alloc (.cells #[.int .i64 (tK j), .int .i64 (tO j)] 23)).drew := ((Below.refl _ _).alloc (Nat.le_refl _) (.cells #[.int .i64 (tK j), .int .i64 (tO j)] 23)).drew
      have W1 := Lib.hid ((HW.out.keep HB.out).keep BD)
      have M1 := Lib.hid (HM.out.keep BD)
      have A1 := Lib.hid (And.intro (HA.out.1.keep BD) HA.out.2)
      have B1 := Lib.hid (HB.out.trans (BD.mono HB.out.size))
      clear BD
      have TX := Lib.hid (fun W (h : Wd W) => text_any (tK j) (tO j) W h)
      have ST : Hid (ins (fm j) (.string (txtAt j)) (ty (tK j) (tO j)) = fm (j + 1)) := rfl
      have hT : Hid (txt (tK j) (tO j) = txtAt j) := rfl
      have HKEY := Lib.hid hkey
      generalize txtAt j = TT at *
      generalize tK j = K at *
      generalize tO j = O at *
      clear hkey HM HA HB
      obtain ⟨l0, c0, c1⟩ := X0
      go_wp2
      go_region_with (first | (go_at_call 7; refine (TX.out _ W1.out).mono ?_; rintro e W ⟨rfl, b⟩; rw [hT.out]; obtain ⟨hc, hf⟩ := bcell b; obtain ⟨w1, e1, m1, g1⟩ := (Mo.keep M1.out b).put law9 Tryd.underlying38 HKEY.out (ty K O); have FIN := Lib.hid (And.intro m1 (And.intro g1 b)); clear m1 g1 b))
      all_goals
        clear hc hf e1
        go_wp2
        go_roundw
        case rel =>
          have b := FIN.out.2.2
          have g1 := FIN.out.2.1
          have BB := B1.out.trans (b.mono B1.out.size)
          exact ⟨j + 1, by omega, by go_num, by unfold Hid; rw [← ST.out]; exact FIN.out.1, ⟨(A1.out.1.keep b).grown g1 A1.out.2, A1.out.2⟩, BB.grown g1 BB.size (fun i hi => by injection hi with hi; omega)⟩
        case measure => simp [intOf]; omega
    · have hj12 : j = 12 := by omega
      subst hj12
      go_wp2
      go_ret
      exact ⟨_, rfl, HM.out, HB.out⟩
set_option maxHeartbeats 2000000 in
theorem parse_hit (i : Nat) (w : World) (hi : i < 12) (hw : Wd w) : Calls Tryd.prog 5 #[.string (txtAt i)] w fun e w' => e = .returned (.tuple #[ty (tK i) (tO i), .int .i64 0]) ∧ Below w.heap.size w w' := by
  have hkey : keyOf Tryd.prog 9 (.string (txtAt i)) = some (.string (txtAt i).data.toList) := WideMaps.keyOf_string_mk Tryd.underlying9 (by have := txt_size i hi; unfold maxLen; omega)
  have HF := Lib.hid (fm_some i 12 hi (Nat.le_refl _))
  have BD : Below w.heap.size w (w.alloc (.cells #[.int .i64 0, .int .i64 0] 23)) := (Below.refl _ _).alloc (Nat.le_refl _) _
  have BT := Lib.hid (bytext_any _ (hw.keep BD))
  have HK := Lib.hid hkey
  have HB := Lib.hid BD
  generalize txtAt i = TT at *
  generalize tK i = K at *
  generalize tO i = O at *
  clear hkey BD hw
  go_enter Tryd.func5, Tryd.ntmps5
  go_wp2_with fail
  refine BT.out.mono ?_
  rintro e W ⟨b, rfl, m1, b1⟩
  have lk := m1.look law9 Tryd.underlying38 zero23 HK.out
  rw [HF.out] at lk
  simp only [Option.getD_some, Option.isSome_some] at lk
  have B1 := Lib.hid (HB.out.trans (b1.mono (by simp)))
  obtain ⟨hc, hf⟩ := bcell b1
  have hz0 : w.heap.size < W.heap.size := by have := b1.size; simp at this; omega
  clear b1 m1
  go_wp2
  have q0 := hc w.heap.size 0 (by simp)
  have q1 := hc w.heap.size 1 (by simp)
  refine bodyPost_ret (v := .tuple #[ty K O, .int .i64 0]) (by simp [results, Tryd.results5, go_sem, q0, q1, hz0]) rfl ⟨rfl, ?_⟩
  refine Below.alloc ?_ (by simp; omega) _
  exact Below.setCell (Below.setCell B1.out (by simp) _) (by simp) _
set_option maxHeartbeats 2000000 in
theorem parse_miss (s : ByteArray) (w : World) (hs : s.size ≤ 200) (hn : ∀ i, i < 12 → txtAt i ≠ s) (hw : Wd w) : Calls Tryd.prog 5 #[.string s] w fun e w' => e = .returned (.tuple #[ty 0 0, .int .i64 4]) ∧ Below w.heap.size w w' := by
  have hkey : keyOf Tryd.prog 9 (.string s) = some (.string s.data.toList) := WideMaps.keyOf_string_mk Tryd.underlying9 (by unfold maxLen; omega)
  have HF := Lib.hid (fm_none (.string s) 12 (fun i hi h => hn i hi (by injection h with h; exact h.symm)))
  have BD : Below w.heap.size w (w.alloc (.cells #[.int .i64 0, .int .i64 0] 23)) := (Below.refl _ _).alloc (Nat.le_refl _) _
  have BT := Lib.hid (bytext_any _ (hw.keep BD))
  have HK := Lib.hid hkey
  have HB := Lib.hid BD
  clear hkey BD hw hn
  go_enter Tryd.func5, Tryd.ntmps5
  go_wp2_with fail
  refine BT.out.mono ?_
  rintro e W ⟨b, rfl, m1, b1⟩
  have lk := m1.look law9 Tryd.underlying38 zero23 HK.out
  rw [HF.out] at lk
  simp only [Option.getD_none, Option.isSome_none] at lk
  have B1 := Lib.hid (HB.out.trans (b1.mono (by simp)))
  obtain ⟨hc, hf⟩ := bcell b1
  have hz0 : w.heap.size < W.heap.size := by have := b1.size; simp at this; omega
  clear b1 m1
  go_wp2
  have q0 := hc w.heap.size 0 (by simp)
  have q1 := hc w.heap.size 1 (by simp)
  refine bodyPost_ret (v := .tuple #[ty 0 0, .int .i64 4]) (by simp [results, Tryd.results5, go_sem, q0, q1, hz0]) rfl ⟨rfl, ?_⟩
  refine Below.alloc ?_ (by simp; omega) _
  exact Below.setCell (Below.setCell B1.out (by simp) _) (by simp) _
end Go.Proofs.YticbogldplohpaaDoor
