/- Contract: the reference's Parse. -/
import Derived.Test.YticbogldplohpaaDoorU
namespace Go.Proofs.YticbogldplohpaaDoor
open Go.RowKit

/-- what Parse answers of s -/
def PA (s : ByteArray) (k o e : Int) : Prop := (∃ i, i < 12 ∧ s = txtAt i ∧ k = tK i ∧ o = tO i ∧ e = 0) ∨ ((∀ i, i < 12 → txtAt i ≠ s) ∧ k = 0 ∧ o = 0 ∧ e = 4)
theorem pa_of (s : ByteArray) : ∃ k o e, PA s k o e := by
  by_cases h : ∃ i, i < 12 ∧ s = txtAt i
  · obtain ⟨i, hi, e⟩ := h
    exact ⟨_, _, _, .inl ⟨i, hi, e, rfl, rfl, rfl⟩⟩
  · exact ⟨_, _, _, .inr ⟨fun i hi e => h ⟨i, hi, e.symm⟩, rfl, rfl, rfl⟩⟩
theorem parse_any (s : ByteArray) (k o e : Int) (h : PA s k o e) (hs : s.size ≤ 200) (w : World) (hw : Wd w) : Calls Tryd.prog 5 #[.string s] w fun en w' => en = .returned (.tuple #[ty k o, .int .i64 e]) ∧ Below w.heap.size w w' := by
  rcases h with ⟨i, hi, rfl, rfl, rfl, rfl⟩ | ⟨hn, rfl, rfl, rfl⟩
  · exact parse_hit i w hi hw
  · exact parse_miss s w hs hn hw
theorem pa_at {s : ByteArray} {k o e : Int} (h : PA s k o e) {j : Nat} (hj : j < 12) (he : txtAt j = s) : k = tK j ∧ o = tO j ∧ e = 0 := by
  rcases h with ⟨i, hi, hs, rfl, rfl, rfl⟩ | ⟨hn, _⟩
  · have : j = i := txt_inj j hj i hi (he.trans hs)
    subst this
    exact ⟨rfl, rfl, rfl⟩
  · exact absurd he (hn j hj)
theorem pa_end {s : ByteArray} {k o e : Int} (h : PA s k o e) (hn : ∀ m, m < 12 → txtAt m ≠ s) : k = 0 ∧ o = 0 ∧ e = 4 := by
  rcases h with ⟨i, hi, hs, _⟩ | ⟨_, h1, h2, h3⟩
  · exact absurd hs.symm (hn i hi)
  · exact ⟨h1, h2, h3⟩
set_option maxHeartbeats 4000000 in
theorem rparse_any (s : ByteArray) (pk po pe : Int) (h : PA s pk po pe) (hs : s.size ≤ 200) (w : World) : Calls Tryd.prog 6 #[.string s] w fun en w' => en = .returned (.tuple #[ty pk po, .int .i64 pe]) ∧ Below w.heap.size w w' := by
  have HPA := Lib.hid h
  have X0 := Lib.hid (Bx.new w 0 0)
  have B0 := Lib.hid ((Below.refl _ _).alloc (Nat.le_refl _) _ : Below w.heap.size w (w.alloc (.cells #[.int .i64 0, .int .i64 0] 23)))
  clear h
  go_enter Tryd.func6, Tryd.ntmps6
  go_wp2_with fail
  refine (rall_any _).mono ?_
  rintro e W0 ⟨⟨g, cap, rfl, hcap, hmx, hAll⟩, b1⟩
  have Y0 := Lib.hid (X0.out.keep b1)
  have fz0 : W0.frozen? ⟨w.heap.size, 0, none⟩ = false := (b1.frozen (p := ⟨w.heap.size, 0, none⟩) (by simp)).trans (by simp [go_sem])
  have fz1 : W0.frozen? ⟨w.heap.size, 1, none⟩ = false := (b1.frozen (p := ⟨w.heap.size, 1, none⟩) (by simp)).trans (by simp [go_sem])
  have BB := Lib.hid (B0.out.trans (b1.mono (by simp)))
  have HA := Lib.hid hAll
  unfold maxLen at hmx
  clear b1 B0 X0 hAll
  obtain ⟨N, hN⟩ : ∃ N, N = W0.heap.size := ⟨_, rfl⟩
  have HN := Lib.hid hN
  clear hN
  have lg : g < N := by rw [HN.out]; exact HA.out.lt
  have l0 : w.heap.size < N := by rw [HN.out]; exact Y0.out.lt
  go_wp2
  go_loopw [5] (fun i wr => ∃ j : Nat, j ≤ 12 ∧ i = .int .i64 j ∧ Hid (∀ m, m < j → txtAt m ≠ s) ∧ Hid (Below N W0 wr) ∧ Hid (N ≤ wr.heap.size)) (fun i _ => 12 - (intOf i).toNat)
  case atStart => exact ⟨0, by omega, rfl, fun m hm => by omega, Below.refl _ _, Nat.le_of_eq HN.out⟩
  case round =>
    obtain ⟨j, hj, rfl, HG, HB, HS⟩ := hrel
    have hc : ∀ b o, b < N → wr.cell? ⟨b, o, none⟩ = W0.cell? ⟨b, o, none⟩ := fun b o hb => HB.out.cell (p := ⟨b, o, none⟩) hb
    by_cases hlt : j < 12
    · have hj0 : (0 : Int) ≤ (j : Int) := by omega
      have hj1 : (j : Int) < 12 := by omega
      obtain ⟨a0, a1⟩ := HA.out.cell j hlt
      have TX := Lib.hid (fun w => rtext_any (tK j) (tO j) w)
      have hT : Hid (txt (tK j) (tO j) = txtAt j) := rfl
      have PJ : Hid (txtAt j = s → pk = tK j ∧ po = tO j ∧ pe = 0) := fun he => pa_at HPA.out hlt he
      generalize hK : tK j = K at *
      generalize hO : tO j = O at *
      have HST : Hid (txtAt j ≠ s → ∀ m, m < j + 1 → txtAt m ≠ s) := fun hne m hm => by
        by_cases e : m = j
        · rw [e]; exact hne
        · exact HG.out m (by omega)
      generalize txtAt j = TT at *
      have hfr : ∀ b o, b < N → wr.frozen? ⟨b, o, none⟩ = W0.frozen? ⟨b, o, none⟩ := fun b o hb => HB.out.frozen (p := ⟨b, o, none⟩) hb
      go_wp2_with fail
      refine (TX.out _).mono ?_
      rintro e W ⟨rfl, b⟩
      rw [hT.out]
      have hc2 : ∀ b o, b < N → W.cell? ⟨b, o, none⟩ = W0.cell? ⟨b, o, none⟩ := fun b' o hb => (b.cell (p := ⟨b', o, none⟩) (Nat.lt_of_lt_of_le hb HS.out)).trans (hc b' o hb)
      have hf2 : ∀ b o, b < N → W.frozen? ⟨b, o, none⟩ = W0.frozen? ⟨b, o, none⟩ := fun b' o hb => (b.frozen (p := ⟨b', o, none⟩) (Nat.lt_of_lt_of_le hb HS.out)).trans (hfr b' o hb)
      have B2 := Lib.hid (HB.out.trans (b.mono HS.out))
      have S2 := Lib.hid (Nat.le_trans HS.out b.size)
      have lW : w.heap.size < W.heap.size := Nat.lt_of_lt_of_le l0 S2.out
      have c4 := Y0.out.c0
      have c5 := Y0.out.c1
      clear b hc hfr
      by_cases he : TT = s
      · obtain ⟨rfl, rfl, rfl⟩ := PJ.out he
        subst he
        have hb : ((TT).toList == TT.toList) = true := by simp
        go_wp2
        refine bodyPost_ret (v := .tuple #[ty pk po, .int .i64 0]) (by simp [results, Tryd.results6, go_sem, hc2, c4, c5, l0]) rfl ⟨rfl, ?_⟩
        refine Below.setCell (Below.setCell ?_ (by simp) _) (by simp) _
        exact BB.out.trans (B2.out.mono (by rw [HN.out]; exact BB.out.size))
      · have hb : ((TT).toList == s.toList) = false := by
          cases h : (TT.toList == s.toList)
          · rfl
          · exact absurd (by have := eq_of_beq h; rw [ByteArray.toList_eq, ByteArray.toList_eq] at this; exact ByteArray.ext (Array.toList_inj.1 this)) he
        go_wp2
        go_roundw
        case rel => exact ⟨j + 1, by omega, by go_num, HST.out he, B2.out, S2.out⟩
        case measure => simp [intOf]; omega
    · have hj12 : j = 12 := by omega
      subst hj12
      have E := pa_end HPA.out HG.out
      obtain ⟨rfl, rfl, rfl⟩ := E
      have c4 := Y0.out.c0
      have c5 := Y0.out.c1
      have hf : ∀ b o, b < N → wr.frozen? ⟨b, o, none⟩ = W0.frozen? ⟨b, o, none⟩ := fun b o hb => HB.out.frozen (p := ⟨b, o, none⟩) hb
      go_wp2
      refine bodyPost_ret (v := .tuple #[ty 0 0, .int .i64 4]) (by simp [results, Tryd.results6, go_sem, hc, c4, c5, l0]) rfl ⟨rfl, ?_⟩
      refine Below.setCell (Below.setCell ?_ (by simp) _) (by simp) _
      exact BB.out.trans (HB.out.mono (by rw [HN.out]; exact BB.out.size))
end Go.Proofs.YticbogldplohpaaDoor
