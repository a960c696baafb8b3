/- Contracts: the reference's Under. -/
import Derived.Test.YtonnopcafmhaaaaDoorD4
import Derived.Test.YtonnopcafmhaaaaDoorCB
namespace Go.Proofs.YtonnopcafmhaaaaDoor
open Go.RowKit

theorem rch_opn {A : Nat → Nat → Bool} {N : Nat} {l : List Int} {k : Nat} : Rch A N (opn N l l.length) k ↔ Rch A N (inL l) k := by
  constructor
  · intro h
    induction h with
    | start hk hs =>
      unfold opn at hs
      rw [List.take_length] at hs
      exact .start hk (decide_eq_true (of_decide_eq_true hs).2)
    | step _ hk ha ih => exact .step ih hk ha
  · intro h
    induction h with
    | start hk hs =>
      refine .start hk ?_
      unfold opn
      rw [List.take_length]
      exact decide_eq_true ⟨hk, of_decide_eq_true hs⟩
    | step _ hk ha ih => exact .step ih hk ha
theorem under_opn (A : Nat → Nat → Bool) (N : Nat) (l : List Int) : lstN (passes A N N (opn N l l.length)) N = underM A N (inL l) :=
  under_eq (f := passes A N N (opn N l l.length)) fun _ hk => (passes_all _ hk).trans rch_opn
/-- a row of the relaxed one, so far -/
def rlx (A : Nat → Nat → Bool) (i k : Nat) (s : Nat → Bool) : Nat → Bool := fun q => s q || (decide (q < k) && A i q)
theorem rlx_0 (A : Nat → Nat → Bool) (i : Nat) (s : Nat → Bool) : rlx A i 0 s = s := by funext q; simp [rlx]
theorem rlx_end {A : Nat → Nat → Bool} {N i : Nat} {s : Nat → Bool} (h : s i = true) : rlx A i N s = relax A N i s := by
  funext q; unfold rlx relax; rw [h, Bool.true_and]
theorem relax_no {A : Nat → Nat → Bool} {N i : Nat} {s : Nat → Bool} (h : s i = false) : relax A N i s = s := by
  funext q; unfold relax; rw [h, Bool.false_and, Bool.false_and, Bool.or_false]
theorem rlx_in {A : Nat → Nat → Bool} {i k : Nat} {s : Nat → Bool} (h : s i = true) : rlx A i k s i = true := by unfold rlx; rw [h]; rfl
set_option maxRecDepth 20000 in
set_option maxHeartbeats 8000000 in
theorem runder_any {w : World} {g n : Nat} {A : Nat → Nat → Bool} (sq : Option Addr) (cp : Nat) (l : List Int) (h : RG w g n A) (hr : Rd w sq l) (hl : l.length ≤ maxLen) :
    Calls Tryd.prog 19 #[.pointer (some ⟨g, 0, none⟩), .slice sq l.length cp] w fun e w' => ∃ v, e = .returned v ∧ Is w' w.heap.size v (nl (underM A n (inL l))) ∧ Below w.heap.size w w' := by
  obtain ⟨i3, hi3, hz0, hz1, hz2⟩ := info_parts info3
  have hn := h.le
  obtain ⟨sp, cap, HG⟩ := h.open
  have HG := Lib.hid HG
  obtain ⟨B, hB⟩ : ∃ k, w.heap.size = k := ⟨_, rfl⟩
  rw [hB] at HG
  have HB := Lib.hid hB
  have HL := Lib.hid hr
  have HUN := Lib.hid (under_opn A n l)
  obtain ⟨ll, hll⟩ : ∃ k, l.length = k := ⟨_, rfl⟩
  have HLL := Lib.hid hll
  rw [hll] at hl HUN ⊢
  unfold maxLen at hl
  have hmk := run_make_row' (P := Tryd.prog) 55 4 (.bool false) 1 Tryd.underlying55 info4 rfl .i64 .i64 n (by omega) (by omega)
  have HMK := Lib.hid (World.rowIs_made w (.bool false) n 4)
  have HBM : Hid (Below B w (w.alloc (.cells (madeCells #[.bool false] n) 4))) := (Below.refl _ _).alloc (by omega) _
  rw [hB] at HMK
  have k0 := HG.out.c0 w (Below.refl _ _)
  have HSB : Hid (∀ W, Below B w W → B ≤ W.heap.size) := fun W b => by have := b.size; omega
  clear h hr hll
  go_enter Tryd.func19, Tryd.ntmps19
  go_wp2
  clear hB k0
  go_loopg [6] ll (fun k c wr => ∃ j : Nat, j ≤ ll ∧ k = ll - j ∧ c = .int .i64 j ∧ Hid (Bl wr B n (opn n l j)) ∧ Hid (Below B w wr))
  case atStart => exact ⟨0, by omega, by omega, rfl, HMK.out.congr fun k _ => by simp [opn], HBM.out⟩
  case round =>
    clear HMK HBM
    obtain ⟨j, hj, rfl, rfl, HM, HW⟩ := hrel
    by_cases hjl : j < ll
    · obtain ⟨b1, o1, rfl, q1, c1⟩ := HL.out j (by rw [HLL.out]; exact hjl)
      have c1 : wr.cell? ⟨b1, o1 + j, none⟩ = _ := (HW.out.cell (p := ⟨b1, o1 + j, none⟩) (by show b1 < B; have := HB.out; omega)).trans c1
      have k0 := HG.out.c0 _ HW.out
      have j0 : (0 : Int) ≤ j := by omega
      have jl : (j : Int) < ll := by omega
      have HD : Hid (∀ q, Below B w (wr.drewN q)) := fun q => below_drewN HW.out q
      by_cases hx : 0 ≤ l.getD j 0 ∧ l.getD j 0 < n
      · obtain ⟨x, hxe⟩ : ∃ x : Nat, l.getD j 0 = x := ⟨(l.getD j 0).toNat, by omega⟩
        have hxn : x < n := by omega
        have EN := opn_yes (n := n) (l := l) (j := j) (by rw [HLL.out]; exact hjl) hxe hxn
        rw [hxe] at c1
        have cx := HM.out.cell hxn
        have fx := HM.out.frozen x
        have x0 : (0 : Int) ≤ x := by omega
        have xn : (x : Int) < n := by omega
        have HM2 : Hid (Bl (wr.setCell ⟨B, x, none⟩ (.bool true)) B n (opn n l (j + 1))) := (HM.out.set x (.bool true)).congr fun k _ => by
          rw [EN]
          show (if k = x then Value.bool true else Value.bool (opn n l j k)) = Value.bool (upd (opn n l j) x k)
          unfold upd
          by_cases e : k = x
          · rw [if_pos e, if_pos e]
          · rw [if_neg e, if_neg e]
        have HW2 : Hid (∀ q, Below B w ((wr.drewN q).setCell ⟨B, x, none⟩ (.bool true))) := fun q => (HD.out q).setCell (Nat.le_refl _) _
        clear hx hxe EN HM HW HD
        go_wp2
        go_quiet (fail)
        go_wp2
        go_roundg (ll - (j + 1))
        case rel => exact ⟨j + 1, by omega, rfl, by go_num, HM2.out, HW2.out _⟩
        case measure => omega
      · have EN := opn_no (n := n) (l := l) (j := j) (by rw [HLL.out]; exact hjl) hx
        rw [← EN] at HM
        clear EN HW
        generalize l.getD j 0 = x at *
        by_cases hx0 : 0 ≤ x
        · have hxd : decide (x < (n : Int)) = false := decide_eq_false fun h => hx ⟨hx0, h⟩
          clear hx
          go_wp2
          go_quiet (fail)
          go_wp2
          go_roundg (ll - (j + 1))
          case rel => exact ⟨j + 1, by omega, rfl, by go_num, HM.out, HD.out _⟩
          case measure => omega
        · have hxd : decide (0 ≤ x) = false := decide_eq_false hx0
          clear hx
          go_wp2
          go_quiet (fail)
          go_wp2
          go_roundg (ll - (j + 1))
          case rel => exact ⟨j + 1, by omega, rfl, by go_num, HM.out, HD.out _⟩
          case measure => omega
    · have hjl : j = ll := by omega
      subst hjl
      generalize hS : opn n l j = S0 at *
      clear hS
      go_wp2
      go_loopg [7] n (fun k c wr => ∃ t : Nat, t ≤ n ∧ k = n - t ∧ c = .int .i64 t ∧ Hid (Bl wr B n (passes A n t S0)) ∧ Hid (Below B w wr))
      case atStart => exact ⟨0, by omega, by omega, rfl, HM.out, HW.out⟩
      case round =>
        clear HM HW
        obtain ⟨t, ht, rfl, rfl, HM, HW⟩ := hrel
        have k0 := HG.out.c0 _ HW.out
        by_cases htn : t < n
        · have t0 : (0 : Int) ≤ t := by omega
          have tn : (t : Int) < n := by omega
          have HPS : Hid (passes A n (t + 1) S0 = passTo A n n (passes A n t S0)) := rfl
          generalize passes A n t S0 = S1 at *
          go_wp2
          clear k0
          go_loopg [8] n (fun k c wr => ∃ i : Nat, i ≤ n ∧ k = n - i ∧ c = .int .i64 i ∧ Hid (Bl wr B n (passTo A n i S1)) ∧ Hid (Below B w wr))
          case atStart => exact ⟨0, by omega, by omega, rfl, HM.out, HW.out⟩
          case round =>
            clear HM HW
            obtain ⟨i, hi, rfl, rfl, HM, HW⟩ := hrel
            have k0 := HG.out.c0 _ HW.out
            by_cases hin : i < n
            · have i0 : (0 : Int) ≤ i := by omega
              have i1 : (i : Int) < n := by omega
              have HPT : Hid (passTo A n (i + 1) S1 = relax A n i (passTo A n i S1)) := rfl
              generalize passTo A n i S1 = S2 at *
              cases hs : S2 i with
              | false =>
                have ci := HM.out.cell hin
                have HPT : Hid (passTo A n (i + 1) S1 = S2) := HPT.out.trans (relax_no hs)
                have hn0 : 0 < n := by omega
                have hn1 : (0 : Int) < n := by omega
                rw [hs] at ci
                clear hs
                go_wp2
                go_loopg [9] 0 (fun k c w2 => c = .int .i64 0 ∧ wr = w2)
                case atStart => exact ⟨rfl, rfl⟩
                case round =>
                  obtain ⟨rfl, rfl⟩ := hrel
                  go_wp2
                  go_roundg (n - (i + 1))
                  case rel => exact ⟨i + 1, by omega, rfl, by go_num, by rw [HPT.out]; exact HM.out, HW.out⟩
                  case measure => omega
              | true =>
                have HPT : Hid (passTo A n (i + 1) S1 = rlx A i n S2) := HPT.out.trans (rlx_end hs).symm
                have HSI := Lib.hid hs
                clear hs
                go_wp2
                clear k0
                go_loopg [9] n (fun k c wr => ∃ q : Nat, q ≤ n ∧ k = n - q ∧ c = .int .i64 q ∧ Hid (Bl wr B n (rlx A i q S2)) ∧ Hid (Below B w wr))
                case atStart => exact ⟨0, by omega, by omega, rfl, by rw [rlx_0]; exact HM.out, HW.out⟩
                case round =>
                  clear HM HW
                  obtain ⟨q, hq, rfl, rfl, HM, HW⟩ := hrel
                  have k0 := HG.out.c0 _ HW.out
                  have ci := HM.out.cell hin
                  rw [rlx_in HSI.out] at ci
                  by_cases hqn : q < n
                  · obtain ⟨r, qb, rfl, k1, k2⟩ := HG.out.rows _ HW.out i hin
                    have k3 := HG.out.c1 _ HW.out
                    have ca := World.rowIs.cell k2 hqn
                    have cq := HM.out.cell hqn
                    have fq := HM.out.frozen q
                    have q0 : (0 : Int) ≤ q := by omega
                    have qn : (q : Int) < n := by omega
                    unfold rv at k1
                    have EB : rlx A i q S2 q = S2 q := by unfold rlx; rw [decide_eq_false (Nat.lt_irrefl _), Bool.false_and, Bool.or_false]
                    rw [EB] at cq
                    have HM2 : Hid (Bl (wr.setCell ⟨B, q, none⟩ (.bool (S2 q || A i q))) B n (rlx A i (q + 1) S2)) := (HM.out.set q _).congr fun k _ => by
                      show (if k = q then Value.bool (S2 q || A i q) else Value.bool (rlx A i q S2 k)) = Value.bool (rlx A i (q + 1) S2 k)
                      unfold rlx
                      by_cases e : k = q
                      · subst e; rw [if_pos rfl, decide_eq_true (Nat.lt_succ_self _), Bool.true_and]
                      · rw [if_neg e, decide_eq_decide.2 (show (k < q + 1 ↔ k < q) by omega)]
                    have HW2 : Hid (Below B w (wr.setCell ⟨B, q, none⟩ (.bool (S2 q || A i q)))) := HW.out.setCell (Nat.le_refl _) _
                    clear k2 HM HW EB
                    cases hsq : S2 q with
                    | true =>
                      rw [hsq, Bool.true_or] at HM2 HW2
                      rw [hsq] at cq
                      clear hsq
                      go_wp2
                      go_roundg (n - (q + 1))
                      case rel => exact ⟨q + 1, by omega, rfl, by go_num, HM2.out, HW2.out⟩
                      case measure => omega
                    | false =>
                      rw [hsq, Bool.false_or] at HM2 HW2
                      rw [hsq] at cq
                      clear hsq
                      generalize A i q = ab at *
                      go_wp2
                      go_roundg (n - (q + 1))
                      case rel => exact ⟨q + 1, by omega, rfl, by go_num, HM2.out, HW2.out⟩
                      case measure => omega
                  · have hqn : q = n := by omega
                    subst hqn
                    rw [← HPT.out] at HM
                    go_wp2
                    go_roundg (q - (i + 1))
                    case rel => exact ⟨i + 1, by omega, rfl, by go_num, HM.out, HW.out⟩
                    case measure => omega
            · have hin : i = n := by omega
              subst hin
              rw [← HPS.out] at HM
              go_wp2
              go_roundg (i - (t + 1))
              case rel => exact ⟨t + 1, by omega, rfl, by go_num, HM.out, HW.out⟩
              case measure => omega
        · have htn : t = n := by omega
          subst htn
          generalize passes A t t S0 = F at *
          obtain ⟨wA, hwA⟩ : ∃ x, x = wr := ⟨_, rfl⟩
          subst hwA
          go_wp2
          clear k0
          go_loopg [10, 11] t (fun k v c wr => ∃ s : Nat, s ≤ t ∧ k = t - s ∧ c = .int .i64 s ∧ Hid (wr.ownsRow (B + 1) 3 1 v (lstN F s).length (iv (nl (lstN F s)))) ∧ Hid (Below (B + 1) wA wr))
          case atStart => exact ⟨0, by omega, by omega, rfl, World.ownsRow_nil _ _ _ _, Below.refl _ _⟩
          case round =>
            obtain ⟨s, hs, rfl, rfl, HO, HWA⟩ := hrel
            have hbl : B < wA.heap.size := World.rowIs.lt HM.out
            have HWW : Hid (Below B w wr) := HW.out.trans (HWA.out.mono (Nat.le_succ _))
            have k0 := HG.out.c0 _ HWW.out
            have hsz : Hid (B + 1 ≤ wr.heap.size) := by unfold Hid; have := HWA.out.size; omega
            by_cases hst : s < t
            · have cd := (below_row HWA.out HM.out (Nat.lt_succ_self _)).cell (i := s) hst
              have s0 : (0 : Int) ≤ s := by omega
              have sn : (s : Int) < t := by omega
              cases hd : F s with
              | false =>
                have HO2 := HO
                rw [← lstN_no hd] at HO2
                rw [hd] at cd
                clear hd HO hbl
                go_wp2
                go_roundg (t - (s + 1))
                case rel => exact ⟨s + 1, by omega, rfl, by go_num, HO2.out, HWA.out⟩
                case measure => omega
              | true =>
                have HYS := Lib.hid (lstN_yes hd)
                have HLX : Hid ((lstN F s).length ≤ 128) := by
                  unfold Hid
                  rw [lstN_len]
                  exact Nat.le_trans (cnt_le _ _) (by omega)
                have HOW := Lib.hid (HO.out.alloc (.cells #[.int .i64 (s : Int)] 3))
                rw [hd] at cd
                generalize hLs : lstN F s = Ls at *
                clear hd hLs hbl
                go_wp2_with (at_builtin; go_must (refine wpList_append_own _ rfl (.tmp 106) (.tmp 108) 23 rfl (B + 1) 3 i3 (.int .i64 0) 1 8 Tryd.underlying23 hi3 hz0 hz1 hz2 rfl (by decide) _ Ls.length _ rfl HOW.out ⟨wr.heap.size, 0, none⟩ 1 1 [.int .i64 (s : Int)] rfl rfl (cell_one_new _ _ _) (by intro u hu; simp at hu; subst hu; rfl) (by have := HLX.out; unfold maxLen; omega) (by have := HLX.out; omega) (by have := hsz.out; simp; omega) ?_))
                intro v7 w7 o7 g7 _
                have HO7 : Hid (w7.ownsRow (B + 1) 3 1 v7 (lstN F (s + 1)).length (iv (nl (lstN F (s + 1))))) := by
                  unfold Hid
                  rw [HYS.out, nl_snoc, iv_snoc, List.length_append]
                  exact o7
                have HW7 : Hid (Below (B + 1) wA w7) := (HWA.out.alloc hsz.out _).grown g7 (by have := hsz.out; simp; omega) (fun k hk => (HOW.out.lt k hk).1)
                clear o7 g7 HO HOW hsz HWA cd HWW k0
                go_wp2_with fail
                go_roundg (t - (s + 1))
                case rel => exact ⟨s + 1, by omega, rfl, by go_num, HO7.out, HW7.out⟩
                case measure => omega
            · have hst : s = t := by omega
              subst hst
              have HI : Hid (Is wr w.heap.size u10 (nl (underM A s (inL l)))) := by
                have h1 : Ow wr (B + 1) u10 (nl (lstN F s)) := by
                  show World.ownsRow _ _ _ _ _ (nl _).length _
                  rw [nl_len]; exact HO.out
                rw [← HUN.out]
                exact h1.is.mono (B' := w.heap.size) (by have := HB.out; omega)
              have HE : Hid (Below w.heap.size w wr) := by unfold Hid; rw [HB.out]; exact HWW.out
              clear HO HWA HWW hsz hbl
              go_wp2
              go_ret
              exact ⟨_, rfl, HI.out, HE.out⟩
end Go.Proofs.YtonnopcafmhaaaaDoor
