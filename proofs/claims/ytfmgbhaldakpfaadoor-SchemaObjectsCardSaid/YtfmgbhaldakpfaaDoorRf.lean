/- The reference's Fits. -/
import Derived.Test.YtfmgbhaldakpfaaDoorLk
import Derived.Test.YtfmgbhaldakpfaaDoorV
import Derived.Test.YtfmgbhaldakpfaaDoorY
import Derived.Test.YtfmgbhaldakpfaaDoorTc
import Derived.StillTailTactics
namespace Go.Proofs.YtfmgbhaldakpfaaDoor
open Go.RowKit

theorem okB_of (k o : Int) (h : Typ.okB k o = true) : Typ.okB o 0 = true := by
  have := (Typ.ok_iff k o).1 h
  exact (Typ.ok_iff o 0).2 (by omega)
set_option maxRecDepth 100000 in
set_option maxHeartbeats 4000000 in
theorem rfits_any (N : Nat) : ∀ (n : Nat) (V : Val) (v : Value) (w : World) (k o : Int), Typ.okB k o = true → sz V ≤ N → Lies n w V v → n ≤ w.heap.size → Calls Tryd.prog 40 #[v, Typ.ty k o] w fun e w' => e = .returned (.bool (fits V k o)) ∧ Below w.heap.size w w' := by
  induction N with
  | zero => intro n V v w k o _ hs; have := sz_pos V; omega
  | succ N ih =>
    intro n V v w k o hko hs h hn
    obtain ⟨oL, oK, cL, cK, c, rfl, O⟩ := h.inv
    obtain ⟨R, hR⟩ : ∃ R, R = fits V k o := ⟨_, rfl⟩
    rw [← hR]
    have HR := Lib.hid (hR.trans (fits_eq V k o))
    have HO0 := Lib.hid (And.intro hko (And.intro (okB_of k o hko) ((Typ.ok_iff k o).1 hko)))
    have IH := Lib.hid ih
    have hcnt := cnt_le V
    have hl2 := O.L.2.1
    have hl1 := O.L.1
    unfold maxLen at hl2
    have HW := Lib.hid (((Below.refl w.heap.size w).alloc (Nat.le_refl _) (bx V oL oK cL cK)).alloc (by simp) (.cells #[.int .i64 k, .int .i64 o] 29))
    have HZ : Hid (((w.alloc (bx V oL oK cL cK)).alloc (.cells #[.int .i64 k, .int .i64 o] 29)).heap.size = w.heap.size + 2) := by simp [Hid]
    have HX : Hid (Hd ((w.alloc (bx V oL oK cL cK)).alloc (.cells #[.int .i64 k, .int .i64 o] 29)) w.heap.size V (.slice oL V.l.length cL) (.slice oK V.ks.length cK)) := (Hd.made w V _ _).kept ((Below.refl (w.heap.size + 1) _).alloc (by simp) _) (Nat.lt_succ_self _)
    have HT : Hid (((w.alloc (bx V oL oK cL cK)).alloc (.cells #[.int .i64 k, .int .i64 o] 29)).cell? ⟨w.heap.size + 1, 0, none⟩ = some (.int .i64 k) ∧ ((w.alloc (bx V oL oK cL cK)).alloc (.cells #[.int .i64 k, .int .i64 o] 29)).cell? ⟨w.heap.size + 1, 1, none⟩ = some (.int .i64 o)) := by constructor <;> simp [go_sem]
    have H := Lib.hid (O.kept (HW.out.mono hn))
    have HC := Lib.hid (fun w => Typ.rcheck_ok k o w hko)
    have HI := Lib.hid (fun w => Typ.rwithin_any V.tk V.to k o w)
    clear h O hR ih hko
    go_enter Tryd.func40, Tryd.ntmps40
    go_wp2_with fail
    generalize (w.alloc _).alloc _ = w0 at *
    refine (HC.out _).mono ?_
    rintro e w1 ⟨rfl, b1⟩
    have B1 := Lib.hid b1
    have hz := HZ.out
    obtain ⟨x8, x0, x1, x2, x3, x4, x5, x6, x7⟩ := HX.out.kept b1 (by omega)
    have t0 := (b1.cell (p := ⟨w.heap.size + 1, 0, none⟩) (by simp; omega)).trans HT.out.1
    have t1 := (b1.cell (p := ⟨w.heap.size + 1, 1, none⟩) (by simp; omega)).trans HT.out.2
    have BW := Lib.hid (HW.out.trans (b1.mono HW.out.size))
    clear b1 hz
    by_cases k0 : k = 0
    · have HX2 : Hid (R = true) := by unfold Hid; rw [HR.out, if_pos k0]
      have g0 : (k == 0) = true := by simp [k0]
      clear k0
      go_wp2_with fail
      go_ret
      exact ⟨ret_b4 HX2.out.symm, BW.out⟩
    · have g0 : (k == 0) = false := by rw [beq_eq_false_iff_ne]; exact k0
      by_cases v0 : V.k = 0
      · have HX2 : Hid (R = true) := by unfold Hid; rw [HR.out, if_neg k0, if_pos v0]
        have g1 : (V.k == 0) = true := by simp [v0]
        clear k0 v0
        go_wp2_with fail
        go_ret
        exact ⟨ret_b4 HX2.out.symm, BW.out⟩
      · have g1 : (V.k == 0) = false := by rw [beq_eq_false_iff_ne]; exact v0
        by_cases v6 : V.k = 6
        · have HX2 : Hid (R = Typ.inB (V.tk, V.to) (k, o)) := by unfold Hid; rw [HR.out, if_neg k0, if_neg v0, if_neg (by omega), if_neg (by omega), if_pos v6]
          have g2 : (V.k == 6) = true := by simp [v6]
          clear k0 v0 v6
          go_wp2_with fail
          refine (HI.out _).mono ?_
          rintro e w2 ⟨rfl, b2⟩
          have B2 := Lib.hid (BW.out.trans (b2.mono BW.out.size))
          clear b2
          go_wp2_with fail
          go_ret
          exact ⟨ret_b4 HX2.out.symm, B2.out⟩
        · have g2 : (V.k == 6) = false := by rw [beq_eq_false_iff_ne]; exact v6
          by_cases vk : V.k = k
          · have g3 : (V.k != k) = false := by simp [vk]
            have HX2 : Hid (R = (els V).all fun x => fits x o 0) := by
              unfold Hid
              rw [HR.out, if_neg k0, if_neg v0]
              by_cases h3 : V.k = 1 ∨ V.k = 2 ∨ V.k = 3
              · have : els V = [] := by unfold els cnt; rw [if_neg (by omega), if_neg (by omega)]; rfl
                rw [if_pos h3, this, decide_eq_true vk.symm]; rfl
              · rw [if_neg h3]
                have h45 : V.k = 4 ∨ V.k = 5 := by have := HO0.out.2.2; omega
                rw [if_pos h45, decide_eq_true vk.symm, Bool.true_and]
            clear k0 v0 v6 vk
            go_wp2_with fail
            clear x8 x0 x1 x2 x3 x4 x5 x6 x7 t0 t1 g0 g1 g2 g3
            go_loopw [5] (fun i wr => ∃ j : Nat, j ≤ cnt V ∧ i = .int .i64 j ∧ Hid (fitsN V o j = true) ∧ Hid (Below w0.heap.size w0 wr)) (fun i _ => cnt V - (intOf i).toNat)
            case atStart => exact ⟨0, by omega, rfl, rfl, B1.out⟩
            case round =>
              obtain ⟨j, hj, rfl, hok, hbr⟩ := hrel
              have hsz := hbr.out.size
              have hz := HZ.out
              obtain ⟨x8, x0, x1, x2, x3, x4, x5, x6, x7⟩ := HX.out.kept hbr.out (by omega)
              go_wp2_with fail
              refine (len_any (H.out.kept (hbr.out.mono (by omega))).lies).mono ?_
              rintro e w2 ⟨rfl, b2⟩
              have B2 := Lib.hid (hbr.out.trans (b2.mono hbr.out.size))
              clear b2 x8 x0 x1 x2 x3 x4 x5 x6 x7
              have hs2 := B2.out.size
              obtain ⟨x8, x0, x1, x2, x3, x4, x5, x6, x7⟩ := HX.out.kept B2.out (by omega)
              have t0 := (B2.out.cell (p := ⟨w.heap.size + 1, 0, none⟩) (by simp; omega)).trans HT.out.1
              have t1 := (B2.out.cell (p := ⟨w.heap.size + 1, 1, none⟩) (by simp; omega)).trans HT.out.2
              by_cases hlt : j < cnt V
              · have hlt2 : j < V.l.length := by omega
                obtain ⟨X, hX⟩ : ∃ X, V.l[j]? = some X := ⟨_, List.getElem?_eq_getElem hlt2⟩
                have HB := H.out.kept (B2.out.mono (show n ≤ w0.heap.size by omega))
                obtain ⟨b, off, oL3, oK3, cL3, cK3, c3, e1, hb, ⟨y0, y1, y2, y3, y4, y5, y6, y7⟩, OX⟩ := HB.L.elv hlt2 (HB.el j X hX)
                have hmem := sz_mem (List.mem_of_getElem? hX)
                have HXX := Lib.hid (els_some hX hlt)
                have OX2 := Lib.hid OX
                subst e1
                clear hX OX HB
                go_wp2_with fail
                go_still_tail 8, (by kernel_rfl)
                change wpList _ _ _ _ _ w2.drew
                go_wp2_with fail
                with_reducible refine (IH.out n X _ _ o 0 HO0.out.2.1 (by omega) (OX2.out.kept ((Below.refl n w2).drew)).lies (by simp; omega)).mono ?_
                rintro e w4 ⟨rfl, b4⟩
                have B4 := Lib.hid (B2.out.drew.trans (b4.mono (by simp; omega)))
                clear b4
                cases hr : fits X o 0 with
                | false =>
                  have HE := Lib.hid (fits_no HXX.out hr)
                  clear hr
                  go_wp2_with fail
                  go_ret
                  exact ⟨by rw [HX2.out, HE.out]; rfl, HW.out.trans (B4.out.mono HW.out.size)⟩
                | true =>
                  have HE : Hid (fitsN V o (j + 1) = true) := by unfold Hid; rw [fitsN_succ HXX.out, hok.out, hr]; rfl
                  clear hr
                  go_wp2_with fail
                  go_roundw
                  case rel => exact ⟨j + 1, by omega, by go_num, HE, B4⟩
                  case measure => simp [intOf]; omega
              · have hjl : j = cnt V := by omega
                have HE : Hid ((els V).all (fun x => fits x o 0) = true) := by have := hok.out; unfold fitsN at this; rw [List.take_of_length_le (by rw [els_len]; omega)] at this; exact this
                clear hok
                go_wp2_with fail
                go_ret
                exact ⟨by rw [HX2.out, HE.out]; rfl, HW.out.trans (B2.out.mono HW.out.size)⟩
          · have g3 : (V.k != k) = true := by simpa using vk
            have HX2 : Hid (R = false) := by
              unfold Hid
              rw [HR.out, if_neg k0, if_neg v0]
              by_cases h3 : V.k = 1 ∨ V.k = 2 ∨ V.k = 3
              · rw [if_pos h3, decide_eq_false (fun e => vk e.symm)]
              · rw [if_neg h3]
                by_cases h45 : V.k = 4 ∨ V.k = 5
                · rw [if_pos h45, decide_eq_false (fun e => vk e.symm)]; rfl
                · rw [if_neg h45, if_neg v6]
            clear k0 v0 v6 vk
            go_wp2_with fail
            go_ret
            exact ⟨ret_b4 HX2.out.symm, BW.out⟩
end Go.Proofs.YtfmgbhaldakpfaaDoor
