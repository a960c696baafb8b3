/- The reference's Weight and Depth. -/
import Derived.Test.YtfmgbhaldakpfaaDoorB
namespace Go.Proofs.YtfmgbhaldakpfaaDoor
open Go.RowKit

set_option maxHeartbeats 1000000 in
theorem rweight_any (N : Nat) (hN : N ≤ 60000) : ∀ (n : Nat) (V : Val) (v : Value) (w : World), sz V ≤ N → Lies n w V v → n ≤ w.heap.size →
    Calls Tryd.prog 45 #[v] w fun e w' => e = .returned (.int .i64 (weight V)) ∧ Below w.heap.size w w' := by
  induction N with
  | zero => intro n V v w hs; have := sz_pos V; omega
  | succ N ih =>
    intro n V v w hs h hn
    obtain ⟨oL, oK, cL, cK, c, rfl, O⟩ := h.inv
    have IH := Lib.hid (ih (by omega))
    have hw := weight_sz V
    have hcnt := cnt_le V
    have hl := sz_l V
    have HB := Lib.hid (Hd.made w V (.slice oL V.l.length cL) (.slice oK V.ks.length cK))
    have HW := Lib.hid ((Below.refl w.heap.size w).alloc (Nat.le_refl _) (bx V oL oK cL cK))
    have HZ : Hid ((w.alloc (bx V oL oK cL cK)).heap.size = w.heap.size + 1) := by simp [Hid]
    have H := Lib.hid (O.kept (HW.out.mono hn))
    clear h ih O
    go_enter Tryd.func45, Tryd.ntmps45
    go_wp2
    generalize w.alloc _ = w0 at *
    go_loopw [3, 4] (fun s i wr => ∃ j : Nat, j ≤ cnt V ∧ i = .int .i64 j ∧ s = .int .i64 ((1 + weightN V j : Nat) : Int) ∧ Hid (Below (w.heap.size + 1) w0 wr)) (fun _ i _ => cnt V - (intOf i).toNat)
    case atStart => exact ⟨0, by omega, rfl, rfl, Below.refl _ _⟩
    case round =>
      obtain ⟨j, hj, rfl, rfl, hbr⟩ := hrel
      obtain ⟨x8, x0, x1, x2, x3, x4, x5, x6, x7⟩ := HB.out.kept hbr.out (Nat.lt_succ_self _)
      go_wp2_with fail
      refine (len_any (H.out.lies.kept (hbr.out.mono (by omega)))).mono ?_
      rintro e w1 ⟨rfl, b1⟩
      have B1 := Lib.hid (hbr.out.trans (b1.mono (by omega)))
      clear b1 x8 x0 x1 x2 x3 x4 x5 x6 x7
      obtain ⟨x8, x0, x1, x2, x3, x4, x5, x6, x7⟩ := HB.out.kept B1.out (Nat.lt_succ_self _)
      have H1 := Lib.hid (H.out.kept (B1.out.mono (by omega)))
      by_cases hlt : j < cnt V
      · have hlt2 : j < V.l.length := by omega
        obtain ⟨b, off, e1, hb, y0, y1, y2, y3, y4, y5, y6, y7⟩ := H1.out.L.el8 hlt2
        have hx := Lib.hid (H1.out.el j V.l[j] (List.getElem?_eq_getElem hlt2))
        have hmem := sz_mem (List.getElem_mem hlt2)
        have hws := weight_sz V.l[j]
        have hwn := weightN_le V j
        have hsucc := Lib.hid (weightN_succ hlt hlt2)
        subst e1
        go_wp2_with fail
        refine (IH.out _ _ _ _ (by omega) hx.out (by have := B1.out.size; have := HZ.out; omega)).mono ?_
        rintro e w2 ⟨rfl, b2⟩
        have B2 := Lib.hid (B1.out.trans (b2.mono (by have := B1.out.size; have := HZ.out; omega)))
        clear b2
        go_wp2_with fail
        go_roundw
        case rel => exact ⟨j + 1, by omega, by go_num, by rw [hsucc.out]; go_num, B2⟩
        case measure => simp [intOf]; omega
      · have hjc : j = cnt V := by omega
        have hall := Lib.hid (weightN_all V)
        subst hjc
        go_wp2_with fail
        go_ret
        exact ⟨(ret_int (by rw [hall.out]; omega) : Ending.returned (.int .i64 _) = _), HW.out.trans (B1.out.mono (by omega))⟩
end Go.Proofs.YtfmgbhaldakpfaaDoor
