/- The reference's Same, of a value and itself. -/
import Derived.Test.YtfmgbhaldakpfaaDoorD
import Derived.Laws.StructEq
import Derived.StillTailTactics
namespace Go.Proofs.YtfmgbhaldakpfaaDoor
open Go.RowKit

theorem below8 {w w2 : World} (h : Below (w.heap.size + 2) w w2) : Below w.heap.size w w2 := h.mono (by omega)
set_option maxRecDepth 100000 in
set_option maxHeartbeats 2000000 in
theorem rsame_any (N : Nat) (hN : N ≤ 60000) : ∀ (n : Nat) (V : Val) (a b : Value) (w : World), sz V ≤ N → Lies n w V a → Lies n w V b → n ≤ w.heap.size →
    Calls Tryd.prog 24 #[a, b, .bool true] w fun e w' => e = .returned (.bool true) ∧ Below w.heap.size w w' := by
  induction N with
  | zero => intro n V a b w hs; have := sz_pos V; omega
  | succ N ih =>
    intro n V a b w hs ha hb hn
    obtain ⟨oL, oK, cL, cK, c, rfl, O⟩ := ha.inv
    obtain ⟨oL', oK', cL', cK', c', rfl, O'⟩ := hb.inv
    have IH := Lib.hid (ih (by omega))
    have l1 := O.L.1
    have l2 := O.L.2.1
    have l3 := O.K.1
    have l4 := O.K.2.1
    have ws := O.ws
    unfold maxLen at l2 l4 ws
    have hl := sz_l V
    have HB := Lib.hid ((Hd.made w V (.slice oL V.l.length cL) (.slice oK V.ks.length cK)).kept ((Below.refl (w.heap.size + 1) _).alloc (by simp) (bx V oL' oK' cL' cK')) (Nat.lt_succ_self _))
    have HB' : Hid (Hd ((w.alloc (bx V oL oK cL cK)).alloc (bx V oL' oK' cL' cK')) (w.heap.size + 1) V (.slice oL' V.l.length cL') (.slice oK' V.ks.length cK')) := by have := Hd.made (w.alloc (bx V oL oK cL cK)) V (.slice oL' V.l.length cL') (.slice oK' V.ks.length cK'); rw [World.size_alloc] at this; exact this
    have HW := Lib.hid (((Below.refl w.heap.size w).alloc (Nat.le_refl _) (bx V oL oK cL cK)).alloc (by simp) (bx V oL' oK' cL' cK'))
    have HZ : Hid (((w.alloc (bx V oL oK cL cK)).alloc (bx V oL' oK' cL' cK')).heap.size = w.heap.size + 2) := by simp [Hid]
    have H := Lib.hid (And.intro (O.kept (HW.out.mono hn)) (O'.kept (HW.out.mono hn)))
    clear ha hb ih O O'
    go_enter Tryd.func24, Tryd.ntmps24
    go_wp2_with fail
    generalize (w.alloc _).alloc _ = w0 at *
    go_loopw [7] (fun i wr => ∃ j : Nat, j ≤ V.ks.length ∧ i = .int .i64 j ∧ Hid (Below (w.heap.size + 2) w0 wr)) (fun i _ => V.ks.length - (intOf i).toNat)
    case atStart => exact ⟨0, by omega, rfl, Below.refl _ _⟩
    case round =>
      obtain ⟨j, hj, rfl, hbr⟩ := hrel
      obtain ⟨x8, x0, x1, x2, x3, x4, x5, x6, x7⟩ := HB.out.kept hbr.out (by omega)
      obtain ⟨z8, z0, z1, z2, z3, z4, z5, z6, z7⟩ := HB'.out.kept hbr.out (by omega)
      by_cases hlt : j < V.ks.length
      · obtain ⟨b, off, e1, hb, y0⟩ := (H.out.1.K.below (hbr.out.mono (by omega))).key hlt
        obtain ⟨b', off', e1', hb', y0'⟩ := (H.out.2.K.below (hbr.out.mono (by omega))).key hlt
        subst e1 e1'
        have HBR := hbr
        clear hbr
        go_wp2_with fail
        go_quiet (fail)
        go_wp2_with fail
        go_roundw
        case rel => exact ⟨j + 1, by omega, by go_num, below_drewN HBR.out _⟩
        case measure => simp [intOf]; omega
      · go_wp2_with fail
        clear x8 x0 x1 x2 x3 x4 x5 x6 x7 z8 z0 z1 z2 z3 z4 z5 z6 z7
        have HBR := hbr
        clear hbr
        go_loopw [8] (fun i wr => ∃ j : Nat, j ≤ V.l.length ∧ i = .int .i64 j ∧ Hid (Below (w.heap.size + 2) w0 wr)) (fun i _ => V.l.length - (intOf i).toNat)
        case atStart => exact ⟨0, by omega, rfl, HBR⟩
        case round =>
          obtain ⟨j2, hj2, rfl, hbr⟩ := hrel
          obtain ⟨x8, x0, x1, x2, x3, x4, x5, x6, x7⟩ := HB.out.kept hbr.out (by omega)
          obtain ⟨z8, z0, z1, z2, z3, z4, z5, z6, z7⟩ := HB'.out.kept hbr.out (by omega)
          by_cases hlt2 : j2 < V.l.length
          · have hO := H.out.1.kept (hbr.out.mono (by omega))
            have hO' := H.out.2.kept (hbr.out.mono (by omega))
            obtain ⟨X, hX⟩ : ∃ X, V.l[j2]? = some X := ⟨_, List.getElem?_eq_getElem hlt2⟩
            obtain ⟨b, off, oL3, oK3, cL3, cK3, c3, e1, hb, ⟨y0, y1, y2, y3, y4, y5, y6, y7⟩, OX⟩ := hO.L.elv hlt2 (hO.el j2 X hX)
            obtain ⟨b', off', oL3', oK3', cL3', cK3', c3', e1', hb', ⟨u0, u1, u2, u3, u4, u5, u6, u7⟩, OX'⟩ := hO'.L.elv hlt2 (hO'.el j2 X hX)
            have hmem := sz_mem (List.mem_of_getElem? hX)
            have OX2 := Lib.hid (And.intro OX OX')
            have HBR := hbr
            subst e1 e1'
            clear hX OX OX' hO hO' hbr
            go_wp2_with fail
            go_still_tail 11, (by kernel_rfl)
            change wpList _ _ _ _ _ wr.drew
            go_wp2_with fail
            with_reducible refine (IH.out n X _ _ _ (by omega) (OX2.out.1.kept ((Below.refl n wr).drew)).lies (OX2.out.2.kept ((Below.refl n wr).drew)).lies (by have := HBR.out.size; have := HZ.out; simp; omega)).mono ?_
            rintro e w2 ⟨rfl, b2⟩
            have B2 := Lib.hid (HBR.out.drew.trans (b2.mono (by have := HBR.out.size; have := HZ.out; simp; omega)))
            clear b2
            go_wp2_with fail
            go_roundw
            case rel => exact ⟨j2 + 1, by omega, by go_num, B2⟩
            case measure => simp [intOf]; omega
          · go_wp2_with fail
            go_ret
            exact ⟨rfl, HW.out.trans (hbr.out.mono (by omega))⟩
end Go.Proofs.YtfmgbhaldakpfaaDoor
