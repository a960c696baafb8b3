/- The reference's Same without marks, of any two values. -/
import Derived.Test.YtfmgbhaldakpfaaDoorLk
import Derived.Test.YtfmgbhaldakpfaaDoorU
import Derived.BigQuiet
import Derived.BigRegion
import Derived.Deep.Cut
namespace Go.Proofs.YtfmgbhaldakpfaaDoor
open Go.RowKit

theorem like_no_own {A B : Val} (h : ownB A.k A.i A.s A.tk A.to A.ks B.k B.i B.s B.tk B.to B.ks = false) : likeV A B = false := by rw [likeV_eq, h]; rfl
theorem like_no_l {A B : Val} (h : eqL likeV A.l B.l = false) : likeV A B = false := by rw [likeV_eq, h, Bool.and_false]
theorem own_yes {A B : Val} (h0 : A.k = B.k) (h1 : A.i = B.i) (h2 : A.s = B.s) (h3 : A.tk = B.tk) (h4 : A.to = B.to) (h5 : A.ks = B.ks) : ownB A.k A.i A.s A.tk A.to A.ks B.k B.i B.s B.tk B.to B.ks = true := by
  unfold ownB eqK
  simp [h0, h1, h2, h3, h4, h5]
theorem int_eq {a b : Int} (h : a = b) : (a == b) = true ∧ (a != b) = false := by subst h; simp
theorem int_ne {a b : Int} (h : a ≠ b) : (a == b) = false ∧ (a != b) = true := ⟨by rw [beq_eq_false_iff_ne]; exact h, by rw [bne_iff_ne]; exact h⟩
set_option maxHeartbeats 8000000 in
set_option maxRecDepth 100000 in
theorem same2_any (N : Nat) : ∀ (n : Nat) (A B : Val) (a b : Value) (w : World), sz A + sz B ≤ N → Lies n w A a → Lies n w B b → n ≤ w.heap.size →
    Calls Tryd.prog 24 #[a, b, .bool false] w fun e w' => e = .returned (.bool (likeV A B)) ∧ Below w.heap.size w w' := by
  induction N with
  | zero => intro n A B a b w hs; have := sz_pos A; omega
  | succ N ih =>
    intro n A B a b w hs ha hb hn
    obtain ⟨oL, oK, cL, cK, c, rfl, O⟩ := ha.inv
    obtain ⟨oL', oK', cL', cK', c', rfl, O'⟩ := hb.inv
    have IH := Lib.hid ih
    have l1 := O.L.1
    have l2 := O.L.2.1
    have l3 := O.K.1
    have l4 := O.K.2.1
    have l5 := O'.L.1
    have l6 := O'.L.2.1
    have l7 := O'.K.1
    have l8 := O'.K.2.1
    unfold maxLen at l2 l4 l6 l8
    have HB := Lib.hid ((Hd.made w A (.slice oL A.l.length cL) (.slice oK A.ks.length cK)).kept ((Below.refl (w.heap.size + 1) _).alloc (by simp) (bx B oL' oK' cL' cK')) (Nat.lt_succ_self _))
    have HB' : Hid (Hd ((w.alloc (bx A oL oK cL cK)).alloc (bx B oL' oK' cL' cK')) (w.heap.size + 1) B (.slice oL' B.l.length cL') (.slice oK' B.ks.length cK')) := by have := Hd.made (w.alloc (bx A oL oK cL cK)) B (.slice oL' B.l.length cL') (.slice oK' B.ks.length cK'); rw [World.size_alloc] at this; exact this
    have HW := Lib.hid (((Below.refl w.heap.size w).alloc (Nat.le_refl _) (bx A oL oK cL cK)).alloc (by simp) (bx B oL' oK' cL' cK'))
    have HZ : Hid (((w.alloc (bx A oL oK cL cK)).alloc (bx B oL' oK' cL' cK')).heap.size = w.heap.size + 2) := by simp [Hid]
    have H := Lib.hid (And.intro (O.kept (HW.out.mono hn)) (O'.kept (HW.out.mono hn)))
    have HNO := Lib.hid (fun h => like_no_own (A := A) (B := B) h)
    have HNL := Lib.hid (fun h => like_no_l (A := A) (B := B) h)
    have HYES : Hid (A.k = B.k → A.i = B.i → A.s = B.s → A.tk = B.tk → A.to = B.to → A.ks = B.ks → eqL likeV A.l B.l = true → likeV A B = true) := fun h0 h1 h2 h3 h4 h5 h6 => by rw [likeV_eq, own_yes h0 h1 h2 h3 h4 h5, h6]; rfl
    generalize likeV A B = R at *
    clear ha hb ih O O'
    go_enter Tryd.func24, Tryd.ntmps24
    go_upto_region 1 with (fail)
    generalize (w.alloc _).alloc _ = w0 at *
    obtain ⟨x8, x0, x1, x2, x3, x4, x5, x6, x7⟩ := HB.out
    obtain ⟨z8, z0, z1, z2, z3, z4, z5, z6, z7⟩ := HB'.out
    by_cases h0 : A.k = B.k
    case neg =>
      have HR : Hid (R = false) := HNO.out (by unfold ownB; rw [decide_eq_false h0]; rfl)
      obtain ⟨g1, g2⟩ := int_ne h0
      clear h0
      go_wp2_with fail
      go_ret
      exact ⟨by rw [HR.out]; rfl, HW.out⟩
    have H0 := Lib.hid h0
    obtain ⟨g1, g2⟩ := int_eq h0
    clear h0
    by_cases h0 : A.i = B.i
    case neg =>
      have HR : Hid (R = false) := HNO.out (by unfold ownB; rw [decide_eq_false h0, Bool.and_false]; rfl)
      obtain ⟨g3, g4⟩ := int_ne h0
      clear h0
      go_wp2_with fail
      go_ret
      exact ⟨by rw [HR.out]; rfl, HW.out⟩
    have H1 := Lib.hid h0
    obtain ⟨g3, g4⟩ := int_eq h0
    clear h0
    by_cases h0 : A.s = B.s
    case neg =>
      have HR : Hid (R = false) := HNO.out (by unfold ownB; rw [decide_eq_false h0, Bool.and_false]; rfl)
      obtain ⟨g5, g6⟩ := str_ne h0
      clear h0
      go_wp2_with fail
      go_ret
      exact ⟨by rw [HR.out]; rfl, HW.out⟩
    have H2 := Lib.hid h0
    obtain ⟨g5, g6⟩ := str_eq h0
    clear h0
    by_cases h0 : A.tk = B.tk
    case neg =>
      have HR : Hid (R = false) := HNO.out (by unfold ownB; rw [decide_eq_false h0, Bool.and_false]; rfl)
      obtain ⟨g7, g8⟩ := int_ne h0
      clear h0
      go_wp2_with fail
      go_ret
      exact ⟨by rw [HR.out]; rfl, HW.out⟩
    have H3 := Lib.hid h0
    obtain ⟨g7, g8⟩ := int_eq h0
    clear h0
    by_cases h0 : A.to = B.to
    case neg =>
      have HR : Hid (R = false) := HNO.out (by unfold ownB; rw [decide_eq_false h0, Bool.and_false]; rfl)
      obtain ⟨g9, g10⟩ := int_ne h0
      clear h0
      go_wp2_with fail
      go_ret
      exact ⟨by rw [HR.out]; rfl, HW.out⟩
    have H4 := Lib.hid h0
    obtain ⟨g9, g10⟩ := int_eq h0
    clear h0
    by_cases h0 : A.l.length = B.l.length
    case neg =>
      have HR : Hid (R = false) := HNL.out (eqL_len h0)
      obtain ⟨g11, g12⟩ := int_ne (a := (A.l.length : Int)) (b := (B.l.length : Int)) (by omega)
      clear h0
      go_wp2_with fail
      go_ret
      exact ⟨by rw [HR.out]; rfl, HW.out⟩
    have H5 := Lib.hid h0
    obtain ⟨g11, g12⟩ := int_eq (a := (A.l.length : Int)) (b := (B.l.length : Int)) (by omega)
    clear h0
    by_cases h0 : A.ks.length = B.ks.length
    case neg =>
      have HR : Hid (R = false) := HNO.out (by unfold ownB eqK; rw [decide_eq_false (p := A.ks = B.ks) (fun e => h0 (by rw [e])), Bool.and_false])
      obtain ⟨g13, g14⟩ := int_ne (a := (A.ks.length : Int)) (b := (B.ks.length : Int)) (by omega)
      clear h0
      go_wp2_with fail
      go_ret
      exact ⟨by rw [HR.out]; rfl, HW.out⟩
    have H6 := Lib.hid h0
    obtain ⟨g13, g14⟩ := int_eq (a := (A.ks.length : Int)) (b := (B.ks.length : Int)) (by omega)
    clear h0
    go_wp2_with fail
    clear x8 x0 x1 x2 x3 x4 x5 x6 x7 z8 z0 z1 z2 z3 z4 z5 z6 z7 g1 g2 g3 g4 g5 g6 g7 g8 g9 g10 g11 g12 g13 g14
    go_loopw [7] (fun i wr => ∃ j : Nat, j ≤ A.ks.length ∧ i = .int .i64 j ∧ Hid (∀ q, q < j → kk A.ks q = kk B.ks q) ∧ Hid (Below (w.heap.size + 2) w0 wr)) (fun i _ => A.ks.length - (intOf i).toNat)
    case atStart => exact ⟨0, by omega, rfl, (fun q hq => absurd hq (Nat.not_lt_zero _)), Below.refl _ _⟩
    case round =>
      obtain ⟨j, hj, rfl, hok, hbr⟩ := hrel
      obtain ⟨x8, x0, x1, x2, x3, x4, x5, x6, x7⟩ := HB.out.kept hbr.out (by omega)
      obtain ⟨z8, z0, z1, z2, z3, z4, z5, z6, z7⟩ := HB'.out.kept hbr.out (by omega)
      by_cases hlt : j < A.ks.length
      · have hlt' : j < B.ks.length := by rw [← H6.out]; exact hlt
        obtain ⟨b, off, e1, hb, y0⟩ := (H.out.1.K.below (hbr.out.mono (by omega))).key hlt
        obtain ⟨b', off', e1', hb', y0'⟩ := (H.out.2.K.below (hbr.out.mono (by omega))).key hlt'
        subst e1 e1'
        have HBR := hbr
        clear hbr
        by_cases he : kk A.ks j = kk B.ks j
        · have HE : Hid (∀ q, q < j + 1 → kk A.ks q = kk B.ks q) := fun q hq => by
            by_cases e : q = j
            · subst e; exact he
            · exact hok.out q (by omega)
          obtain ⟨s1, s2⟩ := str_eq he
          clear he hok
          go_wp2_with fail
          go_quiet (fail)
          go_wp2_with fail
          go_roundw
          case rel => exact ⟨j + 1, by omega, by go_num, HE, below_drewN HBR.out _⟩
          case measure => simp [intOf]; omega
        · have HR : Hid (R = false) := HNO.out (by unfold ownB eqK; rw [decide_eq_false (p := A.ks = B.ks) (fun e => he (by rw [e])), Bool.and_false])
          obtain ⟨s1, s2⟩ := str_ne he
          clear he hok
          go_wp2_with fail
          go_quiet (fail)
          go_wp2_with fail
          go_ret
          exact ⟨by rw [HR.out]; rfl, HW.out.trans (below_drewN (HBR.out.mono (by omega)) _)⟩
      · have HKS := Lib.hid (kk_ext H6.out (fun q hq => hok.out q (by omega)))
        clear hok
        go_wp2_with fail
        clear x8 x0 x1 x2 x3 x4 x5 x6 x7 z8 z0 z1 z2 z3 z4 z5 z6 z7
        have HBR := hbr
        clear hbr
        go_loopw [8] (fun i wr => ∃ j : Nat, j ≤ A.l.length ∧ i = .int .i64 j ∧ Hid (∀ m X Y, m < j → A.l[m]? = some X → B.l[m]? = some Y → likeV X Y = true) ∧ Hid (Below (w.heap.size + 2) w0 wr)) (fun i _ => A.l.length - (intOf i).toNat)
        case atStart => exact ⟨0, by omega, rfl, (fun _ _ _ h => absurd h (Nat.not_lt_zero _)), HBR⟩
        case round =>
          obtain ⟨j2, hj2, rfl, hok, hbr⟩ := hrel
          obtain ⟨x8, x0, x1, x2, x3, x4, x5, x6, x7⟩ := HB.out.kept hbr.out (by omega)
          obtain ⟨z8, z0, z1, z2, z3, z4, z5, z6, z7⟩ := HB'.out.kept hbr.out (by omega)
          by_cases hlt2 : j2 < A.l.length
          · have hlt3 : j2 < B.l.length := by rw [← H5.out]; exact hlt2
            have hO := H.out.1.kept (hbr.out.mono (by omega))
            have hO' := H.out.2.kept (hbr.out.mono (by omega))
            obtain ⟨X, hX⟩ : ∃ X, A.l[j2]? = some X := ⟨_, List.getElem?_eq_getElem hlt2⟩
            obtain ⟨Y, hY⟩ : ∃ Y, B.l[j2]? = some Y := ⟨_, List.getElem?_eq_getElem hlt3⟩
            obtain ⟨b, off, oL3, oK3, cL3, cK3, c3, e1, hb, ⟨y0, y1, y2, y3, y4, y5, y6, y7⟩, OX⟩ := hO.L.elv hlt2 (hO.el j2 X hX)
            obtain ⟨b', off', oL3', oK3', cL3', cK3', c3', e1', hb', ⟨u0, u1, u2, u3, u4, u5, u6, u7⟩, OX'⟩ := hO'.L.elv hlt3 (hO'.el j2 Y hY)
            have hmem := sz_mem (List.mem_of_getElem? hX)
            have hmem' := sz_mem (List.mem_of_getElem? hY)
            have OX2 := Lib.hid (And.intro OX OX')
            have HXY := Lib.hid (And.intro hX hY)
            have HBR := hbr
            subst e1 e1'
            clear hX hY OX OX' hO hO' hbr
            go_wp2_with fail
            go_still_tail 11, (by kernel_rfl)
            change wpList _ _ _ _ _ wr.drew
            go_wp2_with fail
            with_reducible refine (IH.out n X Y _ _ _ (by omega) (OX2.out.1.kept ((Below.refl n wr).drew)).lies (OX2.out.2.kept ((Below.refl n wr).drew)).lies (by have := HBR.out.size; have := HZ.out; simp; omega)).mono ?_
            rintro e w2 ⟨rfl, b2⟩
            have B2 := Lib.hid (HBR.out.drew.trans (b2.mono (by have := HBR.out.size; have := HZ.out; simp; omega)))
            clear b2
            cases hr : likeV X Y with
            | true =>
              have HE : Hid (∀ m X' Y', m < j2 + 1 → A.l[m]? = some X' → B.l[m]? = some Y' → likeV X' Y' = true) := fun m X' Y' hm h1 h2 => by
                by_cases e : m = j2
                · subst e; rw [HXY.out.1] at h1; rw [HXY.out.2] at h2; injection h1 with h1; injection h2 with h2; subst h1 h2; exact hr
                · exact hok.out m X' Y' (by omega) h1 h2
              clear hr hok
              go_wp2_with fail
              go_roundw
              case rel => exact ⟨j2 + 1, by omega, by go_num, HE, B2⟩
              case measure => simp [intOf]; omega
            | false =>
              have HR : Hid (R = false) := HNL.out (eqL_no (r := likeV) j2 HXY.out.1 HXY.out.2 hr)
              clear hr hok
              go_wp2_with fail
              go_ret
              exact ⟨by rw [HR.out]; rfl, HW.out.trans (B2.out.mono (by omega))⟩
          · have HR : Hid (R = true) := HYES.out H0.out H1.out H2.out H3.out H4.out HKS.out (eqL_yes H5.out (fun m X Y h1 h2 => hok.out m X Y (by have := (List.getElem?_eq_some_iff.1 h1).1; omega) h1 h2))
            clear hok
            go_wp2_with fail
            go_ret
            exact ⟨by rw [HR.out]; rfl, HW.out.trans (hbr.out.mono (by omega))⟩
end Go.Proofs.YtfmgbhaldakpfaaDoor
