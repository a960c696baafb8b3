/- The reference's Same of any two values. -/
import Derived.Test.YtpmdkekjoocplaaUb
namespace Go.Proofs.Ytpmdkekjoocplaa
open Go.RowKit

/-- what Same leaves -/
def SPost (V W : Val) (w : World) (e : Ending) (w' : World) : Prop := ∃ r : Bool, e = .returned (.bool r) ∧ (r = true ↔ V = W) ∧ Below w.heap.size w w'
theorem kk_ext {a b : List ByteArray} (hl : b.length = a.length) (h : ∀ i, i < a.length → kk a i = kk b i) : a = b := by
  apply List.ext_getElem hl.symm
  intro i h1 h2
  have := h i h1
  unfold kk at this
  rw [List.getD_eq_getElem?_getD, List.getD_eq_getElem?_getD, List.getElem?_eq_getElem h1, List.getElem?_eq_getElem h2] at this
  simpa using this
theorem l_ext {a b : List Val} (hl : b.length = a.length) (h : ∀ i, i < a.length → a[i]? = b[i]?) : a = b := by
  apply List.ext_getElem hl.symm
  intro i h1 h2
  have := h i h1
  rw [List.getElem?_eq_getElem h1, List.getElem?_eq_getElem h2] at this
  simpa using this
/-- all but keys and elements is the same -/
structure Hds (V W : Val) : Prop where
  k : W.k = V.k
  i : W.i = V.i
  s : W.s = V.s
  tk : W.tk = V.tk
  to' : W.to = V.to
  x : W.x = V.x
  nL : W.l.length = V.l.length
  nK : W.ks.length = V.ks.length
theorem Hds.ext {V W : Val} (h : Hds V W) (hk : V.ks = W.ks) (hl : V.l = W.l) : V = W := by
  obtain ⟨h1, h2, h3, h4, h5, h6, _, _⟩ := h
  cases V; cases W
  simp only [Val.k, Val.i, Val.s, Val.l, Val.ks, Val.tk, Val.to, Val.x] at *
  subst h1 h2 h3 h4 h5 h6 hk hl; rfl
theorem SNo.post {V W : Val} {w w' : World} {e : Ending} (hn : ¬ V = W) (h : SNo w e w') : SPost V W w e w' := ⟨false, h.1, by simp [hn], h.2⟩
set_option maxRecDepth 100000 in
set_option maxHeartbeats 4000000 in
theorem rsame_of (N : Nat) (hN : N ≤ 60000) : ∀ (n : Nat) (V W : Val) (a b : Value) (w : World), sz V ≤ N → Lies n w V a → Lies n w W b → n ≤ w.heap.size →
    Calls Try.prog 9 #[a, b, .bool true] w (SPost V W w) := by
  induction N with
  | zero => intro n V W a b w hs; have := sz_pos V; omega
  | succ N ih =>
    intro n V W a b w hs ha hb hn
    obtain ⟨oL, oK, cL, cK, c, rfl, O⟩ := ha.inv
    obtain ⟨oL', oK', cL', cK', c', rfl, O'⟩ := hb.inv
    by_cases hk : V.k = W.k
    case neg => exact (same_no_k _ _ _ _ _ _ _ _ _ _ _ _ _ _ _ _ _ _ _ _ _ _ _ _ _ hk).mono fun e w' => SNo.post fun h => hk (by rw [h])
    by_cases hi : V.i = W.i
    case neg => rw [← hk]; exact (same_no_i _ _ _ _ _ _ _ _ _ _ _ _ _ _ _ _ _ _ _ _ _ _ _ _ hi).mono fun e w' => SNo.post fun h => hi (by rw [h])
    by_cases hss : V.s = W.s
    case neg => rw [← hk, ← hi]; exact (same_no_s _ _ _ _ _ _ _ _ _ _ _ _ _ _ _ _ _ _ _ _ _ _ _ hss).mono fun e w' => SNo.post fun h => hss (by rw [h])
    by_cases htk : V.tk = W.tk
    case neg => rw [← hk, ← hi, ← hss]; exact (same_no_tk _ _ _ _ _ _ _ _ _ _ _ _ _ _ _ _ _ _ _ _ _ _ htk).mono fun e w' => SNo.post fun h => htk (by rw [h])
    by_cases hto : V.to = W.to
    case neg => rw [← hk, ← hi, ← hss, ← htk]; exact (same_no_to _ _ _ _ _ _ _ _ _ _ _ _ _ _ _ _ _ _ _ _ _ hto).mono fun e w' => SNo.post fun h => hto (by rw [h])
    by_cases hx : V.x = W.x
    case neg => rw [← hk, ← hi, ← hss, ← htk, ← hto]; exact (same_no_x _ _ _ _ _ _ _ _ _ _ _ _ _ _ _ _ _ _ _ _ hx).mono fun e w' => SNo.post fun h => hx (by rw [h])
    by_cases hnL : V.l.length = W.l.length
    case neg => rw [← hk, ← hi, ← hss, ← htk, ← hto, ← hx]; exact (same_no_nL _ _ _ _ _ _ _ _ _ _ _ _ _ _ _ _ _ _ _ hnL).mono fun e w' => SNo.post fun h => hnL (by rw [h])
    by_cases hnK : V.ks.length = W.ks.length
    case neg => rw [← hk, ← hi, ← hss, ← htk, ← hto, ← hx, ← hnL]; exact (same_no_nK _ _ _ _ _ _ _ _ _ _ _ _ _ _ _ _ _ _ hnK).mono fun e w' => SNo.post fun h => hnK (by rw [h])
    have HH : Hid (Hds V W) := ⟨hk.symm, hi.symm, hss.symm, htk.symm, hto.symm, hx.symm, hnL.symm, hnK.symm⟩
    rw [← hk, ← hi, ← hss, ← htk, ← hto, ← hx, ← hnL, ← hnK]
    have IH := Lib.hid (ih (by omega))
    have l1 := O.L.1
    have l2 := O.L.2.1
    have l3 := O.K.1
    have l4 := O.K.2.1
    have ws := O.ws
    unfold maxLen at l2 l4 ws
    have hl := sz_l V
    have HB := Lib.hid ((Hd.made w V (.slice oL V.l.length cL) (.slice oK V.ks.length cK)).kept ((Below.refl (w.heap.size + 1) _).alloc (by simp) (bx V oL' oK' cL' cK')) (Nat.lt_succ_self _))
    have HB' : Hid (Hd ((w.alloc (bx V oL oK cL cK)).alloc (bx V oL' oK' cL' cK')) (w.heap.size + 1) V (.slice oL' V.l.length cL') (.slice oK' V.ks.length cK')) := by have := Hd.made (w.alloc (bx V oL oK cL cK)) V (.slice oL' V.l.length cL') (.slice oK' V.ks.length cK'); rw [World.size_alloc] at this; exact this
    have HW := Lib.hid (((Below.refl w.heap.size w).alloc (Nat.le_refl _) (bx V oL oK cL cK)).alloc (by simp) (bx V oL' oK' cL' cK'))
    have HZ : Hid (((w.alloc (bx V oL oK cL cK)).alloc (bx V oL' oK' cL' cK')).heap.size = w.heap.size + 2) := by simp [Hid]
    have H := Lib.hid (And.intro (O.kept (HW.out.mono hn)) (O'.kept (HW.out.mono hn)))
    clear ha hb ih O O' hk hi hss htk hto hx hnL hnK
    go_enter Try.func9, Try.ntmps9
    go_wp2_with fail
    generalize (w.alloc _).alloc _ = w0 at *
    go_loopw [7] (fun i wr => ∃ j : Nat, j ≤ V.ks.length ∧ i = .int .i64 j ∧ Hid (Below (w.heap.size + 2) w0 wr) ∧ Hid (∀ i, i < j → kk V.ks i = kk W.ks i)) (fun i _ => V.ks.length - (intOf i).toNat)
    case atStart => exact ⟨0, by omega, rfl, Below.refl _ _, fun i h => by omega⟩
    case round =>
      obtain ⟨j, hj, rfl, hbr, hkeys⟩ := hrel
      obtain ⟨x8, x0, x1, x2, x3, x4, x5, x6, x7⟩ := HB.out.kept hbr.out (by omega)
      obtain ⟨z8, z0, z1, z2, z3, z4, z5, z6, z7⟩ := HB'.out.kept hbr.out (by omega)
      by_cases hlt : j < V.ks.length
      · obtain ⟨b, off, e1, hb, y0⟩ := (H.out.1.K.below (hbr.out.mono (by omega))).key hlt
        obtain ⟨b', off', e1', hb', y0'⟩ := (H.out.2.K.below (hbr.out.mono (by omega))).key (j := j) (by rw [HH.out.nK]; exact hlt)
        subst e1 e1'
        have HBR := hbr
        clear hbr
        by_cases hkk : kk V.ks j = kk W.ks j
        · have HK2 : Hid (∀ i, i < j + 1 → kk V.ks i = kk W.ks i) := fun i h => by
            by_cases e : i = j
            · rw [e]; exact hkk
            · exact hkeys.out i (by omega)
          rw [← hkk] at y0'
          clear hkk hkeys
          go_wp2_with fail
          go_quiet (fail)
          go_wp2_with fail
          go_roundw
          case rel => exact ⟨j + 1, by omega, by go_num, below_drewN HBR.out _, HK2⟩
          case measure => simp [intOf]; omega
        · have HN : Hid (¬ V = W) := fun h => hkk (by rw [h])
          have hne := str_ne hkk
          clear hkk hkeys
          go_wp2_with fail
          go_quiet (fail)
          go_wp2_with fail
          go_ret
          exact ⟨false, rfl, by simp [HN.out], HW.out.trans ((below_drewN HBR.out _).mono (by omega))⟩
      · have HKS : Hid (V.ks = W.ks) := kk_ext HH.out.nK (fun i h => hkeys.out i (by omega))
        go_wp2_with fail
        clear x8 x0 x1 x2 x3 x4 x5 x6 x7 z8 z0 z1 z2 z3 z4 z5 z6 z7 hkeys
        have HBR := hbr
        clear hbr
        go_loopw [8] (fun i wr => ∃ j : Nat, j ≤ V.l.length ∧ i = .int .i64 j ∧ Hid (Below (w.heap.size + 2) w0 wr) ∧ Hid (∀ i, i < j → V.l[i]? = W.l[i]?)) (fun i _ => V.l.length - (intOf i).toNat)
        case atStart => exact ⟨0, by omega, rfl, HBR, fun i h => by omega⟩
        case round =>
          obtain ⟨j2, hj2, rfl, hbr, hels⟩ := hrel
          obtain ⟨x8, x0, x1, x2, x3, x4, x5, x6, x7⟩ := HB.out.kept hbr.out (by omega)
          obtain ⟨z8, z0, z1, z2, z3, z4, z5, z6, z7⟩ := HB'.out.kept hbr.out (by omega)
          by_cases hlt2 : j2 < V.l.length
          · have hO := H.out.1.kept (hbr.out.mono (by omega))
            have hO' := H.out.2.kept (hbr.out.mono (by omega))
            obtain ⟨X, hX⟩ : ∃ X, V.l[j2]? = some X := ⟨_, List.getElem?_eq_getElem hlt2⟩
            obtain ⟨Y, hY⟩ : ∃ Y, W.l[j2]? = some Y := ⟨_, List.getElem?_eq_getElem (by rw [HH.out.nL]; exact hlt2)⟩
            obtain ⟨b, off, oL3, oK3, cL3, cK3, c3, e1, hb, ⟨y0, y1, y2, y3, y4, y5, y6, y7⟩, OX⟩ := hO.L.elv hlt2 (hO.el j2 X hX)
            obtain ⟨b', off', oL3', oK3', cL3', cK3', c3', e1', hb', ⟨u0, u1, u2, u3, u4, u5, u6, u7⟩, OX'⟩ := hO'.L.elv (j := j2) (by rw [HH.out.nL]; exact hlt2) (hO'.el j2 Y hY)
            have hmem := sz_mem (List.mem_of_getElem? hX)
            have OX2 := Lib.hid (And.intro OX OX')
            have HXY := Lib.hid (And.intro hX hY)
            have HBR := hbr
            subst e1 e1'
            clear hX hY OX OX' hO hO' hbr
            go_wp2_with fail
            go_still_tail 11, (by kernel_rfl)
            change wpList _ _ _ _ _ wr.drew
            go_wp2_with fail
            with_reducible refine (IH.out n X Y _ _ _ (by omega) (OX2.out.1.kept ((Below.refl n wr).drew)).lies (OX2.out.2.kept ((Below.refl n wr).drew)).lies (by have := HBR.out.size; have := HZ.out; simp; omega)).mono ?_
            rintro e w2 ⟨r, rfl, hr, b2⟩
            have B2 := Lib.hid (HBR.out.drew.trans (b2.mono (by have := HBR.out.size; have := HZ.out; simp; omega)))
            clear b2
            cases r with
            | true =>
              have HE2 : Hid (∀ i, i < j2 + 1 → V.l[i]? = W.l[i]?) := fun i h => by
                by_cases e : i = j2
                · rw [e, HXY.out.1, HXY.out.2, hr.1 rfl]
                · exact hels.out i (by omega)
              clear hr
              go_wp2_with fail
              go_roundw
              case rel => exact ⟨j2 + 1, by omega, by go_num, B2, HE2⟩
              case measure => simp [intOf]; omega
            | false =>
              have HN : Hid (¬ V = W) := fun h => by
                have h1 := HXY.out.1
                rw [h, HXY.out.2] at h1
                injection h1 with h1
                have := hr.2 h1.symm
                cases this
              clear hr
              go_wp2_with fail
              go_ret
              exact ⟨false, rfl, by simp [HN.out], HW.out.trans (B2.out.mono (by omega))⟩
          · have HE : Hid (V = W) := HH.out.ext HKS.out (l_ext HH.out.nL (fun i h => hels.out i (by omega)))
            go_wp2_with fail
            go_ret
            exact ⟨true, rfl, by simp [HE.out], HW.out.trans (hbr.out.mono (by omega))⟩
end Go.Proofs.Ytpmdkekjoocplaa
