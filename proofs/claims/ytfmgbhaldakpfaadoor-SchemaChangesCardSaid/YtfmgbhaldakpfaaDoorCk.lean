/- Get, element, changed, Changed of a value whose elements are small; the reference's Same without a bound. -/
import Derived.Test.YtfmgbhaldakpfaaDoorCe
import Derived.Test.YtfmgbhaldakpfaaDoorCg
import Derived.BigQuiet
namespace Go.Proofs.YtfmgbhaldakpfaaDoor
open Go.RowKit

set_option maxRecDepth 100000 in
set_option maxHeartbeats 4000000 in
theorem getE_any {n : Nat} {V : Val} {v : Value} {w : World} (s : ByteArray) (hs : ∀ (j : Nat) (X : Val), V.l[j]? = some X → sz X ≤ 60000) (hkl : V.k = 5 → V.ks.length = V.l.length) (h : Lies n w V v) (hn : n ≤ w.heap.size) : Calls Tryd.prog 47 #[v, .string s] w (GetPost V s w) := by
  obtain ⟨oL, oK, cL, cK, c, rfl, O⟩ := h.inv
  have l1 := O.L.1
  have l2 := O.L.2.1
  unfold maxLen at l2
  have HB := Lib.hid ((lie8z w V oL oK cL cK))
  have HB1 : Hid (((w.alloc (bx V oL oK cL cK)).alloc (.cells zc 42)).heap[w.heap.size + 1]? = some (.cells zc 42 (0, 0))) := by have := heap_alloc_new (w.alloc (bx V oL oK cL cK)) (.cells zc 42); rw [World.size_alloc] at this; exact this
  have HW := Lib.hid (((Below.refl w.heap.size w).alloc (Nat.le_refl _) (bx V oL oK cL cK)).alloc (by simp) (.cells zc 42))
  have HZ : Hid (((w.alloc (bx V oL oK cL cK)).alloc (.cells zc 42)).heap.size = w.heap.size + 2) := by simp [Hid]
  have H := Lib.hid (O.kept (HW.out.mono hn))
  clear h O
  by_cases h5 : V.k = 5
  · have g5 : (V.k != 5) = false := by simp [h5]
    have hkl' := hkl h5
    have hcn : cnt V = V.ks.length := by unfold cnt; rw [if_neg (by omega), if_pos h5]; omega
    have hck : cntK V = V.ks.length := by unfold cntK; rw [if_pos h5]; omega
    have HK := Lib.hid (And.intro h5 (And.intro hkl' (And.intro hcn hck)))
    clear h5 hkl hkl' hcn hck
    go_enter Tryd.func47, Tryd.ntmps47
    go_upto_region 1 with fail
    generalize (w.alloc _).alloc _ = w0 at *
    obtain ⟨x8, x0, x1, x2, x3, x4, x5, x6, x7⟩ := HB.out
    go_wp2_with fail
    refine (held_any H.out (by have := HZ.out; omega)).mono ?_
    rintro e w2 ⟨oL2, oK2, cL2, cK2, rfl, rL, rK, b2⟩
    rw [HK.out.2.2.1] at rL
    rw [HK.out.2.2.2] at rK
    rw [HK.out.2.2.1, HK.out.2.2.2]
    have l5 := rL.1
    have l6 := rL.2.1
    unfold maxLen at l6
    have HL := Lib.hid rL
    have HKR := Lib.hid rK
    have B2 := Lib.hid b2
    clear b2 rL rK x8 x0 x1 x2 x3 x4 x5 x6 x7
    go_wp2_with fail
    refine (index_any s HKR.out (by have := HZ.out; have := B2.out.size; omega)).mono ?_
    rintro e w3 ⟨⟨r, rfl, hA⟩, b3⟩
    have B3 := Lib.hid (B2.out.trans (b3.mono B2.out.size))
    have Q3 : Hid (w3.heap[w.heap.size + 1]? = some (.cells zc 42 (0, 0))) := (B3.out.block _ (by have := HZ.out; omega)).trans HB1.out
    obtain ⟨x8, x0, x1, x2, x3, x4, x5, x6, x7⟩ := HB.out.kept B3.out (by have := HZ.out; omega)
    have HA := Lib.hid hA
    rcases hA with ⟨rfl, _⟩ | ⟨j, rfl, hj, _⟩
    · clear b3
      have R := Lib.hid (store_box Q3.out zc rfl)
      have B9 := Lib.hid (below_setRow (HW.out.trans (B3.out.mono HW.out.size)) (Nat.le_succ _) (over zc zc))
      go_wp2_with ((with_reducible refine wpList_store_at rfl 42 (.tmp 4) (.tmp 23) rfl (w.heap.size + 1) 0 rfl _ rfl 42 zc Q3.out ?sa1 ?sa2 ?sa3 ?sa4); case' sa4 => generalize World.setRow _ _ _ = w9 at *)
      case sa1 => simp
      case sa2 => have := size42; simpa using this
      case sa3 => simp [Value.oneCell']
      obtain ⟨p0, p1, p2, p3, p4, p5, p6, p7⟩ := cells8 R.out
      refine bodyPost_ret (v := .tuple #[zv, .int .i64 11]) (by simp [results, Tryd.results47, go_sem, p0, p1, p2, p3, p4, p5, p6, p7]) rfl ?_
      exact .inr (.inl ⟨HK.out.1, HA.out, rfl, B9.out⟩)
    · have hjl : j < V.l.length := by have := HK.out.2.1; omega
      obtain ⟨X, hX⟩ : ∃ X, V.l[j]? = some X := ⟨_, List.getElem?_eq_getElem hjl⟩
      obtain ⟨b', off', oL3, oK3, cL3, cK3, c3, e1, hb', ⟨y0, y1, y2, y3, y4, y5, y6, y7⟩, OX⟩ := (HL.out.below (b3.mono (by have := HZ.out; have := B2.out.size; omega))).elv hj (((H.out.kept (B3.out.mono (by have := HZ.out; omega))).el j X hX))
      subst e1
      have OX2 := Lib.hid OX
      have HX := Lib.hid hX
      have hm := hs _ _ hX
      have j0 : (0 : Int) ≤ j := by omega
      have j1 : (j : Int) < V.ks.length := by omega
      clear hX OX b3
      go_upto_region 7 with fail
      go_still_tail 6, (by kernel_rfl)
      change wpList _ _ _ _ _ w3.drew
      have KD := Lib.hid ((Below.refl w3.heap.size w3).drew)
      have BD := Lib.hid (B3.out.trans (KD.out.mono B3.out.size))
      have OD := Lib.hid (OX2.out.kept (KD.out.mono (by have := HZ.out; have := B3.out.size; omega)))
      have QD : Hid (w3.drew.heap[w.heap.size + 1]? = some (.cells zc 42 (0, 0))) := (KD.out.block _ (by have := HZ.out; have := B3.out.size; omega)).trans Q3.out
      clear KD
      generalize w3.drew = w4 at *
      obtain ⟨Y, hY⟩ : ∃ Y, Y = X.sx (X.x || V.x) := ⟨_, rfl⟩
      have CM := marked_any (w := w4) V.x (by omega) OD.out.lies (by have := HZ.out; have := BD.out.size; omega)
      rw [← hY] at CM
      have HCM := Lib.hid CM
      have HY := Lib.hid hY
      clear CM hY
      go_wp2_with fail
      refine HCM.out.mono ?_
      rintro e w5 ⟨o1, o3, cap1, cap3, c1, rfl, O1, _, _, b5⟩
      have z4 := BD.out.size
      have hz := HZ.out
      have Q5 : Hid (w5.heap[w.heap.size + 1]? = some (.cells zc 42 (0, 0))) := by unfold Hid; rw [b5.block _ (by omega)]; exact QD.out
      have B5 := Lib.hid (HW.out.trans ((BD.out.trans (b5.mono BD.out.size)).mono (by omega)))
      have M := Lib.hid O1
      clear O1 b5
      have R := Lib.hid (store_box Q5.out (#[.int .i64 Y.k, .int .i64 Y.i, .string Y.s, .slice o1 Y.l.length cap1, .slice o3 Y.ks.length cap3, .int .i64 Y.tk, .int .i64 Y.to, .bool Y.x]) rfl)
      have B9 := Lib.hid (below_setRow (B5.out) (Nat.le_succ _) (over zc (#[.int .i64 Y.k, .int .i64 Y.i, .string Y.s, .slice o1 Y.l.length cap1, .slice o3 Y.ks.length cap3, .int .i64 Y.tk, .int .i64 Y.to, .bool Y.x])))
      have K9 : Hid (∀ k, w.heap.size + 2 ≤ k → (w5.setRow (w.heap.size + 1) (over zc (#[.int .i64 Y.k, .int .i64 Y.i, .string Y.s, .slice o1 Y.l.length cap1, .slice o3 Y.ks.length cap3, .int .i64 Y.tk, .int .i64 Y.to, .bool Y.x]))).heap[k]? = w5.heap[k]?) := fun k hk => setRow_other _ _ _ _ (by omega)
      have S9 : Hid ((w5.setRow (w.heap.size + 1) (over zc (#[.int .i64 Y.k, .int .i64 Y.i, .string Y.s, .slice o1 Y.l.length cap1, .slice o3 Y.ks.length cap3, .int .i64 Y.tk, .int .i64 Y.to, .bool Y.x]))).heap.size = w5.heap.size) := size_setRow _ _ _
      go_wp2_with ((with_reducible refine wpList_store_at rfl 42 (.tmp 4) (.tmp 30) rfl (w.heap.size + 1) 0 rfl _ rfl 42 zc Q5.out ?sb1 ?sb2 ?sb3 ?sb4); case' sb4 => generalize World.setRow _ _ _ = w9 at *)
      case sb1 => simp
      case sb2 => have := size42; simpa using this
      case sb3 => simp [Value.oneCell']
      obtain ⟨p0, p1, p2, p3, p4, p5, p6, p7⟩ := cells8 R.out
      refine bodyPost_ret (v := .tuple #[vv Y.k Y.i Y.s (.slice o1 Y.l.length cap1) (.slice o3 Y.ks.length cap3) Y.tk Y.to Y.x, .int .i64 0]) (by simp [results, Tryd.results47, go_sem, p0, p1, p2, p3, p4, p5, p6, p7]) rfl ?_
      exact .inr (.inr ⟨j, X, HK.out.1, HA.out, HX.out, by rw [← HY.out]; exact ⟨o1, o3, cap1, cap3, c1, rfl, M.out.keptP fun k hk => ⟨⟨by have := hk.1; omega, by rw [S9.out]; exact hk.2⟩, K9.out k (by have := hk.1; omega)⟩, B9.out⟩⟩)
  · have g5 : (V.k != 5) = true := by simpa using h5
    have HK := Lib.hid h5
    clear h5 hkl
    go_enter Tryd.func47, Tryd.ntmps47
    go_upto_region 1 with fail
    generalize (w.alloc _).alloc _ = w0 at *
    obtain ⟨x8, x0, x1, x2, x3, x4, x5, x6, x7⟩ := HB.out
    have R := Lib.hid (store_box HB1.out zc rfl)
    have B9 := Lib.hid (below_setRow (HW.out) (Nat.le_succ _) (over zc zc))
    go_wp2_with ((with_reducible refine wpList_store_at rfl 42 (.tmp 4) (.tmp 12) rfl (w.heap.size + 1) 0 rfl _ rfl 42 zc HB1.out ?sc1 ?sc2 ?sc3 ?sc4); case' sc4 => generalize World.setRow _ _ _ = w9 at *)
    case sc2 => have := size42; simpa using this
    case sc3 => simp [Value.oneCell']
    obtain ⟨p0, p1, p2, p3, p4, p5, p6, p7⟩ := cells8 R.out
    refine bodyPost_ret (v := .tuple #[zv, .int .i64 8]) (by simp [results, Tryd.results47, go_sem, p0, p1, p2, p3, p4, p5, p6, p7]) rfl ?_
    exact .inl ⟨HK.out, rfl, B9.out⟩

theorem get2E_any {n : Nat} {V : Val} {v : Value} {w : World} (s : ByteArray) (hs : ∀ (j : Nat) (X : Val), V.l[j]? = some X → sz X ≤ 60000) (hkl : V.k = 5 → V.ks.length = V.l.length) (h : Lies n w V v) (hn : n ≤ w.heap.size) : Calls Tryd.prog 47 #[v, .string s] w (VePost (elt V s) (eltE V s) w) := by
  refine (getE_any s hs hkl h hn).mono ?_
  rintro e w1 (⟨h5, rfl, hb⟩ | ⟨h5, hA, rfl, hb⟩ | ⟨j, X, h5, hA, hX, hP⟩)
  · have e1 : elt V s = nul := by unfold elt; rw [if_neg h5]
    have e2 : eltE V s = 8 := by unfold eltE; rw [if_neg h5]
    rw [e1, e2]
    exact ⟨none, none, 0, 0, _, rfl, nul_opn _ _, hb⟩
  · have e1 : elt V s = nul := by unfold elt; rw [if_pos h5, ixK_none hA]
    have e2 : eltE V s = 11 := by unfold eltE; rw [if_pos h5, ixK_none hA]
    rw [e1, e2]
    exact ⟨none, none, 0, 0, _, rfl, nul_opn _ _, hb⟩
  · have e1 : elt V s = X.sx (X.x || V.x) := by unfold elt; rw [if_pos h5, ixK_some hA]; simp only; rw [hX]
    have e2 : eltE V s = 0 := by unfold eltE; rw [if_pos h5, ixK_some hA]
    rw [e1, e2]
    exact hP
set_option maxHeartbeats 2000000 in
set_option maxRecDepth 100000 in
theorem elementE_any {n : Nat} {V : Val} {v : Value} {w : World} (a : Atr) (hs : ∀ (j : Nat) (X : Val), V.l[j]? = some X → sz X ≤ 60000) (hkl : V.k = 5 → V.ks.length = V.l.length) (h : Lies n w V v) (hn : n ≤ w.heap.size) : Calls Tryd.prog 69 #[v, av a] w (VPost (elt V a.nm) w) := by
  obtain ⟨oL, oK, cL, cK, c, rfl, O⟩ := h.inv
  have b0 : Below w.heap.size w (((w.alloc (bx V oL oK cL cK)).alloc (.cells (ac a) 31)).alloc (.cells zc 42)) := bal (bal (bal (Below.refl _ _) _) _) _
  have HB := Lib.hid b0
  have HO := Lib.hid (O.kept (b0.mono hn)).lies
  have HG := Lib.hid (get2E_any a.nm hs hkl HO.out (by simp; omega))
  have HZ : Hid ((((w.alloc (bx V oL oK cL cK)).alloc (.cells (ac a) 31)).alloc (.cells zc 42)).heap[w.heap.size + 2]? = some (.cells zc 42 (0, 0))) := at_top _ _ _ (by simp)
  have HS : Hid ((((w.alloc (bx V oL oK cL cK)).alloc (.cells (ac a) 31)).alloc (.cells zc 42)).heap.size = w.heap.size + 3) := by simp [Hid]
  generalize elt V a.nm = Y at *
  clear b0 h O hkl hs
  go_enter Tryd.func69, Tryd.ntmps69
  go_wp2_with fail
  refine HG.out.mono ?_
  rintro e w1 ⟨o1, o3, c1, c3, cc, rfl, OY, b⟩
  generalize (World.alloc (World.alloc _ _) _) = w0 at *
  have hz1 := b.size
  rw [HS.out] at hz1
  have Q1 : Hid ((w1.alloc (bx Y o1 o3 c1 c3)).heap[w.heap.size + 2]? = some (.cells zc 42 (0, 0))) :=
    (((Below.refl (w.heap.size + 3) w1).alloc hz1 _).block _ (by omega)).trans ((b.block _ (by rw [HS.out]; omega)).trans HZ.out)
  have BB : Below w.heap.size w (w1.alloc (bx Y o1 o3 c1 c3)) := bal (HB.out.trans (b.mono HB.out.size)) _
  have R := Lib.hid (store_box' Q1.out (c8 Y (.slice o1 Y.l.length c1) (.slice o3 Y.ks.length c3)) rfl)
  have BW := Lib.hid (below_setRow BB (by omega : w.heap.size ≤ w.heap.size + 2) (over zc (c8 Y (.slice o1 Y.l.length c1) (.slice o3 Y.ks.length c3))))
  have OK := Lib.hid (OY.keptP (w' := ((w1.alloc (bx Y o1 o3 c1 c3)).setRow (w.heap.size + 2) (over zc (c8 Y (.slice o1 Y.l.length c1) (.slice o3 Y.ks.length c3))))) (P' := Fr w ((w1.alloc (bx Y o1 o3 c1 c3)).setRow (w.heap.size + 2) (over zc (c8 Y (.slice o1 Y.l.length c1) (.slice o3 Y.ks.length c3))))) fun k hk => by
    have hk1 := hk.1
    rw [HS.out] at hk1
    refine ⟨⟨by omega, by simp [World.setRow]; have := hk.2; omega⟩, ?_⟩
    exact (setRow_other (w1.alloc (bx Y o1 o3 c1 c3)) (w.heap.size + 2) _ k (by omega)).trans (Below.heap_alloc w1 _ k hk.2))
  have h8 : w1.heap.size < w1.heap.size + 1 := Nat.lt_succ_self _
  clear b BB OY
  go_upto_region 2 with (fail)
  go_wp2_with ((with_reducible refine wpList_store_at rfl 42 (.tmp 4) (.tmp 14) rfl (w.heap.size + 2) 0 rfl _ rfl 42 zc Q1.out ?st1 ?st2 ?st3 ?st4); case' st4 => generalize World.setRow _ _ _ = w5 at *)
  case st1 => simp
  case st2 => have := size42; simpa using this
  case st3 => simp [Value.oneCell']
  obtain ⟨p0, p1, p2, p3, p4, p5, p6, p7⟩ := cells8 (show w5.heap[w.heap.size + 2]? = some (.cells (c8 Y (.slice o1 Y.l.length c1) (.slice o3 Y.ks.length c3)) 42 (0, 0)) from R.out)
  exact bodyPost_ret (v := vv Y.k Y.i Y.s (.slice o1 Y.l.length c1) (.slice o3 Y.ks.length c3) Y.tk Y.to Y.x) (by simp [results, Tryd.results69, go_sem, p0, p1, p2, p3, p4, p5, p6, p7]) rfl ⟨o1, o3, c1, c3, cc, rfl, OK.out, BW.out⟩
set_option maxRecDepth 100000 in
set_option maxHeartbeats 2000000 in
theorem rsameE_any (N : Nat) : ∀ (n : Nat) (V : Val) (a b : Value) (w : World), sz V ≤ N → Lies n w V a → Lies n w V b → n ≤ w.heap.size →
    Calls Tryd.prog 24 #[a, b, .bool true] w fun e w' => e = .returned (.bool true) ∧ Below w.heap.size w w' := by
  induction N with
  | zero => intro n V a b w hs; have := sz_pos V; omega
  | succ N ih =>
    intro n V a b w hs ha hb hn
    obtain ⟨oL, oK, cL, cK, c, rfl, O⟩ := ha.inv
    obtain ⟨oL', oK', cL', cK', c', rfl, O'⟩ := hb.inv
    have IH := Lib.hid ih
    have l1 := O.L.1
    have l2 := O.L.2.1
    have l3 := O.K.1
    have l4 := O.K.2.1
    have ws := O.ws
    unfold maxLen at l2 l4 ws
    have hl := sz_l V
    have HB := Lib.hid ((Hd.made w V (.slice oL V.l.length cL) (.slice oK V.ks.length cK)).kept ((Below.refl (w.heap.size + 1) _).alloc (by simp) (bx V oL' oK' cL' cK')) (Nat.lt_succ_self _))
    have HB' : Hid (Hd ((w.alloc (bx V oL oK cL cK)).alloc (bx V oL' oK' cL' cK')) (w.heap.size + 1) V (.slice oL' V.l.length cL') (.slice oK' V.ks.length cK')) := by have := Hd.made (w.alloc (bx V oL oK cL cK)) V (.slice oL' V.l.length cL') (.slice oK' V.ks.length cK'); rw [World.size_alloc] at this; exact this
    have HW := Lib.hid (((Below.refl w.heap.size w).alloc (Nat.le_refl _) (bx V oL oK cL cK)).alloc (by simp) (bx V oL' oK' cL' cK'))
    have HZ : Hid (((w.alloc (bx V oL oK cL cK)).alloc (bx V oL' oK' cL' cK')).heap.size = w.heap.size + 2) := by simp [Hid]
    have H := Lib.hid (And.intro (O.kept (HW.out.mono hn)) (O'.kept (HW.out.mono hn)))
    clear ha hb ih O O'
    go_enter Tryd.func24, Tryd.ntmps24
    go_wp2_with fail
    generalize (w.alloc _).alloc _ = w0 at *
    go_loopw [7] (fun i wr => ∃ j : Nat, j ≤ V.ks.length ∧ i = .int .i64 j ∧ Hid (Below (w.heap.size + 2) w0 wr)) (fun i _ => V.ks.length - (intOf i).toNat)
    case atStart => exact ⟨0, by omega, rfl, Below.refl _ _⟩
    case round =>
      obtain ⟨j, hj, rfl, hbr⟩ := hrel
      obtain ⟨x8, x0, x1, x2, x3, x4, x5, x6, x7⟩ := HB.out.kept hbr.out (by omega)
      obtain ⟨z8, z0, z1, z2, z3, z4, z5, z6, z7⟩ := HB'.out.kept hbr.out (by omega)
      by_cases hlt : j < V.ks.length
      · obtain ⟨b, off, e1, hb, y0⟩ := (H.out.1.K.below (hbr.out.mono (by omega))).key hlt
        obtain ⟨b', off', e1', hb', y0'⟩ := (H.out.2.K.below (hbr.out.mono (by omega))).key hlt
        subst e1 e1'
        have HBR := hbr
        clear hbr
        go_wp2_with fail
        go_quiet (fail)
        go_wp2_with fail
        go_roundw
        case rel => exact ⟨j + 1, by omega, by go_num, below_drewN HBR.out _⟩
        case measure => simp [intOf]; omega
      · go_wp2_with fail
        clear x8 x0 x1 x2 x3 x4 x5 x6 x7 z8 z0 z1 z2 z3 z4 z5 z6 z7
        have HBR := hbr
        clear hbr
        go_loopw [8] (fun i wr => ∃ j : Nat, j ≤ V.l.length ∧ i = .int .i64 j ∧ Hid (Below (w.heap.size + 2) w0 wr)) (fun i _ => V.l.length - (intOf i).toNat)
        case atStart => exact ⟨0, by omega, rfl, HBR⟩
        case round =>
          obtain ⟨j2, hj2, rfl, hbr⟩ := hrel
          obtain ⟨x8, x0, x1, x2, x3, x4, x5, x6, x7⟩ := HB.out.kept hbr.out (by omega)
          obtain ⟨z8, z0, z1, z2, z3, z4, z5, z6, z7⟩ := HB'.out.kept hbr.out (by omega)
          by_cases hlt2 : j2 < V.l.length
          · have hO := H.out.1.kept (hbr.out.mono (by omega))
            have hO' := H.out.2.kept (hbr.out.mono (by omega))
            obtain ⟨X, hX⟩ : ∃ X, V.l[j2]? = some X := ⟨_, List.getElem?_eq_getElem hlt2⟩
            obtain ⟨b, off, oL3, oK3, cL3, cK3, c3, e1, hb, ⟨y0, y1, y2, y3, y4, y5, y6, y7⟩, OX⟩ := hO.L.elv hlt2 (hO.el j2 X hX)
            obtain ⟨b', off', oL3', oK3', cL3', cK3', c3', e1', hb', ⟨u0, u1, u2, u3, u4, u5, u6, u7⟩, OX'⟩ := hO'.L.elv hlt2 (hO'.el j2 X hX)
            have hmem := sz_mem (List.mem_of_getElem? hX)
            have OX2 := Lib.hid (And.intro OX OX')
            have HBR := hbr
            subst e1 e1'
            clear hX OX OX' hO hO' hbr
            go_wp2_with fail
            go_still_tail 11, (by kernel_rfl)
            change wpList _ _ _ _ _ wr.drew
            go_wp2_with fail
            with_reducible refine (IH.out n X _ _ _ (by omega) (OX2.out.1.kept ((Below.refl n wr).drew)).lies (OX2.out.2.kept ((Below.refl n wr).drew)).lies (by have := HBR.out.size; have := HZ.out; simp; omega)).mono ?_
            rintro e w2 ⟨rfl, b2⟩
            have B2 := Lib.hid (HBR.out.drew.trans (b2.mono (by have := HBR.out.size; have := HZ.out; simp; omega)))
            clear b2
            go_wp2_with fail
            go_roundw
            case rel => exact ⟨j2 + 1, by omega, by go_num, B2⟩
            case measure => simp [intOf]; omega
          · go_wp2_with fail
            go_ret
            exact ⟨rfl, HW.out.trans (hbr.out.mono (by omega))⟩
end Go.Proofs.YtfmgbhaldakpfaaDoor

/- changed, Changed of values whose elements are small. -/
namespace Go.Proofs.YtfmgbhaldakpfaaDoor
open Go.RowKit

set_option maxHeartbeats 16000000 in
set_option maxRecDepth 100000 in
theorem changedE_any {n : Nat} {A B : Val} {va vb : Value} {w : World} (t : ByteArray) (hsA : ∀ (j : Nat) (x : Val), A.l[j]? = some x → sz x ≤ 60000) (hsB : ∀ (j : Nat) (x : Val), B.l[j]? = some x → sz x ≤ 60000) (hkA : A.k = 5 → A.ks.length = A.l.length) (hkB : B.k = 5 → B.ks.length = B.l.length) (hA : Lies n w A va) (hB : Lies n w B vb) (hn : n ≤ w.heap.size) (hT : Tab w) :
    Calls Tryd.prog 49 #[.string t, va, vb] w (ChPost ((attrs t).filter (chB A B)) w) := by
  obtain ⟨oLa, oKa, cLa, cKa, ca, rfl, OA⟩ := hA.inv
  obtain ⟨oLb, oKb, cLb, cKb, cb, rfl, OB⟩ := hB.inv
  have b0 : Below w.heap.size w ((w.alloc (bx A oLa oKa cLa cKa)).alloc (bx B oLb oKb cLb cKb)) := bal (bal (Below.refl _ _) _) _
  have HB0 := Lib.hid b0
  have LA := Lib.hid (OA.kept (b0.mono hn)).lies
  have LB := Lib.hid (OB.kept (b0.mono hn)).lies
  have XA := Lib.hid ((Hd.made w A (.slice oLa A.l.length cLa) (.slice oKa A.ks.length cKa)).kept ((Below.refl (w.heap.size + 1) _).alloc (by simp) (bx B oLb oKb cLb cKb)) (Nat.lt_succ_self _))
  have XB : Hid (Hd ((w.alloc (bx A oLa oKa cLa cKa)).alloc (bx B oLb oKb cLb cKb)) (w.heap.size + 1) B (.slice oLb B.l.length cLb) (.slice oKb B.ks.length cKb)) := by have := Hd.made (w.alloc (bx A oLa oKa cLa cKa)) B (.slice oLb B.l.length cLb) (.slice oKb B.ks.length cKb); rw [World.size_alloc] at this; exact this
  have HS : Hid (((w.alloc (bx A oLa oKa cLa cKa)).alloc (bx B oLb oKb cLb cKb)).heap.size = w.heap.size + 2) := by simp [Hid]
  have HAt := Lib.hid (attrs2_any t ((w.alloc (bx A oLa oKa cLa cKa)).alloc (bx B oLb oKb cLb cKb)) (hT.below b0 hT.lt))
  have CEA : Hid (∀ (a : Atr) (W : World), Below w.heap.size ((w.alloc (bx A oLa oKa cLa cKa)).alloc (bx B oLb oKb cLb cKb)) W → Calls Tryd.prog 69 #[vv A.k A.i A.s (.slice oLa A.l.length cLa) (.slice oKa A.ks.length cKa) A.tk A.to A.x, av a] W (VPost (elt A a.nm) W)) := fun a W hW => elementE_any a hsA hkA (LA.out.kept (hW.mono hn)) (by have := hW.size; simp at this; omega)
  have CEB : Hid (∀ (a : Atr) (W : World), Below w.heap.size ((w.alloc (bx A oLa oKa cLa cKa)).alloc (bx B oLb oKb cLb cKb)) W → Calls Tryd.prog 69 #[vv B.k B.i B.s (.slice oLb B.l.length cLb) (.slice oKb B.ks.length cKb) B.tk B.to B.x, av a] W (VPost (elt B a.nm) W)) := fun a W hW => elementE_any a hsB hkB (LB.out.kept (hW.mono hn)) (by have := hW.size; simp at this; omega)
  have CLK : Hid (∀ (X Y : Val) (Wa W0 W1 : World) (p1 p3 q1 q3 : Option Addr) (d1 d3 e1 e3 : Nat) (dd ee : Nat → Nat → Value), OpnP (Fr Wa W0) W0 X p1 p3 d1 d3 dd → Below W0.heap.size W0 W1 → OpnP (Fr W0 W1) W1 Y q1 q3 e1 e3 ee → Calls Tryd.prog 68 #[vv X.k X.i X.s (.slice p1 X.l.length d1) (.slice p3 X.ks.length d3) X.tk X.to X.x, vv Y.k Y.i Y.s (.slice q1 Y.l.length e1) (.slice q3 Y.ks.length e3) Y.tk Y.to Y.x] W1 fun e w' => e = .returned (.bool (likeV X Y)) ∧ Below W1.heap.size W1 w') :=
    fun X Y Wa W0 W1 p1 p3 q1 q3 d1 d3 e1 e3 dd ee hX hb hY => like_any (sz X + sz Y) W1.heap.size X Y _ _ W1 (Nat.le_refl _) (((hX.mono (P' := fun b => b < W0.heap.size) fun b hb => hb.2).kept hb).lies.mono fun b h2 => Nat.lt_of_lt_of_le h2 hb.size) (hY.mono (P' := fun b => b < W1.heap.size) fun b hb => hb.2).lies (Nat.le_refl _)
  have HL19 := attrs_len t
  obtain ⟨i31, hi, hzz⟩ := Option.map_eq_some_iff.1 info31
  simp only [Prod.mk.injEq] at hzz
  obtain ⟨hz, hs1, hb1'⟩ := hzz
  clear hA hB OA OB b0 hT hkA hkB hsA hsB
  generalize attrs t = l at *
  go_enter Tryd.func49, Tryd.ntmps49
  go_upto_region 1 with (fail)
  generalize (w.alloc _).alloc _ = w0 at *
  have hwl : w.heap.size < w0.heap.size := by rw [HS.out]; omega
  have hwl2 : w.heap.size + 1 < w0.heap.size := by rw [HS.out]; omega
  go_wp2_with fail
  refine HAt.out.mono ?_
  rintro e w1 ⟨o, cap, xe, rfl, hR, hb1⟩
  have B1 := Lib.hid hb1
  have HR := Lib.hid (hR.mono (P' := fun b => b < w1.heap.size) fun b hb => hb.2)
  clear hb1 hR HAt
  have k1 := HR.out.1
  have k2 := HR.out.2.1
  unfold maxLen at k2
  have hz1 := B1.out.size
  have HA0 : Hid (PcRel l (chB A B) w1 0 (.slice none 0 0) w1) := ⟨World.ownsRow_nil _ _ _ _, Below.refl _ _⟩
  go_wp2_with fail
  go_loopw [9, 19] (fun x i wr => ∃ (j : Nat) (v : Value), j ≤ l.length ∧ i = .int .i64 j ∧ x = v ∧ Hid (PcRel l (chB A B) w1 j v wr)) (fun _ i _ => l.length - (intOf i).toNat)
  case atStart => exact ⟨0, _, Nat.zero_le _, rfl, rfl, HA0⟩
  case round =>
    obtain ⟨j, v, hj, rfl, hv, HRel⟩ := hrel
    obtain rfl := hv.symm
    have hzr := HRel.out.2.size
    have BR := Lib.hid (B1.out.trans (HRel.out.2.mono hz1))
    by_cases hlt : j < l.length
    · obtain ⟨b1, off1, rfl, hb1, E1⟩ := AtRow.el (RowP.below HR.out HRel.out.2) hlt
      have HST := Lib.hid (fun (w2 w3 : World) (nn g cc : Nat) hp hn hb hown hg => PcRel.step (w2 := w2) (w3 := w3) (n := nn) (g := g) (cap := cc) HRel.out hlt hp hn hb hown hg)
      have HSK := Lib.hid (fun (w2 : World) hp hb => PcRel.skip (w2 := w2) HRel.out hlt hp hb)
      obtain ⟨a, ha⟩ : ∃ a, aa l j = a := ⟨_, rfl⟩
      rw [ha] at E1 HST HSK
      clear ha
      obtain ⟨nm, tk, t2, nd, cm, an, ow⟩ := a
      obtain ⟨y0, y1, y2, y3, y4, y5, y6⟩ := E1
      have hlt' : (j : Int) < (l.length : Int) := by omega
      have BW := Lib.hid (bal (Below.refl wr.heap.size wr) (.cells (ac ⟨nm, tk, t2, nd, cm, an, ow⟩) 31))
      have BA := Lib.hid (BR.out.trans (BW.out.mono BR.out.size))
      have HAc := Lib.hid (rc7 (heap_alloc_new wr (.cells (ac ⟨nm, tk, t2, nd, cm, an, ow⟩) 31)))
      have HZ3 : Hid ((wr.alloc (.cells (ac ⟨nm, tk, t2, nd, cm, an, ow⟩) 31)).heap.size = wr.heap.size + 1) := by simp [Hid]
      have HCH : Hid (chB A B ⟨nm, tk, t2, nd, cm, an, ow⟩ = (!cm && !likeV (elt A nm) (elt B nm))) := rfl
      have CA1 := Lib.hid (CEA.out ⟨nm, tk, t2, nd, cm, an, ow⟩)
      have CB1 := Lib.hid (CEB.out ⟨nm, tk, t2, nd, cm, an, ow⟩)
      have CL1 := Lib.hid (CLK.out (elt A nm) (elt B nm))
      change Hid (∀ (W : World), Below w.heap.size w0 W → Calls Tryd.prog 69 _ W (VPost (elt A nm) W)) at CA1
      change Hid (∀ (W : World), Below w.heap.size w0 W → Calls Tryd.prog 69 _ W (VPost (elt B nm) W)) at CB1
      generalize elt A nm = X at *
      generalize elt B nm = Y at *
      obtain ⟨lk, hlk⟩ : ∃ b, likeV X Y = b := ⟨_, rfl⟩
      rw [hlk] at HCH CL1
      clear hlk
      go_upto_region 6 with (fail)
      clear y0 y1 y2 y3 y4 y5 y6
      generalize World.alloc wr _ = w2 at *
      obtain ⟨x8, x0, x1, x2, x3, x4, x5, x6, x7⟩ := XA.out.kept BA.out hwl
      obtain ⟨z8, z0, z1, z2, z3, z4, z5, z6, z7⟩ := XB.out.kept BA.out hwl2
      obtain ⟨a0, a1, a2, a3, a4, a5, a6, a7⟩ := HAc.out
      obtain ⟨N, hN⟩ : ∃ N, N = w2.heap.size := ⟨_, rfl⟩
      have S0 := held_at hN
      have lA : w.heap.size < N := by rw [hN, HZ3.out]; have := BR.out.size; omega
      have lB : w.heap.size + 1 < N := by rw [hN, HZ3.out]; have := BR.out.size; omega
      have lC : wr.heap.size < N := by rw [hN, HZ3.out]; omega
      have HN := Lib.hid hN
      have LW : Hid (∀ W, Below N w2 W → Below w.heap.size w0 W) := fun W hW => (BA.out.mono (Nat.le_of_lt hwl)).trans (hW.mono (Nat.le_of_lt lA))
      clear hN
      cases cm with
      | true =>
        have HP : Hid (chB A B ⟨nm, tk, t2, nd, true, an, ow⟩ = false) := HCH.out
        refine wp_region_noPanic ?_
        refine wp_region_held_drew (S := (fun W => (∀ b o, b < N → W.cell? ⟨b, o, none⟩ = w2.cell? ⟨b, o, none⟩) ∧ Hid (Below N w2 W) ∧ Hid (N ≤ W.heap.size))) (by kernel_rfl) ?_ (fun hH => ?_)
        · exact S0
        refine wpAnyH_take (i := 0) (oi := { dst := some 23, op := Op.fieldAddr 31 (Operand.tmp 11) 3, type := 0, pos := "change.go:31", after := #[], guard := none }) (v := ?_) rfl (by kernel_rfl) (by kernel_rfl) (by kernel_rfl) (fun _ _ _ h => h) (Or.inl ⟨by rfl, ?_⟩) (by assumption) ?_
        rotate_left
        · (intro w hSw; (try dsimp only at hSw); go_simp; try with_reducible rfl)
        try simp only [Act.put, List.setIfInBounds_toArray, List.set_cons_zero, List.set_cons_succ]
        refine wpAnyH_take (i := 1) (oi := { dst := some 24, op := Op.load 4 (Operand.tmp 23), type := 4, pos := "change.go:31", after := #[{ on := 0, ground := Ground.data }], guard := none }) (v := ?_) rfl (by kernel_rfl) (by kernel_rfl) (by kernel_rfl) (fun _ _ _ h => h) (Or.inl ⟨by rfl, ?_⟩) (by assumption) ?_
        rotate_left
        · (intro w hSw; (try dsimp only at hSw); go_simp; try with_reducible rfl)
        try simp only [Act.put, List.setIfInBounds_toArray, List.set_cons_zero, List.set_cons_succ]
        refine wpAnyH_take (i := 2) (oi := { dst := some 25, op := Op.unOp UnOp.not 4 (Operand.tmp 24), type := 4, pos := "change.go:31", after := #[{ on := 1, ground := Ground.data }], guard := none }) (v := ?_) rfl (by kernel_rfl) (by kernel_rfl) (by kernel_rfl) (fun _ _ _ h => h) (Or.inl ⟨by rfl, ?_⟩) (by assumption) ?_
        rotate_left
        · (intro w hSw; (try dsimp only at hSw); go_simp; try with_reducible rfl)
        try simp only [Act.put, List.setIfInBounds_toArray, List.set_cons_zero, List.set_cons_succ]
        refine wpAnyH_take (i := 3) (oi := { dst := some 26, op := Op.move (Operand.tmp 25), type := 4, pos := "change.go:31", after := #[{ on := 2, ground := Ground.data }], guard := none }) (v := ?_) rfl (by kernel_rfl) (by kernel_rfl) (by kernel_rfl) (fun _ _ _ h => h) (Or.inl ⟨by rfl, ?_⟩) (by assumption) ?_
        rotate_left
        · (intro w hSw; (try dsimp only at hSw); go_simp; try with_reducible rfl)
        try simp only [Act.put, List.setIfInBounds_toArray, List.set_cons_zero, List.set_cons_succ]
        refine wpAnyH_take (i := 4) (oi := { dst := some 27, op := Op.load 42 (Operand.tmp 4), type := 42, pos := "change.go:31", after := #[{ on := 3, ground := Ground.guard }], guard := some (3, true) }) (v := undef) rfl (by kernel_rfl) (by kernel_rfl) (by kernel_rfl) (fun _ _ _ h => h) (Or.inr ⟨by rfl, rfl⟩) (by assumption) ?_
        try simp only [Act.put, List.setIfInBounds_toArray, List.set_cons_zero, List.set_cons_succ]
        refine wpAnyH_take (i := 5) (oi := { dst := some 28, op := Op.load 31 (Operand.tmp 11), type := 31, pos := "change.go:31", after := #[{ on := 3, ground := Ground.guard }], guard := some (3, true) }) (v := undef) rfl (by kernel_rfl) (by kernel_rfl) (by kernel_rfl) (fun _ _ _ h => h) (Or.inr ⟨by rfl, rfl⟩) (by assumption) ?_
        try simp only [Act.put, List.setIfInBounds_toArray, List.set_cons_zero, List.set_cons_succ]
        refine wpAnyH_take (i := 6) (oi := { dst := some 29, op := Op.call { callee := Callee.value (Operand.func 69), args := #[Operand.tmp 27, Operand.tmp 28], argTypes := #[42, 31] }, type := 42, pos := "change.go:31", after := #[{ on := 4, ground := Ground.data }, { on := 5, ground := Ground.data }, { on := 3, ground := Ground.chain }, { on := 3, ground := Ground.guard }], guard := some (3, true) }) (v := undef) rfl (by kernel_rfl) (by kernel_rfl) (by kernel_rfl) (fun _ _ _ h => h) (Or.inr ⟨by rfl, rfl⟩) (by assumption) ?_
        try simp only [Act.put, List.setIfInBounds_toArray, List.set_cons_zero, List.set_cons_succ]
        refine wpAnyH_take (i := 7) (oi := { dst := some 30, op := Op.load 42 (Operand.tmp 5), type := 42, pos := "change.go:31", after := #[{ on := 3, ground := Ground.guard }], guard := some (3, true) }) (v := undef) rfl (by kernel_rfl) (by kernel_rfl) (by kernel_rfl) (fun _ _ _ h => h) (Or.inr ⟨by rfl, rfl⟩) (by assumption) ?_
        try simp only [Act.put, List.setIfInBounds_toArray, List.set_cons_zero, List.set_cons_succ]
        refine wpAnyH_take (i := 8) (oi := { dst := some 31, op := Op.load 31 (Operand.tmp 11), type := 31, pos := "change.go:31", after := #[{ on := 3, ground := Ground.guard }], guard := some (3, true) }) (v := undef) rfl (by kernel_rfl) (by kernel_rfl) (by kernel_rfl) (fun _ _ _ h => h) (Or.inr ⟨by rfl, rfl⟩) (by assumption) ?_
        try simp only [Act.put, List.setIfInBounds_toArray, List.set_cons_zero, List.set_cons_succ]
        refine wpAnyH_take (i := 9) (oi := { dst := some 32, op := Op.call { callee := Callee.value (Operand.func 69), args := #[Operand.tmp 30, Operand.tmp 31], argTypes := #[42, 31] }, type := 42, pos := "change.go:31", after := #[{ on := 7, ground := Ground.data }, { on := 8, ground := Ground.data }, { on := 6, ground := Ground.chain }, { on := 3, ground := Ground.guard }], guard := some (3, true) }) (v := undef) rfl (by kernel_rfl) (by kernel_rfl) (by kernel_rfl) (fun _ _ _ h => h) (Or.inr ⟨by rfl, rfl⟩) (by assumption) ?_
        try simp only [Act.put, List.setIfInBounds_toArray, List.set_cons_zero, List.set_cons_succ]
        refine wpAnyH_take (i := 10) (oi := { dst := some 33, op := Op.call { callee := Callee.value (Operand.func 68), args := #[Operand.tmp 29, Operand.tmp 32], argTypes := #[42, 42] }, type := 4, pos := "change.go:31", after := #[{ on := 6, ground := Ground.data }, { on := 9, ground := Ground.data }, { on := 9, ground := Ground.chain }, { on := 3, ground := Ground.guard }], guard := some (3, true) }) (v := undef) rfl (by kernel_rfl) (by kernel_rfl) (by kernel_rfl) (fun _ _ _ h => h) (Or.inr ⟨by rfl, rfl⟩) (by assumption) ?_
        try simp only [Act.put, List.setIfInBounds_toArray, List.set_cons_zero, List.set_cons_succ]
        refine wpAnyH_take (i := 11) (oi := { dst := some 34, op := Op.unOp UnOp.not 4 (Operand.tmp 33), type := 4, pos := "change.go:31", after := #[{ on := 10, ground := Ground.data }, { on := 3, ground := Ground.guard }], guard := some (3, true) }) (v := undef) rfl (by kernel_rfl) (by kernel_rfl) (by kernel_rfl) (fun _ _ _ h => h) (Or.inr ⟨by rfl, rfl⟩) (by assumption) ?_
        try simp only [Act.put, List.setIfInBounds_toArray, List.set_cons_zero, List.set_cons_succ]
        refine wpAnyH_take (i := 12) (oi := { dst := some 35, op := Op.pick (Operand.tmp 26) (Operand.tmp 34) (Operand.const (Value.bool false)), type := 4, pos := "change.go:31", after := #[{ on := 3, ground := Ground.data }, { on := 11, ground := Ground.data }], guard := none }) (v := ?_) rfl (by kernel_rfl) (by kernel_rfl) (by kernel_rfl) (fun _ _ _ h => h) (Or.inl ⟨by rfl, ?_⟩) (by assumption) ?_
        rotate_left
        · (intro w hSw; (try dsimp only at hSw); go_simp; try with_reducible rfl)
        try simp only [Act.put, List.setIfInBounds_toArray, List.set_cons_zero, List.set_cons_succ]
        refine wpAnyH_done (by kernel_rfl) ?_ _
        refine NoPanic.normal ?_
        have BZ := Lib.hid (BW.out.trans (hH.2.1.out.mono (by rw [HN.out, HZ3.out]; omega)) : Below wr.heap.size wr _)
        clear S0 hH x0 x1 x2 x3 x4 x5 x6 x7 z0 z1 z2 z3 z4 z5 z6 z7 a0 a1 a2 a3 a4 a5 a6
        go_wp2_with fail
        go_roundw
        case rel => exact ⟨j + 1, _, by omega, by go_num, rfl, HSK.out _ HP.out BZ.out⟩
        case measure => simp [intOf]; omega
      | false =>
        cases lk with
        | true =>
          have HP : Hid (chB A B ⟨nm, tk, t2, nd, false, an, ow⟩ = false) := HCH.out
          refine wp_region_noPanic ?_
          refine wp_region_held_drew (S := (fun W => (∀ b o, b < N → W.cell? ⟨b, o, none⟩ = w2.cell? ⟨b, o, none⟩) ∧ Hid (Below N w2 W) ∧ Hid (N ≤ W.heap.size))) (by kernel_rfl) ?_ (fun hH => ?_)
          · exact S0
          refine wpAnyH_take (i := 0) (oi := { dst := some 23, op := Op.fieldAddr 31 (Operand.tmp 11) 3, type := 0, pos := "change.go:31", after := #[], guard := none }) (v := ?_) rfl (by kernel_rfl) (by kernel_rfl) (by kernel_rfl) (fun _ _ _ h => h) (Or.inl ⟨by rfl, ?_⟩) (by assumption) ?_
          rotate_left
          · (intro w hSw; (try dsimp only at hSw); go_simp; try with_reducible rfl)
          try simp only [Act.put, List.setIfInBounds_toArray, List.set_cons_zero, List.set_cons_succ]
          refine wpAnyH_take (i := 1) (oi := { dst := some 24, op := Op.load 4 (Operand.tmp 23), type := 4, pos := "change.go:31", after := #[{ on := 0, ground := Ground.data }], guard := none }) (v := ?_) rfl (by kernel_rfl) (by kernel_rfl) (by kernel_rfl) (fun _ _ _ h => h) (Or.inl ⟨by rfl, ?_⟩) (by assumption) ?_
          rotate_left
          · (intro w hSw; (try dsimp only at hSw); go_simp; try with_reducible rfl)
          try simp only [Act.put, List.setIfInBounds_toArray, List.set_cons_zero, List.set_cons_succ]
          refine wpAnyH_take (i := 2) (oi := { dst := some 25, op := Op.unOp UnOp.not 4 (Operand.tmp 24), type := 4, pos := "change.go:31", after := #[{ on := 1, ground := Ground.data }], guard := none }) (v := ?_) rfl (by kernel_rfl) (by kernel_rfl) (by kernel_rfl) (fun _ _ _ h => h) (Or.inl ⟨by rfl, ?_⟩) (by assumption) ?_
          rotate_left
          · (intro w hSw; (try dsimp only at hSw); go_simp; try with_reducible rfl)
          try simp only [Act.put, List.setIfInBounds_toArray, List.set_cons_zero, List.set_cons_succ]
          refine wpAnyH_take (i := 3) (oi := { dst := some 26, op := Op.move (Operand.tmp 25), type := 4, pos := "change.go:31", after := #[{ on := 2, ground := Ground.data }], guard := none }) (v := ?_) rfl (by kernel_rfl) (by kernel_rfl) (by kernel_rfl) (fun _ _ _ h => h) (Or.inl ⟨by rfl, ?_⟩) (by assumption) ?_
          rotate_left
          · (intro w hSw; (try dsimp only at hSw); go_simp; try with_reducible rfl)
          try simp only [Act.put, List.setIfInBounds_toArray, List.set_cons_zero, List.set_cons_succ]
          refine wpAnyH_take (i := 4) (oi := { dst := some 27, op := Op.load 42 (Operand.tmp 4), type := 42, pos := "change.go:31", after := #[{ on := 3, ground := Ground.guard }], guard := some (3, true) }) (v := ?_) rfl (by kernel_rfl) (by kernel_rfl) (by kernel_rfl) (fun _ _ _ h => h) (Or.inl ⟨by rfl, ?_⟩) (by assumption) ?_
          rotate_left
          · (intro w hSw; (try dsimp only at hSw); go_simp; try with_reducible rfl)
          try simp only [Act.put, List.setIfInBounds_toArray, List.set_cons_zero, List.set_cons_succ]
          refine wpAnyH_take (i := 5) (oi := { dst := some 28, op := Op.load 31 (Operand.tmp 11), type := 31, pos := "change.go:31", after := #[{ on := 3, ground := Ground.guard }], guard := some (3, true) }) (v := ?_) rfl (by kernel_rfl) (by kernel_rfl) (by kernel_rfl) (fun _ _ _ h => h) (Or.inl ⟨by rfl, ?_⟩) (by assumption) ?_
          rotate_left
          · (intro w hSw; (try dsimp only at hSw); go_simp; try with_reducible rfl)
          try simp only [Act.put, List.setIfInBounds_toArray, List.set_cons_zero, List.set_cons_succ]
          refine wpAnyH_take (i := 7) (oi := { dst := some 30, op := Op.load 42 (Operand.tmp 5), type := 42, pos := "change.go:31", after := #[{ on := 3, ground := Ground.guard }], guard := some (3, true) }) (v := ?_) rfl (by kernel_rfl) (by kernel_rfl) (by kernel_rfl) (fun _ _ _ h => h) (Or.inl ⟨by rfl, ?_⟩) (by assumption) ?_
          rotate_left
          · (intro w hSw; (try dsimp only at hSw); go_simp; try with_reducible rfl)
          try simp only [Act.put, List.setIfInBounds_toArray, List.set_cons_zero, List.set_cons_succ]
          refine wpAnyH_take (i := 8) (oi := { dst := some 31, op := Op.load 31 (Operand.tmp 11), type := 31, pos := "change.go:31", after := #[{ on := 3, ground := Ground.guard }], guard := some (3, true) }) (v := ?_) rfl (by kernel_rfl) (by kernel_rfl) (by kernel_rfl) (fun _ _ _ h => h) (Or.inl ⟨by rfl, ?_⟩) (by assumption) ?_
          rotate_left
          · (intro w hSw; (try dsimp only at hSw); go_simp; try with_reducible rfl)
          try simp only [Act.put, List.setIfInBounds_toArray, List.set_cons_zero, List.set_cons_succ]
          refine wpAnyH_ready (rs := [6]) (by kernel_rfl) (by simp) ?_
          refine AllReadyH.cons (o := { dst := some 29, op := Op.call { callee := Callee.value (Operand.func 69), args := #[Operand.tmp 27, Operand.tmp 28], argTypes := #[42, 31] }, type := 42, pos := "change.go:31", after := #[{ on := 4, ground := Ground.data }, { on := 5, ground := Ground.data }, { on := 3, ground := Ground.chain }, { on := 3, ground := Ground.guard }], guard := some (3, true) }) rfl (fun K hK => ?_) AllReadyH.nil
          go_simp
          refine (CA1.out _ (LW.out _ hH.2.1.out)).mono ?_
          rintro e W_0 ⟨p1, p3, d1, d3, dd, rfl, OX, b⟩
          refine hK.out _ _ ?_ (fun hH' => ?_)
          · exact held_next (by assumption) hH
          clear hK K hH
          have hH := hH'
          clear hH'
          try simp only [Act.put, List.setIfInBounds_toArray, List.set_cons_zero, List.set_cons_succ]
          refine wpAnyH_ready (rs := [9]) (by kernel_rfl) (by simp) ?_
          refine AllReadyH.cons (o := { dst := some 32, op := Op.call { callee := Callee.value (Operand.func 69), args := #[Operand.tmp 30, Operand.tmp 31], argTypes := #[42, 31] }, type := 42, pos := "change.go:31", after := #[{ on := 7, ground := Ground.data }, { on := 8, ground := Ground.data }, { on := 6, ground := Ground.chain }, { on := 3, ground := Ground.guard }], guard := some (3, true) }) rfl (fun K hK => ?_) AllReadyH.nil
          go_simp
          refine (CB1.out _ (LW.out _ hH.2.1.out)).mono ?_
          rintro e W_1 ⟨q1, q3, e1, e3, ee, rfl, OY, b⟩
          refine hK.out _ _ ?_ (fun hH' => ?_)
          · exact held_next (by assumption) hH
          have bXY := b
          clear hK K hH
          have hH := hH'
          clear hH'
          try simp only [Act.put, List.setIfInBounds_toArray, List.set_cons_zero, List.set_cons_succ]
          refine wpAnyH_ready (rs := [10]) (by kernel_rfl) (by simp) ?_
          refine AllReadyH.cons (o := { dst := some 33, op := Op.call { callee := Callee.value (Operand.func 68), args := #[Operand.tmp 29, Operand.tmp 32], argTypes := #[42, 42] }, type := 4, pos := "change.go:31", after := #[{ on := 6, ground := Ground.data }, { on := 9, ground := Ground.data }, { on := 9, ground := Ground.chain }, { on := 3, ground := Ground.guard }], guard := some (3, true) }) rfl (fun K hK => ?_) AllReadyH.nil
          go_simp
          refine (CL1.out _ _ _ _ _ _ _ _ _ _ _ _ _ OX bXY OY).mono ?_
          rintro e W_2 ⟨rfl, b⟩
          refine hK.out _ _ ?_ (fun hH' => ?_)
          · exact held_next (by assumption) hH
          clear hK K hH
          have hH := hH'
          clear hH'
          try simp only [Act.put, List.setIfInBounds_toArray, List.set_cons_zero, List.set_cons_succ]
          refine wpAnyH_take (i := 11) (oi := { dst := some 34, op := Op.unOp UnOp.not 4 (Operand.tmp 33), type := 4, pos := "change.go:31", after := #[{ on := 10, ground := Ground.data }, { on := 3, ground := Ground.guard }], guard := some (3, true) }) (v := ?_) rfl (by kernel_rfl) (by kernel_rfl) (by kernel_rfl) (fun _ _ _ h => h) (Or.inl ⟨by rfl, ?_⟩) (by assumption) ?_
          rotate_left
          · (intro w hSw; (try dsimp only at hSw); go_simp; try with_reducible rfl)
          try simp only [Act.put, List.setIfInBounds_toArray, List.set_cons_zero, List.set_cons_succ]
          refine wpAnyH_take (i := 12) (oi := { dst := some 35, op := Op.pick (Operand.tmp 26) (Operand.tmp 34) (Operand.const (Value.bool false)), type := 4, pos := "change.go:31", after := #[{ on := 3, ground := Ground.data }, { on := 11, ground := Ground.data }], guard := none }) (v := ?_) rfl (by kernel_rfl) (by kernel_rfl) (by kernel_rfl) (fun _ _ _ h => h) (Or.inl ⟨by rfl, ?_⟩) (by assumption) ?_
          rotate_left
          · (intro w hSw; (try dsimp only at hSw); go_simp; try with_reducible rfl)
          try simp only [Act.put, List.setIfInBounds_toArray, List.set_cons_zero, List.set_cons_succ]
          refine wpAnyH_done (by kernel_rfl) ?_ _
          refine NoPanic.normal ?_
          have BZ := Lib.hid (BW.out.trans (hH.2.1.out.mono (by rw [HN.out, HZ3.out]; omega)) : Below wr.heap.size wr _)
          clear S0 hH x0 x1 x2 x3 x4 x5 x6 x7 z0 z1 z2 z3 z4 z5 z6 z7 a0 a1 a2 a3 a4 a5 a6
          go_wp2_with fail
          go_roundw
          case rel => exact ⟨j + 1, _, by omega, by go_num, rfl, HSK.out _ HP.out BZ.out⟩
          case measure => simp [intOf]; omega
        | false =>
          have HP : Hid (chB A B ⟨nm, tk, t2, nd, false, an, ow⟩ = true) := HCH.out
          refine wp_region_noPanic ?_
          refine wp_region_held_drew (S := (fun W => (∀ b o, b < N → W.cell? ⟨b, o, none⟩ = w2.cell? ⟨b, o, none⟩) ∧ Hid (Below N w2 W) ∧ Hid (N ≤ W.heap.size))) (by kernel_rfl) ?_ (fun hH => ?_)
          · exact S0
          refine wpAnyH_take (i := 0) (oi := { dst := some 23, op := Op.fieldAddr 31 (Operand.tmp 11) 3, type := 0, pos := "change.go:31", after := #[], guard := none }) (v := ?_) rfl (by kernel_rfl) (by kernel_rfl) (by kernel_rfl) (fun _ _ _ h => h) (Or.inl ⟨by rfl, ?_⟩) (by assumption) ?_
          rotate_left
          · (intro w hSw; (try dsimp only at hSw); go_simp; try with_reducible rfl)
          try simp only [Act.put, List.setIfInBounds_toArray, List.set_cons_zero, List.set_cons_succ]
          refine wpAnyH_take (i := 1) (oi := { dst := some 24, op := Op.load 4 (Operand.tmp 23), type := 4, pos := "change.go:31", after := #[{ on := 0, ground := Ground.data }], guard := none }) (v := ?_) rfl (by kernel_rfl) (by kernel_rfl) (by kernel_rfl) (fun _ _ _ h => h) (Or.inl ⟨by rfl, ?_⟩) (by assumption) ?_
          rotate_left
          · (intro w hSw; (try dsimp only at hSw); go_simp; try with_reducible rfl)
          try simp only [Act.put, List.setIfInBounds_toArray, List.set_cons_zero, List.set_cons_succ]
          refine wpAnyH_take (i := 2) (oi := { dst := some 25, op := Op.unOp UnOp.not 4 (Operand.tmp 24), type := 4, pos := "change.go:31", after := #[{ on := 1, ground := Ground.data }], guard := none }) (v := ?_) rfl (by kernel_rfl) (by kernel_rfl) (by kernel_rfl) (fun _ _ _ h => h) (Or.inl ⟨by rfl, ?_⟩) (by assumption) ?_
          rotate_left
          · (intro w hSw; (try dsimp only at hSw); go_simp; try with_reducible rfl)
          try simp only [Act.put, List.setIfInBounds_toArray, List.set_cons_zero, List.set_cons_succ]
          refine wpAnyH_take (i := 3) (oi := { dst := some 26, op := Op.move (Operand.tmp 25), type := 4, pos := "change.go:31", after := #[{ on := 2, ground := Ground.data }], guard := none }) (v := ?_) rfl (by kernel_rfl) (by kernel_rfl) (by kernel_rfl) (fun _ _ _ h => h) (Or.inl ⟨by rfl, ?_⟩) (by assumption) ?_
          rotate_left
          · (intro w hSw; (try dsimp only at hSw); go_simp; try with_reducible rfl)
          try simp only [Act.put, List.setIfInBounds_toArray, List.set_cons_zero, List.set_cons_succ]
          refine wpAnyH_take (i := 4) (oi := { dst := some 27, op := Op.load 42 (Operand.tmp 4), type := 42, pos := "change.go:31", after := #[{ on := 3, ground := Ground.guard }], guard := some (3, true) }) (v := ?_) rfl (by kernel_rfl) (by kernel_rfl) (by kernel_rfl) (fun _ _ _ h => h) (Or.inl ⟨by rfl, ?_⟩) (by assumption) ?_
          rotate_left
          · (intro w hSw; (try dsimp only at hSw); go_simp; try with_reducible rfl)
          try simp only [Act.put, List.setIfInBounds_toArray, List.set_cons_zero, List.set_cons_succ]
          refine wpAnyH_take (i := 5) (oi := { dst := some 28, op := Op.load 31 (Operand.tmp 11), type := 31, pos := "change.go:31", after := #[{ on := 3, ground := Ground.guard }], guard := some (3, true) }) (v := ?_) rfl (by kernel_rfl) (by kernel_rfl) (by kernel_rfl) (fun _ _ _ h => h) (Or.inl ⟨by rfl, ?_⟩) (by assumption) ?_
          rotate_left
          · (intro w hSw; (try dsimp only at hSw); go_simp; try with_reducible rfl)
          try simp only [Act.put, List.setIfInBounds_toArray, List.set_cons_zero, List.set_cons_succ]
          refine wpAnyH_take (i := 7) (oi := { dst := some 30, op := Op.load 42 (Operand.tmp 5), type := 42, pos := "change.go:31", after := #[{ on := 3, ground := Ground.guard }], guard := some (3, true) }) (v := ?_) rfl (by kernel_rfl) (by kernel_rfl) (by kernel_rfl) (fun _ _ _ h => h) (Or.inl ⟨by rfl, ?_⟩) (by assumption) ?_
          rotate_left
          · (intro w hSw; (try dsimp only at hSw); go_simp; try with_reducible rfl)
          try simp only [Act.put, List.setIfInBounds_toArray, List.set_cons_zero, List.set_cons_succ]
          refine wpAnyH_take (i := 8) (oi := { dst := some 31, op := Op.load 31 (Operand.tmp 11), type := 31, pos := "change.go:31", after := #[{ on := 3, ground := Ground.guard }], guard := some (3, true) }) (v := ?_) rfl (by kernel_rfl) (by kernel_rfl) (by kernel_rfl) (fun _ _ _ h => h) (Or.inl ⟨by rfl, ?_⟩) (by assumption) ?_
          rotate_left
          · (intro w hSw; (try dsimp only at hSw); go_simp; try with_reducible rfl)
          try simp only [Act.put, List.setIfInBounds_toArray, List.set_cons_zero, List.set_cons_succ]
          refine wpAnyH_ready (rs := [6]) (by kernel_rfl) (by simp) ?_
          refine AllReadyH.cons (o := { dst := some 29, op := Op.call { callee := Callee.value (Operand.func 69), args := #[Operand.tmp 27, Operand.tmp 28], argTypes := #[42, 31] }, type := 42, pos := "change.go:31", after := #[{ on := 4, ground := Ground.data }, { on := 5, ground := Ground.data }, { on := 3, ground := Ground.chain }, { on := 3, ground := Ground.guard }], guard := some (3, true) }) rfl (fun K hK => ?_) AllReadyH.nil
          go_simp
          refine (CA1.out _ (LW.out _ hH.2.1.out)).mono ?_
          rintro e W_0 ⟨p1, p3, d1, d3, dd, rfl, OX, b⟩
          refine hK.out _ _ ?_ (fun hH' => ?_)
          · exact held_next (by assumption) hH
          clear hK K hH
          have hH := hH'
          clear hH'
          try simp only [Act.put, List.setIfInBounds_toArray, List.set_cons_zero, List.set_cons_succ]
          refine wpAnyH_ready (rs := [9]) (by kernel_rfl) (by simp) ?_
          refine AllReadyH.cons (o := { dst := some 32, op := Op.call { callee := Callee.value (Operand.func 69), args := #[Operand.tmp 30, Operand.tmp 31], argTypes := #[42, 31] }, type := 42, pos := "change.go:31", after := #[{ on := 7, ground := Ground.data }, { on := 8, ground := Ground.data }, { on := 6, ground := Ground.chain }, { on := 3, ground := Ground.guard }], guard := some (3, true) }) rfl (fun K hK => ?_) AllReadyH.nil
          go_simp
          refine (CB1.out _ (LW.out _ hH.2.1.out)).mono ?_
          rintro e W_1 ⟨q1, q3, e1, e3, ee, rfl, OY, b⟩
          refine hK.out _ _ ?_ (fun hH' => ?_)
          · exact held_next (by assumption) hH
          have bXY := b
          clear hK K hH
          have hH := hH'
          clear hH'
          try simp only [Act.put, List.setIfInBounds_toArray, List.set_cons_zero, List.set_cons_succ]
          refine wpAnyH_ready (rs := [10]) (by kernel_rfl) (by simp) ?_
          refine AllReadyH.cons (o := { dst := some 33, op := Op.call { callee := Callee.value (Operand.func 68), args := #[Operand.tmp 29, Operand.tmp 32], argTypes := #[42, 42] }, type := 4, pos := "change.go:31", after := #[{ on := 6, ground := Ground.data }, { on := 9, ground := Ground.data }, { on := 9, ground := Ground.chain }, { on := 3, ground := Ground.guard }], guard := some (3, true) }) rfl (fun K hK => ?_) AllReadyH.nil
          go_simp
          refine (CL1.out _ _ _ _ _ _ _ _ _ _ _ _ _ OX bXY OY).mono ?_
          rintro e W_2 ⟨rfl, b⟩
          refine hK.out _ _ ?_ (fun hH' => ?_)
          · exact held_next (by assumption) hH
          clear hK K hH
          have hH := hH'
          clear hH'
          try simp only [Act.put, List.setIfInBounds_toArray, List.set_cons_zero, List.set_cons_succ]
          refine wpAnyH_take (i := 11) (oi := { dst := some 34, op := Op.unOp UnOp.not 4 (Operand.tmp 33), type := 4, pos := "change.go:31", after := #[{ on := 10, ground := Ground.data }, { on := 3, ground := Ground.guard }], guard := some (3, true) }) (v := ?_) rfl (by kernel_rfl) (by kernel_rfl) (by kernel_rfl) (fun _ _ _ h => h) (Or.inl ⟨by rfl, ?_⟩) (by assumption) ?_
          rotate_left
          · (intro w hSw; (try dsimp only at hSw); go_simp; try with_reducible rfl)
          try simp only [Act.put, List.setIfInBounds_toArray, List.set_cons_zero, List.set_cons_succ]
          refine wpAnyH_take (i := 12) (oi := { dst := some 35, op := Op.pick (Operand.tmp 26) (Operand.tmp 34) (Operand.const (Value.bool false)), type := 4, pos := "change.go:31", after := #[{ on := 3, ground := Ground.data }, { on := 11, ground := Ground.data }], guard := none }) (v := ?_) rfl (by kernel_rfl) (by kernel_rfl) (by kernel_rfl) (fun _ _ _ h => h) (Or.inl ⟨by rfl, ?_⟩) (by assumption) ?_
          rotate_left
          · (intro w hSw; (try dsimp only at hSw); go_simp; try with_reducible rfl)
          try simp only [Act.put, List.setIfInBounds_toArray, List.set_cons_zero, List.set_cons_succ]
          refine wpAnyH_done (by kernel_rfl) ?_ _
          refine NoPanic.normal ?_
          have BZ := Lib.hid (BW.out.trans (hH.2.1.out.mono (by rw [HN.out, HZ3.out]; omega)) : Below wr.heap.size wr W_2)
          have r0 := (hH.1 wr.heap.size 0 lC).trans a0
          have r1 := (hH.1 wr.heap.size 1 lC).trans a1
          have r2 := (hH.1 wr.heap.size 2 lC).trans a2
          have r3 := (hH.1 wr.heap.size 3 lC).trans a3
          have r4 := (hH.1 wr.heap.size 4 lC).trans a4
          have r5 := (hH.1 wr.heap.size 5 lC).trans a5
          have r6 := (hH.1 wr.heap.size 6 lC).trans a6
          clear S0 hH x0 x1 x2 x3 x4 x5 x6 x7 z0 z1 z2 z3 z4 z5 z6 z7 a0 a1 a2 a3 a4 a5 a6
          have hpl := take_len l (chB A B) j
          obtain ⟨nn, hnn⟩ : ∃ nn, ((l.take j).filter (chB A B)).length = nn := ⟨_, rfl⟩
          have hown : Hid ((W_2.alloc (.cells (ac ⟨nm, tk, t2, nd, false, an, ow⟩) 31)).ownsRow w1.heap.size 31 7 v nn (acs ((l.take j).filter (chB A B)))) := by
            have := (own_below HRel.out.1 BZ.out (Nat.le_refl _)).alloc (.cells (ac ⟨nm, tk, t2, nd, false, an, ow⟩) 31)
            rw [hnn] at this
            exact this
          have hbz := BZ.out.size
          rw [hnn] at hpl
          have HNN := Lib.hid hnn
          clear hnn
          go_wp2_with (at_builtin; go_must (refine wpList_append_lies _ rfl (.tmp 36) (.tmp 38) 23 rfl w1.heap.size 31 i31 _ 7 40 Tryd.underlying23 hi hz hs1 hb1' rfl (by omega) v nn (acs ((l.take j).filter (chB A B))) rfl hown.out ⟨W_2.heap.size, 0, none⟩ 1 1 (atL ⟨nm, tk, t2, nd, false, an, ow⟩) rfl rfl (World.news_of_block (heap_alloc_new _ _)) (atL_one _) (by omega) (by unfold maxLen; omega) (by omega) (by simp; omega) (W_2.heap.size + 1) (by simp) ?_))
          intro g2 cap2 w5 hown2 hgrow hat hlt2
          have HE2 := Lib.hid (And.intro hown2 hgrow)
          clear hown2 hgrow hat
          go_wp2_with fail
          go_roundw
          case rel => exact ⟨j + 1, _, by omega, by go_num, rfl, HST.out _ _ _ _ _ HP.out HNN.out (bal BZ.out (.cells (ac ⟨nm, tk, t2, nd, false, an, ow⟩) 31)) HE2.out.1 HE2.out.2⟩
          case measure => simp [intOf]; omega
    · have hjl : j = l.length := by omega
      have HF := Lib.hid HRel.out.1
      rw [hjl, List.take_of_length_le (Nat.le_refl _)] at HF
      obtain ⟨oo, cc, rfl, hRR⟩ := own_row HF.out rfl
      have hP := Lib.hid (hRR.mono (P' := Fr w wr) fun b hb => ⟨by omega, hb.2⟩)
      have BZ := Lib.hid (HB0.out.trans (BR.out.mono (Nat.le_of_lt hwl)))
      clear hRR HF
      go_wp2_with fail
      go_ret
      exact ⟨oo, cc, rfl, hP.out, BZ.out⟩
set_option maxHeartbeats 8000000 in
set_option maxRecDepth 100000 in
theorem changedNE_any {n : Nat} {A B : Val} {va vb : Value} {w : World} (t : ByteArray) (hsA : ∀ (j : Nat) (x : Val), A.l[j]? = some x → sz x ≤ 60000) (hsB : ∀ (j : Nat) (x : Val), B.l[j]? = some x → sz x ≤ 60000) (hkA : A.k = 5 → A.ks.length = A.l.length) (hkB : B.k = 5 → B.ks.length = B.l.length) (hA : Lies n w A va) (hB : Lies n w B vb) (hn : n ≤ w.heap.size) (hT : Tab w) :
    Calls Tryd.prog 20 #[.string t, va, vb] w (NmsPost ((attrs t).filter (chB A B)) w) := by
  obtain ⟨oLa, oKa, cLa, cKa, ca, rfl, OA⟩ := hA.inv
  obtain ⟨oLb, oKb, cLb, cKb, cb, rfl, OB⟩ := hB.inv
  have b0 : Below w.heap.size w ((w.alloc (bx A oLa oKa cLa cKa)).alloc (bx B oLb oKb cLb cKb)) := bal (bal (Below.refl _ _) _) _
  have HB0 := Lib.hid b0
  have XA := Lib.hid ((Hd.made w A (.slice oLa A.l.length cLa) (.slice oKa A.ks.length cKa)).kept ((Below.refl (w.heap.size + 1) _).alloc (by simp) (bx B oLb oKb cLb cKb)) (Nat.lt_succ_self _))
  have XB : Hid (Hd ((w.alloc (bx A oLa oKa cLa cKa)).alloc (bx B oLb oKb cLb cKb)) (w.heap.size + 1) B (.slice oLb B.l.length cLb) (.slice oKb B.ks.length cKb)) := by have := Hd.made (w.alloc (bx A oLa oKa cLa cKa)) B (.slice oLb B.l.length cLb) (.slice oKb B.ks.length cKb); rw [World.size_alloc] at this; exact this
  have HS : Hid (((w.alloc (bx A oLa oKa cLa cKa)).alloc (bx B oLb oKb cLb cKb)).heap.size = w.heap.size + 2) := by simp [Hid]
  have HC := Lib.hid (changedE_any t hsA hsB hkA hkB (OA.kept (b0.mono hn)).lies (OB.kept (b0.mono hn)).lies (Nat.le_trans hn b0.size) (hT.below b0 hT.lt))
  have HL19 : ((attrs t).filter (chB A B)).length ≤ 19 := Nat.le_trans (List.length_filter_le _ _) (attrs_len t)
  obtain ⟨i9, hi, hzz⟩ := Option.map_eq_some_iff.1 info9n
  simp only [Prod.mk.injEq] at hzz
  obtain ⟨hz, hs1, hb1'⟩ := hzz
  clear hA hB OA OB b0 hT hkA hkB hsA hsB
  generalize (attrs t).filter (chB A B) = l at *
  go_enter Tryd.func20, Tryd.ntmps20
  go_upto_region 1 with (fail)
  generalize (w.alloc _).alloc _ = w0 at *
  have hwl : w.heap.size ≤ w0.heap.size := by rw [HS.out]; omega
  obtain ⟨x8, x0, x1, x2, x3, x4, x5, x6, x7⟩ := XA.out
  obtain ⟨z8, z0, z1, z2, z3, z4, z5, z6, z7⟩ := XB.out
  go_wp2_with fail
  refine HC.out.mono ?_
  rintro e w1 ⟨o, cap, rfl, hR, hb1⟩
  have B1 := Lib.hid hb1
  have HR := Lib.hid (hR.mono (P' := fun b => b < w1.heap.size) fun b hb => hb.2)
  clear hb1 hR HC x8 x0 x1 x2 x3 x4 x5 x6 x7 z8 z0 z1 z2 z3 z4 z5 z6 z7 XA XB
  have k1 := HR.out.1
  have k2 := HR.out.2.1
  unfold maxLen at k2
  have hz1 := B1.out.size
  have HA0 : Hid (PnRel l (fun _ => true) w1 0 (.slice none 0 0) w1) := ⟨World.ownsRow_nil _ _ _ _, Below.refl _ _⟩
  go_wp2_with fail
  go_loopw [7, 15] (fun x i wr => ∃ (j : Nat) (v : Value), j ≤ l.length ∧ i = .int .i64 j ∧ x = v ∧ Hid (PnRel l (fun _ => true) w1 j v wr)) (fun _ i _ => l.length - (intOf i).toNat)
  case atStart => exact ⟨0, _, Nat.zero_le _, rfl, rfl, HA0⟩
  case round =>
    obtain ⟨j, v, hj, rfl, hv, HRel⟩ := hrel
    obtain rfl := hv.symm
    have hzr := HRel.out.2.size
    have BR := Lib.hid (B1.out.trans (HRel.out.2.mono hz1))
    by_cases hlt : j < l.length
    · obtain ⟨b1, off1, rfl, hb1, E1⟩ := AtRow.el (RowP.below HR.out HRel.out.2) hlt
      have HST := Lib.hid (fun (w2 w3 : World) (nn g cc : Nat) hn hb hown hg => PnRel.step (w2 := w2) (w3 := w3) (n := nn) (g := g) (cap := cc) HRel.out hlt rfl hn hb hown hg)
      obtain ⟨a, ha⟩ : ∃ a, aa l j = a := ⟨_, rfl⟩
      rw [ha] at E1 HST
      clear ha
      obtain ⟨nm, tk, t2, nd, cm, an, ow⟩ := a
      obtain ⟨y0, y1, y2, y3, y4, y5, y6⟩ := E1
      have hlt' : (j : Int) < (l.length : Int) := by omega
      have BW := Lib.hid (bal (Below.refl wr.heap.size wr) (.cells (ac ⟨nm, tk, t2, nd, cm, an, ow⟩) 31))
      have HAc := Lib.hid (rc7 (heap_alloc_new wr (.cells (ac ⟨nm, tk, t2, nd, cm, an, ow⟩) 31)))
      have HZ3 : Hid ((wr.alloc (.cells (ac ⟨nm, tk, t2, nd, cm, an, ow⟩) 31)).heap.size = wr.heap.size + 1) := by simp [Hid]
      go_upto_region 5 with (fail)
      clear y0 y1 y2 y3 y4 y5 y6
      generalize World.alloc wr _ = w2 at *
      obtain ⟨a0, a1, a2, a3, a4, a5, a6, a7⟩ := HAc.out
      have hpl := take_len l (fun _ => true) j
      obtain ⟨nn, hnn⟩ : ∃ nn, ((l.take j).filter (fun _ => true)).length = nn := ⟨_, rfl⟩
      have hown : Hid ((w2.alloc (.cells #[.string nm] 9)).ownsRow w1.heap.size 9 1 v nn (ncs ((l.take j).filter (fun _ => true)))) := by
        have := (own_below HRel.out.1 BW.out (Nat.le_refl _)).alloc (.cells #[.string nm] 9)
        rw [hnn] at this
        exact this
      have hbz := BW.out.size
      rw [hnn] at hpl
      have HNN := Lib.hid hnn
      clear hnn
      go_wp2_with (at_builtin; go_must (refine wpList_append_lies _ rfl (.tmp 19) (.tmp 22) 36 rfl w1.heap.size 9 i9 _ 1 16 Tryd.underlying36 hi hz hs1 hb1' rfl (by omega) v nn (ncs ((l.take j).filter (fun _ => true))) rfl hown.out ⟨w2.heap.size, 0, none⟩ 1 1 [.string nm] rfl rfl (World.news_of_block (heap_alloc_new _ _)) (fun u hu => by simp at hu; subst hu; rfl) (by omega) (by unfold maxLen; omega) (by omega) (by simp; omega) (w2.heap.size + 1) (by simp) ?_))
      intro g2 cap2 w5 hown2 hgrow hat hlt2
      have HE2 := Lib.hid (And.intro hown2 hgrow)
      clear hown2 hgrow hat
      go_wp2_with fail
      go_roundw
      case rel => exact ⟨j + 1, _, by omega, by go_num, rfl, HST.out _ _ _ _ _ HNN.out (bal BW.out (.cells #[.string nm] 9)) HE2.out.1 HE2.out.2⟩
      case measure => simp [intOf]; omega
    · have hjl : j = l.length := by omega
      have HF := Lib.hid HRel.out.1
      rw [hjl, List.take_of_length_le (Nat.le_refl _), filt_true] at HF
      obtain ⟨oo, cc, rfl, hRR⟩ := own_names HF.out rfl
      have hP := Lib.hid (hRR.mono (P' := Fr w wr) fun b hb => ⟨by omega, hb.2⟩)
      have BZ := Lib.hid (HB0.out.trans (BR.out.mono hwl))
      clear hRR HF
      go_wp2_with fail
      go_ret
      exact ⟨oo, cc, by rw [List.length_map]; rfl, hP.out, BZ.out⟩
theorem cp_small {t : ByteArray} {A B : Val} (hA : sz A ≤ 600) (hB : sz B ≤ 600) : ∀ (j : Nat) (x : Val), (cpV t A B).l[j]? = some x → sz x ≤ 60000 := by
  intro j x h
  unfold cpV at h
  split at h
  · rw [sl_l, List.getElem?_map] at h
    obtain ⟨i, hi, rfl⟩ := Option.map_eq_some_iff.1 h
    rw [cpF_eq]
    split
    · have := elt_sz B (kk A.ks i); omega
    · have hj := (List.getElem?_eq_some_iff.1 hi).1
      have hj2 : j < A.l.length := by simpa using hj
      rw [List.getElem?_range hj2] at hi
      injection hi with hi
      subst hi
      have := sz_mem (List.mem_of_getElem? (vl_get hj2)); omega
  · have := sz_mem (List.mem_of_getElem? h); omega
theorem el_small {A : Val} (hA : sz A ≤ 600) : ∀ (j : Nat) (x : Val), A.l[j]? = some x → sz x ≤ 60000 := fun j x h => by have := sz_mem (List.mem_of_getElem? h); omega
theorem cp_kl {t : ByteArray} {A B : Val} (h : A.k = 5 → A.ks.length = A.l.length) : (cpV t A B).k = 5 → (cpV t A B).ks.length = (cpV t A B).l.length := by
  unfold cpV
  split
  · intro h5
    rw [sl_ks, sl_l, List.length_map, List.length_range]
    exact h (by assumption)
  · exact h
end Go.Proofs.YtfmgbhaldakpfaaDoor
