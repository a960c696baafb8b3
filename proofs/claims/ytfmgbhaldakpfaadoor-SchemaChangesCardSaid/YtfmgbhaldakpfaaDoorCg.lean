/- Computed. -/
import Derived.Test.YtfmgbhaldakpfaaDoorCf
namespace Go.Proofs.YtfmgbhaldakpfaaDoor
open Go.RowKit

theorem sz_sx (V : Val) (y : Bool) : sz (V.sx y) = sz V := by rw [sz_eq, sz_eq]; rfl
theorem elt_sz (V : Val) (s : ByteArray) : sz (elt V s) ≤ sz V := by
  have hp := sz_pos V
  have hn : sz nul = 1 := by kernel_rfl
  unfold elt
  split
  · split
    · omega
    · split
      · omega
      · rename_i X h
        rw [sz_sx]
        have := sz_mem (List.mem_of_getElem? h)
        omega
  · omega
theorem pst_of {P : Nat → Prop} {w0 w : World} {A : Val} {o : Option Addr} {cap : Nat} {cc : Nat → Nat → Value} (m : Mine w0.heap.size w o 42 A.l.length 8) (L : RowP P w o cap A.l.length 8 cc) (d : ∀ j x, A.l[j]? = some x → LiesP (Fd o w0 w) w x (agg8 cc j)) : Pst w0.heap.size w o A.l.length (vl A) := by
  rcases m with ⟨_, h⟩ | ⟨g, C, rfl, hg, cs, h1, h2, h3⟩
  · exact .inl h
  · by_cases hl : A.l.length = 0
    · exact .inl hl
    · refine .inr ⟨g, cc, rfl, hg, ⟨cs, h1, h2, fun i hi m hm => ?_⟩, fun m hm => ?_⟩
      · obtain ⟨_, _, _, h4⟩ := L
        obtain ⟨b, off, e, _, hc⟩ := h4 (by omega)
        injection e with e
        injection e with e1 e2
        subst e1 e2
        have := hc i hi m hm
        rw [cell_of_row w g _ cs 42 (0, 0) h1, Nat.zero_add] at this
        exact this
      · exact (d m _ (vl_get hm)).mono fun q hq => ⟨hq.1.1, hq.1.2, hq.2 _ rfl⟩
theorem krow_of {w0 w : World} {o o3 : Option Addr} {len cap : Nat} {ks : List ByteArray} (m : Mine w0.heap.size w o 42 len 8) (m3 : Mine w0.heap.size w o3 9 ks.length 1) (K : RowP (Fr w0 w) w o3 cap ks.length 1 fun j _ => .string (ks.getD j default)) :
    RowP (fun b => w0.heap.size ≤ b ∧ b < w.heap.size ∧ blk o ≠ some b) w o3 cap ks.length 1 fun j _ => .string (ks.getD j default) := by
  obtain ⟨h1, h2, h3, h4⟩ := K
  refine ⟨h1, h2, h3, fun hl => ?_⟩
  obtain ⟨b, off, e, hb, hc⟩ := h4 hl
  refine ⟨b, off, e, ⟨hb.1, hb.2, fun hbo => ?_⟩, hc⟩
  rcases m3 with ⟨_, h⟩ | ⟨g3, C3, e3, _, cs3, k1, _⟩
  · omega
  · rw [e] at e3
    injection e3 with e3
    injection e3 with e3 _
    subst e3
    rcases m with ⟨h, _⟩ | ⟨g, C, e4, _, cs, k2, _⟩
    · rw [h] at hbo; cases hbo
    · rw [e4] at hbo
      have : g = b := by injection hbo
      subst this
      rw [k1] at k2
      simp at k2
theorem Pst.row {lo len cap : Nat} {w : World} {o : Option Addr} {F : Nat → Val} (h : Pst lo w o len F) (h1 : len ≤ cap) (h2 : cap ≤ maxLen) (h3 : o = none → cap = 0) : ∃ C, RowP (fun b => lo ≤ b ∧ b < w.heap.size) w o cap len 8 C ∧ ∀ m, m < len → LiesP (fun b => lo ≤ b ∧ b < w.heap.size) w (F m) (agg8 C m) := by
  rcases h with h | ⟨g, C, rfl, hg, hO, hE⟩
  · exact ⟨fun _ _ => undef, ⟨h1, h2, h3, fun hl => absurd hl (by omega)⟩, fun m hm => absurd hm (by omega)⟩
  · refine ⟨C, ⟨h1, h2, h3, fun _ => ⟨g, 0, rfl, ⟨hg, hO.lt⟩, fun j hj m hm => ?_⟩⟩, fun m hm => (hE m hm).mono fun q hq => ⟨hq.1, hq.2.1⟩⟩
    obtain ⟨cs, k1, k2, k3⟩ := hO
    rw [cell_of_row w g _ cs 42 (0, 0) k1, Nat.zero_add]
    exact k3 j hj m hm
theorem Pst.blk_ge {lo len : Nat} {w : World} {o : Option Addr} {F : Nat → Val} (h : Pst lo w o len F) : len = 0 ∨ ∀ k, blk o = some k → lo ≤ k ∧ k < w.heap.size := by
  rcases h with h | ⟨g, C, rfl, hg, hO, hE⟩
  · exact .inl h
  · exact .inr fun k e => by injection e with e; subst e; exact ⟨hg, hO.lt⟩
theorem mine_ge {lo len z : Nat} {T : TypeId} {w : World} {o : Option Addr} (h : Mine lo w o T len z) : ∀ k, blk o = some k → lo ≤ k ∧ k < w.heap.size := by
  intro k e
  rcases h with ⟨rfl, _⟩ | ⟨g, C, rfl, hg, hO⟩
  · cases e
  · injection e with e; subst e; exact ⟨hg, hO.lt⟩
/-- what is computed, as it lies -/
theorem cp_opn {t : ByteArray} {A B : Val} {P : Nat → Prop} {lo : Nat} {w : World} {o o3 : Option Addr} {c1 c3 : Nat} {cc : Nat → Nat → Value} {w1 : World} (h5 : A.k = 5) (O : OpnP P w1 A o o3 c1 c3 cc)
    (hP : Pst lo w o A.l.length (cpF A B (attrs t))) (hK : RowP (fun b => lo ≤ b ∧ b < w.heap.size) w o3 c3 A.ks.length 1 fun j _ => .string (A.ks.getD j default)) :
    ∃ C, OpnP (fun b => lo ≤ b ∧ b < w.heap.size) w (cpV t A B) o o3 c1 c3 C := by
  obtain ⟨C, hL, hE⟩ := hP.row O.L.1 O.L.2.1 O.L.2.2.1
  have e : cpV t A B = A.sl ((List.range A.l.length).map (cpF A B (attrs t))) := by unfold cpV; rw [if_pos h5]
  have el : (A.sl ((List.range A.l.length).map (cpF A B (attrs t)))).l.length = A.l.length := by rw [sl_l, List.length_map, List.length_range]
  rw [e]
  refine ⟨C, O.wk, O.wi, O.wtk, O.wto, O.ws, O.wks, by rw [el]; exact hL, hK, fun j x hx => ?_⟩
  rw [sl_l, List.getElem?_map] at hx
  obtain ⟨i, hi, rfl⟩ := Option.map_eq_some_iff.1 hx
  have hj : j < A.l.length := by have := (List.getElem?_eq_some_iff.1 hi).1; simpa using this
  rw [List.getElem?_range hj] at hi
  injection hi with hi
  subst hi
  exact hE j hj
theorem Pst.same {lo len : Nat} {w w' : World} {o : Option Addr} {F : Nat → Val} (h : Pst lo w o len F) (hs : w.heap.size ≤ w'.heap.size) (e : ∀ q, lo ≤ q → w'.heap[q]? = w.heap[q]?) : Pst lo w' o len F := by
  rcases h with h | ⟨g, C, e1, hg, hO, hE⟩
  · exact .inl h
  · exact .inr ⟨g, C, e1, hg, hO.same (e g hg), fun m hm => (hE m hm).keptP fun q hq => ⟨⟨hq.1, Nat.lt_of_lt_of_le hq.2.1 hs, hq.2.2⟩, e q hq.1⟩⟩
theorem cp_vv (t : ByteArray) (A B : Val) (o1 o3 : Option Addr) (c1 c3 : Nat) : vv (cpV t A B).k (cpV t A B).i (cpV t A B).s (.slice o1 (cpV t A B).l.length c1) (.slice o3 (cpV t A B).ks.length c3) (cpV t A B).tk (cpV t A B).to (cpV t A B).x = vv A.k A.i A.s (.slice o1 A.l.length c1) (.slice o3 A.ks.length c3) A.tk A.to A.x := by
  unfold cpV
  split
  · have el : (A.sl ((List.range A.l.length).map (cpF A B (attrs t)))).l.length = A.l.length := by rw [sl_l, List.length_map, List.length_range]
    rw [el]; rfl
  · rfl
theorem cpS_yes {A B : Val} {F : Nat → Val} {a : Atr} (h : a.cm = true) (h2 : eltE B a.nm = 0) : cpS A B F a = putF A.ks a.nm (elt B a.nm) F A.ks.length := by unfold cpS cpT; rw [h, h2]; simp
theorem cpS_no {A B : Val} {F : Nat → Val} {a : Atr} (h : ¬ (a.cm = true ∧ eltE B a.nm = 0)) : cpS A B F a = F := by
  unfold cpS cpT
  rw [if_neg]
  simpa using h
set_option maxHeartbeats 16000000 in
set_option maxRecDepth 100000 in
theorem computed_any {n : Nat} {A B : Val} {va vb : Value} {w : World} (t : ByteArray) (hsA : sz A ≤ 50000) (hsB : sz B ≤ 50000) (hkB : B.k = 5 → B.ks.length = B.l.length) (hA : Lies n w A va) (hB : Lies n w B vb) (hn : n ≤ w.heap.size) (hT : Tab w) :
    Calls Tryd.prog 19 #[.string t, va, vb] w (VPost (cpV t A B) w) := by
  obtain ⟨oLa, oKa, cLa, cKa, ca, rfl, OA⟩ := hA.inv
  obtain ⟨oLb, oKb, cLb, cKb, cb, rfl, OB⟩ := hB.inv
  have b0 : Below w.heap.size w (((w.alloc (bx A oLa oKa cLa cKa)).alloc (bx B oLb oKb cLb cKb)).alloc (.cells zc 42)) := bal (bal (bal (Below.refl _ _) _) _) _
  have HB0 := Lib.hid b0
  have HS : Hid ((((w.alloc (bx A oLa oKa cLa cKa)).alloc (bx B oLb oKb cLb cKb)).alloc (.cells zc 42)).heap.size = w.heap.size + 3) := by simp [Hid]
  have QA : Hid ((((w.alloc (bx A oLa oKa cLa cKa)).alloc (bx B oLb oKb cLb cKb)).alloc (.cells zc 42)).heap[w.heap.size]? = some (.cells (c8 A (.slice oLa A.l.length cLa) (.slice oKa A.ks.length cKa)) 42 (0, 0))) := ((Wb.made w A (.slice oLa A.l.length cLa) (.slice oKa A.ks.length cKa)).alloc (bx B oLb oKb cLb cKb)).alloc (.cells zc 42)
  have QB : Hid ((((w.alloc (bx A oLa oKa cLa cKa)).alloc (bx B oLb oKb cLb cKb)).alloc (.cells zc 42)).heap[w.heap.size + 1]? = some (.cells (c8 B (.slice oLb B.l.length cLb) (.slice oKb B.ks.length cKb)) 42 (0, 0))) := by
    have := (Wb.made (w.alloc (bx A oLa oKa cLa cKa)) B (.slice oLb B.l.length cLb) (.slice oKb B.ks.length cKb)).alloc (.cells zc 42)
    rw [World.size_alloc] at this
    exact this
  have QZ : Hid ((((w.alloc (bx A oLa oKa cLa cKa)).alloc (bx B oLb oKb cLb cKb)).alloc (.cells zc 42)).heap[w.heap.size + 2]? = some (.cells zc 42 (0, 0))) := at_top _ _ _ (by simp)
  have CP := Lib.hid (copyD_any (by omega) (OA.kept (b0.mono hn)).lies (Nat.le_trans hn b0.size))
  have LB := Lib.hid (OB.kept (b0.mono hn)).lies
  have HT := Lib.hid (hT.below b0 hT.lt)
  have HT0 := Lib.hid hT.lt
  have HSB := Lib.hid (And.intro hsB hkB)
  clear hA hB OA OB b0 hT hkB hsA hsB
  go_enter Tryd.func19, Tryd.ntmps19
  go_upto_region 1 with (fail)
  generalize ((w.alloc _).alloc _).alloc _ = w0 at *
  have hw0 : w0.heap.size = w.heap.size + 3 := HS.out
  obtain ⟨x0, x1, x2, x3, x4, x5, x6, x7⟩ := cells8 QA.out
  go_wp2_with fail
  refine CP.out.mono ?_
  rintro e w1 ⟨o1, o3, c1, c3, cc, rfl, O1, m1, m3, b1, d1⟩
  clear x0 x1 x2 x3 x4 x5 x6 x7 CP
  have hz1 := b1.size
  have Q1 : Hid (w1.heap[w.heap.size]? = some (.cells (c8 A (.slice oLa A.l.length cLa) (.slice oKa A.ks.length cKa)) 42 (0, 0))) := (b1.block _ (by omega)).trans QA.out
  have R1 := Lib.hid (store_box' Q1.out (c8 A (.slice o1 A.l.length c1) (.slice o3 A.ks.length c3)) rfl)
  have QO : Hid (∀ q, q ≠ w.heap.size → (w1.setRow w.heap.size (over (c8 A (.slice oLa A.l.length cLa) (.slice oKa A.ks.length cKa)) (c8 A (.slice o1 A.l.length c1) (.slice o3 A.ks.length c3)))).heap[q]? = w1.heap[q]?) := fun q hq => setRow_other _ _ _ _ hq
  have B2 := Lib.hid (below_setRow (HB0.out.trans (b1.mono (by omega))) (Nat.le_refl _) (over (c8 A (.slice oLa A.l.length cLa) (.slice oKa A.ks.length cKa)) (c8 A (.slice o1 A.l.length c1) (.slice o3 A.ks.length c3))) : Below w.heap.size w (w1.setRow w.heap.size (over (c8 A (.slice oLa A.l.length cLa) (.slice oKa A.ks.length cKa)) (c8 A (.slice o1 A.l.length c1) (.slice o3 A.ks.length c3)))))
  have HZ2 : Hid ((w1.setRow w.heap.size (over (c8 A (.slice oLa A.l.length cLa) (.slice oKa A.ks.length cKa)) (c8 A (.slice o1 A.l.length c1) (.slice o3 A.ks.length c3)))).heap.size = w1.heap.size) := size_setRow _ _ _
  have HM := Lib.hid (And.intro O1 (And.intro m1 (And.intro m3 (And.intro b1 d1))))
  clear O1 m1 m3 b1 d1
  obtain ⟨z0, z1, z2, z3, z4, z5, z6, z7⟩ := cells8 R1.out
  by_cases h5 : A.k = 5
  · have H5 := Lib.hid h5
    obtain ⟨g1, g2⟩ := int_eq h5
    clear h5
    go_wp2_with ((with_reducible refine wpList_store_at rfl 42 (.tmp 4) (.tmp 14) rfl w.heap.size 0 rfl _ rfl 42 (c8 A (.slice oLa A.l.length cLa) (.slice oKa A.ks.length cKa)) Q1.out ?sa1 ?sa2 ?sa3 ?sa4); case' sa4 => generalize World.setRow _ _ _ = w2 at *)
    case sa1 => simp
    case sa2 => have := size42; simpa using this
    case sa3 => simp [Value.oneCell']
    clear z0 z1 z2 z3 z4 z5 z6 z7 g1 g2
    obtain ⟨O1, m1, m3, b1, d1⟩ := HM.out
    have hz2 : w2.heap.size = w1.heap.size := HZ2.out
    have hT0 : 0 < w.heap.size := HT0.out
    have HT2 : Tab w2 := by
      obtain ⟨T, fr, h⟩ := HT.out
      exact ⟨T, fr, (QO.out 0 (by omega)).trans ((b1.block 0 (by omega)).trans h)⟩
    have HBK : Hid (∀ k, blk o1 = some k → w0.heap.size ≤ k ∧ k < w1.heap.size) := mine_ge m1
    refine (attrs2_any t w2 HT2).mono ?_
    rintro e w3 ⟨o, cap, xe, rfl, hR, hb3⟩
    obtain ⟨l, hl⟩ : ∃ l, attrs t = l := ⟨_, rfl⟩
    rw [hl] at hR ⊢
    have hz3 := hb3.size
    have RA : Hid (w3.heap[w.heap.size]? = some (.cells (c8 A (.slice o1 A.l.length c1) (.slice o3 A.ks.length c3)) 42 (0, 0))) := (hb3.block _ (by omega)).trans R1.out
    have RB : Hid (w3.heap[w.heap.size + 1]? = some (.cells (c8 B (.slice oLb B.l.length cLb) (.slice oKb B.ks.length cKb)) 42 (0, 0))) := (hb3.block _ (by omega)).trans ((QO.out _ (by omega)).trans ((b1.block _ (by omega)).trans QB.out))
    have RZ : Hid (w3.heap[w.heap.size + 2]? = some (.cells zc 42 (0, 0))) := (hb3.block _ (by omega)).trans ((QO.out _ (by omega)).trans ((b1.block _ (by omega)).trans QZ.out))
    have P3 : Hid (Pst w0.heap.size w3 o1 A.l.length (vl A)) := ((pst_of m1 O1.L d1).same (by omega) (fun q hq => QO.out q (by omega))).keep hb3
    have K3 : Hid (RowP (fun b => w0.heap.size ≤ b ∧ b < w3.heap.size ∧ blk o1 ≠ some b) w3 o3 c3 A.ks.length 1 fun j _ => .string (A.ks.getD j default)) := (krow_of m1 m3 O1.K).keptP fun q hq => ⟨⟨hq.1, by omega, hq.2.2⟩, (hb3.block q (by omega)).trans (QO.out q (by omega))⟩
    have L3 : Hid (AtRow (fun b => b < w3.heap.size ∧ blk o1 ≠ some b) w3 o cap l) := hR.mono fun q hq => ⟨hq.2, fun e => by have := HBK.out q e; have := hq.1; omega⟩
    have LB3 : Hid (Lies n w3 B (vv B.k B.i B.s (.slice oLb B.l.length cLb) (.slice oKb B.ks.length cKb) B.tk B.to B.x)) := LB.out.keptP fun q hq => ⟨hq, (hb3.block q (by omega)).trans ((QO.out q (by omega)).trans (b1.block q (by omega)))⟩
    have B3 := Lib.hid (B2.out.trans (hb3.mono (by omega)))
    have HLL : Hid ((attrs t).length ≤ 19) := attrs_len t
    have HLE := Lib.hid hl
    have k1 := hR.1
    have k2 := hR.2.1
    unfold maxLen at k2
    have HO1 := Lib.hid O1
    have l1 := O1.L.1
    have l2 := O1.L.2.1
    clear O1 m1 m3 b1 d1 hR hb3 HT2 hl
    go_wp2_with fail
    go_loopw [26] (fun i wr => ∃ j : Nat, j ≤ l.length ∧ i = .int .i64 j ∧ Hid (Exc (blk o1) w3 wr) ∧ Hid (Pst w0.heap.size wr o1 A.l.length (cpF A B (l.take j)))) (fun i _ => l.length - (intOf i).toNat)
    case atStart => exact ⟨0, Nat.zero_le _, rfl, Exc.refl _ _, P3.out⟩
    case round =>
      obtain ⟨j, hj, rfl, EX, HP⟩ := hrel
      have hsw := EX.out.size
      have nA : blk o1 ≠ some w.heap.size := fun e => by have := HBK.out _ e; omega
      have nB : blk o1 ≠ some (w.heap.size + 1) := fun e => by have := HBK.out _ e; omega
      have nC : blk o1 ≠ some (w.heap.size + 2) := fun e => by have := HBK.out _ e; omega
      have QAr : Hid (wr.heap[w.heap.size]? = some (.cells (c8 A (.slice o1 A.l.length c1) (.slice o3 A.ks.length c3)) 42 (0, 0))) := (EX.out.block _ (by omega) nA).trans RA.out
      by_cases hlt : j < l.length
      · obtain ⟨b1', off1, rfl, hb1', E1⟩ := AtRow.el (RowP.keptP L3.out (P' := fun b => b < wr.heap.size) fun q hq => ⟨by omega, EX.out.block q hq.1 hq.2⟩) hlt
        have QBr : Hid (wr.heap[w.heap.size + 1]? = some (.cells (c8 B (.slice oLb B.l.length cLb) (.slice oKb B.ks.length cKb)) 42 (0, 0))) := (EX.out.block _ (by omega) nB).trans RB.out
        have LBr : Hid (Lies n wr B (vv B.k B.i B.s (.slice oLb B.l.length cLb) (.slice oKb B.ks.length cKb) B.tk B.to B.x)) := LB3.out.kept (EX.out.below (by omega) fun k e => by have := HBK.out k e; omega)
        have HYES := Lib.hid (fun h h2 => (cpF_step (A := A) (B := B) hlt).trans (cpS_yes h h2))
        have HNO := Lib.hid (fun h => (cpF_step (A := A) (B := B) hlt).trans (cpS_no h))
        obtain ⟨a, ha⟩ : ∃ a, aa l j = a := ⟨_, rfl⟩
        rw [ha] at E1 HYES HNO
        clear ha
        obtain ⟨nm, tk, t2, nd, cm, an, ow⟩ := a
        obtain ⟨y0, y1, y2, y3, y4, y5, y6⟩ := E1
        have hlt' : (j : Int) < (l.length : Int) := by omega
        have BW := Lib.hid (bal (Below.refl wr.heap.size wr) (.cells (ac ⟨nm, tk, t2, nd, cm, an, ow⟩) 31))
        have HAc : Hid ((wr.alloc (.cells (ac ⟨nm, tk, t2, nd, cm, an, ow⟩) 31)).heap[wr.heap.size]? = some (.cells (ac ⟨nm, tk, t2, nd, cm, an, ow⟩) 31 (0, 0))) := heap_alloc_new wr (.cells (ac ⟨nm, tk, t2, nd, cm, an, ow⟩) 31)
        have HZ3 : Hid ((wr.alloc (.cells (ac ⟨nm, tk, t2, nd, cm, an, ow⟩) 31)).heap.size = wr.heap.size + 1) := by simp [Hid]
        go_upto_region 8 with (fail)
        clear y0 y1 y2 y3 y4 y5 y6
        generalize World.alloc wr _ = wa at *
        have hza : wa.heap.size = wr.heap.size + 1 := HZ3.out
        obtain ⟨x0, x1, x2, x3, x4, x5, x6, x7⟩ := cells8 ((BW.out.block _ (by omega)).trans QBr.out)
        obtain ⟨a0, a1, a2, a3, a4, a5, a6, a7⟩ := rc7 HAc.out
        have GT := Lib.hid (get2_any nm (by have := HSB.out.1; omega) HSB.out.2 (LBr.out.kept (BW.out.mono (by omega))) (by omega : n ≤ wa.heap.size))
        have HSX : Hid (sz (elt B nm) ≤ 60000) := by have := elt_sz B nm; have := HSB.out.1; unfold Hid; omega
        have HY2 : Hid (cm = true → eltE B nm = 0 → cpF A B (l.take (j + 1)) = putF A.ks nm (elt B nm) (cpF A B (l.take j)) A.ks.length) := fun h h2 => HYES.out h h2
        have HN2 : Hid (¬ (cm = true ∧ eltE B nm = 0) → cpF A B (l.take (j + 1)) = cpF A B (l.take j)) := fun h => HNO.out h
        clear HYES HNO
        generalize elt B nm = X at *
        generalize eltE B nm = ee at *
        go_wp2_with fail
        refine GT.out.mono ?_
        rintro e wb ⟨p1, p3, d1, d3, dd, rfl, OX, bX⟩
        clear x0 x1 x2 x3 x4 x5 x6 x7 a0 a1 a2 a3 a4 a5 a6 a7
        have hzb := bX.size
        have BC := Lib.hid (bal (BW.out.trans (bX.mono (by omega))) (bx X p1 p3 d1 d3))
        have HXc := Lib.hid (Hd.made wb X (.slice p1 X.l.length d1) (.slice p3 X.ks.length d3))
        have OXc : Hid (OpnP (fun b => b < (wb.alloc (bx X p1 p3 d1 d3)).heap.size ∧ blk o1 ≠ some b) (wb.alloc (bx X p1 p3 d1 d3)) X p1 p3 d1 d3 dd) := OX.keptP fun q hq => ⟨⟨by have := hq.2; simp; omega, fun e => by have := HBK.out q e; have := hq.1; omega⟩, Below.heap_alloc wb _ q hq.2⟩
        have HAc2 : Hid ((wb.alloc (bx X p1 p3 d1 d3)).heap[wr.heap.size]? = some (.cells (ac ⟨nm, tk, t2, nd, cm, an, ow⟩) 31 (0, 0))) := (Below.heap_alloc wb _ _ (by omega)).trans ((bX.block _ (by omega)).trans HAc.out)
        have HZc : Hid ((wb.alloc (bx X p1 p3 d1 d3)).heap.size = wb.heap.size + 1) := by simp [Hid]
        clear OX bX
        go_upto_region 9 with (fail)
        generalize World.alloc wb _ = wc at *
        have hzc : wc.heap.size = wb.heap.size + 1 := HZc.out
        obtain ⟨a0, a1, a2, a3, a4, a5, a6, a7⟩ := rc7 HAc2.out
        obtain ⟨x0, x1, x2, x3, x4, x5, x6, x7⟩ := cells8 ((BC.out.block _ (by omega)).trans QAr.out)
        obtain ⟨u8, u0, u1, u2, u3, u4, u5, u6, u7⟩ := HXc.out
        have EC := Lib.hid (EX.out.trans (Exc.of_below BC.out))
        have PC := Lib.hid (HP.out.keep BC.out)
        cases cm with
        | false =>
          have HF := Lib.hid (HN2.out (by simp))
          go_wp2_with fail
          go_roundw
          case rel => exact ⟨j + 1, by omega, by go_num, EC.out, by unfold Hid; rw [HF.out]; exact PC.out⟩
          case measure => simp [intOf]; omega
        | true =>
          by_cases he : ee = 0
          · have HF := Lib.hid (HY2.out rfl he)
            obtain ⟨ge1, ge2⟩ := int_eq he
            clear he
            go_wp2_with fail
            refine (put_any (lo := w0.heap.size) (V := A) (X := X) (F := cpF A B (l.take j)) nm ⟨l1, l2⟩ (K3.out.keptP fun q hq => ⟨⟨by omega, hq.2.2⟩, EC.out.block q (by omega) hq.2.2⟩) PC.out HSX.out OXc.out.lies (by omega)).mono ?_
            rintro e w4 ⟨rfl, hx, hp⟩
            have E4 := Lib.hid (And.intro (EC.out.trans hx) hp)
            clear hx hp x0 x1 x2 x3 x4 x5 x6 x7 a0 a1 a2 a3 a4 a5 a6 a7 u8 u0 u1 u2 u3 u4 u5 u6 u7
            go_wp2_with fail
            go_roundw
            case rel => exact ⟨j + 1, by omega, by go_num, E4.out.1, by unfold Hid; rw [HF.out]; exact E4.out.2⟩
            case measure => simp [intOf]; omega
          · have HF := Lib.hid (HN2.out (fun h => he h.2))
            obtain ⟨ge1, ge2⟩ := int_ne he
            clear he
            go_wp2_with fail
            go_roundw
            case rel => exact ⟨j + 1, by omega, by go_num, EC.out, by unfold Hid; rw [HF.out]; exact PC.out⟩
            case measure => simp [intOf]; omega
      · have hjl : j = l.length := by omega
        have HPF : Hid (Pst w0.heap.size wr o1 A.l.length (cpF A B (attrs t))) := by
          have := HP.out
          rw [hjl, List.take_of_length_le (Nat.le_refl _), ← HLE.out] at this
          exact this
        have CO := Lib.hid (cp_opn (t := t) (B := B) H5.out HO1.out HPF.out (K3.out.keptP fun q hq => ⟨⟨hq.1, by omega⟩, EX.out.block q (by omega) hq.2.2⟩))
        have QZr : Hid (wr.heap[w.heap.size + 2]? = some (.cells zc 42 (0, 0))) := (EX.out.block _ (by omega) nC).trans RZ.out
        have BZ0 : Hid (Below w.heap.size w wr) := B3.out.trans (EX.out.below (by omega) fun k e => by have := HBK.out k e; omega)
        have R9 := Lib.hid (store_box' QZr.out (c8 A (.slice o1 A.l.length c1) (.slice o3 A.ks.length c3)) rfl)
        have BZ := Lib.hid (below_setRow BZ0.out (by omega : w.heap.size ≤ w.heap.size + 2) (over zc (c8 A (.slice o1 A.l.length c1) (.slice o3 A.ks.length c3))))
        have PZ : Hid (∃ C, OpnP (Fr w (wr.setRow (w.heap.size + 2) (over zc (c8 A (.slice o1 A.l.length c1) (.slice o3 A.ks.length c3))))) (wr.setRow (w.heap.size + 2) (over zc (c8 A (.slice o1 A.l.length c1) (.slice o3 A.ks.length c3)))) (cpV t A B) o1 o3 c1 c3 C) := by
          obtain ⟨C, h⟩ := CO.out
          exact ⟨C, h.keptP fun q hq => ⟨⟨by omega, by rw [size_setRow]; exact hq.2⟩, setRow_other _ _ _ _ (by omega)⟩⟩
        obtain ⟨x0, x1, x2, x3, x4, x5, x6, x7⟩ := cells8 QAr.out
        go_wp2_with ((with_reducible refine wpList_store_at rfl 42 (.tmp 6) (.tmp 49) rfl (w.heap.size + 2) 0 rfl _ rfl 42 zc QZr.out ?sb1 ?sb2 ?sb3 ?sb4); case' sb4 => generalize World.setRow _ _ _ = w5 at *)
        case sb1 => simp
        case sb2 => have := size42; simpa using this
        case sb3 => simp [Value.oneCell']
        obtain ⟨p0, p1, p2, p3, p4, p5, p6, p7⟩ := cells8 (show w5.heap[w.heap.size + 2]? = some (.cells (c8 A (.slice o1 A.l.length c1) (.slice o3 A.ks.length c3)) 42 (0, 0)) from R9.out)
        obtain ⟨C, hC⟩ := PZ.out
        exact bodyPost_ret (v := vv A.k A.i A.s (.slice o1 A.l.length c1) (.slice o3 A.ks.length c3) A.tk A.to A.x) (by simp [results, Tryd.results19, go_sem, p0, p1, p2, p3, p4, p5, p6, p7]) rfl ⟨o1, o3, c1, c3, C, by rw [cp_vv], hC, BZ.out⟩
  · have H5 := Lib.hid h5
    obtain ⟨g1, g2⟩ := int_ne h5
    clear h5
    have HO2 := Lib.hid (HM.out.1.keptP (P' := fun b => w0.heap.size ≤ b ∧ b < w1.heap.size) fun q hq => ⟨hq, QO.out q (by have := hq.1; omega)⟩)
    have QZ2 : Hid ((w1.setRow w.heap.size (over (c8 A (.slice oLa A.l.length cLa) (.slice oKa A.ks.length cKa)) (c8 A (.slice o1 A.l.length c1) (.slice o3 A.ks.length c3)))).heap[w.heap.size + 2]? = some (.cells zc 42 (0, 0))) := (QO.out _ (by omega)).trans ((HM.out.2.2.2.1.block _ (by omega)).trans QZ.out)
    have hz2 : (w1.setRow w.heap.size (over (c8 A (.slice oLa A.l.length cLa) (.slice oKa A.ks.length cKa)) (c8 A (.slice o1 A.l.length c1) (.slice o3 A.ks.length c3)))).heap.size = w1.heap.size := HZ2.out
    have R9 := Lib.hid (store_box' QZ2.out (c8 A (.slice o1 A.l.length c1) (.slice o3 A.ks.length c3)) rfl)
    have BZ := Lib.hid (below_setRow B2.out (by omega : w.heap.size ≤ w.heap.size + 2) (over zc (c8 A (.slice o1 A.l.length c1) (.slice o3 A.ks.length c3))))
    have PZ : Hid (OpnP (Fr w ((w1.setRow w.heap.size (over (c8 A (.slice oLa A.l.length cLa) (.slice oKa A.ks.length cKa)) (c8 A (.slice o1 A.l.length c1) (.slice o3 A.ks.length c3)))).setRow (w.heap.size + 2) (over zc (c8 A (.slice o1 A.l.length c1) (.slice o3 A.ks.length c3))))) ((w1.setRow w.heap.size (over (c8 A (.slice oLa A.l.length cLa) (.slice oKa A.ks.length cKa)) (c8 A (.slice o1 A.l.length c1) (.slice o3 A.ks.length c3)))).setRow (w.heap.size + 2) (over zc (c8 A (.slice o1 A.l.length c1) (.slice o3 A.ks.length c3)))) A o1 o3 c1 c3 cc) := HO2.out.keptP fun q hq => ⟨⟨by omega, by rw [size_setRow]; omega⟩, setRow_other _ _ _ _ (by omega)⟩
    clear hz2
    have HQ1 := Q1
    have HQZ2 := QZ2
    go_wp2_with (first
      | ((with_reducible refine wpList_store_at rfl 42 (.tmp 4) (.tmp 14) rfl w.heap.size 0 rfl _ rfl 42 (c8 A (.slice oLa A.l.length cLa) (.slice oKa A.ks.length cKa)) HQ1.out ?sc1 ?sc2 ?sc3 ?sc4); case' sc4 => generalize w1.setRow w.heap.size _ = w2 at *)
      | ((with_reducible refine wpList_store_at rfl 42 (.tmp 6) (.tmp 18) rfl (w.heap.size + 2) 0 rfl _ rfl 42 zc HQZ2.out ?sd1 ?sd2 ?sd3 ?sd4); case' sd4 => generalize World.setRow w2 _ _ = w5 at *))
    case sc1 => simp
    case sc2 => have := size42; simpa using this
    case sc3 => simp [Value.oneCell']
    case sd1 => simp
    case sd2 => have := size42; simpa using this
    case sd3 => simp [Value.oneCell']
    obtain ⟨p0, p1, p2, p3, p4, p5, p6, p7⟩ := cells8 (show w5.heap[w.heap.size + 2]? = some (.cells (c8 A (.slice o1 A.l.length c1) (.slice o3 A.ks.length c3)) 42 (0, 0)) from R9.out)
    have HV : cpV t A B = A := by unfold cpV; rw [if_neg H5.out]
    exact bodyPost_ret (v := vv A.k A.i A.s (.slice o1 A.l.length c1) (.slice o3 A.ks.length c3) A.tk A.to A.x) (by simp [results, Tryd.results19, go_sem, p0, p1, p2, p3, p4, p5, p6, p7]) rfl ⟨o1, o3, c1, c3, cc, by rw [cp_vv], by rw [HV]; exact PZ.out, BZ.out⟩
end Go.Proofs.YtfmgbhaldakpfaaDoor
