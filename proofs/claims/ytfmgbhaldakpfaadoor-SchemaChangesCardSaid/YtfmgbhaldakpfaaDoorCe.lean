/- What differs: Changed, Anew, the reference's Anew. -/
import Derived.Test.YtfmgbhaldakpfaaDoorCd
import Derived.Test.YtfmgbhaldakpfaaDoorCf
import Derived.Test.YtfmgbhaldakpfaaDoorCh
namespace Go.Proofs.YtfmgbhaldakpfaaDoor
open Go.RowKit

theorem filt_true (l : List Atr) : l.filter (fun _ => true) = l := by simp
set_option maxHeartbeats 8000000 in
set_option maxRecDepth 100000 in
theorem changedN_any {n : Nat} {A B : Val} {va vb : Value} {w : World} (t : ByteArray) (hsA : sz A ≤ 50000) (hsB : sz B ≤ 50000) (hkA : A.k = 5 → A.ks.length = A.l.length) (hkB : B.k = 5 → B.ks.length = B.l.length) (hA : Lies n w A va) (hB : Lies n w B vb) (hn : n ≤ w.heap.size) (hT : Tab w) :
    Calls Tryd.prog 20 #[.string t, va, vb] w (NmsPost ((attrs t).filter (chB A B)) w) := by
  obtain ⟨oLa, oKa, cLa, cKa, ca, rfl, OA⟩ := hA.inv
  obtain ⟨oLb, oKb, cLb, cKb, cb, rfl, OB⟩ := hB.inv
  have b0 : Below w.heap.size w ((w.alloc (bx A oLa oKa cLa cKa)).alloc (bx B oLb oKb cLb cKb)) := bal (bal (Below.refl _ _) _) _
  have HB0 := Lib.hid b0
  have XA := Lib.hid ((Hd.made w A (.slice oLa A.l.length cLa) (.slice oKa A.ks.length cKa)).kept ((Below.refl (w.heap.size + 1) _).alloc (by simp) (bx B oLb oKb cLb cKb)) (Nat.lt_succ_self _))
  have XB : Hid (Hd ((w.alloc (bx A oLa oKa cLa cKa)).alloc (bx B oLb oKb cLb cKb)) (w.heap.size + 1) B (.slice oLb B.l.length cLb) (.slice oKb B.ks.length cKb)) := by have := Hd.made (w.alloc (bx A oLa oKa cLa cKa)) B (.slice oLb B.l.length cLb) (.slice oKb B.ks.length cKb); rw [World.size_alloc] at this; exact this
  have HS : Hid (((w.alloc (bx A oLa oKa cLa cKa)).alloc (bx B oLb oKb cLb cKb)).heap.size = w.heap.size + 2) := by simp [Hid]
  have HC := Lib.hid (changed_any t hsA hsB hkA hkB (OA.kept (b0.mono hn)).lies (OB.kept (b0.mono hn)).lies (Nat.le_trans hn b0.size) (hT.below b0 hT.lt))
  have HL19 : ((attrs t).filter (chB A B)).length ≤ 19 := Nat.le_trans (List.length_filter_le _ _) (attrs_len t)
  obtain ⟨i9, hi, hzz⟩ := Option.map_eq_some_iff.1 info9n
  simp only [Prod.mk.injEq] at hzz
  obtain ⟨hz, hs1, hb1'⟩ := hzz
  clear hA hB OA OB b0 hT hkA hkB hsA hsB
  generalize (attrs t).filter (chB A B) = l at *
  go_enter Tryd.func20, Tryd.ntmps20
  go_upto_region 1 with (fail)
  generalize (w.alloc _).alloc _ = w0 at *
  have hwl : w.heap.size ≤ w0.heap.size := by rw [HS.out]; omega
  obtain ⟨x8, x0, x1, x2, x3, x4, x5, x6, x7⟩ := XA.out
  obtain ⟨z8, z0, z1, z2, z3, z4, z5, z6, z7⟩ := XB.out
  go_wp2_with fail
  refine HC.out.mono ?_
  rintro e w1 ⟨o, cap, rfl, hR, hb1⟩
  have B1 := Lib.hid hb1
  have HR := Lib.hid (hR.mono (P' := fun b => b < w1.heap.size) fun b hb => hb.2)
  clear hb1 hR HC x8 x0 x1 x2 x3 x4 x5 x6 x7 z8 z0 z1 z2 z3 z4 z5 z6 z7 XA XB
  have k1 := HR.out.1
  have k2 := HR.out.2.1
  unfold maxLen at k2
  have hz1 := B1.out.size
  have HA0 : Hid (PnRel l (fun _ => true) w1 0 (.slice none 0 0) w1) := ⟨World.ownsRow_nil _ _ _ _, Below.refl _ _⟩
  go_wp2_with fail
  go_loopw [7, 15] (fun x i wr => ∃ (j : Nat) (v : Value), j ≤ l.length ∧ i = .int .i64 j ∧ x = v ∧ Hid (PnRel l (fun _ => true) w1 j v wr)) (fun _ i _ => l.length - (intOf i).toNat)
  case atStart => exact ⟨0, _, Nat.zero_le _, rfl, rfl, HA0⟩
  case round =>
    obtain ⟨j, v, hj, rfl, hv, HRel⟩ := hrel
    obtain rfl := hv.symm
    have hzr := HRel.out.2.size
    have BR := Lib.hid (B1.out.trans (HRel.out.2.mono hz1))
    by_cases hlt : j < l.length
    · obtain ⟨b1, off1, rfl, hb1, E1⟩ := AtRow.el (RowP.below HR.out HRel.out.2) hlt
      have HST := Lib.hid (fun (w2 w3 : World) (nn g cc : Nat) hn hb hown hg => PnRel.step (w2 := w2) (w3 := w3) (n := nn) (g := g) (cap := cc) HRel.out hlt rfl hn hb hown hg)
      obtain ⟨a, ha⟩ : ∃ a, aa l j = a := ⟨_, rfl⟩
      rw [ha] at E1 HST
      clear ha
      obtain ⟨nm, tk, t2, nd, cm, an, ow⟩ := a
      obtain ⟨y0, y1, y2, y3, y4, y5, y6⟩ := E1
      have hlt' : (j : Int) < (l.length : Int) := by omega
      have BW := Lib.hid (bal (Below.refl wr.heap.size wr) (.cells (ac ⟨nm, tk, t2, nd, cm, an, ow⟩) 31))
      have HAc := Lib.hid (rc7 (heap_alloc_new wr (.cells (ac ⟨nm, tk, t2, nd, cm, an, ow⟩) 31)))
      have HZ3 : Hid ((wr.alloc (.cells (ac ⟨nm, tk, t2, nd, cm, an, ow⟩) 31)).heap.size = wr.heap.size + 1) := by simp [Hid]
      go_upto_region 5 with (fail)
      clear y0 y1 y2 y3 y4 y5 y6
      generalize World.alloc wr _ = w2 at *
      obtain ⟨a0, a1, a2, a3, a4, a5, a6, a7⟩ := HAc.out
      have hpl := take_len l (fun _ => true) j
      obtain ⟨nn, hnn⟩ : ∃ nn, ((l.take j).filter (fun _ => true)).length = nn := ⟨_, rfl⟩
      have hown : Hid ((w2.alloc (.cells #[.string nm] 9)).ownsRow w1.heap.size 9 1 v nn (ncs ((l.take j).filter (fun _ => true)))) := by
        have := (own_below HRel.out.1 BW.out (Nat.le_refl _)).alloc (.cells #[.string nm] 9)
        rw [hnn] at this
        exact this
      have hbz := BW.out.size
      rw [hnn] at hpl
      have HNN := Lib.hid hnn
      clear hnn
      go_wp2_with (at_builtin; go_must (refine wpList_append_lies _ rfl (.tmp 19) (.tmp 22) 36 rfl w1.heap.size 9 i9 _ 1 16 Tryd.underlying36 hi hz hs1 hb1' rfl (by omega) v nn (ncs ((l.take j).filter (fun _ => true))) rfl hown.out ⟨w2.heap.size, 0, none⟩ 1 1 [.string nm] rfl rfl (World.news_of_block (heap_alloc_new _ _)) (fun u hu => by simp at hu; subst hu; rfl) (by omega) (by unfold maxLen; omega) (by omega) (by simp; omega) (w2.heap.size + 1) (by simp) ?_))
      intro g2 cap2 w5 hown2 hgrow hat hlt2
      have HE2 := Lib.hid (And.intro hown2 hgrow)
      clear hown2 hgrow hat
      go_wp2_with fail
      go_roundw
      case rel => exact ⟨j + 1, _, by omega, by go_num, rfl, HST.out _ _ _ _ _ HNN.out (bal BW.out (.cells #[.string nm] 9)) HE2.out.1 HE2.out.2⟩
      case measure => simp [intOf]; omega
    · have hjl : j = l.length := by omega
      have HF := Lib.hid HRel.out.1
      rw [hjl, List.take_of_length_le (Nat.le_refl _), filt_true] at HF
      obtain ⟨oo, cc, rfl, hRR⟩ := own_names HF.out rfl
      have hP := Lib.hid (hRR.mono (P' := Fr w wr) fun b hb => ⟨by omega, hb.2⟩)
      have BZ := Lib.hid (HB0.out.trans (BR.out.mono hwl))
      clear hRR HF
      go_wp2_with fail
      go_ret
      exact ⟨oo, cc, by rw [List.length_map]; rfl, hP.out, BZ.out⟩
theorem any_no {l : List Atr} (h : ∀ i, i < l.length → (aa l i).an = false) : l.any (·.an) = false := by
  rw [List.any_eq_false]
  intro a ha
  obtain ⟨i, hi, e⟩ := List.getElem_of_mem ha
  have := h i hi
  have e2 : aa l i = a := by unfold aa; rw [List.getD_eq_getElem?_getD, List.getElem?_eq_getElem hi, Option.getD_some, e]
  rw [e2] at this
  simp [this]
theorem any_yes {l : List Atr} {j : Nat} (hj : j < l.length) (h : (aa l j).an = true) : l.any (·.an) = true := by
  rw [List.any_eq_true]; exact ⟨_, aa_mem hj, h⟩
set_option maxHeartbeats 8000000 in
set_option maxRecDepth 100000 in
theorem anewB_any {n : Nat} {A B : Val} {va vb : Value} {w : World} (t : ByteArray) (hsA : sz A ≤ 50000) (hsB : sz B ≤ 50000) (hkA : A.k = 5 → A.ks.length = A.l.length) (hkB : B.k = 5 → B.ks.length = B.l.length) (hA : Lies n w A va) (hB : Lies n w B vb) (hn : n ≤ w.heap.size) (hT : Tab w) :
    Calls Tryd.prog 22 #[.string t, va, vb] w fun e w' => e = .returned (.bool (((attrs t).filter (chB A B)).any (·.an))) ∧ Below w.heap.size w w' := by
  obtain ⟨oLa, oKa, cLa, cKa, ca, rfl, OA⟩ := hA.inv
  obtain ⟨oLb, oKb, cLb, cKb, cb, rfl, OB⟩ := hB.inv
  have b0 : Below w.heap.size w ((w.alloc (bx A oLa oKa cLa cKa)).alloc (bx B oLb oKb cLb cKb)) := bal (bal (Below.refl _ _) _) _
  have HB0 := Lib.hid b0
  have XA := Lib.hid ((Hd.made w A (.slice oLa A.l.length cLa) (.slice oKa A.ks.length cKa)).kept ((Below.refl (w.heap.size + 1) _).alloc (by simp) (bx B oLb oKb cLb cKb)) (Nat.lt_succ_self _))
  have XB : Hid (Hd ((w.alloc (bx A oLa oKa cLa cKa)).alloc (bx B oLb oKb cLb cKb)) (w.heap.size + 1) B (.slice oLb B.l.length cLb) (.slice oKb B.ks.length cKb)) := by have := Hd.made (w.alloc (bx A oLa oKa cLa cKa)) B (.slice oLb B.l.length cLb) (.slice oKb B.ks.length cKb); rw [World.size_alloc] at this; exact this
  have HS : Hid (((w.alloc (bx A oLa oKa cLa cKa)).alloc (bx B oLb oKb cLb cKb)).heap.size = w.heap.size + 2) := by simp [Hid]
  have HC := Lib.hid (changed_any t hsA hsB hkA hkB (OA.kept (b0.mono hn)).lies (OB.kept (b0.mono hn)).lies (Nat.le_trans hn b0.size) (hT.below b0 hT.lt))
  have HL19 : ((attrs t).filter (chB A B)).length ≤ 19 := Nat.le_trans (List.length_filter_le _ _) (attrs_len t)
  clear hA hB OA OB b0 hT hkA hkB hsA hsB
  generalize (attrs t).filter (chB A B) = l at *
  have HNO := Lib.hid (fun h => any_no (l := l) h)
  have HYES := Lib.hid (fun j hj h => any_yes (l := l) (j := j) hj h)
  generalize l.any (·.an) = R at *
  go_enter Tryd.func22, Tryd.ntmps22
  go_upto_region 1 with (fail)
  generalize (w.alloc _).alloc _ = w0 at *
  have hwl : w.heap.size ≤ w0.heap.size := by rw [HS.out]; omega
  obtain ⟨x8, x0, x1, x2, x3, x4, x5, x6, x7⟩ := XA.out
  obtain ⟨z8, z0, z1, z2, z3, z4, z5, z6, z7⟩ := XB.out
  go_wp2_with fail
  refine HC.out.mono ?_
  rintro e w1 ⟨o, cap, rfl, hR, hb1⟩
  have B1 := Lib.hid hb1
  have HR := Lib.hid (hR.mono (P' := fun b => b < w1.heap.size) fun b hb => hb.2)
  clear hb1 hR HC x8 x0 x1 x2 x3 x4 x5 x6 x7 z8 z0 z1 z2 z3 z4 z5 z6 z7 XA XB
  have k1 := HR.out.1
  have k2 := HR.out.2.1
  unfold maxLen at k2
  have hz1 := B1.out.size
  go_wp2_with fail
  go_loopw [14] (fun i wr => ∃ j : Nat, j ≤ l.length ∧ i = .int .i64 j ∧ Hid (∀ q, q < j → (aa l q).an = false) ∧ Hid (Below w1.heap.size w1 wr)) (fun i _ => l.length - (intOf i).toNat)
  case atStart => exact ⟨0, Nat.zero_le _, rfl, fun i hi => absurd hi (Nat.not_lt_zero i), Below.refl _ _⟩
  case round =>
    obtain ⟨j, hj, rfl, HQ, HRel⟩ := hrel
    have hzr := HRel.out.size
    have BR := Lib.hid (B1.out.trans (HRel.out.mono hz1))
    have BZ := Lib.hid (HB0.out.trans (BR.out.mono hwl))
    by_cases hlt : j < l.length
    · obtain ⟨b1, off1, rfl, hb1, E1⟩ := AtRow.el (RowP.below HR.out HRel.out) hlt
      have HY := Lib.hid (HYES.out j hlt)
      have HN : Hid ((aa l j).an = false → ∀ q, q < j + 1 → (aa l q).an = false) := fun h q hq => by
        by_cases e : q = j
        · subst e; exact h
        · exact HQ.out q (by omega)
      obtain ⟨a, ha⟩ : ∃ a, aa l j = a := ⟨_, rfl⟩
      rw [ha] at E1 HY HN
      clear ha
      obtain ⟨nm, tk, t2, nd, cm, an, ow⟩ := a
      obtain ⟨y0, y1, y2, y3, y4, y5, y6⟩ := E1
      have hlt' : (j : Int) < (l.length : Int) := by omega
      have HW := Lib.hid (bal HRel.out (.cells (ac ⟨nm, tk, t2, nd, cm, an, ow⟩) 31))
      have HZ := Lib.hid (bal BZ.out (.cells (ac ⟨nm, tk, t2, nd, cm, an, ow⟩) 31))
      have HAc := Lib.hid (rc7 (heap_alloc_new wr (.cells (ac ⟨nm, tk, t2, nd, cm, an, ow⟩) 31)))
      go_upto_region 4 with (fail)
      clear y0 y1 y2 y3 y4 y5 y6
      generalize World.alloc wr _ = w2 at *
      obtain ⟨a0, a1, a2, a3, a4, a5, a6, a7⟩ := HAc.out
      cases an with
      | true =>
        have HRR : Hid (R = true) := HY.out rfl
        go_wp2_with fail
        go_ret
        exact ⟨by rw [HRR.out]; rfl, HZ.out⟩
      | false =>
        have HNN := Lib.hid (HN.out rfl)
        go_wp2_with fail
        go_roundw
        case rel => exact ⟨j + 1, by omega, by go_num, HNN.out, HW.out⟩
        case measure => simp [intOf]; omega
    · have HRR : Hid (R = false) := HNO.out fun i hi => HQ.out i (by omega)
      go_wp2_with fail
      go_ret
      exact ⟨by rw [HRR.out]; rfl, BZ.out⟩
end Go.Proofs.YtfmgbhaldakpfaaDoor

/- The reference's Anew. -/
namespace Go.Proofs.YtfmgbhaldakpfaaDoor
open Go.RowKit

theorem map_nm {l : List Atr} {j : Nat} (hj : j < l.length) : (l.map (·.nm)).getD j default = (aa l j).nm := by
  rw [List.getD_eq_getElem?_getD, List.getElem?_map, aa_get hj]; rfl
theorem rfound_any {t : ByteArray} {a : Atr} (h : a ∈ attrs t) (w : World) : Calls Tryd.prog 10 #[.string t, .string a.nm] w fun e w' => e = .returned (.tuple #[av a, .bool true]) ∧ Below w.heap.size w w' := by
  refine (rfind2_any t a.nm w).mono ?_
  rintro e w' ⟨b, fb, rfl, hb, h2⟩
  rw [find_atr h] at h2
  obtain ⟨rfl, rfl⟩ := h2
  exact ⟨rfl, hb⟩
set_option maxHeartbeats 8000000 in
set_option maxRecDepth 100000 in
theorem ranewB_any {n : Nat} {A B : Val} {va vb : Value} {w : World} (t : ByteArray) (hsA : sz A ≤ 50000) (hsB : sz B ≤ 50000) (hkA : A.k = 5 → A.ks.length = A.l.length) (hkB : B.k = 5 → B.ks.length = B.l.length) (hA : Lies n w A va) (hB : Lies n w B vb) (hn : n ≤ w.heap.size) :
    Calls Tryd.prog 23 #[.string t, va, vb] w fun e w' => e = .returned (.bool (((attrs t).filter (chB A B)).any (·.an))) ∧ Below w.heap.size w w' := by
  obtain ⟨oLa, oKa, cLa, cKa, ca, rfl, OA⟩ := hA.inv
  obtain ⟨oLb, oKb, cLb, cKb, cb, rfl, OB⟩ := hB.inv
  have b0 : Below w.heap.size w ((w.alloc (bx A oLa oKa cLa cKa)).alloc (bx B oLb oKb cLb cKb)) := bal (bal (Below.refl _ _) _) _
  have HB0 := Lib.hid b0
  have XA := Lib.hid ((Hd.made w A (.slice oLa A.l.length cLa) (.slice oKa A.ks.length cKa)).kept ((Below.refl (w.heap.size + 1) _).alloc (by simp) (bx B oLb oKb cLb cKb)) (Nat.lt_succ_self _))
  have XB : Hid (Hd ((w.alloc (bx A oLa oKa cLa cKa)).alloc (bx B oLb oKb cLb cKb)) (w.heap.size + 1) B (.slice oLb B.l.length cLb) (.slice oKb B.ks.length cKb)) := by have := Hd.made (w.alloc (bx A oLa oKa cLa cKa)) B (.slice oLb B.l.length cLb) (.slice oKb B.ks.length cKb); rw [World.size_alloc] at this; exact this
  have HS : Hid (((w.alloc (bx A oLa oKa cLa cKa)).alloc (bx B oLb oKb cLb cKb)).heap.size = w.heap.size + 2) := by simp [Hid]
  have HC := Lib.hid (rchanged_any t hsA hsB hkA hkB (OA.kept (b0.mono hn)).lies (OB.kept (b0.mono hn)).lies (Nat.le_trans hn b0.size))
  have HL19 : ((attrs t).filter (chB A B)).length ≤ 19 := Nat.le_trans (List.length_filter_le _ _) (attrs_len t)
  have HME : Hid (∀ a, a ∈ (attrs t).filter (chB A B) → ∀ W, Calls Tryd.prog 10 #[.string t, .string a.nm] W fun e w' => e = .returned (.tuple #[av a, .bool true]) ∧ Below W.heap.size W w') := fun a ha W => rfound_any (List.mem_filter.1 ha).1 W
  clear hA hB OA OB b0 hkA hkB hsA hsB
  generalize (attrs t).filter (chB A B) = l at *
  have HNO := Lib.hid (fun h => any_no (l := l) h)
  have HYES := Lib.hid (fun j hj h => any_yes (l := l) (j := j) hj h)
  generalize l.any (·.an) = R at *
  have hlm : (l.map (·.nm)).length = l.length := by simp
  have HLM := Lib.hid hlm
  go_enter Tryd.func23, Tryd.ntmps23
  go_upto_region 1 with (fail)
  generalize (w.alloc _).alloc _ = w0 at *
  have hwl : w.heap.size ≤ w0.heap.size := by rw [HS.out]; omega
  obtain ⟨x8, x0, x1, x2, x3, x4, x5, x6, x7⟩ := XA.out
  obtain ⟨z8, z0, z1, z2, z3, z4, z5, z6, z7⟩ := XB.out
  go_wp2_with fail
  refine HC.out.mono ?_
  rintro e w1 ⟨o, cap, rfl, hR, hb1⟩
  rw [hlm] at hR ⊢
  clear hlm
  have B1 := Lib.hid hb1
  have HR := Lib.hid (hR.mono (P' := fun b => b < w1.heap.size) fun b hb => hb.2)
  clear hb1 hR HC x8 x0 x1 x2 x3 x4 x5 x6 x7 z8 z0 z1 z2 z3 z4 z5 z6 z7 XA XB
  have k1 := HR.out.1
  have k2 := HR.out.2.1
  unfold maxLen at k2
  have hz1 := B1.out.size
  go_wp2_with fail
  go_loopw [8] (fun i wr => ∃ j : Nat, j ≤ l.length ∧ i = .int .i64 j ∧ Hid (∀ q, q < j → (aa l q).an = false) ∧ Hid (Below w1.heap.size w1 wr)) (fun i _ => l.length - (intOf i).toNat)
  case atStart => exact ⟨0, Nat.zero_le _, rfl, fun i hi => absurd hi (Nat.not_lt_zero i), Below.refl _ _⟩
  case round =>
    obtain ⟨j, hj, rfl, HQ, HRel⟩ := hrel
    have hzr := HRel.out.size
    have BR := Lib.hid (B1.out.trans (HRel.out.mono hz1))
    have BZ := Lib.hid (HB0.out.trans (BR.out.mono hwl))
    by_cases hlt : j < l.length
    · obtain ⟨b1, off1, rfl, hb1, y0⟩ := RowP.el1 (RowP.below HR.out HRel.out) hlt
      rw [map_nm hlt] at y0
      have HY := Lib.hid (HYES.out j hlt)
      have HF := Lib.hid (HME.out _ (aa_mem hlt))
      have HN : Hid ((aa l j).an = false → ∀ q, q < j + 1 → (aa l q).an = false) := fun h q hq => by
        by_cases e : q = j
        · subst e; exact h
        · exact HQ.out q (by omega)
      obtain ⟨a, ha⟩ : ∃ a, aa l j = a := ⟨_, rfl⟩
      rw [ha] at y0 HY HN HF
      clear ha
      obtain ⟨nm, tk, t2, nd, cm, an, ow⟩ := a
      have hlt' : (j : Int) < (l.length : Int) := by omega
      have CF := Lib.hid (fun W => HF.out W)
      try dsimp only at y0 CF
      go_wp2_with fail
      refine (CF.out wr).mono ?_
      rintro e w2 ⟨rfl, b2⟩
      have HW := Lib.hid (bal (HRel.out.trans (b2.mono hzr)) (.cells (ac ⟨nm, tk, t2, nd, cm, an, ow⟩) 31))
      have HZ := Lib.hid (bal (BZ.out.trans (b2.mono (by omega))) (.cells (ac ⟨nm, tk, t2, nd, cm, an, ow⟩) 31))
      have HAc := Lib.hid (rc7 (heap_alloc_new w2 (.cells (ac ⟨nm, tk, t2, nd, cm, an, ow⟩) 31)))
      clear y0 b2
      go_upto_region 6 with (fail)
      generalize World.alloc w2 _ = w3 at *
      obtain ⟨a0, a1, a2, a3, a4, a5, a6, a7⟩ := HAc.out
      cases an with
      | true =>
        have HRR : Hid (R = true) := HY.out rfl
        go_wp2_with fail
        go_ret
        exact ⟨by rw [HRR.out]; rfl, HZ.out⟩
      | false =>
        have HNN := Lib.hid (HN.out rfl)
        go_wp2_with fail
        go_roundw
        case rel => exact ⟨j + 1, by omega, by go_num, HNN.out, HW.out⟩
        case measure => simp [intOf]; omega
    · have HRR : Hid (R = false) := HNO.out fun i hi => HQ.out i (by omega)
      go_wp2_with fail
      go_ret
      exact ⟨by rw [HRR.out]; rfl, BZ.out⟩
end Go.Proofs.YtfmgbhaldakpfaaDoor
