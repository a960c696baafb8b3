/- SchemaTells: the law's walk. -/
import Derived.Test.YtfmgbhaldakpfaaDoorSw
import Derived.Test.YtfmgbhaldakpfaaDoorSr
import Derived.Laws.StructEq
namespace Go.Proofs.YtfmgbhaldakpfaaDoor
open Go.RowKit

theorem eql_av (a : Atr) (w : World) : (binOp .eql 31 (av a) (av a)).run Tryd.prog w = .ok (.bool true) w := by
  go_simp
theorem neq_av (a : Atr) (w : World) : (binOp .neq 31 (av a) (av a)).run Tryd.prog w = .ok (.bool false) w := by
  go_simp
theorem eql_az (w : World) : (binOp .eql 31 azv azv).run Tryd.prog w = .ok (.bool true) w := by
  go_simp
theorem types4_row (P : Nat → Prop) (w : World) (g : Nat) (h : w.heap[g]? = some (.cells #[.string bDisk, .string bNode, .string bNote, .string bRule] 9 (0, 0))) (hP : P g) : RowP P w (some ⟨g, 0, none⟩) 4 types4.length 1 (fun j _ => .string (types4.getD j default)) := by
  refine ⟨Nat.le_refl _, by unfold maxLen; omega, fun e => (by cases e), fun _ => ⟨g, 0, rfl, hP, fun j hj m hm => ?_⟩⟩
  have hj : j < 4 := hj
  obtain rfl : m = 0 := by omega
  rw [cell_of_row w g _ _ _ _ h]
  match j, hj with
  | 0, _ => rfl
  | 1, _ => rfl
  | 2, _ => rfl
  | 3, _ => rfl
theorem eqK_self (l : List ByteArray) : eqK l l = true := decide_eq_true rfl
set_option maxHeartbeats 16000000 in
set_option maxRecDepth 100000 in
theorem ltells_any (t nm : ByteArray) (w : World) (h1 : t.size ≤ maxLen) (h2 : nm.size ≤ maxLen) (hT : Tab w) : Calls Tryd.prog 3 #[.string t, .string nm] w fun e w' => e = .returned (.bool true) ∧ Below w.heap.size w w' := by
  have HT := Lib.hid hT
  have HM := Lib.hid (And.intro h1 h2)
  clear hT
  by_cases q1 : 100 < t.size
  · have q1' : (100 : Int) < (t.size : Int) := by omega
    unfold maxLen at h1 h2
    go_enter Tryd.func3, Tryd.ntmps3
    go_wp2_with fail
    refine (awake_any w HT.out).mono ?_
    rintro e w1 ⟨rfl, hb⟩
    have HB := Lib.hid hb
    clear hb
    go_wp2_with fail
    go_ret
    exact ⟨rfl, HB.out⟩
  by_cases q2 : 100 < nm.size
  · have q1' : ¬ (100 : Int) < (t.size : Int) := by omega
    have q2' : (100 : Int) < (nm.size : Int) := by omega
    unfold maxLen at h1 h2
    go_enter Tryd.func3, Tryd.ntmps3
    go_wp2_with fail
    refine (awake_any w HT.out).mono ?_
    rintro e w1 ⟨rfl, hb⟩
    have HB := Lib.hid hb
    clear hb
    go_wp2_with fail
    go_ret
    exact ⟨rfl, HB.out⟩
  have q1' : ¬ (100 : Int) < (t.size : Int) := by omega
  have q2' : ¬ (100 : Int) < (nm.size : Int) := by omega
  have CA := Lib.hid (attrs_any t w HT.out)
  clear h1 h2 q1 q2
  go_enter Tryd.func3, Tryd.ntmps3
  go_wp2_with fail
  refine CA.out.mono ?_
  rintro e w1 hA
  have HNE : Hid (attrs t = attrs t) := rfl
  clear q1' q2'
  rcases hA with ⟨hnil, rfl, hb1⟩ | ⟨hne, o, cap, rfl, hR, hb1⟩
  · have HN := Lib.hid hnil
    have B1 := Lib.hid hb1
    have CRA := Lib.hid (rattrs_any t w1)
    unfold RAttrsPost at CRA
    rw [hnil] at CRA
    clear hnil hb1
    go_wp2_with fail
    refine CRA.out.mono ?_
    rintro e w2 ⟨o2, cap2, rfl, -, hb2⟩
    have BR := Lib.hid (B1.out.trans (hb2.mono B1.out.size))
    clear hb2
    rw [List.length_nil]
    obtain ⟨wr, hwr⟩ : ∃ wr, w2 = wr := ⟨_, rfl⟩
    subst hwr
    clear CRA CA
    go_wp2_with fail
    refine wp_loop_rounds 1 ?_
    rw [rounds_succ]
    skip
    go_wp2_with fail
    have CF := Lib.hid (sfind_any t nm w2 (HT.out.below BR.out HT.out.lt) HM.out.1 HM.out.2)
    have CR := Lib.hid (fun W => rfind_any t nm W)
    unfold FindPost at CF
    unfold RFP at CR
    cases hf : find t nm with
    | none =>
      rw [hf] at CF CR
      clear hf
      go_wp2_with fail
      refine CF.out.mono ?_
      rintro e w3 ⟨hb3, rfl⟩
      have B3 := Lib.hid (BR.out.trans (hb3.mono BR.out.size))
      clear hb3
      go_upto_region 13 with (fail)
      have K1 : Hid ((w3.alloc (.cells (az) 31)).heap[w3.heap.size]? = some (.cells (az) 31 (0, 0))) := heap_alloc_new _ _
      have B4 : Hid (Below w.heap.size w (w3.alloc (.cells (az) 31))) := bal B3.out _
      have Z4 : Hid (w3.heap.size < (w3.alloc (.cells (az) 31)).heap.size) := by simp [Hid]
      generalize w3.alloc _ = w4 at *
      go_wp2_with fail
      refine (CR.out w4).mono ?_
      rintro e w5 ⟨hb5, rfl⟩
      have B5 := Lib.hid (B4.out.trans (hb5.mono B4.out.size))
      have b45 := Lib.hid hb5
      clear hb5
      go_upto_region 14 with (fail)
      have K2 : Hid ((w5.alloc (.cells (az) 31)).heap[w5.heap.size]? = some (.cells (az) 31 (0, 0))) := heap_alloc_new _ _
      have B6 : Hid (Below w.heap.size w (w5.alloc (.cells (az) 31))) := bal B5.out _
      have b46 : Hid (Below w4.heap.size w4 (w5.alloc (.cells (az) 31))) := bal b45.out _
      have Z6 : Hid (w5.heap.size < (w5.alloc (.cells (az) 31)).heap.size) := by simp [Hid]
      generalize w5.alloc _ = w6 at *
      go_wp2_with fail
      refine (types_any w6 (HT.out.below B6.out HT.out.lt)).mono ?_
      rintro e w7 ⟨o7, c7, rfl, R7, hb7⟩
      have B7 := Lib.hid (B6.out.trans (hb7.mono B6.out.size))
      have K1' : w7.heap[w3.heap.size]? = some (.cells (az) 31 (0, 0)) := (hb7.block _ (Nat.lt_of_lt_of_le Z4.out b46.out.size)).trans ((b46.out.block _ Z4.out).trans K1.out)
      have K2' : w7.heap[w5.heap.size]? = some (.cells (az) 31 (0, 0)) := (hb7.block _ Z6.out).trans K2.out
      have R7' := Lib.hid (R7.mono (P' := fun b => b < w7.heap.size) fun b hb => hb.2)
      obtain ⟨a0, a1, a2, a3, a4, a5, a6, a7⟩ := rc7 K1'
      obtain ⟨b0, b1, b2, b3, b4, b5, b6, b7⟩ := rc7 K2'
      have EQ := eql_az
      have hR8 := Lib.hid (types4_row (fun b => b < w7.heap.size + 1) (w7.alloc (.cells #[.string bDisk, .string bNode, .string bNote, .string bRule] 9)) w7.heap.size (heap_alloc_new _ _) (Nat.lt_succ_self _))
      have hR7 := Lib.hid ((R7'.out.below (Below.refl _ _ |> fun h => bal (w := w7) h (.cells #[.string bDisk, .string bNode, .string bNote, .string bRule] 9))).mono (P' := fun b => b < w7.heap.size + 1) fun b hb => Nat.lt_succ_of_lt hb)
      have CS := Lib.hid (sameTexts_any hR7.out hR8.out (by simp))
      rw [eqK_self] at CS
      have B8 : Hid (Below w.heap.size w (w7.alloc (.cells #[.string bDisk, .string bNode, .string bNote, .string bRule] 9))) := bal B7.out _
      clear hb7 K1' K2' R7
      go_wp2_with fail
      refine CS.out.mono ?_
      rintro e w9 ⟨rfl, hb9⟩
      have B9 := Lib.hid (B8.out.trans (hb9.mono B8.out.size))
      clear hb9 a0 a1 a2 a3 a4 a5 a6 a7 b0 b1 b2 b3 b4 b5 b6 b7
      go_wp2_with fail
      refine (awake_any w9 (HT.out.below B9.out HT.out.lt)).mono ?_
      rintro e w10 ⟨rfl, hb10⟩
      have B10 := Lib.hid (B9.out.trans (hb10.mono B9.out.size))
      clear hb10
      go_wp2_with fail
      go_ret
      exact ⟨rfl, B10.out⟩
    | some a =>
      rw [hf] at CF CR
      clear hf
      go_wp2_with fail
      refine CF.out.mono ?_
      rintro e w3 ⟨hb3, rfl⟩
      have B3 := Lib.hid (BR.out.trans (hb3.mono BR.out.size))
      clear hb3
      go_upto_region 13 with (fail)
      have K1 : Hid ((w3.alloc (.cells (ac a) 31)).heap[w3.heap.size]? = some (.cells (ac a) 31 (0, 0))) := heap_alloc_new _ _
      have B4 : Hid (Below w.heap.size w (w3.alloc (.cells (ac a) 31))) := bal B3.out _
      have Z4 : Hid (w3.heap.size < (w3.alloc (.cells (ac a) 31)).heap.size) := by simp [Hid]
      generalize w3.alloc _ = w4 at *
      go_wp2_with fail
      refine (CR.out w4).mono ?_
      rintro e w5 ⟨hb5, rfl⟩
      have B5 := Lib.hid (B4.out.trans (hb5.mono B4.out.size))
      have b45 := Lib.hid hb5
      clear hb5
      go_upto_region 14 with (fail)
      have K2 : Hid ((w5.alloc (.cells (ac a) 31)).heap[w5.heap.size]? = some (.cells (ac a) 31 (0, 0))) := heap_alloc_new _ _
      have B6 : Hid (Below w.heap.size w (w5.alloc (.cells (ac a) 31))) := bal B5.out _
      have b46 : Hid (Below w4.heap.size w4 (w5.alloc (.cells (ac a) 31))) := bal b45.out _
      have Z6 : Hid (w5.heap.size < (w5.alloc (.cells (ac a) 31)).heap.size) := by simp [Hid]
      generalize w5.alloc _ = w6 at *
      go_wp2_with fail
      refine (types_any w6 (HT.out.below B6.out HT.out.lt)).mono ?_
      rintro e w7 ⟨o7, c7, rfl, R7, hb7⟩
      have B7 := Lib.hid (B6.out.trans (hb7.mono B6.out.size))
      have K1' : w7.heap[w3.heap.size]? = some (.cells (ac a) 31 (0, 0)) := (hb7.block _ (Nat.lt_of_lt_of_le Z4.out b46.out.size)).trans ((b46.out.block _ Z4.out).trans K1.out)
      have K2' : w7.heap[w5.heap.size]? = some (.cells (ac a) 31 (0, 0)) := (hb7.block _ Z6.out).trans K2.out
      have R7' := Lib.hid (R7.mono (P' := fun b => b < w7.heap.size) fun b hb => hb.2)
      obtain ⟨a0, a1, a2, a3, a4, a5, a6, a7⟩ := rc7 K1'
      obtain ⟨b0, b1, b2, b3, b4, b5, b6, b7⟩ := rc7 K2'
      have EQ := eql_av a
      have hR8 := Lib.hid (types4_row (fun b => b < w7.heap.size + 1) (w7.alloc (.cells #[.string bDisk, .string bNode, .string bNote, .string bRule] 9)) w7.heap.size (heap_alloc_new _ _) (Nat.lt_succ_self _))
      have hR7 := Lib.hid ((R7'.out.below (Below.refl _ _ |> fun h => bal (w := w7) h (.cells #[.string bDisk, .string bNode, .string bNote, .string bRule] 9))).mono (P' := fun b => b < w7.heap.size + 1) fun b hb => Nat.lt_succ_of_lt hb)
      have CS := Lib.hid (sameTexts_any hR7.out hR8.out (by simp))
      rw [eqK_self] at CS
      have B8 : Hid (Below w.heap.size w (w7.alloc (.cells #[.string bDisk, .string bNode, .string bNote, .string bRule] 9))) := bal B7.out _
      clear hb7 K1' K2' R7
      go_wp2_with fail
      refine CS.out.mono ?_
      rintro e w9 ⟨rfl, hb9⟩
      have B9 := Lib.hid (B8.out.trans (hb9.mono B8.out.size))
      clear hb9 a0 a1 a2 a3 a4 a5 a6 a7 b0 b1 b2 b3 b4 b5 b6 b7
      go_wp2_with fail
      refine (awake_any w9 (HT.out.below B9.out HT.out.lt)).mono ?_
      rintro e w10 ⟨rfl, hb10⟩
      have B10 := Lib.hid (B9.out.trans (hb10.mono B9.out.size))
      clear hb10
      go_wp2_with fail
      go_ret
      exact ⟨rfl, B10.out⟩
  · have B1 := Lib.hid hb1
    have CRA := Lib.hid (rattrs_any t w1)
    unfold RAttrsPost at CRA
    have hpos : 0 < (attrs t).length := List.length_pos_iff.2 hne
    obtain ⟨l, hl⟩ : ∃ l, attrs t = l := ⟨_, rfl⟩
    rw [hl] at CRA hR hpos ⊢
    have HL := Lib.hid hl
    have HR := Lib.hid (hR.mono (P' := fun b => b < w1.heap.size) fun b hb => hb.2)
    clear hne hb1 hR hl CA
    go_wp2_with fail
    refine CRA.out.mono ?_
    rintro e w2 ⟨o2, cap2, rfl, hR2, hb2⟩
    have B2 := Lib.hid (B1.out.trans (hb2.mono B1.out.size))
    have HR2 := Lib.hid (And.intro ((RowP.below HR.out hb2).mono (P' := fun b => b < w2.heap.size) fun b hb => Nat.lt_of_lt_of_le hb hb2.size) (hR2.mono (P' := fun b => b < w2.heap.size) fun b hb => hb.2))
    clear hb2 hR2 CRA
    have k1 := HR2.out.1.1
    have k2 := HR2.out.1.2.1
    have k3 := HR2.out.2.1
    have k4 := HR2.out.2.2.1
    unfold maxLen at k2 k4
    have hpos' : (0 : Int) < (l.length : Int) := by omega
    go_wp2_with fail
    go_loopw [8] (fun i wr => ∃ j : Nat, j ≤ l.length ∧ i = .int .i64 j ∧ Hid (Below w2.heap.size w2 wr)) (fun i _ => l.length - (intOf i).toNat)
    case atStart => exact ⟨0, Nat.zero_le _, rfl, Below.refl _ _⟩
    case round =>
      obtain ⟨j, hj, rfl, HRel⟩ := hrel
      by_cases hlt : j < l.length
      · obtain ⟨b1, off1, rfl, hb1, E1⟩ := AtRow.el (RowP.below HR2.out.1 HRel.out) hlt
        obtain ⟨b2, off2, rfl, hb2, E2⟩ := AtRow.el (RowP.below HR2.out.2 HRel.out) hlt
        obtain ⟨a, ha⟩ : ∃ a, aa l j = a := ⟨_, rfl⟩
        rw [ha] at E1 E2
        clear ha
        have NQ := neq_av a
        have hlt' : (j : Int) < (l.length : Int) := by omega
        obtain ⟨y0, y1, y2, y3, y4, y5, y6⟩ := E1
        obtain ⟨z0, z1, z2, z3, z4, z5, z6⟩ := E2
        go_wp2_with fail
        go_quiet (fail)
        go_wp2_with fail
        go_roundw
        case rel => exact ⟨j + 1, by omega, by go_num, below_drewN HRel.out _⟩
        case measure => simp [intOf]; omega
      · have BR := Lib.hid (B2.out.trans (HRel.out.mono B2.out.size))
        have CF := Lib.hid (sfind_any t nm wr (HT.out.below BR.out HT.out.lt) HM.out.1 HM.out.2)
        have CR := Lib.hid (fun W => rfind_any t nm W)
        unfold FindPost at CF
        unfold RFP at CR
        cases hf : find t nm with
        | none =>
          rw [hf] at CF CR
          clear hf
          go_wp2_with fail
          refine CF.out.mono ?_
          rintro e w3 ⟨hb3, rfl⟩
          have B3 := Lib.hid (BR.out.trans (hb3.mono BR.out.size))
          clear hb3
          go_upto_region 13 with (fail)
          have K1 : Hid ((w3.alloc (.cells (az) 31)).heap[w3.heap.size]? = some (.cells (az) 31 (0, 0))) := heap_alloc_new _ _
          have B4 : Hid (Below w.heap.size w (w3.alloc (.cells (az) 31))) := bal B3.out _
          have Z4 : Hid (w3.heap.size < (w3.alloc (.cells (az) 31)).heap.size) := by simp [Hid]
          generalize w3.alloc _ = w4 at *
          go_wp2_with fail
          refine (CR.out w4).mono ?_
          rintro e w5 ⟨hb5, rfl⟩
          have B5 := Lib.hid (B4.out.trans (hb5.mono B4.out.size))
          have b45 := Lib.hid hb5
          clear hb5
          go_upto_region 14 with (fail)
          have K2 : Hid ((w5.alloc (.cells (az) 31)).heap[w5.heap.size]? = some (.cells (az) 31 (0, 0))) := heap_alloc_new _ _
          have B6 : Hid (Below w.heap.size w (w5.alloc (.cells (az) 31))) := bal B5.out _
          have b46 : Hid (Below w4.heap.size w4 (w5.alloc (.cells (az) 31))) := bal b45.out _
          have Z6 : Hid (w5.heap.size < (w5.alloc (.cells (az) 31)).heap.size) := by simp [Hid]
          generalize w5.alloc _ = w6 at *
          go_wp2_with fail
          refine (types_any w6 (HT.out.below B6.out HT.out.lt)).mono ?_
          rintro e w7 ⟨o7, c7, rfl, R7, hb7⟩
          have B7 := Lib.hid (B6.out.trans (hb7.mono B6.out.size))
          have K1' : w7.heap[w3.heap.size]? = some (.cells (az) 31 (0, 0)) := (hb7.block _ (Nat.lt_of_lt_of_le Z4.out b46.out.size)).trans ((b46.out.block _ Z4.out).trans K1.out)
          have K2' : w7.heap[w5.heap.size]? = some (.cells (az) 31 (0, 0)) := (hb7.block _ Z6.out).trans K2.out
          have R7' := Lib.hid (R7.mono (P' := fun b => b < w7.heap.size) fun b hb => hb.2)
          obtain ⟨a0, a1, a2, a3, a4, a5, a6, a7⟩ := rc7 K1'
          obtain ⟨b0, b1, b2, b3, b4, b5, b6, b7⟩ := rc7 K2'
          have EQ := eql_az
          have hR8 := Lib.hid (types4_row (fun b => b < w7.heap.size + 1) (w7.alloc (.cells #[.string bDisk, .string bNode, .string bNote, .string bRule] 9)) w7.heap.size (heap_alloc_new _ _) (Nat.lt_succ_self _))
          have hR7 := Lib.hid ((R7'.out.below (Below.refl _ _ |> fun h => bal (w := w7) h (.cells #[.string bDisk, .string bNode, .string bNote, .string bRule] 9))).mono (P' := fun b => b < w7.heap.size + 1) fun b hb => Nat.lt_succ_of_lt hb)
          have CS := Lib.hid (sameTexts_any hR7.out hR8.out (by simp))
          rw [eqK_self] at CS
          have B8 : Hid (Below w.heap.size w (w7.alloc (.cells #[.string bDisk, .string bNode, .string bNote, .string bRule] 9))) := bal B7.out _
          clear hb7 K1' K2' R7
          go_wp2_with fail
          refine CS.out.mono ?_
          rintro e w9 ⟨rfl, hb9⟩
          have B9 := Lib.hid (B8.out.trans (hb9.mono B8.out.size))
          clear hb9 a0 a1 a2 a3 a4 a5 a6 a7 b0 b1 b2 b3 b4 b5 b6 b7
          go_wp2_with fail
          refine (awake_any w9 (HT.out.below B9.out HT.out.lt)).mono ?_
          rintro e w10 ⟨rfl, hb10⟩
          have B10 := Lib.hid (B9.out.trans (hb10.mono B9.out.size))
          clear hb10
          go_wp2_with fail
          go_ret
          exact ⟨rfl, B10.out⟩
        | some a =>
          rw [hf] at CF CR
          clear hf
          go_wp2_with fail
          refine CF.out.mono ?_
          rintro e w3 ⟨hb3, rfl⟩
          have B3 := Lib.hid (BR.out.trans (hb3.mono BR.out.size))
          clear hb3
          go_upto_region 13 with (fail)
          have K1 : Hid ((w3.alloc (.cells (ac a) 31)).heap[w3.heap.size]? = some (.cells (ac a) 31 (0, 0))) := heap_alloc_new _ _
          have B4 : Hid (Below w.heap.size w (w3.alloc (.cells (ac a) 31))) := bal B3.out _
          have Z4 : Hid (w3.heap.size < (w3.alloc (.cells (ac a) 31)).heap.size) := by simp [Hid]
          generalize w3.alloc _ = w4 at *
          go_wp2_with fail
          refine (CR.out w4).mono ?_
          rintro e w5 ⟨hb5, rfl⟩
          have B5 := Lib.hid (B4.out.trans (hb5.mono B4.out.size))
          have b45 := Lib.hid hb5
          clear hb5
          go_upto_region 14 with (fail)
          have K2 : Hid ((w5.alloc (.cells (ac a) 31)).heap[w5.heap.size]? = some (.cells (ac a) 31 (0, 0))) := heap_alloc_new _ _
          have B6 : Hid (Below w.heap.size w (w5.alloc (.cells (ac a) 31))) := bal B5.out _
          have b46 : Hid (Below w4.heap.size w4 (w5.alloc (.cells (ac a) 31))) := bal b45.out _
          have Z6 : Hid (w5.heap.size < (w5.alloc (.cells (ac a) 31)).heap.size) := by simp [Hid]
          generalize w5.alloc _ = w6 at *
          go_wp2_with fail
          refine (types_any w6 (HT.out.below B6.out HT.out.lt)).mono ?_
          rintro e w7 ⟨o7, c7, rfl, R7, hb7⟩
          have B7 := Lib.hid (B6.out.trans (hb7.mono B6.out.size))
          have K1' : w7.heap[w3.heap.size]? = some (.cells (ac a) 31 (0, 0)) := (hb7.block _ (Nat.lt_of_lt_of_le Z4.out b46.out.size)).trans ((b46.out.block _ Z4.out).trans K1.out)
          have K2' : w7.heap[w5.heap.size]? = some (.cells (ac a) 31 (0, 0)) := (hb7.block _ Z6.out).trans K2.out
          have R7' := Lib.hid (R7.mono (P' := fun b => b < w7.heap.size) fun b hb => hb.2)
          obtain ⟨a0, a1, a2, a3, a4, a5, a6, a7⟩ := rc7 K1'
          obtain ⟨b0, b1, b2, b3, b4, b5, b6, b7⟩ := rc7 K2'
          have EQ := eql_av a
          have hR8 := Lib.hid (types4_row (fun b => b < w7.heap.size + 1) (w7.alloc (.cells #[.string bDisk, .string bNode, .string bNote, .string bRule] 9)) w7.heap.size (heap_alloc_new _ _) (Nat.lt_succ_self _))
          have hR7 := Lib.hid ((R7'.out.below (Below.refl _ _ |> fun h => bal (w := w7) h (.cells #[.string bDisk, .string bNode, .string bNote, .string bRule] 9))).mono (P' := fun b => b < w7.heap.size + 1) fun b hb => Nat.lt_succ_of_lt hb)
          have CS := Lib.hid (sameTexts_any hR7.out hR8.out (by simp))
          rw [eqK_self] at CS
          have B8 : Hid (Below w.heap.size w (w7.alloc (.cells #[.string bDisk, .string bNode, .string bNote, .string bRule] 9))) := bal B7.out _
          clear hb7 K1' K2' R7
          go_wp2_with fail
          refine CS.out.mono ?_
          rintro e w9 ⟨rfl, hb9⟩
          have B9 := Lib.hid (B8.out.trans (hb9.mono B8.out.size))
          clear hb9 a0 a1 a2 a3 a4 a5 a6 a7 b0 b1 b2 b3 b4 b5 b6 b7
          go_wp2_with fail
          refine (awake_any w9 (HT.out.below B9.out HT.out.lt)).mono ?_
          rintro e w10 ⟨rfl, hb10⟩
          have B10 := Lib.hid (B9.out.trans (hb10.mono B9.out.size))
          clear hb10
          go_wp2_with fail
          go_ret
          exact ⟨rfl, B10.out⟩
end Go.Proofs.YtfmgbhaldakpfaaDoor
