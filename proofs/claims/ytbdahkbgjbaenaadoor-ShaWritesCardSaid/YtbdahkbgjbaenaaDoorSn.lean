/- Contract: Sum of the reference, of nil. -/
import Derived.Test.YtbdahkbgjbaenaaDoorS
namespace Go.Proofs.YtbdahkbgjbaenaaDoor
open Go.RowKit

set_option maxRecDepth 100000 in
set_option maxHeartbeats 20000000 in
theorem rsum_none (sp : Option Addr) (cap : Nat) (M : List Int) (w : World) (hr : Rd w sp M) (hs : sp = none → M = [] ∧ cap = 0) (hb : isB M) (hl : M.length ≤ 300) (hno : sp = none) :
    Calls Tryd.prog 10 #[.slice sp M.length cap] w fun e w' => e = .returned (.agg (mk .u8 32 (dig M))) ∧ Below w.heap.size w w' := by
  obtain ⟨i0, hi, hz0, hz1, hz2⟩ := info_parts info5
  obtain ⟨i1, hj, hy0, hy1, hy2⟩ := info_parts info51
  have HR := Lib.hid hr
  have HBB := Lib.hid hb
  clear hr hb
  have M0 : Mo w ((w.alloc (.cells (mk .u8 32 fun _ => 0) 27)).alloc (.cells #[] 5)) (.slice (some ⟨w.heap.size + 1, 0, none⟩) 0 0) [] :=
    ⟨by have := World.ownsRow_made (w.alloc (.cells (mk .u8 32 fun _ => 0) 27)) (base := w.heap.size + 1) (e := 5) (size := 1) #[] 0 (by simp) (by unfold maxLen; omega) rfl; simpa using this, (Below.refl _ _).alloc (by simp) _⟩
  have HM0 := Lib.hid M0
  have b0 : Below w.heap.size w ((w.alloc (.cells (mk .u8 32 fun _ => 0) 27)).alloc (.cells #[] 5)) := ((Below.refl _ _).alloc (Nat.le_refl _) _).alloc (by simp) _
  have HB0 := Lib.hid b0
  clear M0 b0
  rw [Z27] at HM0 HB0
  cases sp with
  | none =>
    obtain ⟨hM, rfl⟩ := hs rfl
    have HMN := Lib.hid hM
    clear hM hs hno
    have hlen : Value.slice none M.length 0 = .slice none 0 0 := by rw [HMN.out]; rfl
    have HLE := Lib.hid hlen
    clear hlen
    have HM1 : Hid (Mo w ((w.alloc (.cells #[.int .u8 0, .int .u8 0, .int .u8 0, .int .u8 0, .int .u8 0, .int .u8 0, .int .u8 0, .int .u8 0, .int .u8 0, .int .u8 0, .int .u8 0, .int .u8 0, .int .u8 0, .int .u8 0, .int .u8 0, .int .u8 0, .int .u8 0, .int .u8 0, .int .u8 0, .int .u8 0, .int .u8 0, .int .u8 0, .int .u8 0, .int .u8 0, .int .u8 0, .int .u8 0, .int .u8 0, .int .u8 0, .int .u8 0, .int .u8 0, .int .u8 0, .int .u8 0] 27)).alloc (.cells #[] 5)) (.slice (some ⟨w.heap.size + 1, 0, none⟩) 0 0) M) := by
      unfold Hid; rw [HMN.out]; exact HM0.out
    go_enter Tryd.func10, Tryd.ntmps10
    clear HB0 HR
    have e0 : ((w.alloc (.cells #[.int .u8 0, .int .u8 0, .int .u8 0, .int .u8 0, .int .u8 0, .int .u8 0, .int .u8 0, .int .u8 0, .int .u8 0, .int .u8 0, .int .u8 0, .int .u8 0, .int .u8 0, .int .u8 0, .int .u8 0, .int .u8 0, .int .u8 0, .int .u8 0, .int .u8 0, .int .u8 0, .int .u8 0, .int .u8 0, .int .u8 0, .int .u8 0, .int .u8 0, .int .u8 0, .int .u8 0, .int .u8 0, .int .u8 0, .int .u8 0, .int .u8 0, .int .u8 0] 27)).alloc (.cells #[] 5)).heap.size = w.heap.size + 1 + 1 := by simp
    have c0 := cell_one_new ((w.alloc (.cells #[.int .u8 0, .int .u8 0, .int .u8 0, .int .u8 0, .int .u8 0, .int .u8 0, .int .u8 0, .int .u8 0, .int .u8 0, .int .u8 0, .int .u8 0, .int .u8 0, .int .u8 0, .int .u8 0, .int .u8 0, .int .u8 0, .int .u8 0, .int .u8 0, .int .u8 0, .int .u8 0, .int .u8 0, .int .u8 0, .int .u8 0, .int .u8 0, .int .u8 0, .int .u8 0, .int .u8 0, .int .u8 0, .int .u8 0, .int .u8 0, .int .u8 0, .int .u8 0] 27)).alloc (.cells #[] 5)) (.int .u8 128) 5
    rw [e0] at c0
    have CN0 := Lib.hid c0
    clear e0 c0
    go_wp2_with (first | (at_builtin; refine wpList_append_own_none rfl (.tmp 26) (.tmp 27) 22 rfl (w.heap.size + 1) 5 i0 1 Tryd.underlying22 hi _ 0 [] rfl HM0.out.own HLE.out ?_) | (at_builtin; go_must (refine wpList_append_own _ rfl (.tmp 29) (.tmp 30) 22 rfl (w.heap.size + 1) 5 i0 (.int .u8 0) 1 1 Tryd.underlying22 hi hz0 hz1 hz2 rfl (by decide) _ M.length _ rfl (HM1.out.alloc _).own ⟨w.heap.size + 1 + 1, 0, none⟩ 1 1 [.int .u8 128] rfl (by simp) CN0.out (map_one [128]) (by unfold maxLen; simp; omega) (by simp; omega) (by simp only [World.size_alloc]; omega) ?_)))
    intro v2 w2 o2 g2 _
    have HM2 : Hid (Mo w w2 v2 (M ++ [128])) := (HM1.out.alloc _).more (X := [128]) (by simpa using o2) g2
    clear o2 g2 HM1 CN0 HM0 HLE
    go_wp2_with fail
    go_loopw [3] (fun v wr => ∃ k : Nat, k ≤ zerosOf M.length ∧ Hid (Mo w wr v ((M ++ [128]) ++ List.replicate k 0))) (fun v _ => 400 - lenOf v)
    case atStart => exact ⟨0, Nat.zero_le _, by unfold Hid; simpa using HM2.out⟩
    case round =>
      clear HM2
      obtain ⟨k, hk, HM⟩ := hrel
      have hz : zerosOf M.length < 64 := Nat.mod_lt _ (by omega)
      obtain ⟨L, hLL⟩ : ∃ L, (M ++ [128]) ++ List.replicate k (0 : Int) = L := ⟨_, rfl⟩
      have hL : L.length = M.length + 1 + k := by rw [← hLL]; simp; omega
      rw [hLL] at HM
      obtain ⟨g, cp, rfl, hg1, hg2, hcp1, hcp2, _⟩ := owns_form HM.out.own (by omega)
      have N1 : L.length ≤ M.length + 1 + k := by omega
      have HLL := Lib.hid hLL
      have HL := Lib.hid hL
      unfold maxLen at hcp2
      by_cases hlt : k < zerosOf M.length
      · as_aux_lemma =>
          have zn := zeros_not M.length k hlt
          rw [← hL] at zn
          clear hLL hL
          go_wp2_with (at_builtin; go_must (refine wpList_append_own _ rfl (.tmp 36) (.tmp 37) 22 rfl (w.heap.size + 1) 5 i0 (.int .u8 0) 1 1 Tryd.underlying22 hi hz0 hz1 hz2 rfl (by decide) _ L.length (L.map (Value.int .u8)) rfl (HM.out.alloc _).own ⟨wr.heap.size, 0, none⟩ 1 1 [.int .u8 0] rfl rfl (cell_one_new _ _ _) (map_one [0]) (by unfold maxLen; omega) (by omega) (by have := HM.out.bel.size; simp at this ⊢; omega) ?_))
          intro v3 w3 o3 g3 _
          have HM3 := Lib.hid ((HM.out.alloc (.cells #[.int .u8 0] 5)).more (X := [0]) o3 g3)
          clear o3 g3
          go_wp2_with fail
          go_roundw
          case rel => exact ⟨k + 1, by omega, by
            unfold Hid
            rw [List.replicate_succ', ← List.append_assoc, HLL.out]
            exact HM3.out⟩
          case measure =>
            obtain ⟨g', cp', rfl, _⟩ := owns_form HM3.out.own (by simp)
            simp [lenOf]
            omega
      · have hkz : k = zerosOf M.length := by omega
        have zn := zeros_yes M.length
        rw [← hkz, ← hL] at zn
        clear hLL hL
        go_wp2_with fail
        refine (form8_any ((M.length : Int) * 8) _ (by omega) (by omega)).mono ?_
        rintro e w4 ⟨rfl, r4, b4⟩
        have HM4 := Lib.hid (HM.out.below b4 (by have := HL.out; omega))
        have S4 := Lib.hid (r4.srcL (formL_len (8 * M.length) 8) (fun i hi => by rw [formL_get _ _ _ hi, Int.mul_comm]))
        clear r4 b4 HM zn
        have hkzh := Lib.hid hkz
        clear hkz
        go_wp2_with (at_builtin; go_must (refine wpList_append_own _ rfl (.tmp 39) (.tmp 44) 22 rfl (w.heap.size + 1) 5 i0 (.int .u8 0) 1 1 Tryd.underlying22 hi hz0 hz1 hz2 rfl (by decide) _ L.length (L.map (Value.int .u8)) rfl HM4.out.own ⟨wr.heap.size, 0, none⟩ 8 8 ((formL (8 * M.length) 8).map (Value.int .u8)) rfl (by simp [formL_len]) S4.out (map_one _) (by unfold maxLen; omega) (by omega) (by have := HM4.out.bel.size; simp at this ⊢; omega) ?_))
        intro v5 w5 o5 g5 _
        have HM5 : Hid (Mo w w5 v5 (padded M)) := by
          have := HM4.out.more (X := formL (8 * M.length) 8) (by rw [formL_len]; exact o5) g5
          rw [← HLL.out, hkzh.out] at this
          have e : padded M = (M ++ [128]) ++ List.replicate (zerosOf M.length) 0 ++ formL (8 * M.length) 8 := by unfold padded; simp
          unfold Hid; rw [e]; exact this
        clear o5 g5 HM4 S4 HLL HL
        have pl := padded_len M
        have pb := Lib.hid (padded_byte M HBB.out)
        have pd := Lib.hid (show digSt M = after (padded M) ((padded M).length / 64) from rfl)
        generalize hP : padded M = P at *
        have HPP := Lib.hid hP
        clear hP
        have pl1 := pl.1
        have pl2 := pl.2
        have pn : 0 < P.length := by rw [← HPP.out, padded_eq, List.length_append, formL_len]; omega
        obtain ⟨gm, cm, rfl, gm1, gm2, cm1, cm2, cellm⟩ := owns_form HM5.out.own pn
        have B5 := Lib.hid (Bk0.mk (fun j hj => by have := cellm j (.int .u8 (P.getD j 0)) (by simp [List.getD, hj]); exact this) gm2 HM5.out.bel : Bk0 w w5 gm P)
        unfold maxLen at cm2
        clear HM5 cellm gm1 gm2 pl N1 hcp1 hcp2 hg1 hg2
        go_wp2_with fail
        refine (constants_any _).mono ?_
        rintro e w6 ⟨rfl, h6⟩
        rw [S51] at h6
        have BK : Hid (Bk w w6 gm w5.heap.size (w5.heap.size + 1) P 0) := by
          unfold Hid; rw [h6]
          exact ⟨(B5.out.alloc _).alloc _, (Row.made w5 51 .u32 8 st0.at).alloc _, heap_alloc2_new w5 _ _⟩
        clear h6
        go_wp2_with fail
        go_loopw [4, 6] (fun h a wr => ∃ t gh : Nat, 64 * t ≤ P.length ∧ a = .int .i64 (64 * (t : Int)) ∧ h = .slice (some ⟨gh, 0, none⟩) 8 8 ∧ Hid (Bk w wr gm gh (w5.heap.size + 1) P t)) (fun _ a _ => P.length - (intOf a).toNat)
        case atStart => exact ⟨0, _, Nat.zero_le _, by simp, rfl, BK.out⟩
        case round =>
          clear BK B5
          obtain ⟨t, gh, ht, rfl, rfl, BK⟩ := hrel
          by_cases hlt2 : 64 * t < P.length
          · have ht64 : 64 * t + 64 ≤ P.length := by omega
            obtain ⟨wo, rfl⟩ : ∃ wo : World, wo = wr := ⟨_, rfl⟩
            have hd1 : decide (64 * (t : Int) < (P.length : Int)) = true := decide_eq_true (by omega)
            have HW := Lib.hid (sch_isW (wordOf (blk P t)) (fun i hi => word_isW _ (fun j hj => pb.out _) i hi))
            go_wp2_with fail
            go_loopw [7, 8] (fun v i wr => ∃ k : Nat, k ≤ 16 ∧ i = .int .i64 k ∧ Hid (wr.ownsRow wo.heap.size 51 1 v k ((List.range k).map fun j => .int .u32 (sch (wordOf (blk P t)) j))) ∧ Hid (Below wo.heap.size wo wr)) (fun _ i _ => 16 - (intOf i).toNat)
            case atStart => exact ⟨0, Nat.zero_le _, rfl, World.ownsRow_nil _ _ _ _, Below.refl _ _⟩
            case round =>
              obtain ⟨k, hk, rfl, HO, HB⟩ := hrel
              by_cases hlt3 : k < 16
              · have hsl := slice22lh gm (64 * t + 4 * k) 4 P.length cm (64 * (t : Int) + 4 * k) (64 * (t : Int) + 4 * k + 4) (by omega) (by omega) (by omega) (by omega) (by omega)
                have NA : ∀ c, Calls Tryd.prog 22 #[.slice (some ⟨gm, 64 * t + 4 * k, none⟩) 4 c] wr fun e w' => e = .returned (.int .u64 (numA (fun j => P.getD (64 * t + 4 * k + j) 0) 4)) ∧ wr = w' := fun c =>
                  number_any (some ⟨gm, 64 * t + 4 * k, none⟩) 4 c (fun j => P.getD (64 * t + 4 * k + j) 0) wr (by omega) (fun j _ => pb.out _) (fun j hj => ⟨gm, 64 * t + 4 * k, rfl, (BK.out.below HB.out).b0.msg _ (by omega)⟩)
                have e4 : numA (fun j => P.getD (64 * t + 4 * k + j) 0) 4 = sch (wordOf (blk P t)) k := by
                  rw [numA4, sch_lo _ _ hlt3]
                  unfold wordOf blk
                  simp only [Nat.add_zero, Nat.add_assoc]
                rw [e4] at NA
                have bw := HW.out k
                have E := Lib.hid e4
                clear e4
                generalize hx : sch (wordOf (blk P t)) k = x at *
                have HX := Lib.hid hx
                clear hx
                have bw1 := bw.1
                have bw2 := bw.2
                go_wp2_with fail
                refine (NA _).mono ?_
                rintro e w' ⟨rfl, rfl⟩
                clear NA hsl
                go_wp2_with (at_builtin; go_must (refine wpList_append_own _ rfl (.tmp 58) (.tmp 72) 52 rfl wo.heap.size 51 i1 (.int .u32 0) 1 4 Tryd.underlying52 hj hy0 hy1 hy2 rfl (by decide) _ k _ rfl (HO.out.alloc _) ⟨wr.heap.size, 0, none⟩ 1 1 [.int .u32 x] rfl rfl (cell_one_new _ _ _) (by intro u hu; simp at hu; subst hu; rfl) (by unfold maxLen; omega) (by omega) (by have := HB.out.size; simp at this ⊢; omega) ?_))
                intro v7 w7 o7 g7 _
                have HO7 := Lib.hid o7
                have HB7 := Lib.hid ((HB.out.alloc HB.out.size (.cells #[.int .u32 x] 51)).grown g7 (by have := HB.out.size; simp; omega) (fun k hk => ((HO.out.alloc (.cells #[.int .u32 x] 51)).lt k hk).1))
                clear o7 g7
                go_wp2_with fail
                go_roundw
                case rel =>
                  have h1 : Hid (w7.ownsRow wo.heap.size 51 1 v7 (k + 1) ((List.range (k + 1)).map fun j => .int .u32 (sch (wordOf (blk P t)) j))) := by
                    unfold Hid
                    rw [List.range_succ, List.map_append]
                    have := HO7.out
                    rw [← HX.out] at this
                    exact this
                  first
                    | exact ⟨k + 1, by omega, by go_num, h1, HB7.out⟩
                    | ((repeat apply Exists.intro); refine ⟨⟨k + 1, by omega, ?_, h1, HB7.out⟩, rfl⟩; go_num)
                case measure => simp [intOf]; omega
              · have hk16 : k = 16 := by omega
                rw [hk16] at HO
                have hk16h := Lib.hid hk16
                clear hk16
                have HK := Lib.hid (BK.out.below HB.out)
                have HO3 := Lib.hid HO.out
                clear HO
                go_wp2_with fail
                go_loopw [7, 9] (fun v i wr => ∃ k : Nat, 16 ≤ k ∧ k ≤ 64 ∧ i = .int .i64 k ∧ Hid (wr.ownsRow wo.heap.size 51 1 v k ((List.range k).map fun j => .int .u32 (sch (wordOf (blk P t)) j))) ∧ Hid (Below wo.heap.size wo wr)) (fun _ i _ => 64 - (intOf i).toNat)
                case atStart => exact ⟨16, by omega, by omega, rfl, HO3.out, HB.out⟩
                case round =>
                  clear HO3 HB HK
                  obtain ⟨k, hk1, hk2, rfl, HO, HB⟩ := hrel
                  obtain ⟨g7, c7, rfl, gb7, gl7, cp7, cq7, cell7⟩ := owns_form HO.out (by omega)
                  have cc : ∀ j, j < k → wr.cell? ⟨g7, j, none⟩ = some (.int .u32 (sch (wordOf (blk P t)) j)) := fun j hj => cell7 j _ (by simp [hj])
                  have CC := Lib.hid cc
                  clear cc cell7
                  unfold maxLen at cq7
                  by_cases hlt4 : k < 64
                  · have c15 := CC.out (k - 15) (by omega)
                    have c2 := CC.out (k - 2) (by omega)
                    have i15 : IntKind.i64.wrap ((k : Int) - 15) = (k : Int) - 15 := IntWalk.i64_in _ (by omega)
                    have i2 : IntKind.i64.wrap ((k : Int) - 2) = (k : Int) - 2 := IntWalk.i64_in _ (by omega)
                    have n15 : ((k : Int) - 15).toNat = k - 15 := by omega
                    have n2 : ((k : Int) - 2).toNat = k - 2 := by omega
                    have l15 : (k : Int) - 15 < k := by omega
                    have l2 : (k : Int) - 2 < k := by omega
                    have g15 : 0 ≤ (k : Int) - 15 := by omega
                    have g2 : 0 ≤ (k : Int) - 2 := by omega
                    have e16 := CC.out (k - 16) (by omega)
                    have e7 := CC.out (k - 7) (by omega)
                    have w15 := HW.out (k - 15)
                    have w2 := HW.out (k - 2)
                    have E := Lib.hid (sch_hi (wordOf (blk P t)) k hk1)
                    generalize hx15 : sch (wordOf (blk P t)) (k - 15) = x at *
                    generalize hx2 : sch (wordOf (blk P t)) (k - 2) = y at *
                    generalize hx16 : sch (wordOf (blk P t)) (k - 16) = s at *
                    generalize hx7 : sch (wordOf (blk P t)) (k - 7) = u at *
                    clear hx15 hx2 hx16 hx7
                    go_wp2
                    go_quiet (first | (go_at_call 25; exact Calls.quiet_of_same (turn_i _ _ _ (by assumption) (by simp) (by simp))) | (go_at_call 26; exact Calls.quiet_of_same (cut_i _ _ _ (by assumption) (by simp) (by simp))))
                    clear i15 n15 l15 g15 c15
                    go_wp2
                    have HQ := Lib.hid (below_drewN HB.out nq)
                    have HOQ : Hid ((wr.drewN nq).ownsRow wo.heap.size 51 1 (.slice (some ⟨g7, 0, none⟩) k c7) k ((List.range k).map fun j => .int .u32 (sch (wordOf (blk P t)) j))) := HO.out
                    have c2 : (wr.drewN nq).cell? ⟨g7, k - 2, none⟩ = _ := c2
                    have e16 : (wr.drewN nq).cell? ⟨g7, k - 16, none⟩ = _ := e16
                    have e7 : (wr.drewN nq).cell? ⟨g7, k - 7, none⟩ = _ := e7
                    clear HO HB CC
                    generalize wr.drewN nq = wq at *
                    go_quiet (first | (go_at_call 25; exact Calls.quiet_of_same (turn_i _ _ _ (by assumption) (by simp) (by simp))) | (go_at_call 26; exact Calls.quiet_of_same (cut_i _ _ _ (by assumption) (by simp) (by simp))))
                    clear i2 n2 l2 g2 c2
                    go_wp2
                    have HQ := Lib.hid (below_drewN HQ.out nq)
                    have HOQ : Hid ((wq.drewN nq).ownsRow wo.heap.size 51 1 (.slice (some ⟨g7, 0, none⟩) k c7) k ((List.range k).map fun j => .int .u32 (sch (wordOf (blk P t)) j))) := HOQ.out
                    have e16 : (wq.drewN nq).cell? ⟨g7, k - 16, none⟩ = _ := e16
                    have e7 : (wq.drewN nq).cell? ⟨g7, k - 7, none⟩ = _ := e7
                    generalize wq.drewN nq = wp at *
                    generalize hN : bits BinOp.xor IntKind.u32 (bits BinOp.xor IntKind.u32 (rr x 7) (rr x 18)) (x / 8) = NN
                    generalize hR : bits BinOp.xor IntKind.u32 (bits BinOp.xor IntKind.u32 (rr y 17) (rr y 19)) (y / 1024) = RR
                    have hN' := Lib.hid hN
                    have hR' := Lib.hid hR
                    clear hN hR
                    obtain ⟨X, hX⟩ : ∃ X, X = IntKind.u32.wrap (IntKind.u32.wrap (IntKind.u32.wrap (s + NN) + u) + RR) := ⟨_, rfl⟩
                    have i16 : IntKind.i64.wrap ((k : Int) - 16) = (k : Int) - 16 := IntWalk.i64_in _ (by omega)
                    have i7 : IntKind.i64.wrap ((k : Int) - 7) = (k : Int) - 7 := IntWalk.i64_in _ (by omega)
                    have n16 : ((k : Int) - 16).toNat = k - 16 := by omega
                    have n7 : ((k : Int) - 7).toNat = k - 7 := by omega
                    have l16 : (k : Int) - 16 < k := by omega
                    have l7 : (k : Int) - 7 < k := by omega
                    have g16 : 0 ≤ (k : Int) - 16 := by omega
                    have g7' : 0 ≤ (k : Int) - 7 := by omega
                    have j16 : (16 : Int) ≤ k := by omega
                    have j7 : (7 : Int) ≤ k := by omega
                    have hq1 : wo.heap.size ≤ wp.heap.size := HQ.out.size
                    have HSZ : Hid (wo.heap.size ≤ (wp.alloc (.cells #[.int .u32 (IntKind.u32.wrap (IntKind.u32.wrap (IntKind.u32.wrap (s + NN) + u) + RR))] 51)).heap.size) := by unfold Hid; simp; omega
                    have HOA : Hid ((wp.alloc (.cells #[.int .u32 (IntKind.u32.wrap (IntKind.u32.wrap (IntKind.u32.wrap (s + NN) + u) + RR))] 51)).drew.ownsRow wo.heap.size 51 1 (.slice (some ⟨g7, 0, none⟩) k c7) k ((List.range k).map fun j => .int .u32 (sch (wordOf (blk P t)) j))) := HOQ.out.alloc _
                    have HCN : Hid (∀ j u', [Value.int .u32 (IntKind.u32.wrap (IntKind.u32.wrap (IntKind.u32.wrap (s + NN) + u) + RR))][j]? = some u' → (wp.alloc (.cells #[.int .u32 (IntKind.u32.wrap (IntKind.u32.wrap (IntKind.u32.wrap (s + NN) + u) + RR))] 51)).drew.cell? ((⟨wp.heap.size, 0, none⟩ : Addr).add j) = some u') := cell_one_new wp _ 51
                    have HSZ : Hid (wo.heap.size ≤ (wp.alloc (.cells #[.int .u32 (IntKind.u32.wrap (IntKind.u32.wrap (IntKind.u32.wrap (s + NN) + u) + RR))] 51)).drew.heap.size) := HSZ.out
                    clear hX
                    go_region_law (refine step_append_own rfl (.tmp 118) (.tmp 134) 52 rfl wo.heap.size 51 i1 (.int .u32 0) 1 4 Tryd.underlying52 hj hy0 hy1 hy2 rfl (by decide) _ k _ rfl HOA.out ⟨wp.heap.size, 0, none⟩ 1 1 [.int .u32 (IntKind.u32.wrap (IntKind.u32.wrap (IntKind.u32.wrap (s + NN) + u) + RR))] rfl rfl HCN.out (by intro u hu; simp at hu; subst hu; rfl) (by unfold maxLen; omega) (by omega) HSZ.out ?_; intro v8 w8 o8 g8 _; have HO8 := Lib.hid o8; have HG8 := Lib.hid g8; clear o8 g8)
                    all_goals
                      go_wp2_with fail
                      go_roundw
                      case rel =>
                        have h1 : Hid (w8.ownsRow wo.heap.size 51 1 v8 (k + 1) ((List.range (k + 1)).map fun j => .int .u32 (sch (wordOf (blk P t)) j))) := by
                          unfold Hid
                          rw [List.range_succ, List.map_append, List.map_singleton, E.out]
                          have e := HO8.out
                          have e2 : (s + near x + u + far y) % 4294967296 = IntKind.u32.wrap (IntKind.u32.wrap (IntKind.u32.wrap (s + NN) + u) + RR) := by
                            rw [← hN'.out, ← hR'.out]; unfold near far; simp only [wrap_u32_eq]; omega
                          rw [e2]
                          first | exact e | (simp only [wrap_u32_eq] at e ⊢; exact e)
                        have h2 : Hid (Below wo.heap.size wo w8) := (HQ.out.alloc hq1 _).drew.grown HG8.out HSZ.out (fun k hk => by injection hk with hk; subst hk; exact gb7)
                        first
                          | exact ⟨k + 1, by omega, by omega, by go_num, h1, h2⟩
                          | ((repeat apply Exists.intro); refine ⟨⟨k + 1, by omega, by omega, ?_, h1, h2⟩, rfl⟩; go_num)
                      case measure => simp [intOf]; omega
                  · have hk64 : k = 64 := by omega
                    have HK4 := Lib.hid (BK.out.below HB.out)
                    have wsz : wo.heap.size ≤ wr.heap.size := HB.out.size
                    have c4 : ∀ j, j < 64 → wr.cell? ⟨g7, j, none⟩ = some (.int .u32 (sch (wordOf (blk P t)) j)) := fun j hj => CC.out j (by omega)
                    have C4 := Lib.hid c4
                    have hk64h := Lib.hid hk64
                    clear hk64
                    clear c4 CC HO
                    have hs8 := HK4.out.hs
                    have d0 := hs8.cell 0 (by omega)
                    have d1 := hs8.cell 1 (by omega)
                    have d2 := hs8.cell 2 (by omega)
                    have d3 := hs8.cell 3 (by omega)
                    have d4 := hs8.cell 4 (by omega)
                    have d5 := hs8.cell 5 (by omega)
                    have d6 := hs8.cell 6 (by omega)
                    have d7 := hs8.cell 7 (by omega)
                    clear hs8
                    obtain ⟨st, hst⟩ : ∃ st, after P t = st := ⟨_, rfl⟩
                    have sok : st.ok := by rw [← hst]; exact after_ok _ _
                    rw [hst] at d0 d1 d2 d3 d4 d5 d6 d7
                    have HST := Lib.hid hst
                    have SOK := Lib.hid sok
                    clear hst sok
                    simp only [St.at] at d0 d1 d2 d3 d4 d5 d6 d7
                    go_wp2
                    go_quiet (fail)
                    clear d0 d1 d2 d3 d4 d5 d6 d7
                    go_wp2
                    have HK5 := Lib.hid (HK4.out.below (below_drewN (Below.refl _ _) nq))
                    have HB5 := Lib.hid (below_drewN HB.out nq)
                    have C5 : Hid (∀ j, j < 64 → (wr.drewN nq).cell? ⟨g7, j, none⟩ = some (.int .u32 (sch (wordOf (blk P t)) j))) := C4.out
                    clear HK4 HB C4 wsz
                    generalize wr.drewN nq = W0 at *
                    go_loopw [12, 13, 14, 15, 16, 17, 18, 19, 20] (fun a b c d e f g h i wr => ∃ k q : Nat, k ≤ 64 ∧ i = .int .i64 k ∧ a = .int .u32 (rds Kf (sch (wordOf (blk P t))) st k).a ∧ b = .int .u32 (rds Kf (sch (wordOf (blk P t))) st k).b ∧ c = .int .u32 (rds Kf (sch (wordOf (blk P t))) st k).c ∧ d = .int .u32 (rds Kf (sch (wordOf (blk P t))) st k).d ∧ e = .int .u32 (rds Kf (sch (wordOf (blk P t))) st k).e ∧ f = .int .u32 (rds Kf (sch (wordOf (blk P t))) st k).f ∧ g = .int .u32 (rds Kf (sch (wordOf (blk P t))) st k).g ∧ h = .int .u32 (rds Kf (sch (wordOf (blk P t))) st k).h ∧ wr = W0.drewN q) (fun _ _ _ _ _ _ _ _ i _ => 64 - (intOf i).toNat)
                    case atStart => exact ⟨0, 0, Nat.zero_le _, rfl, rfl, rfl, rfl, rfl, rfl, rfl, rfl, rfl, rfl⟩
                    case round =>
                      obtain ⟨k, q, hk, rfl, rfl, rfl, rfl, rfl, rfl, rfl, rfl, rfl, rfl⟩ := hrel
                      have ok := rds_ok SOK.out Kf (sch (wordOf (blk P t))) k
                      have N := Lib.hid (show rds Kf (sch (wordOf (blk P t))) st (k + 1) = rd (rds Kf (sch (wordOf (blk P t))) st k) (Kf k) (sch (wordOf (blk P t)) k) from rfl)
                      by_cases hlt5 : k < 64
                      · as_aux_lemma =>
                          have cs := C5.out k hlt5
                          have ck := HK5.out.ks.cell k (by omega)
                          have bk := Kf_isW k
                          have bs := HW.out k
                          generalize rds Kf (sch (wordOf (blk P t))) st k = r at *
                          generalize Kf k = KK at *
                          generalize sch (wordOf (blk P t)) k = S at *
                          obtain ⟨ta, tb, tc, td, te, tf, tg, th⟩ := r
                          obtain ⟨ka, kb, kc, kd, ke, kf, kg, kh⟩ := ok
                          simp only at ka kb kc kd ke kf kg kh N
                          have ke0 := ke.1
                          have ke1 := ke.2
                          have k64 : (k : Int) < 64 := by omega
                          have k0 : (0 : Int) ≤ k := by omega
                          have ck : (W0.drewN q).cell? ⟨w5.heap.size + 1, k, none⟩ = _ := ck
                          have cs : (W0.drewN q).cell? ⟨g7, k, none⟩ = _ := cs
                          have HW2 := Lib.hid (show ∃ q', W0.drewN q = W0.drewN q' from ⟨q, rfl⟩)
                          generalize W0.drewN q = W2 at *
                          go_wp2_with fail
                          refine (turn_i _ _ _ ke (by simp) (by simp)).mono ?_
                          rintro e w' ⟨rfl, rfl⟩
                          go_wp2_with fail
                          refine (turn_i _ _ _ ke (by simp) (by simp)).mono ?_
                          rintro e w' ⟨rfl, rfl⟩
                          go_wp2_with fail
                          refine (turn_i _ _ _ ke (by simp) (by simp)).mono ?_
                          rintro e w' ⟨rfl, rfl⟩
                          go_wp2
                          go_quiet (fail)
                          go_wp2_with fail
                          refine (turn_i _ _ _ ka (by simp) (by simp)).mono ?_
                          rintro e w' ⟨rfl, rfl⟩
                          go_wp2_with fail
                          refine (turn_i _ _ _ ka (by simp) (by simp)).mono ?_
                          rintro e w' ⟨rfl, rfl⟩
                          go_wp2_with fail
                          refine (turn_i _ _ _ ka (by simp) (by simp)).mono ?_
                          rintro e w' ⟨rfl, rfl⟩
                          go_wp2
                          go_roundw
                          case rel =>
                            obtain ⟨q', e'⟩ := HW2.out
                            first
                              | exact ⟨k + 1, q' + nq, by omega, by go_num, by (rw [N.out]; simp only [rd, mixOf, sg1, sg0, ch, maj]; first | done | (congr 1; omega)), by (rw [N.out]; rfl), by (rw [N.out]; rfl), by (rw [N.out]; rfl), by (rw [N.out]; simp only [rd, mixOf, sg1, ch]; first | done | (congr 1; omega)), by (rw [N.out]; rfl), by (rw [N.out]; rfl), by (rw [N.out]; rfl), by (rw [e']; exact World.drewN_drewN _ _ _)⟩
                              | ((repeat apply Exists.intro); refine ⟨⟨k + 1, q' + nq, by omega, ?_, ?_, ?_, ?_, ?_, ?_, ?_, ?_, ?_, ?_⟩, rfl⟩; (go_num); (rw [N.out]; simp only [rd, mixOf, sg1, sg0, ch, maj]; first | done | (congr 1; omega)); (rw [N.out]; rfl); (rw [N.out]; rfl); (rw [N.out]; rfl); (rw [N.out]; simp only [rd, mixOf, sg1, ch]; first | done | (congr 1; omega)); (rw [N.out]; rfl); (rw [N.out]; rfl); (rw [N.out]; rfl); (rw [e']; exact World.drewN_drewN _ _ _))
                           
                          case measure => simp [intOf]; omega
                      · have hk6 : k = 64 := by omega
                        have hk6h := Lib.hid hk6
                        have PRS : Hid (after P (t + 1) = st.add (rds Kf (sch (wordOf (blk P t))) st k)) := by
                          unfold Hid; rw [hk6, ← HST.out]; rfl
                        have HK6 := Lib.hid (HK5.out.below (below_drewN (Below.refl _ _) q))
                        have HB6 := Lib.hid (below_drewN HB5.out q)
                        clear HK5 HB5 C5 N hk6
                        generalize W0.drewN q = W2 at *
                        generalize rds Kf (sch (wordOf (blk P t))) st k = r at *
                        have hs8 := HK6.out.hs
                        rw [HST.out] at hs8
                        have d0 := hs8.cell 0 (by omega)
                        have d1 := hs8.cell 1 (by omega)
                        have d2 := hs8.cell 2 (by omega)
                        have d3 := hs8.cell 3 (by omega)
                        have d4 := hs8.cell 4 (by omega)
                        have d5 := hs8.cell 5 (by omega)
                        have d6 := hs8.cell 6 (by omega)
                        have d7 := hs8.cell 7 (by omega)
                        clear hs8
                        simp only [St.at] at d0 d1 d2 d3 d4 d5 d6 d7
                        have OKR := Lib.hid ok
                        clear ok
                        go_wp2
                        go_still_tail 40, (by kernel_rfl)
                        clear d0 d1 d2 d3 d4 d5 d6 d7
                        change wpList _ _ _ _ _ W2.drew
                        go_wp2
                        go_roundw
                        case rel =>
                          have h1' := Row.made W2 51 .u32 8 (st.add r).at
                          rw [lit8 (st.add r)] at h1'
                          refine ⟨t + 1, W2.heap.size, by omega, by (first | (congr 1; omega) | congr 1), rfl, ?_⟩
                          refine Bk.mk ((HK6.out.b0.alloc _).below ((Below.refl _ _).drew)) ?_ (HK6.out.ks.alloc _)
                          rw [PRS.out]
                          exact h1'
                        case measure => simp [intOf]; omega
          · as_aux_lemma =>
              have htl : 64 * t = P.length := by omega
              have FIN : Hid (after P t = digSt M) := by unfold Hid; rw [pd.out, show P.length / 64 = t by omega]
              have HTL := Lib.hid htl
              clear htl
              obtain ⟨wo, rfl⟩ : ∃ wo : World, wo = wr := ⟨_, rfl⟩
              have sz1 := BK.out.b0.size
              have A1 := Lib.hid (show Row (wo.alloc (.cells (mk .u8 32 fun _ => 0) 27)) wo.heap.size 27 .u8 32 fun _ => 0 from Row.made wo _ _ _ _)
              have A2 : Hid (Row (wo.alloc (.cells (mk .u8 32 fun _ => 0) 27)) gh 51 .u32 8 (digSt M).at) := by
                have := BK.out.hs.alloc (.cells (mk .u8 32 fun _ => 0) 27)
                rw [FIN.out] at this; exact this
              have A3 : Hid (Below (w.heap.size + 1) (w.alloc (.cells (mk .u8 32 fun _ => 0) 27)) (wo.alloc (.cells (mk .u8 32 fun _ => 0) 27))) := BK.out.b0.bel.alloc sz1 _
              have n1 := Lib.hid BK.out.hs.lt
              have SO := Lib.hid (show ∀ j, isW ((digSt M).at j) from fun j => at_isW (after_ok _ _) j)
              have Z := Z27
              have ZZ := Lib.hid Z
              clear Z
              rw [ZZ.out] at A1 A2
              have A3 : Hid (Below (w.heap.size + 1) (w.alloc (.cells (mk .u8 32 fun _ => 0) 27)) (wo.alloc (.cells #[.int .u8 0, .int .u8 0, .int .u8 0, .int .u8 0, .int .u8 0, .int .u8 0, .int .u8 0, .int .u8 0, .int .u8 0, .int .u8 0, .int .u8 0, .int .u8 0, .int .u8 0, .int .u8 0, .int .u8 0, .int .u8 0, .int .u8 0, .int .u8 0, .int .u8 0, .int .u8 0, .int .u8 0, .int .u8 0, .int .u8 0, .int .u8 0, .int .u8 0, .int .u8 0, .int .u8 0, .int .u8 0, .int .u8 0, .int .u8 0, .int .u8 0, .int .u8 0] 27))) := by
                unfold Hid; rw [← ZZ.out]; exact A3.out
              clear BK FIN pd pb HPP
              go_wp2_with fail
              go_loopw [25] (fun i W => ∃ k : Nat, k ≤ 32 ∧ i = .int .i64 k ∧ Hid (Row W wo.heap.size 27 .u8 32 fun j => if j < k then dig M j else 0) ∧ Hid (Row W gh 51 .u32 8 (digSt M).at) ∧ Hid (Below (w.heap.size + 1) (w.alloc (.cells (mk .u8 32 fun _ => 0) 27)) W)) (fun i _ => 32 - (intOf i).toNat)
              case atStart => exact ⟨0, by omega, rfl, A1.out.congr (fun j _ => by simp), A2.out, A3.out⟩
              case round =>
                clear A1 A2 A3
                obtain ⟨k, hk, rfl, A1, A2, A3⟩ := hrel
                by_cases hlt9 : k < 32
                · have ck := A2.out.cell (k / 4) (by omega)
                  have bx := SO.out (k / 4)
                  have E := Lib.hid (show dig M k = formAt ((digSt M).at (k / 4)) 4 (k % 4) from rfl)
                  generalize (digSt M).at (k / 4) = x at *
                  have F4 := form4_any x wr bx.1 (by have := bx.2; omega)
                  have x1 := bx.1
                  have x2 := bx.2
                  have kk4 : k / 4 < 8 := by omega
                  have km4 : k % 4 < 4 := by omega
                  clear bx
                  go_wp2_with fail
                  refine F4.mono ?_
                  rintro e w8 ⟨rfl, r8, b8⟩
                  have B1 := Lib.hid (A1.out.below b8 A1.out.lt)
                  have B2 := Lib.hid (A2.out.below b8 A2.out.lt)
                  have B3 := Lib.hid (A3.out.trans (b8.mono (by have := A1.out.lt; omega)))
                  have c8 := r8.cell (k % 4) (by omega)
                  have c9 := B1.out.cell k (by omega)
                  have f9 := B1.out.free k
                  generalize formAt x 4 (k % 4) = y at *
                  clear A1 A2 A3 F4 r8 b8
                  go_wp2
                  go_roundw
                  case rel =>
                    have h1 := Lib.hid ((B1.out.set k y).congr (F := upd (fun j => if j < k then dig M j else 0) k y) (G := fun j => if j < k + 1 then dig M j else 0) (fun j hj => by
                      unfold upd
                      by_cases e : j = k
                      · subst e; rw [if_pos rfl, if_pos (by omega), E.out]
                      · rw [if_neg e]
                        show (if j < k then dig M j else 0) = _
                        by_cases e2 : j < k
                        · rw [if_pos e2, if_pos (by omega)]
                        · rw [if_neg e2, if_neg (by omega)]))
                    have h2 := Lib.hid (B2.out.set_other ⟨wo.heap.size, k, none⟩ (.int .u8 y) (by have := n1.out; show gh ≠ wo.heap.size; omega))
                    have h3 := Lib.hid (B3.out.setCell (p := ⟨wo.heap.size, k, none⟩) (by show _ ≤ wo.heap.size; omega) (.int .u8 y))
                    first
                      | exact ⟨k + 1, by omega, by go_num, h1, h2, h3⟩
                      | ((repeat apply Exists.intro); refine ⟨⟨k + 1, by omega, ?_, h1, h2, h3⟩, rfl⟩; go_num)
                   
                  case measure => simp [intOf]; omega
                · have S1 := A1.out.congr (G := dig M) (fun j hj => by rw [if_pos (by omega)])
                  have S2 : Row wr w.heap.size 27 .u8 32 fun _ => 0 := (Row.made w 27 .u8 32 fun _ => 0).below A3.out (by omega)
                  have B9 : Hid (Below w.heap.size w wr) := ((Below.refl w.heap.size w).alloc (Nat.le_refl _) _).trans (A3.out.mono (by omega))
                  clear A1 A2 A3
                  go_wp2_with (first
                    | (refine wpList_load_at rfl 27 (.tmp 24) rfl wo.heap.size 0 rfl 27 _ (mk .u8 32 (dig M)) _ S1 (fun j _ => by rw [Nat.zero_add]) Tryd.underlying27 rfl (info27 _) ?_)
                    | (refine wpList_store_row rfl 27 (.tmp 2) (.tmp 284) rfl w.heap.size rfl (mk .u8 32 (dig M)) rfl 27 _ S2 (by simp [mk_size]) (info27 _) (mk_one _ _ _) ?_))
                  exact bodyPost_ret (v := .agg (mk .u8 32 (dig M))) (results_cell_row rfl _ _ w.heap.size 27 _ (0, 0) _ rfl (S2.setRow _ _ _) Tryd.underlying27 rfl (info27 _)) rfl ⟨rfl, below_setRow B9.out (Nat.le_refl _) _⟩

  | some ad => exact absurd hno (by simp)
end Go.Proofs.YtbdahkbgjbaenaaDoor
