/- Contracts: how deep nodes stand, of the program. -/
import Derived.Test.YtonnopcafmhaaaaDoorD8
namespace Go.Proofs.YtonnopcafmhaaaaDoor
open Go.RowKit

theorem lstN_fit {S : Nat → Bool} {n : Nat} (hn : n ≤ 128) (h : ∀ k, S k = true → k < n) : lstN S 128 = lstN S n := by
  have : ∀ d, lstN S (n + d) = lstN S n := fun d => by
    induction d with
    | zero => rfl
    | succ d ih =>
      rw [← Nat.add_assoc, lstN_no (by
        cases hs : S (n + d) with
        | false => rfl
        | true => have := h _ hs; omega), ih]
  rw [← this (128 - n), show n + (128 - n) = 128 by omega]
set_option maxRecDepth 20000 in
set_option maxHeartbeats 8000000 in
theorem deep_any {w : World} {g n : Nat} {A : Nat → Nat → Bool} (h : GR w g n A) (hT : Tab w) :
    Calls Tryd.prog 21 #[.pointer (some ⟨g, 0, none⟩)] w fun e w' => ∃ v, e = .returned v ∧ Is w' w.heap.size v (dL A n) ∧ Below w.heap.size w w' := by
  have LE := len_any h.blk
  by_cases hz : n = 0
  · subst hz
    clear h
    go_enter Tryd.func21, Tryd.ntmps21
    go_wp2_with fail
    refine LE.mono ?_
    rintro e w2 ⟨rfl, rfl⟩
    clear LE
    go_wp2
    go_ret
    exact ⟨_, rfl, Is.nil _ _, Below.refl _ _⟩
  · have hn := h.le
    have hg := h.lt
    have hne : ((n : Int) == 0) = false := by
      have : (n : Int) ≠ 0 := by omega
      simpa using this
    have c0 := World.rowIs.cell h.blk (i := 0) (by omega)
    rw [gc_0] at c0
    obtain ⟨B, hB⟩ : ∃ k, w.heap.size = k := ⟨_, rfl⟩
    have hT0 := hT.1
    rw [hB] at hT0 hg
    have HG := Lib.hid h
    have HT := Lib.hid hT
    have HB := Lib.hid hB
    have HGW : Hid (∀ W, Below B w W → GR W g n A) := fun W b => HG.out.below b hg
    have HTW : Hid (∀ W, Below B w W → Tab W) := fun W b => HT.out.below b hT0
    have hmk := run_make_row' (P := Tryd.prog) 23 3 (.int .i64 0) 8 Tryd.underlying23 info3 rfl .i64 .i64 n (by omega) (by omega)
    have HMK := Lib.hid (World.rowIs_made w (.int .i64 0) n 3)
    have bM : Below B w (w.alloc (.cells (madeCells #[.int .i64 0] n) 3)) := (Below.refl _ _).alloc (by omega) _
    have HBM := Lib.hid bM
    rw [hB] at HMK
    have OA := order_any (HGW.out _ bM) (HTW.out _ bM)
    rw [show ordM A n n (fun _ => false) = oL A n from rfl] at OA
    have HOL := Lib.hid (oL_len (A := A) (N := n))
    clear h hT bM
    go_enter Tryd.func21, Tryd.ntmps21
    go_wp2_with fail
    refine LE.mono ?_
    rintro e w2 ⟨rfl, rfl⟩
    clear LE
    go_wp2_with fail
    refine OA.mono ?_
    rintro e w2 ⟨v1, v2, rfl, ⟨p1, c1, rfl, -, -, rd1, -, q1⟩, -, b2⟩
    have HM2 : Hid (w2.rowIs B 3 n fun k => .int .i64 ((dF A n ((oL A n).take 0) k : Nat) : Int)) := (below_row b2 HMK.out (by rw [Go.Deep.nblk_alloc]; omega)).congr fun k _ => rfl
    have HB2 : Hid (Below B w w2) := HBM.out.trans (b2.mono (by rw [Go.Deep.nblk_alloc]; omega))
    have HR2 := Lib.hid rd1
    rw [Go.Deep.nblk_alloc] at q1
    have HQ1 : Hid (∀ k o, 0 < (oL A n).length → p1 = some ⟨k, o, none⟩ → B + 1 ≤ k) := fun k o hl e => by
      obtain ⟨g4, e4, h4⟩ := q1 (by rw [nl_len]; exact hl)
      rw [e4] at e
      injection e with e; injection e with e _; omega
    rw [nl_len]
    clear OA rd1 b2 q1 HMK HBM hB c0 hne
    obtain ⟨ll, hll⟩ : ∃ k, (oL A n).length = k := ⟨_, rfl⟩
    rw [hll] at HOL HQ1 ⊢
    have HLL := Lib.hid hll
    have hl128 : ll ≤ 128 := by have := HOL.out; omega
    clear hll
    go_wp2
    go_loopg [25] ll (fun k c wr => ∃ j : Nat, j ≤ ll ∧ k = ll - j ∧ c = .int .i64 j ∧ Hid (wr.rowIs B 3 n fun k => .int .i64 ((dF A n ((oL A n).take j) k : Nat) : Int)) ∧ Hid (Rd wr p1 (nl (oL A n))) ∧ Hid (Below B w wr))
    case atStart => exact ⟨0, by omega, by omega, rfl, HM2.out, HR2.out, HB2.out⟩
    case round =>
      clear HM2 HR2 HB2
      obtain ⟨j, hj, rfl, rfl, HM, HR, HW⟩ := hrel
      by_cases hjl : j < ll
      · obtain ⟨i, hi, hiv⟩ := nl_get' (L := oL A n) (j := j) (by rw [HLL.out]; exact hjl)
        obtain ⟨b1, o1, rfl, q1, d1⟩ := HR.out j (by rw [nl_len, HLL.out]; exact hjl)
        rw [hiv] at d1
        have hin := oL_lt' hi
        have hself := oL_self hi
        have j0 : (0 : Int) ≤ j := by omega
        have jl : (j : Int) < ll := by omega
        have i0 : (0 : Int) ≤ i := by omega
        have iN : (i : Int) < n := by omega
        have HDS := Lib.hid (dF_take (A := A) (N := n) hi)
        have HFB : Hid (∀ k, dF A n ((oL A n).take j) k ≤ 128) := fun k => Nat.le_trans (dF_bound _ _ _ _) (by rw [List.length_take, HLL.out]; omega)
        have hbk := HQ1.out b1 o1 (by omega) rfl
        clear hiv hi
        generalize dF A n ((oL A n).take j) = f at *
        have ci := HM.out.cell hin
        have fi := HM.out.frozen i
        have hBs := World.rowIs.lt HM.out
        have HM3 := Lib.hid (HM.out.set i (.int .i64 1))
        have HW3 : Hid (Below B w (wr.setCell ⟨B, i, none⟩ (.int .i64 1))) := HW.out.setCell (Nat.le_refl _) _
        have HR3 : Hid (Rd (wr.setCell ⟨B, i, none⟩ (.int .i64 1)) (some ⟨b1, o1, none⟩) (nl (oL A n))) := HR.out.exc (exc_set wr B i (.int .i64 1) 0) fun k o e => by injection e with e; injection e with e _; omega
        have hBs3 : Hid (B + 1 ≤ (wr.setCell ⟨B, i, none⟩ (.int .i64 1)).heap.size) := by unfold Hid; have := World.rowIs.lt HM3.out; omega
        have AA := ahead_any (i : Int) (HGW.out _ HW3.out).blk hn (HTW.out _ HW3.out)
        rw [rowI_nat hin, lst_nl, lstN_fit hn (fun k hk => ((HGW.out _ HW3.out).fit i k hk).2)] at AA
        have HMEM : Hid (∀ l, l ∈ lstN (A i) n → A i l = true ∧ l < n) := fun l hl => ⟨(mem_lstN.1 hl).2, (mem_lstN.1 hl).1⟩
        have hL128 : (lstN (A i) n).length ≤ 128 := by rw [lstN_len]; exact Nat.le_trans (cnt_le _ _) hn
        have HSF := Lib.hid hself
        clear HM HW HR hself hBs
        go_wp2_with fail
        refine AA.mono ?_
        rintro e w4 ⟨v4, rfl, ⟨p4, c4, rfl, -, -, rd4, -, q4⟩, b4⟩
        have HM4 := Lib.hid (below_row b4 HM3.out (World.rowIs.lt HM3.out))
        have HR4 := Lib.hid (HR3.out.below b4 (Nat.le_refl _))
        have HW4 : Hid (Below B w w4) := HW3.out.trans (b4.mono (by have := hBs3.out; omega))
        have HX4 := Lib.hid rd4
        have HQ4 : Hid (∀ k o, 0 < (lstN (A i) n).length → p4 = some ⟨k, o, none⟩ → B + 1 ≤ k) := fun k o hl e => by
          obtain ⟨g4, e4, h4⟩ := q4 (by rw [nl_len]; exact hl)
          rw [e4] at e
          injection e with e; injection e with e _
          have := hBs3.out
          omega
        rw [nl_len]
        clear AA rd4 b4 q4 HM3 HR3 HW3 hBs3 ci fi d1
        have HDS2 : Hid (dF A n ((oL A n).take (j + 1)) = fun x => if x = i then mxL f (lstN (A i) n) + 1 else f x) := HDS.out
        clear HDS
        generalize lstN (A i) n = L at *
        obtain ⟨lk, hlk⟩ : ∃ k, L.length = k := ⟨_, rfl⟩
        rw [hlk] at hL128 HQ4 ⊢
        have HLK := Lib.hid hlk
        clear hlk
        go_wp2
        go_loopg [36] lk (fun k c wr => ∃ z : Nat, z ≤ lk ∧ k = lk - z ∧ c = .int .i64 z ∧ Hid (wr.rowIs B 3 n fun k => if k = i then .int .i64 ((mxL f (L.take z) + 1 : Nat) : Int) else .int .i64 ((f k : Nat) : Int)) ∧ Hid (Rd wr p4 (nl L)) ∧ Hid (Rd wr (some ⟨b1, o1, none⟩) (nl (oL A n))) ∧ Hid (Below B w wr))
        case atStart => exact ⟨0, by omega, by omega, rfl, HM4.out, HX4.out, HR4.out, HW4.out⟩
        case round =>
          clear HM4 HX4 HR4 HW4
          obtain ⟨z, hz, rfl, rfl, HM, HX, HR, HW⟩ := hrel
          by_cases hzl : z < lk
          · obtain ⟨l, hl, hlv⟩ := nl_get' (L := L) (j := z) (by rw [HLK.out]; exact hzl)
            obtain ⟨b5, o5, rfl, q5, d5⟩ := HX.out z (by rw [nl_len, HLK.out]; exact hzl)
            rw [hlv] at d5
            obtain ⟨hal, hln⟩ := HMEM.out l (List.mem_of_getElem? hl)
            have hli : l ≠ i := fun e => by rw [e, HSF.out] at hal; cases hal
            have hbk5 := HQ4.out b5 o5 (by omega) rfl
            have z0 : (0 : Int) ≤ z := by omega
            have zl : (z : Int) < lk := by omega
            have l0 : (0 : Int) ≤ l := by omega
            have lN : (l : Int) < n := by omega
            have cl := HM.out.cell hln
            rw [if_neg hli] at cl
            have ci := HM.out.cell hin
            rw [if_pos rfl] at ci
            have fi := HM.out.frozen i
            have HMX := Lib.hid (mxL_take (f := f) hl)
            have hxb := mxL_le HFB.out (L.take z)
            have hyb := HFB.out l
            obtain ⟨X, hX⟩ : ∃ X : Int, ((mxL f (L.take z) + 1 : Nat) : Int) = X := ⟨_, rfl⟩
            obtain ⟨Y, hY⟩ : ∃ Y : Int, ((f l : Nat) : Int) = Y := ⟨_, rfl⟩
            obtain ⟨Y1, hY1, hw1⟩ : ∃ Y1 : Int, Y + 1 = Y1 ∧ IntKind.i64.wrap (Y + 1) = Y1 := ⟨_, rfl, IntWalk.i64_in _ (by omega)⟩
            obtain ⟨Z, hZ⟩ : ∃ Z : Int, (if X < Y1 then Y1 else X) = Z := ⟨_, rfl⟩
            have HZ : Hid (((mxL f (L.take (z + 1)) + 1 : Nat) : Int) = Z) := by
              unfold Hid
              rw [HMX.out, ← hZ]
              split <;> omega
            rw [hX] at ci
            rw [hY] at cl
            have HM2 : Hid (((wr.drewN 1).setCell ⟨B, i, none⟩ (.int .i64 Z)).rowIs B 3 n fun k => if k = i then .int .i64 ((mxL f (L.take (z + 1)) + 1 : Nat) : Int) else .int .i64 ((f k : Nat) : Int)) := (HM.out.set i (.int .i64 Z)).congr fun k _ => by
              rw [HZ.out]
              by_cases e : k = i
              · rw [if_pos e, if_pos e]
              · rw [if_neg e, if_neg e, if_neg e]
            have x5 := exc_set (wr.drewN 1) B i (.int .i64 Z) 0
            have HX2 : Hid (Rd ((wr.drewN 1).setCell ⟨B, i, none⟩ (.int .i64 Z)) (some ⟨b5, o5, none⟩) (nl L)) := Rd.exc (show Rd (wr.drewN 1) _ _ from HX.out) x5 fun k o e => by injection e with e; injection e with e _; omega
            have HR2 : Hid (Rd ((wr.drewN 1).setCell ⟨B, i, none⟩ (.int .i64 Z)) (some ⟨b1, o1, none⟩) (nl (oL A n))) := Rd.exc (show Rd (wr.drewN 1) _ _ from HR.out) x5 fun k o e => by injection e with e; injection e with e _; omega
            have HW2 : Hid (Below B w ((wr.drewN 1).setCell ⟨B, i, none⟩ (.int .i64 Z))) := (below_drewN HW.out 1).setCell (Nat.le_refl _) _
            clear hlv hl hal hX hY hY1 x5 HM HX HR HW HMX hxb hyb
            go_wp2
            go_still_tail 13, (by kernel_rfl)
            go_wp2
            go_roundg (lk - (z + 1))
            case rel => exact ⟨z + 1, by omega, rfl, by go_num, HM2.out, HX2.out, HR2.out, HW2.out⟩
            case measure => omega
          · have hzl : z = lk := by omega
            subst hzl
            have HM3 : Hid (wr.rowIs B 3 n fun k => .int .i64 ((dF A n ((oL A n).take (j + 1)) k : Nat) : Int)) := HM.out.congr fun k _ => by
              rw [HDS2.out, ← HLK.out, List.take_length]
              show (if k = i then _ else _) = Value.int .i64 (((if k = i then mxL f L + 1 else f k) : Nat) : Int)
              by_cases e : k = i
              · rw [if_pos e, if_pos e]
              · rw [if_neg e, if_neg e]
            clear HM HX
            go_wp2
            go_roundg (ll - (j + 1))
            case rel => exact ⟨j + 1, by omega, rfl, by go_num, HM3.out, HR.out, HW.out⟩
            case measure => omega
      · have hjl : j = ll := by omega
        subst hjl
        have HE : Hid (Below w.heap.size w wr) := by unfold Hid; rw [HB.out]; exact HW.out
        have HI : Hid (Is wr w.heap.size (.slice (some ⟨B, 0, none⟩) n n) (dL A n)) := by
          have h1 := HM.out
          rw [← HLL.out, List.take_length] at h1
          rw [HB.out]
          exact dL_is h1 hn
        clear HM HR HW
        go_wp2
        go_ret
        exact ⟨_, rfl, HI.out, HE.out⟩
end Go.Proofs.YtonnopcafmhaaaaDoor
