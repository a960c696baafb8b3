/- GraphBoth: the law's walk. -/
import Derived.Test.YtonnopcafmhaaaaDoorD6
namespace Go.Proofs.YtonnopcafmhaaaaDoor
open Go.RowKit

set_option maxRecDepth 20000 in
set_option maxHeartbeats 8000000 in
theorem gboth_any (n n' : Int) (pp : Option Addr) (m cap : Nat) (S : Nat → Option Addr) (M : Nat → List Int) (C : Nat → Nat) (pp' : Option Addr) (m' cap' : Nat) (S' : Nat → Option Addr) (M' : Nat → List Int) (C' : Nat → Nat) (xi : Int) (w : World)
    (h : Pt w pp m S M C) (hm : m ≤ maxLen) (h' : Pt w pp' m' S' M' C') (hm' : m' ≤ maxLen) (hT : Tab w) :
    Calls Tryd.prog 7 #[.int .i64 n, .int .i64 n', .slice pp m cap, .slice pp' m' cap', .int .i64 xi] w fun e w' => e = .returned (.bool true) ∧ Below w.heap.size w w' := by
  have HT := Lib.hid hT
  have GA := great_any n pp m cap S M C w h hm
  have GB' := great_any n' pp' m' cap' S' M' C' w h' hm'
  have AW := Lib.hid (awake_any w hT)
  cases hg : greatB n m M with
  | true =>
    rw [hg] at GA
    clear h h' hT hg GB'
    go_enter Tryd.func7, Tryd.ntmps7
    go_wp2_with fail
    refine GA.mono ?_
    rintro e w1 ⟨rfl, rfl⟩
    clear GA
    go_wp2_with fail
    refine AW.out.mono ?_
    rintro e w2 ⟨rfl, b⟩
    have B2 := Lib.hid b
    clear b AW
    go_wp2
    go_ret
    exact ⟨rfl, B2.out⟩
  | false =>
    rw [hg] at GA
    cases hg' : greatB n' m' M' with
    | true =>
      rw [hg'] at GB'
      clear h h' hT hg hg'
      go_enter Tryd.func7, Tryd.ntmps7
      go_wp2_with fail
      refine GA.mono ?_
      rintro e w1 ⟨rfl, rfl⟩
      clear GA
      go_wp2_with fail
      refine GB'.mono ?_
      rintro e w1 ⟨rfl, rfl⟩
      clear GB'
      go_wp2_with fail
      refine AW.out.mono ?_
      rintro e w2 ⟨rfl, b⟩
      have B2 := Lib.hid b
      clear b AW
      go_wp2
      go_ret
      exact ⟨rfl, B2.out⟩
    | false =>
      rw [hg'] at GB'
      have HP' := Lib.hid h'
      have hN := clamp_le n
      have hN' := clamp_le n'
      have CN := new_any n pp m cap S M C w h hm
      generalize hNN : clamp n = N at *
      generalize hAA : ahA N m M = A at *
      obtain ⟨s0, hs0⟩ : ∃ k, w.heap.size = k := ⟨_, rfl⟩
      have HS0 := Lib.hid hs0
      have hT0 : 0 < s0 := by rw [← hs0]; exact hT.1
      rw [hs0] at CN
      clear h h' hT hg hg' hNN hAA AW
      go_enter Tryd.func7, Tryd.ntmps7
      go_wp2_with fail
      refine GA.mono ?_
      rintro e w1 ⟨rfl, rfl⟩
      clear GA
      go_wp2_with fail
      refine GB'.mono ?_
      rintro e w1 ⟨rfl, rfl⟩
      clear GB'
      go_wp2_with fail
      refine CN.mono ?_
      rintro e wa ⟨rfl, ga, ba⟩
      have HGa := Lib.hid ga
      have HBa := Lib.hid ba
      have hsa := ga.lt
      have CM := new_any n' pp' m' cap' S' M' C' wa (HP'.out.below ba (by have := HS0.out; omega)) hm'
      clear CN ga ba
      generalize hNN : clamp n' = N2 at *
      generalize hAA : ahA N2 m' M' = A2 at *
      obtain ⟨sb, hsb⟩ : ∃ k, wa.heap.size = k := ⟨_, rfl⟩
      rw [hsb] at CM hsa
      have HSb := Lib.hid hsb
      clear hNN hAA hs0 hsb
      go_wp2_with fail
      refine CM.mono ?_
      rintro e wb ⟨rfl, gb, bb⟩
      have HGb := Lib.hid gb
      have HGa2 : Hid (GR wb s0 N A) := HGa.out.below bb (by omega)
      have HBb : Hid (Below s0 w wb) := HBa.out.trans (bb.mono (Nat.le_of_lt hsa))
      have hsbb := gb.lt
      clear CM gb bb HGa HBa
      by_cases hnm : N = N2
      · subst hnm
        have CB := both_any HGa2.out HGb.out
        go_wp2_with fail
        refine CB.mono ?_
        rintro e w1 ⟨rfl, gx, x1⟩
        have HGx := Lib.hid gx
        have hxs := gx.lt
        clear CB gx
        obtain ⟨sx, hsx⟩ : ∃ k, wb.heap.size = k := ⟨_, rfl⟩
        rw [hsx] at HGx hxs hsbb ⊢
        obtain ⟨s1, hs⟩ : ∃ k, w1.heap.size = k := ⟨_, rfl⟩
        have HS1 := Lib.hid hs
        have HLE : Hid (∀ W, Below s1 w1 W → s1 ≤ W.heap.size) := fun W b => by have := b.size; omega
        have hs1 : sx ≤ s1 := by have := x1.size; omega
        have HW0 : Hid (Below s0 w w1) := HBb.out.trans (x1.mono (by omega))
        have HTW : Hid (∀ W, Below s1 w1 W → Tab W) := fun W b => HT.out.below (HW0.out.trans (b.mono (by omega))) hT0
        have HBw : Hid (Below s1 w1 w1) := Below.refl _ _
        have HG1 : Hid (∀ W, Below s1 w1 W → GR W s0 N A) := fun W b => HGa2.out.below (x1.trans (b.mono (by omega))) (by omega)
        have HG2 : Hid (∀ W, Below s1 w1 W → GR W sb N A2) := fun W b => HGb.out.below (x1.trans (b.mono (by omega))) (by omega)
        have HG3 : Hid (∀ W, Below s1 w1 W → GR W sx N (bothA A A2)) := fun W b => HGx.out.below b (by omega)
        clear x1 hs
        have L0 := fun w => len_nil w
        have T0 := fun w => turned_nil w
        have U0 := fun w v => under_nil w v
        have O0 := fun w v => over_nil w v
        have A0 := fun w => ahead_nil w 0
        have B0 := fun w => both_none (.pointer none) w
        go_wp2_with fail
        refine (L0 _).mono ?_
        rintro e wz ⟨rfl, rfl⟩
        go_wp2_with fail
        refine (T0 _).mono ?_
        rintro e wz ⟨rfl, rfl⟩
        have b1 := Below.alloc (Below.refl w1.heap.size w1) (Nat.le_refl _) (.cells #[.int .i64 0] 3)
        go_wp2_with fail
        refine (U0 _ _).mono ?_
        rintro e wz ⟨rfl, rfl⟩
        have b2 := b1.alloc (by simp) (.cells #[.int .i64 0] 3)
        clear b1
        go_wp2_with fail
        refine (O0 _ _).mono ?_
        rintro e wz ⟨rfl, rfl⟩
        go_wp2_with fail
        refine (A0 _).mono ?_
        rintro e wz ⟨rfl, rfl⟩
        go_wp2_with fail
        refine (B0 _).mono ?_
        rintro e w2 ⟨rfl, b3⟩
        have HB2 : Hid (Below s1 w1 w2) := HBw.out.trans ((b2.trans (b3.mono (by simp; omega))).mono (HLE.out _ HBw.out))
        clear b2 b3 L0 T0 U0 O0 A0 B0
        have LA := len_any (HG1.out _ HB2.out).blk
        have LB := len_any (HG2.out _ HB2.out).blk
        go_wp2_with fail
        refine LA.mono ?_
        rintro e wz ⟨rfl, rfl⟩
        go_wp2_with fail
        refine LB.mono ?_
        rintro e wz ⟨rfl, rfl⟩
        clear LA LB
        go_wp2_with fail
        obtain ⟨i23, hi23, hz0, hz1, hz2⟩ := info_parts info23
        obtain ⟨H, hH⟩ : ∃ k, w2.heap.size = k := ⟨_, rfl⟩
        have HH := Lib.hid hH
        have hsH : s1 ≤ H := by have := HLE.out _ HB2.out; omega
        clear hH
        go_loopg [15, 16] N (fun k v c wr => ∃ (i : Nat) (V : Nat → Value), i ≤ N ∧ k = N - i ∧ c = .int .i64 i ∧ Hid (RA H w2 i v V (fun j => rowI A N (j : Int) ++ rowI A2 N (j : Int)) wr))
        case atStart => exact ⟨0, fun _ => .slice none 0 0, by omega, by omega, rfl, World.ownsRow_nil _ _ _ _, fun j h => absurd h (Nat.not_lt_zero _), Below.refl _ _⟩
        case round =>
          obtain ⟨i, V, hi, rfl, rfl, HR⟩ := hrel
          have HBr : Hid (Below s1 w1 wr) := HB2.out.trans (HR.out.2.2.mono hsH)
          have hHr : Hid (H ≤ wr.heap.size) := by unfold Hid; have := HR.out.2.2.size; have := HH.out; omega
          have LA := len_any (HG1.out _ HBr.out).blk
          go_wp2_with fail
          refine LA.mono ?_
          rintro e wz ⟨rfl, rfl⟩
          clear LA
          by_cases hlt : i < N
          · have i0 : (0 : Int) ≤ i := by omega
            have i1 : (i : Int) < N := by omega
            have bA := Below.alloc (Below.refl wr.heap.size wr) (Nat.le_refl _) (.cells #[] 3)
            have HBA : Hid (Below s1 w1 (wr.alloc (.cells #[] 3))) := HBr.out.trans (bA.mono (HLE.out _ HBr.out))
            have HOA := Lib.hid (World.ownsRow_made (base := wr.heap.size) (e := 3) (size := 1) wr #[] 0 (Nat.le_refl _) (by unfold maxLen; omega) rfl)
            have HbA := Lib.hid bA
            have CA := ahead_any (i : Int) (HG1.out _ HBA.out).blk hN (HTW.out _ HBA.out)
            have hb0 := rowI_len2 A N (i : Int)
            have hb1 := rowI_len2 A2 N (i : Int)
            obtain ⟨q, hq⟩ : ∃ k, wr.heap.size = k := ⟨_, rfl⟩
            have HQ := Lib.hid hq
            rw [hq] at HOA HbA hHr
            clear bA HBA
            go_wp2_with fail
            refine CA.mono ?_
            rintro e wB ⟨v1, rfl, is1, b1⟩
            have HbB : Hid (Below q wr wB) := HbA.out.trans (b1.mono (by simp; omega))
            have HOB := Lib.hid (owns_below HOA.out b1)
            have HIB := Lib.hid is1
            have HqB : Hid (q ≤ wB.heap.size) := by unfold Hid; have := HbB.out.size; have := HQ.out; omega
            clear CA b1 is1 HOA HbA
            go_wp2_with (at_builtin; go_must (refine wpList_append_is rfl (.tmp 87) (.tmp 90) rfl q _ _ _ 0 [] _ rfl HOB.out rfl HIB.out (by omega) HqB.out ?_))
            intro v2 wC oC gC
            have HbC : Hid (Below q wr wC) := HbB.out.grown gC HqB.out (fun k hk => (HOB.out.lt k hk).1)
            have HOC := Lib.hid oC
            have HBC : Hid (Below s1 w1 wC) := HBr.out.trans (HbC.out.mono (by have := HLE.out _ HBr.out; have := HQ.out; omega))
            have CA := ahead_any (i : Int) (HG2.out _ HBC.out).blk hN (HTW.out _ HBC.out)
            clear oC gC HOB HIB HbB HqB
            go_wp2_with fail
            refine CA.mono ?_
            rintro e wD ⟨v3, rfl, is3, b3⟩
            have HbD : Hid (Below q wr wD) := HbC.out.trans (b3.mono (by have := HbC.out.size; have := HQ.out; omega))
            have HOD := Lib.hid (owns_below HOC.out b3)
            have HID := Lib.hid is3
            have HqD : Hid (q ≤ wD.heap.size) := by unfold Hid; have := HbD.out.size; have := HQ.out; omega
            clear CA b3 is3 HOC HbC HBC
            go_wp2_with (at_builtin; go_must (refine wpList_append_is rfl (.tmp 91) (.tmp 94) rfl q _ _ _ _ _ _ rfl HOD.out rfl HID.out (by omega) HqD.out ?_))
            intro v4 wE oE gE
            have HbE : Hid (Below q wr wE) := HbD.out.grown gE HqD.out (fun k hk => (HOD.out.lt k hk).1)
            have HRE := Lib.hid (HR.out.keep (HbE.out.mono (Nat.le_of_eq hq)) (by have := hHr.out; omega))
            have HqE : Hid (H ≤ wE.heap.size) := by unfold Hid; have := HbE.out.size; have := HQ.out; have := hHr.out; omega
            obtain ⟨sp4, cp4, rfl, -, -, -, -⟩ := owns_form1 oE
            have HOE : Hid (wE.ownsRow H 3 1 (.slice sp4 ((rowI A N (i : Int)).length + (rowI A2 N (i : Int)).length) cp4) (rowI A N (i : Int) ++ rowI A2 N (i : Int)).length (iv (rowI A N (i : Int) ++ rowI A2 N (i : Int)))) := by
              have h1 := owns_mono oE hHr.out
              unfold Hid
              rw [List.length_append]
              unfold iv at h1 ⊢
              rw [List.map_append]
              try simp only [Nat.zero_add, List.nil_append] at h1
              try simp only [Nat.zero_add]
              exact h1
            clear oE gE HOD HID HbD HqD HR HbE hq
            have HOW := Lib.hid (HRE.out.1.alloc (.cells #[.slice sp4 ((rowI A N (i : Int)).length + (rowI A2 N (i : Int)).length) cp4] 23))
            go_wp2_with (at_builtin; go_must (refine wpList_append_own _ rfl (.tmp 86) (.tmp 96) 22 rfl H 23 i23 (.slice none 0 0) 1 24 Tryd.underlying22 hi23 hz0 hz1 hz2 rfl (by decide) _ i _ rfl HOW.out ⟨wE.heap.size, 0, none⟩ 1 1 [.slice sp4 ((rowI A N (i : Int)).length + (rowI A2 N (i : Int)).length) cp4] rfl rfl (cell_one_new _ _ _) (by intro u hu; simp at hu; subst hu; rfl) (by unfold maxLen; omega) (by omega) (by have := HqE.out; simp; omega) ?_))
            intro v7 w7 o7 g7 _
            have HR7 := Lib.hid (HRE.out.grow HqE.out HOE.out rfl o7 g7)
            clear o7 g7 HOW HOE HRE
            go_wp2_with fail
            go_roundg (N - (i + 1))
            case rel => exact ⟨i + 1, _, by omega, rfl, by go_num, HR7.out⟩
            case measure => omega
          · have hin : i = N := by omega
            subst hin
            obtain ⟨pz, cz, rfl, -, -, hpt⟩ := HR.out.pt
            have CR := rnew_any (i : Int) pz i cz _ _ _ wr hpt (by unfold maxLen; omega)
            rw [clamp_nat hN, both_rows hN (HG1.out _ HBr.out).fit (HG2.out _ HBr.out).fit] at CR
            have LA := len_any (HG1.out _ HBr.out).blk
            have hf1 : Hid (∀ a k, bothA A A2 a k = true → a < i ∧ k < i) := (HG3.out _ HBr.out).fit
            have hr1 := rowI_len2 (bothA A A2) i xi
            have hr2 := rowI_len2 (turnA (bothA A A2)) i xi
            have hml : ∀ k : Nat, k ≤ 128 → k ≤ maxLen := fun k hk => by unfold maxLen; omega
            have HML := Lib.hid hml
            clear hpt HR hml
            go_wp2_with fail
            refine LA.mono ?_
            rintro e wz ⟨rfl, rfl⟩
            clear LA
            have CT := CR
            go_wp2_with fail
            refine CT.mono ?_
            rintro e w21 ⟨rfl, gy, b⟩
            have HB21 : Hid (Below s1 w1 w21) := HBr.out.trans (b.mono (HLE.out _ HBr.out))
            have HGy := Lib.hid gy
            clear gy
            clear CT b CR
            
            have CT := ahead_any xi (HG3.out _ HB21.out).blk hN (HTW.out _ HB21.out)
            go_wp2_with fail
            refine CT.mono ?_
            rintro e w22 ⟨va, rfl, ⟨pa, ca, rfl, -, -, rd, -⟩, b⟩
            have HB22 : Hid (Below s1 w1 w22) := HB21.out.trans (b.mono (HLE.out _ HB21.out))
            have HRa : Hid (Rd w22 pa (rowI (bothA A A2) i xi)) := rd
            have HGy := Lib.hid (HGy.out.below b (Nat.le_refl _))
            clear CT b rd
            have CT := rlist_any xi HGy.out (fun a k h => (hf1.out a k h).2)
            go_wp2_with fail
            refine CT.mono ?_
            rintro e w23 ⟨vb, rfl, ⟨pb, cb, rfl, -, -, rd, -⟩, b⟩
            have HB23 : Hid (Below s1 w1 w23) := HB22.out.trans (b.mono (HLE.out _ HB22.out))
            have HRa : Hid (Rd w23 pa (rowI (bothA A A2) i xi)) := HRa.out.below b (Nat.le_refl _)
            have HRb : Hid (Rd w23 pb (rowI (bothA A A2) i xi)) := rd
            have HGy := Lib.hid (HGy.out.below b (Nat.le_refl _))
            clear CT b rd
            have CI := ints_any pa pb ca cb _ _ _ HRa.out HRb.out (HML.out _ hr1) (HML.out _ hr1)
            rw [decide_eq_true rfl] at CI
            have CT := CI
            go_wp2_with fail
            refine CT.mono ?_
            rintro e w24 ⟨rfl, b⟩
            have HB24 : Hid (Below s1 w1 w24) := HB23.out.trans (b.mono (HLE.out _ HB23.out))
            have HRa : Hid (Rd w24 pa (rowI (bothA A A2) i xi)) := HRa.out.below b (Nat.le_refl _)
            have HRb : Hid (Rd w24 pb (rowI (bothA A A2) i xi)) := HRb.out.below b (Nat.le_refl _)
            have HGy := Lib.hid (HGy.out.below b (Nat.le_refl _))
            clear CT b CI
            clear HRa
            clear HRb
            have CT := behind_any xi (HG3.out _ HB24.out).blk hN (HTW.out _ HB24.out)
            go_wp2_with fail
            refine CT.mono ?_
            rintro e w25 ⟨vc, rfl, ⟨pc, cc, rfl, -, -, rd, -⟩, b⟩
            have HB25 : Hid (Below s1 w1 w25) := HB24.out.trans (b.mono (HLE.out _ HB24.out))
            have HRc : Hid (Rd w25 pc (rowI (turnA (bothA A A2)) i xi)) := rd
            have HGy := Lib.hid (HGy.out.below b (Nat.le_refl _))
            clear CT b rd
            have CT := rturned_any HGy.out
            go_wp2_with fail
            refine CT.mono ?_
            rintro e w26 ⟨rfl, gt, b⟩
            have HB26 : Hid (Below s1 w1 w26) := HB25.out.trans (b.mono (HLE.out _ HB25.out))
            have HRc : Hid (Rd w26 pc (rowI (turnA (bothA A A2)) i xi)) := HRc.out.below b (Nat.le_refl _)
            have HGt := Lib.hid gt
            clear gt
            clear CT b
            have CT := rlist_any xi HGt.out (fun a k h => (hf1.out k a h).1)
            go_wp2_with fail
            refine CT.mono ?_
            rintro e w27 ⟨vd, rfl, ⟨pd, cd, rfl, -, -, rd, -⟩, b⟩
            have HB27 : Hid (Below s1 w1 w27) := HB26.out.trans (b.mono (HLE.out _ HB26.out))
            have HRc : Hid (Rd w27 pc (rowI (turnA (bothA A A2)) i xi)) := HRc.out.below b (Nat.le_refl _)
            have HRd : Hid (Rd w27 pd (rowI (turnA (bothA A A2)) i xi)) := rd
            clear CT b rd HGt HGy
            have CI := ints_any pc pd cc cd _ _ _ HRc.out HRd.out (HML.out _ hr2) (HML.out _ hr2)
            rw [decide_eq_true rfl] at CI
            have CT := CI
            go_wp2_with fail
            refine CT.mono ?_
            rintro e w28 ⟨rfl, b⟩
            have HB28 : Hid (Below s1 w1 w28) := HB27.out.trans (b.mono (HLE.out _ HB27.out))
            have HRc : Hid (Rd w28 pc (rowI (turnA (bothA A A2)) i xi)) := HRc.out.below b (Nat.le_refl _)
            have HRd : Hid (Rd w28 pd (rowI (turnA (bothA A A2)) i xi)) := HRd.out.below b (Nat.le_refl _)
            clear CT b CI
            clear HRc
            clear HRd
            have CT := awake_any _ (HTW.out _ HB28.out)
            go_wp2_with fail
            refine CT.mono ?_
            rintro e w29 ⟨rfl, b⟩
            have HB29 : Hid (Below s1 w1 w29) := HB28.out.trans (b.mono (HLE.out _ HB28.out))
            clear CT b
            have HEND : Hid (Below w.heap.size w w29) := by
              unfold Hid; rw [HS0.out]; exact HW0.out.trans (HB29.out.mono (by omega))
            clear HB29
            go_wp2
            go_ret
            exact ⟨rfl, HEND.out⟩
      · have CB := both_ne HGa2.out HGb.out hnm
        go_wp2_with fail
        refine CB.mono ?_
        rintro e w1 ⟨rfl, x1⟩
        clear CB
        obtain ⟨s1, hs⟩ : ∃ k, w1.heap.size = k := ⟨_, rfl⟩
        have HS1 := Lib.hid hs
        have HLE : Hid (∀ W, Below s1 w1 W → s1 ≤ W.heap.size) := fun W b => by have := b.size; omega
        have hs1 : wb.heap.size ≤ s1 := by have := x1.size; omega
        have HW0 : Hid (Below s0 w w1) := HBb.out.trans (x1.mono (by omega))
        have HTW : Hid (∀ W, Below s1 w1 W → Tab W) := fun W b => HT.out.below (HW0.out.trans (b.mono (by omega))) hT0
        have HBw : Hid (Below s1 w1 w1) := Below.refl _ _
        have HG1 : Hid (∀ W, Below s1 w1 W → GR W s0 N A) := fun W b => HGa2.out.below (x1.trans (b.mono hs1)) (by omega)
        have HG2 : Hid (∀ W, Below s1 w1 W → GR W sb N2 A2) := fun W b => HGb.out.below (x1.trans (b.mono hs1)) hsbb
        clear x1 hs
        have L0 := fun w => len_nil w
        have T0 := fun w => turned_nil w
        have U0 := fun w v => under_nil w v
        have O0 := fun w v => over_nil w v
        have A0 := fun w => ahead_nil w 0
        have B0 := fun w => both_none (.pointer none) w
        go_wp2_with fail
        refine (L0 _).mono ?_
        rintro e wz ⟨rfl, rfl⟩
        go_wp2_with fail
        refine (T0 _).mono ?_
        rintro e wz ⟨rfl, rfl⟩
        have b1 := Below.alloc (Below.refl w1.heap.size w1) (Nat.le_refl _) (.cells #[.int .i64 0] 3)
        go_wp2_with fail
        refine (U0 _ _).mono ?_
        rintro e wz ⟨rfl, rfl⟩
        have b2 := b1.alloc (by simp) (.cells #[.int .i64 0] 3)
        clear b1
        go_wp2_with fail
        refine (O0 _ _).mono ?_
        rintro e wz ⟨rfl, rfl⟩
        go_wp2_with fail
        refine (A0 _).mono ?_
        rintro e wz ⟨rfl, rfl⟩
        go_wp2_with fail
        refine (B0 _).mono ?_
        rintro e w2 ⟨rfl, b3⟩
        have HB2 : Hid (Below s1 w1 w2) := HBw.out.trans ((b2.trans (b3.mono (by simp; omega))).mono (HLE.out _ HBw.out))
        clear b2 b3 L0 T0 U0 O0 A0 B0
        have LA := len_any (HG1.out _ HB2.out).blk
        have LB := len_any (HG2.out _ HB2.out).blk
        have hne2 : ((N : Int) != (N2 : Int)) = true := by
          have : (N : Int) ≠ N2 := by omega
          simpa using this
        go_wp2_with fail
        refine LA.mono ?_
        rintro e wz ⟨rfl, rfl⟩
        go_wp2_with fail
        refine LB.mono ?_
        rintro e wz ⟨rfl, rfl⟩
        clear LA LB
        have CT := awake_any _ (HTW.out _ HB2.out)
        go_wp2_with fail
        refine CT.mono ?_
        rintro e w3 ⟨rfl, b⟩
        have HB3 : Hid (Below s1 w1 w3) := HB2.out.trans (b.mono (HLE.out _ HB2.out))
        clear CT b
        have HEND : Hid (Below w.heap.size w w3) := by
          unfold Hid; rw [HS0.out]; exact HW0.out.trans (HB3.out.mono (by omega))
        clear HB3
        go_wp2
        go_ret
        exact ⟨rfl, HEND.out⟩
end Go.Proofs.YtonnopcafmhaaaaDoor
