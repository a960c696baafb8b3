/- GraphReach: plain words, and the law's walk. -/
import Derived.Test.YtonnopcafmhaaaaDoorCB
namespace Go.Proofs.YtonnopcafmhaaaaDoor
open Go.RowKit

theorem mem_nl {L : List Nat} {k : Nat} : (k : Int) ∈ nl L ↔ k ∈ L := by
  unfold nl
  rw [List.mem_map]
  constructor
  · rintro ⟨x, h, e⟩
    have : x = k := by omega
    rwa [← this]
  · exact fun h => ⟨k, h, rfl⟩
theorem nl_nat {L : List Nat} {x : Int} (h : x ∈ nl L) : ∃ k : Nat, x = k ∧ k ∈ L := by
  unfold nl at h
  obtain ⟨k, h, e⟩ := List.mem_map.1 h
  exact ⟨k, e.symm, h⟩
theorem inL_nl (L : List Nat) : inL (nl L) = fun k => decide (k ∈ L) := by
  funext k; unfold inL
  exact decide_eq_decide.2 mem_nl
theorem under_under (A : Nat → Nat → Bool) (N : Nat) (S : Nat → Bool) : underM A N (inL (nl (underM A N S))) = underM A N S := by
  rw [inL_nl]
  exact under_eq (f := passes A N N _) fun k hk => (passes_all _ hk).trans rch_idem
theorem rch_one {A : Nat → Nat → Bool} {N : Nat} {i : Int} {k : Nat} (h : Rch A N (inL [i]) k) : ∃ i' : Nat, i = i' ∧ Rch A N (fun x => decide (x = i')) k := by
  induction h with
  | start hk hs =>
    rename_i k
    have : (k : Int) = i := by simpa [inL] using hs
    exact ⟨k, this.symm, .start hk (by simp)⟩
  | step _ hk ha ih =>
    obtain ⟨i', e, hr⟩ := ih
    exact ⟨i', e, .step hr hk ha⟩
theorem one_rch {A : Nat → Nat → Bool} {N i k : Nat} (h : Rch A N (fun x => decide (x = i)) k) : Rch A N (inL [(i : Int)]) k := by
  induction h with
  | start hk hs =>
    have := of_decide_eq_true hs
    subst this
    exact .start hk (by simp [inL])
  | step _ hk ha ih => exact .step ih hk ha
theorem reach_swap {A : Nat → Nat → Bool} {N : Nat} {i k : Int} (h : k ∈ nl (underM A N (inL [i]))) : i ∈ nl (underM (turnA A) N (inL [k])) := by
  obtain ⟨k', rfl, hk⟩ := nl_nat h
  obtain ⟨i', rfl, hr⟩ := rch_one (mem_under.1 hk)
  exact mem_nl.2 (mem_under.2 (one_rch (rch_swap hr)))
theorem reach_same (A : Nat → Nat → Bool) (N : Nat) (i k : Int) : decide (k ∈ nl (underM A N (inL [i]))) = decide (i ∈ nl (underM (turnA A) N (inL [k]))) :=
  decide_eq_decide.2 ⟨reach_swap, fun h => reach_swap (A := turnA A) h⟩
theorem nl_under_len (A : Nat → Nat → Bool) (N : Nat) (S : Nat → Bool) : (nl (underM A N S)).length ≤ N := by
  rw [nl_len]
  unfold underM
  exact Nat.le_trans (List.length_filter_le _ _) (by simp)
theorem rowI_len (A : Nat → Nat → Bool) (N : Nat) (i : Int) : (rowI A N i).length ≤ 128 := by
  unfold rowI
  split
  · exact lst_len _ _
  · exact Nat.zero_le _
/-- one more is looked at -/
theorem mem_step {l : List Int} {j : Nat} (hj : j < l.length) (y : Int) : decide (y ∈ l.take (j + 1)) = (decide (y ∈ l.take j) || decide (l.getD j 0 = y)) := by
  have h := take_mem hj y
  by_cases h1 : y ∈ l.take j
  · rw [decide_eq_true (h.2 (.inl h1)), decide_eq_true h1]; rfl
  · by_cases h2 : l.getD j 0 = y
    · rw [decide_eq_true (h.2 (.inr h2.symm)), decide_eq_true h2, Bool.or_true]
    · rw [decide_eq_false (fun h3 => (h.1 h3).elim h1 fun e => h2 e.symm), decide_eq_false h1, decide_eq_false h2]; rfl
set_option maxRecDepth 20000 in
set_option maxHeartbeats 8000000 in
theorem greach_any (n : Int) (pp : Option Addr) (m cap : Nat) (S : Nat → Option Addr) (M : Nat → List Int) (C : Nat → Nat) (xi xk : Int) (w : World) (h : Pt w pp m S M C) (hm : m ≤ maxLen) (hT : Tab w) :
    Calls Tryd.prog 6 #[.int .i64 n, .slice pp m cap, .int .i64 xi, .int .i64 xk] w fun e w' => e = .returned (.bool true) ∧ Below w.heap.size w w' := by
  have HT := Lib.hid hT
  have GA := great_any n pp m cap S M C w h hm
  cases hg : greatB n m M with
  | true =>
    have AW := Lib.hid (awake_any w hT)
    rw [hg] at GA
    clear h hT hg
    go_enter Tryd.func6, Tryd.ntmps6
    go_wp2_with fail
    refine GA.mono ?_
    rintro e w1 ⟨rfl, rfl⟩
    clear GA
    go_wp2_with fail
    refine AW.out.mono ?_
    rintro e w2 ⟨rfl, b⟩
    have B2 := Lib.hid b
    clear b AW
    go_wp2
    go_ret
    exact ⟨rfl, B2.out⟩
  | false =>
    rw [hg] at GA
    have NA := new_any n pp m cap S M C w h hm
    have hN := clamp_le n
    generalize clamp n = N at *
    generalize ahA N m M = A at *
    have hT0 := hT.1
    obtain ⟨n0, hn0⟩ : ∃ k, w.heap.size = k := ⟨_, rfl⟩
    rw [hn0] at NA hT0
    have HN0 := Lib.hid hn0
    clear h hT hg hm
    go_enter Tryd.func6, Tryd.ntmps6
    go_wp2_with fail
    refine GA.mono ?_
    rintro e w1 ⟨rfl, rfl⟩
    clear GA
    go_wp2_with fail
    refine NA.mono ?_
    rintro e w1 ⟨rfl, g1, b1⟩
    have HG1 := Lib.hid g1
    have HB1 := Lib.hid b1
    have hs1 := g1.lt
    clear NA g1 b1 hn0
    obtain ⟨s1, hs⟩ : ∃ k, w1.heap.size = k := ⟨_, rfl⟩
    rw [hs] at hs1
    have HS1 := Lib.hid hs
    have HGW : Hid (∀ W, Below s1 w1 W → GR W n0 N A) := fun W b => HG1.out.below b hs1
    have HTW : Hid (∀ W, Below s1 w1 W → Tab W) := fun W b => HT.out.below (HB1.out.trans (b.mono (Nat.le_of_lt hs1))) hT0
    have HLE : Hid (∀ W, Below s1 w1 W → s1 ≤ W.heap.size) := fun W b => by have := b.size; omega
    have HBw : Hid (Below s1 w1 w1) := Below.refl _ _
    clear hs
    obtain ⟨z1, hz1⟩ : ∃ k, w1.heap.size = k := ⟨_, rfl⟩
    have HB2 : Hid (Below s1 w1 (w1.alloc (.cells #[.int .i64 xi] 3))) := HBw.out.trans (((Below.refl _ _).alloc (Nat.le_refl _) _).mono (HLE.out _ HBw.out))
    have HRa : Hid (Rd (w1.alloc (.cells #[.int .i64 xi] 3)) (some ⟨z1, 0, none⟩) [xi]) := by have := rd_new w1 [xi] 3; rw [hz1] at this; exact this
    have CT := under_any _ 1 [xi] (HGW.out _ HB2.out) (HTW.out _ HB2.out) HRa.out (by show 1 ≤ maxLen; unfold maxLen; omega)
    go_wp2_with fail
    refine CT.mono ?_
    rintro e w3 ⟨v3, rfl, ⟨p3, c3, rfl, -, -, rd, -⟩, b⟩
    have HB3 : Hid (Below s1 w1 w3) := HB2.out.trans (b.mono (HLE.out _ HB2.out))
    have HRa : Hid (Rd w3 (some ⟨z1, 0, none⟩) [xi]) := HRa.out.below b (Nat.le_refl _)
    have HRu : Hid (Rd w3 p3 (nl (underM A N (inL [xi])))) := rd
    clear CT b rd hz1
    clear HRa
    obtain ⟨z2, hz2⟩ : ∃ k, w3.heap.size = k := ⟨_, rfl⟩
    have HB4 : Hid (Below s1 w1 (w3.alloc (.cells #[.int .i64 xk] 3))) := HB3.out.trans (((Below.refl _ _).alloc (Nat.le_refl _) _).mono (HLE.out _ HB3.out))
    have HRb : Hid (Rd (w3.alloc (.cells #[.int .i64 xk] 3)) (some ⟨z2, 0, none⟩) [xk]) := by have := rd_new w3 [xk] 3; rw [hz2] at this; exact this
    have HRu : Hid (Rd (w3.alloc (.cells #[.int .i64 xk] 3)) p3 (nl (underM A N (inL [xi])))) := HRu.out.below ((Below.refl _ _).alloc (Nat.le_refl _) _) (Nat.le_refl _)
    have CT := over_any _ 1 [xk] (HGW.out _ HB4.out) (HTW.out _ HB4.out) HRb.out (by show 1 ≤ maxLen; unfold maxLen; omega)
    go_wp2_with fail
    refine CT.mono ?_
    rintro e w5 ⟨v5, rfl, ⟨p5, c5, rfl, -, -, rd, -⟩, b⟩
    have HB5 : Hid (Below s1 w1 w5) := HB4.out.trans (b.mono (HLE.out _ HB4.out))
    have HRu : Hid (Rd w5 p3 (nl (underM A N (inL [xi])))) := HRu.out.below b (Nat.le_refl _)
    have HRb : Hid (Rd w5 (some ⟨z2, 0, none⟩) [xk]) := HRb.out.below b (Nat.le_refl _)
    have HRo : Hid (Rd w5 p5 (nl (underM (turnA A) N (inL [xk])))) := rd
    clear CT b rd hz2
    clear HRb
    have HUU := Lib.hid (under_under A N (inL [xi]))
    have HSM := Lib.hid (reach_same A N xi xk)
    have HOO : Hid (nl (underM (turnA A) N (inL [xk])) = nl (underM (turnA A) N (inL [xk]))) := rfl
    have hlu := nl_under_len A N (inL [xi])
    have hlo := nl_under_len (turnA A) N (inL [xk])
    have hri := rowI_len A N xi
    generalize hLu : nl (underM A N (inL [xi])) = Lu at *
    generalize hLo : nl (underM (turnA A) N (inL [xk])) = Lo at *
    have HLu := Lib.hid hLu
    have HLo := Lib.hid hLo
    clear hLu hLo HOO
    obtain ⟨lu, hlu2⟩ : ∃ k, Lu.length = k := ⟨_, rfl⟩
    obtain ⟨lo, hlo2⟩ : ∃ k, Lo.length = k := ⟨_, rfl⟩
    have HLU2 := Lib.hid hlu2
    have HLO2 := Lib.hid hlo2
    rw [hlu2] at hlu ⊢
    rw [hlo2] at hlo ⊢
    clear hlu2 hlo2
    go_wp2
    go_loopg [12, 14] lu (fun k bb c wr => ∃ (z : Nat) (na : Bool), z ≤ lu ∧ k = lu - z ∧ c = .int .i64 z ∧ bb = .bool na ∧ Hid (na = decide (xk ∈ Lu.take z)) ∧ w5 = wr)
    case atStart => exact ⟨0, false, by omega, by omega, rfl, rfl, by unfold Hid; simp, rfl⟩
    case round =>
      obtain ⟨z, na, hz, rfl, rfl, rfl, HNB, rfl⟩ := hrel
      by_cases hzl : z < lu
      · obtain ⟨b1, o1, rfl, q1, c1⟩ := HRu.out z (by rw [HLU2.out]; exact hzl)
        have HAS := mem_step (l := Lu) (j := z) (by rw [HLU2.out]; exact hzl) xk
        rw [← HNB.out] at HAS
        have HAS := Lib.hid HAS
        have z0 : (0 : Int) ≤ z := by omega
        have zl : (z : Int) < lu := by omega
        clear HNB
        generalize Lu.getD z 0 = x at *
        cases na with
        | true =>
          go_wp2
          go_roundg (lu - (z + 1))
          case rel => exact ⟨z + 1, true, by omega, rfl, by go_num, rfl, by rw [Bool.true_or] at HAS; exact HAS.out.symm, rfl⟩
          case measure => omega
        | false =>
          rw [Bool.false_or] at HAS
          have hyb2 : (x == xk) = decide (x = xk) := Bool.beq_eq_decide_eq x xk
          generalize hyb : decide (x = xk) = yb at *
          clear hyb
          go_wp2
          go_roundg (lu - (z + 1))
          case rel => exact ⟨z + 1, yb, by omega, rfl, by go_num, rfl, HAS.out.symm, rfl⟩
          case measure => omega
      · have hzl : z = lu := by omega
        subst hzl
        have HNB2 : Hid (na = decide (xk ∈ Lu)) := by
          have h1 := HNB.out
          rw [← HLU2.out, List.take_length] at h1
          exact h1
        clear HNB
        have HQ1 := HNB2
        clear HNB2
        go_wp2
        go_loopg [13, 15] lo (fun k bb c wr => ∃ (z : Nat) (nb : Bool), z ≤ lo ∧ k = lo - z ∧ c = .int .i64 z ∧ bb = .bool nb ∧ Hid (nb = decide (xi ∈ Lo.take z)) ∧ w5 = wr)
        case atStart => exact ⟨0, false, by omega, by omega, rfl, rfl, by unfold Hid; simp, rfl⟩
        case round =>
          obtain ⟨z, nb, hz, rfl, rfl, rfl, HNB, rfl⟩ := hrel
          by_cases hzl : z < lo
          · obtain ⟨b1, o1, rfl, q1, c1⟩ := HRo.out z (by rw [HLO2.out]; exact hzl)
            have HAS := mem_step (l := Lo) (j := z) (by rw [HLO2.out]; exact hzl) xi
            rw [← HNB.out] at HAS
            have HAS := Lib.hid HAS
            have z0 : (0 : Int) ≤ z := by omega
            have zl : (z : Int) < lo := by omega
            clear HNB
            generalize Lo.getD z 0 = x at *
            cases nb with
            | true =>
              go_wp2
              go_roundg (lo - (z + 1))
              case rel => exact ⟨z + 1, true, by omega, rfl, by go_num, rfl, by rw [Bool.true_or] at HAS; exact HAS.out.symm, rfl⟩
              case measure => omega
            | false =>
              rw [Bool.false_or] at HAS
              have hyb2 : (x == xi) = decide (x = xi) := Bool.beq_eq_decide_eq x xi
              generalize hyb : decide (x = xi) = yb at *
              clear hyb
              go_wp2
              go_roundg (lo - (z + 1))
              case rel => exact ⟨z + 1, yb, by omega, rfl, by go_num, rfl, HAS.out.symm, rfl⟩
              case measure => omega
          · have hzl : z = lo := by omega
            subst hzl
            have HNB2 : Hid (nb = decide (xi ∈ Lo)) := by
              have h1 := HNB.out
              rw [← HLO2.out, List.take_length] at h1
              exact h1
            clear HNB
            have HQ2 := HNB2
            clear HNB2
            have HEQ : na = nb := HQ1.out.trans (HSM.out.trans HQ2.out.symm)
            subst HEQ
            clear HQ1 HQ2 HSM
            have hbb : (na == na) = true := by simp
            have HLU3 : Hid (Rd w5 p3 Lu) := HRu.out
            have hml : ∀ k : Nat, k ≤ 128 → k ≤ maxLen := fun k hk => by unfold maxLen; omega
            have HML := Lib.hid hml
            clear hml HLU3
            have hlu' : Lu.length ≤ 128 := by rw [HLU2.out]; omega
            have hlo' : Lo.length ≤ 128 := by rw [HLO2.out]; omega
            have HLUL := Lib.hid hlu'
            have HLOL := Lib.hid hlo'
            clear hlu' hlo'
            have CU := under_any p3 c3 Lu (HGW.out _ HB5.out) (HTW.out _ HB5.out) HRu.out (HML.out _ HLUL.out)
            have HUU2 := HUU.out
            rw [HUU2, HLu.out, HLU2.out] at CU
            have CT := CU
            go_wp2_with fail
            refine CT.mono ?_
            rintro e w6 ⟨v6, rfl, ⟨p6, c6, rfl, -, -, rd, -⟩, b⟩
            have HB6 : Hid (Below s1 w1 w6) := HB5.out.trans (b.mono (HLE.out _ HB5.out))
            have HRu : Hid (Rd w6 p3 Lu) := HRu.out.below b (Nat.le_refl _)
            have HRo : Hid (Rd w6 p5 Lo) := HRo.out.below b (Nat.le_refl _)
            have HRv : Hid (Rd w6 p6 Lu) := rd
            clear CT b rd CU HUU2
            have CI := ints_any p6 p3 c6 c3 Lu Lu _ HRv.out HRu.out (HML.out _ HLUL.out) (HML.out _ HLUL.out)
            rw [decide_eq_true rfl, HLU2.out] at CI
            rw [HLU2.out]
            have CT := CI
            go_wp2_with fail
            refine CT.mono ?_
            rintro e w7 ⟨rfl, b⟩
            have HB7 : Hid (Below s1 w1 w7) := HB6.out.trans (b.mono (HLE.out _ HB6.out))
            have HRu : Hid (Rd w7 p3 Lu) := HRu.out.below b (Nat.le_refl _)
            have HRo : Hid (Rd w7 p5 Lo) := HRo.out.below b (Nat.le_refl _)
            have HRv : Hid (Rd w7 p6 Lu) := HRv.out.below b (Nat.le_refl _)
            clear CT b CI
            clear HRv
            clear HRu
            have CT := turned_any (HGW.out _ HB7.out)
            go_wp2_with fail
            refine CT.mono ?_
            rintro e w8 ⟨rfl, gt, b⟩
            have HB8 : Hid (Below s1 w1 w8) := HB7.out.trans (b.mono (HLE.out _ HB7.out))
            have HRo : Hid (Rd w8 p5 Lo) := HRo.out.below b (Nat.le_refl _)
            have HG8 := Lib.hid gt
            clear gt
            clear CT b
            have CT := turned_any HG8.out
            go_wp2_with fail
            refine CT.mono ?_
            rintro e w9 ⟨rfl, gt, b⟩
            have HB9 : Hid (Below s1 w1 w9) := HB8.out.trans (b.mono (HLE.out _ HB8.out))
            have HRo : Hid (Rd w9 p5 Lo) := HRo.out.below b (Nat.le_refl _)
            have HG9 : Hid (GR w9 _ N A) := gt
            clear gt HG8
            clear CT b
            have CT := ahead_any xi HG9.out.blk hN (HTW.out _ HB9.out)
            go_wp2_with fail
            refine CT.mono ?_
            rintro e w10 ⟨v10, rfl, ⟨p10, c10, rfl, -, -, rd, -⟩, b⟩
            have HB10 : Hid (Below s1 w1 w10) := HB9.out.trans (b.mono (HLE.out _ HB9.out))
            have HRo : Hid (Rd w10 p5 Lo) := HRo.out.below b (Nat.le_refl _)
            have HRx : Hid (Rd w10 p10 (rowI A N xi)) := rd
            clear CT b rd HG9
            have CT := ahead_any xi (HGW.out _ HB10.out).blk hN (HTW.out _ HB10.out)
            go_wp2_with fail
            refine CT.mono ?_
            rintro e w11 ⟨v11, rfl, ⟨p11, c11, rfl, -, -, rd, -⟩, b⟩
            have HB11 : Hid (Below s1 w1 w11) := HB10.out.trans (b.mono (HLE.out _ HB10.out))
            have HRo : Hid (Rd w11 p5 Lo) := HRo.out.below b (Nat.le_refl _)
            have HRx : Hid (Rd w11 p10 (rowI A N xi)) := HRx.out.below b (Nat.le_refl _)
            have HRy : Hid (Rd w11 p11 (rowI A N xi)) := rd
            clear CT b rd
            have CI := ints_any p10 p11 c10 c11 _ _ _ HRx.out HRy.out (HML.out _ hri) (HML.out _ hri)
            rw [decide_eq_true rfl] at CI
            have CT := CI
            go_wp2_with fail
            refine CT.mono ?_
            rintro e w12 ⟨rfl, b⟩
            have HB12 : Hid (Below s1 w1 w12) := HB11.out.trans (b.mono (HLE.out _ HB11.out))
            have HRo : Hid (Rd w12 p5 Lo) := HRo.out.below b (Nat.le_refl _)
            have HRx : Hid (Rd w12 p10 (rowI A N xi)) := HRx.out.below b (Nat.le_refl _)
            have HRy : Hid (Rd w12 p11 (rowI A N xi)) := HRy.out.below b (Nat.le_refl _)
            clear CT b CI
            clear HRx
            clear HRy
            have CT := turned_any (HGW.out _ HB12.out)
            go_wp2_with fail
            refine CT.mono ?_
            rintro e w13 ⟨rfl, gt, b⟩
            have HB13 : Hid (Below s1 w1 w13) := HB12.out.trans (b.mono (HLE.out _ HB12.out))
            have HRo : Hid (Rd w13 p5 Lo) := HRo.out.below b (Nat.le_refl _)
            have HG13 := Lib.hid gt
            clear gt
            clear CT b
            obtain ⟨z3, hz3⟩ : ∃ k, w13.heap.size = k := ⟨_, rfl⟩
            have HB14 : Hid (Below s1 w1 (w13.alloc (.cells #[.int .i64 xk] 3))) := HB13.out.trans (((Below.refl _ _).alloc (Nat.le_refl _) _).mono (HLE.out _ HB13.out))
            have HRc : Hid (Rd (w13.alloc (.cells #[.int .i64 xk] 3)) (some ⟨z3, 0, none⟩) [xk]) := by have := rd_new w13 [xk] 3; rw [hz3] at this; exact this
            have HRo : Hid (Rd (w13.alloc (.cells #[.int .i64 xk] 3)) p5 Lo) := HRo.out.below ((Below.refl _ _).alloc (Nat.le_refl _) _) (Nat.le_refl _)
            have HG14 := Lib.hid (HG13.out.below ((Below.refl _ _).alloc (Nat.le_refl _) (.cells #[.int .i64 xk] 3)) HG13.out.lt)
            clear HG13
            have CU := under_any _ 1 [xk] HG14.out (HTW.out _ HB14.out) HRc.out (by show 1 ≤ maxLen; unfold maxLen; omega)
            rw [HLo.out] at CU
            have CT := CU
            go_wp2_with fail
            refine CT.mono ?_
            rintro e w15 ⟨v14, rfl, ⟨p14, c14, rfl, -, -, rd, -⟩, b⟩
            have HB15 : Hid (Below s1 w1 w15) := HB14.out.trans (b.mono (HLE.out _ HB14.out))
            have HRo : Hid (Rd w15 p5 Lo) := HRo.out.below b (Nat.le_refl _)
            have HRc : Hid (Rd w15 (some ⟨z3, 0, none⟩) [xk]) := HRc.out.below b (Nat.le_refl _)
            have HRw : Hid (Rd w15 p14 Lo) := rd
            clear CT b rd CU hz3 HG14
            clear HRc
            have CI := ints_any p14 p5 c14 c5 Lo Lo _ HRw.out HRo.out (HML.out _ HLOL.out) (HML.out _ HLOL.out)
            rw [decide_eq_true rfl, HLO2.out] at CI
            rw [HLO2.out]
            have CT := CI
            go_wp2_with fail
            refine CT.mono ?_
            rintro e w16 ⟨rfl, b⟩
            have HB16 : Hid (Below s1 w1 w16) := HB15.out.trans (b.mono (HLE.out _ HB15.out))
            have HRo : Hid (Rd w16 p5 Lo) := HRo.out.below b (Nat.le_refl _)
            have HRw : Hid (Rd w16 p14 Lo) := HRw.out.below b (Nat.le_refl _)
            clear CT b CI
            clear HRw
            clear HRo
            have CT := awake_any _ (HTW.out _ HB16.out)
            go_wp2_with fail
            refine CT.mono ?_
            rintro e w17 ⟨rfl, b⟩
            have HB17 : Hid (Below s1 w1 w17) := HB16.out.trans (b.mono (HLE.out _ HB16.out))
            clear CT b
            have HEND : Hid (Below w.heap.size w w17) := by
              unfold Hid; rw [HN0.out]; exact HB1.out.trans (HB17.out.mono (Nat.le_of_lt hs1))
            clear HB17
            go_wp2
            go_ret
            exact ⟨rfl, HEND.out⟩
end Go.Proofs.YtonnopcafmhaaaaDoor
