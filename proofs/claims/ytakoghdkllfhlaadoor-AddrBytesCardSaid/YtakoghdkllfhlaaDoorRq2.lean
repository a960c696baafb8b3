/- Get of the reference. -/
import Derived.Test.YtakoghdkllfhlaaDoorRqa
namespace Go.Proofs.YtakoghdkllfhlaaDoor
open Go.RowKit Go.Lib

set_option maxRecDepth 100000 in
set_option maxHeartbeats 40000000 in
theorem rgetR_2 {nb : Nat} {o : Option Addr} {cap : Nat} {M : List Nat} {w : World} (B : Bts nb w o cap M) (hnb : nb ≤ w.heap.size) (hkd : kindOf M = 2) :
    Calls Tryd.prog 36 #[.slice o M.length cap] w fun r w' => r = getKV (getR M) ∧ Below w.heap.size w w' := by
  have HKD := Lib.hid hkd
  clear hkd
  have l1 := B.row.1
  have l2 := B.row.2.1
  unfold maxLen at l2
  obtain ⟨N, hN⟩ : ∃ N, N = w.heap.size := ⟨_, rfl⟩
  obtain ⟨w0, hw0⟩ : ∃ w0, (w.alloc (.cells #[.string ⟨#[]⟩, .string ⟨#[]⟩, .int .i64 0, .int .i64 0, .string ⟨#[]⟩, .int .u32 0] 26)).alloc (.cells #[.string ⟨#[]⟩, .string ⟨#[]⟩, .int .i64 0, .int .i64 0, .string ⟨#[]⟩, .int .u32 0] 26) = w0 := ⟨_, rfl⟩
  have SZ : (w.alloc (.cells #[.string ⟨#[]⟩, .string ⟨#[]⟩, .int .i64 0, .int .i64 0, .string ⟨#[]⟩, .int .u32 0] 26)).heap.size = N + 1 := by rw [hN]; simp
  have HW : Hid (Below N w w0) := by rw [← hw0]; exact ((Below.refl N w).alloc (by omega) _).alloc (by rw [SZ]; exact Nat.le_succ N) _
  have H0 : Hid (Lk w0 N zK) := by rw [← hw0]; exact (((Below.refl (N + 1) (w.alloc _)).alloc (by rw [SZ]; exact Nat.le_refl _) _).block N (Nat.lt_succ_self N)).trans (by subst hN; exact heap_alloc_new _ _)
  have H1 : Hid (Lk w0 (N + 1) zK) := by rw [← hw0, ← SZ]; exact heap_alloc_new _ _
  have HZ : Hid (w0.heap.size = N + 2) := by rw [← hw0]; unfold Hid; simp; omega
  have HB : Hid (∀ W, Below N w W → Bts N W o cap M) := fun W b => (B.kept (b.mono (by omega))).mono (by omega)
  have SG : Hid (∀ (o' : Option Addr) (cap' : Nat) (M' : List Nat) W, Bts N W o' cap' M' → Calls Tryd.prog 60 #[.slice o' M'.length cap', .int .i64 24] W fun e w' => e = rstrV (gstr M' 24) ∧ ∃ m, w' = W.drewN m) := fun _ _ _ W b => rgetStr_any b
  have SS : Hid (∀ (o' : Option Addr) (cap' : Nat) (M' : List Nat) W, Bts N W o' cap' M' → Calls Tryd.prog 61 #[.slice o' M'.length cap'] W fun e w' => e = gsV (gs 0 M') ∧ ∃ m, w' = W.drewN m) := fun _ _ _ W b => rgetShort_any b
  have HW0 := Lib.hid hw0
  have HN := Lib.hid hN
  clear B SZ hw0 hN
  go_enter Tryd.func36, Tryd.ntmps36
  go_upto_region 2 with fail
  rw [HW0.out, ← HN.out]
  clear HW0
  cases hg : gstr M 24 with
  | error z =>
    have HK1 : Hid (kindOf M = 9) := by unfold Hid kindOf; rw [hg]
    exfalso
    have h9 := HKD.out
    rw [HK1.out] at h9
    omega
  | ok q =>
    obtain ⟨t, a⟩ := q
    have ha := gstr_pos hg
    have hal := gstr_len hg
    have hts := gstr_size hg
    obtain ⟨b, off, ho, _, _⟩ := (HB.out _ HW.out).at (j := 0) (by omega)
    subst ho
    have HR1 : Hid (getR M = match gstr (M.drop a) 24 with | .error z => (zK, 0, z) | .ok (n, k) => if M.length ≤ a + k then (zK, 0, 2) else refC M t n (M.getD (a + k) 0) (a + k)) := by unfold Hid getR; rw [hg]; rfl
    have HK1 : Hid (kindOf M = match gstr (M.drop a) 24 with | .error _ => 9 | .ok (_, k) => if M.length ≤ a + k then 9 else M.getD (a + k) 0) := by unfold Hid kindOf; rw [hg]; rfl
    have HG := Lib.hid hg
    clear hg
    go_wp2_with fail
    refine (SG.out _ _ _ _ (HB.out _ HW.out)).mono ?_
    rintro e' w' ⟨rfl, m, rfl⟩
    rw [HG.out]
    unfold rstrV
    clear HG
    skip
    have BD : Hid (Below w0.heap.size w0 (w0.drewN m)) := below_drewN (Below.refl _ _) _
    have HWn := Lib.hid (HW.out.trans (BD.out.mono (Nat.le_of_lt H0.out.lt)))
    have H0n := Lib.hid (H0.out.kept BD.out H0.out.lt)
    have H1n := Lib.hid (H1.out.kept BD.out H1.out.lt)
    have HZn : Hid ((w0.drewN m).heap.size = N + 2) := HZ.out
    clear BD HW HZ H0 H1
    generalize w0.drewN m = w1 at *
    have HW := HWn
    have HZ := HZn
    have H0 := H0n
    have H1 := H1n
    clear HWn HZn H0n H1n
    go_upto_region 6 with fail
    have C2 : Hid (∀ oc, oc = cutO b off cap a → ∀ W, Below N w W → Calls Tryd.prog 60 #[.slice oc (M.length - a) (cap - a), .int .i64 24] W fun e w' => e = rstrV (gstr (M.drop a) 24) ∧ ∃ m, w' = W.drewN m) := fun oc ho W bw => by subst ho; unfold cutO; rw [← (List.length_drop : (M.drop a).length = M.length - a)]; exact SG.out _ _ _ _ ((HB.out W bw).cut hal)
    have hj0 : (0 : Int) ≤ a := by omega
    have hj1 : (a : Int) ≤ M.length := by omega
    cases hg : gstr (M.drop a) 24 with
    | error z =>
      rw [hg] at HK1
      dsimp only at HK1
      exfalso
      have h9 := HKD.out
      rw [HK1.out] at h9
      omega
    | ok q =>
      obtain ⟨n, k⟩ := q
      have hk := gstr_len hg
      have hns := gstr_size hg
      rw [List.length_drop] at hk
      rw [hg] at HK1
      dsimp only at HK1
      rw [hg] at C2 HR1
      unfold rstrV at C2
      dsimp only at C2 HR1
      clear hg
      obtain ⟨p, hp⟩ : ∃ p, a + k = p := ⟨_, rfl⟩
      rw [hp] at HR1 HK1
      have hpi : (a : Int) + (k : Int) = p := by omega
      have hpl : p ≤ M.length := by omega
      clear hp
      go_wp2_with (refine wpList_cut rfl (.tmp 33) (.tmp 34) rfl b off M.length cap a rfl rfl hal l1 ?_)
      intro oc HO
      go_wp2_with fail
      refine (C2.out _ HO.out _ HW.out).mono ?_
      rintro e' w' ⟨rfl, m, rfl⟩
      clear C2 HO
      skip
      have BD : Hid (Below w1.heap.size w1 (w1.drewN m)) := below_drewN (Below.refl _ _) _
      have HWn := Lib.hid (HW.out.trans (BD.out.mono (Nat.le_of_lt H0.out.lt)))
      have H0n := Lib.hid (H0.out.kept BD.out H0.out.lt)
      have H1n := Lib.hid (H1.out.kept BD.out H1.out.lt)
      have HZn : Hid ((w1.drewN m).heap.size = N + 2) := HZ.out
      clear BD HW HZ H0 H1
      generalize w1.drewN m = w2 at *
      have HW := HWn
      have HZ := HZn
      have H0 := H0n
      have H1 := H1n
      clear HWn HZn H0n H1n
      go_upto_region 10 with fail
      clear hpi hj0 hj1 hal ha hk
      by_cases hl : M.length ≤ p
      · rw [if_pos hl] at HK1
        exfalso
        have h9 := HKD.out
        rw [HK1.out] at h9
        omega
      · rw [if_neg hl] at HR1 HK1
        have hl2 : ¬ (M.length : Int) ≤ p := by omega
        have hl3 : (p : Int) < M.length := by omega
        obtain ⟨b', off', ho, _, c0⟩ := (HB.out _ HW.out).at (j := p) (by omega)
        injection ho with ho
        injection ho with ho1 ho2
        subst ho1 ho2
        obtain ⟨c, hc⟩ : ∃ c, M.getD p 0 = c := ⟨_, rfl⟩
        rw [hc] at c0 HR1 HK1
        have hc256 : c < 256 := by rw [← hc]; exact (HB.out _ HW.out).lt p
        clear hc
        go_upto_region 13 with fail
        have SZ := HZ.out
        have KZ : Below (N + 2) w2 (w2.alloc (.cells #[.string t, .string n, .int .i64 (c : Nat), .int .i64 0, .string ⟨#[]⟩, .int .u32 0] 26)) := (Below.refl _ w2).alloc (by omega) _
        have H2 : Hid (Lk (w2.alloc (.cells #[.string t, .string n, .int .i64 (c : Nat), .int .i64 0, .string ⟨#[]⟩, .int .u32 0] 26)) (N + 2) ⟨⟨t, n, (c : Nat), 0, ⟨#[]⟩⟩, 0⟩) := by rw [← SZ]; exact heap_alloc_new _ _
        have H0n := Lib.hid (H0.out.kept KZ (by omega))
        have H1n := Lib.hid (H1.out.kept KZ (by omega))
        have HWn := Lib.hid (HW.out.trans (KZ.mono (by omega)))
        have HZn : Hid ((w2.alloc (.cells #[.string t, .string n, .int .i64 (c : Nat), .int .i64 0, .string ⟨#[]⟩, .int .u32 0] 26)).heap.size = N + 3) := by unfold Hid; simp; omega
        rw [SZ]
        clear KZ SZ H0 H1 HW HZ c0
        generalize w2.alloc _ = w3 at *
        have H0 := H0n
        have H1 := H1n
        have HW := HWn
        have HZ := HZn
        clear H0n H1n HWn HZn
        unfold refC at HR1
        by_cases c2 : 2 < c
        · skip
          exfalso
          have h9 := HKD.out
          rw [HK1.out] at h9
          omega
        · rw [if_neg c2] at HR1
          have c2i : ¬ (2 : Int) < c := by omega
          obtain ⟨q, hq⟩ : ∃ q, p + 1 = q := ⟨_, rfl⟩
          rw [hq] at HR1
          have hqi : (p : Int) + 1 = q := by omega
          have hql : q ≤ M.length := by omega
          clear hq
          obtain ⟨z0, z1, z2, z3, z4, z5, h0, h1, h2, h3, h4, h5, ld⟩ := H2.out.rc
          dsimp only at z0 z1 z2 z3 z4 z5
          go_upto_region 17 with fail
          clear hqi c2i hl2 hl3 hl
          by_cases k1 : c = 1
          · skip
            exfalso
            have h9 := HKD.out
            rw [HK1.out] at h9
            omega
          · rw [if_neg k1] at HR1
            have k1i : ((c : Int) == 1) = false := by rw [beq_eq_false_iff_ne]; omega
            by_cases k2 : c = 2
            · subst k2
              rw [if_pos rfl] at HR1
              have C4 : Hid (∀ oc, oc = cutO b off cap q → ∀ W, Below N w W → Calls Tryd.prog 60 #[.slice oc (M.length - q) (cap - q), .int .i64 24] W fun e w' => e = rstrV (gstr (M.drop q) 24) ∧ ∃ m, w' = W.drewN m) := fun oc ho W bw => by subst ho; unfold cutO; rw [← (List.length_drop : (M.drop q).length = M.length - q)]; exact SG.out _ _ _ _ ((HB.out W bw).cut hql)
              have hj0 : (0 : Int) ≤ q := by omega
              have hj1 : (q : Int) ≤ M.length := by omega
              cases hg : gstr (M.drop q) 24 with
              | error z =>
                have hz := gstr_err hg
                have hz2 : ((z : Int) != 0) = true := by rw [bne_iff_ne]; omega
                rw [hg] at C4 HR1
                unfold rstrV at C4
                dsimp only at C4 HR1
                clear hg hz
                go_wp2_with (refine wpList_cut rfl (.tmp 93) (.tmp 94) rfl b off M.length cap q rfl rfl hql l1 ?_)
                intro oc HO
                go_wp2_with fail
                refine (C4.out _ HO.out _ HW.out).mono ?_
                rintro e' w' ⟨rfl, m, rfl⟩
                clear C4 HO
                skip
                have BD : Hid (Below w3.heap.size w3 (w3.drewN m)) := below_drewN (Below.refl _ _) _
                have HWn := Lib.hid (HW.out.trans (BD.out.mono (Nat.le_of_lt H0.out.lt)))
                have H0n := Lib.hid (H0.out.kept BD.out H0.out.lt)
                have H1n := Lib.hid (H1.out.kept BD.out H1.out.lt)
                have H2n := Lib.hid (H2.out.kept BD.out H2.out.lt)
                have HZn : Hid ((w3.drewN m).heap.size = N + 3) := HZ.out
                clear BD HW HZ H0 H1 H2
                generalize w3.drewN m = w4 at *
                have HW := HWn
                have HZ := HZn
                have H0 := H0n
                have H1 := H1n
                have H2 := H2n
                clear HWn HZn H0n H1n H2n
                obtain ⟨x0, x1, x2, x3, x4, x5, f0, f1, f2, f3, f4, f5, lb⟩ := H0.out.rc
                obtain ⟨y0, y1, y2, y3, y4, y5, -⟩ := H1.out.rc
                dsimp only at x0 x1 x2 x3 x4 x5 y0 y1 y2 y3 y4 y5
                go_wp2_with fail
                have HE : Hid (Exc (some N) w4 ((((((w4.setCell ⟨N, 0, none⟩ (.string ⟨#[]⟩)).setCell ⟨N, 1, none⟩ (.string ⟨#[]⟩)).setCell ⟨N, 2, none⟩ (.int .i64 0)).setCell ⟨N, 3, none⟩ (.int .i64 0)).setCell ⟨N, 4, none⟩ (.string ⟨#[]⟩)).setCell ⟨N, 5, none⟩ (.int .u32 0))) := (((((exc_set.trans exc_set).trans exc_set).trans exc_set).trans exc_set).trans exc_set)
                have HL : Hid (Lk ((((((w4.setCell ⟨N, 0, none⟩ (.string ⟨#[]⟩)).setCell ⟨N, 1, none⟩ (.string ⟨#[]⟩)).setCell ⟨N, 2, none⟩ (.int .i64 0)).setCell ⟨N, 3, none⟩ (.int .i64 0)).setCell ⟨N, 4, none⟩ (.string ⟨#[]⟩)).setCell ⟨N, 5, none⟩ (.int .u32 0)) N ⟨⟨⟨#[]⟩, ⟨#[]⟩, 0, 0, ⟨#[]⟩⟩, 0⟩) := (((((H0.out.s0 ⟨#[]⟩).s1 ⟨#[]⟩).s2 0).s3 0).s4 ⟨#[]⟩).s5 0
                generalize ((((((w4.setCell ⟨N, 0, none⟩ (.string ⟨#[]⟩)).setCell ⟨N, 1, none⟩ (.string ⟨#[]⟩)).setCell ⟨N, 2, none⟩ (.int .i64 0)).setCell ⟨N, 3, none⟩ (.int .i64 0)).setCell ⟨N, 4, none⟩ (.string ⟨#[]⟩)).setCell ⟨N, 5, none⟩ (.int .u32 0)) = u1 at *
                clear x0 x1 x2 x3 x4 x5 f0 f1 f2 f3 f4 f5 lb y0 y1 y2 y3 y4 y5
                obtain ⟨p0, p1, p2, p3, p4, p5, -⟩ := HL.out.rc
                dsimp only at p0 p1 p2 p3 p4 p5
                refine bodyPost_ret (v := .tuple #[kv ⟨⟨⟨#[]⟩, ⟨#[]⟩, 0, 0, ⟨#[]⟩⟩, 0⟩, .int .i64 0, .int .i64 (z : Nat)]) (by simp [results, Tryd.results36, go_sem, p0, p1, p2, p3, p4, p5]) rfl ?_
                have HB9 := HW.out.trans (HE.out.below (Nat.le_of_lt H0.out.lt) (fun k h => by injection h with h; omega))
                rw [HN.out] at HB9
                rw [HR1.out]
                exact ⟨rfl, HB9⟩
              | ok q' =>
                obtain ⟨s, k⟩ := q'
                have hk := gstr_len hg
                have hss := gstr_size hg
                rw [List.length_drop] at hk
                rw [hg] at C4 HR1
                unfold rstrV at C4
                dsimp only at C4 HR1
                clear hg
                obtain ⟨r, hr⟩ : ∃ r, q + k = r := ⟨_, rfl⟩
                rw [hr] at HR1
                have hri : (q : Int) + (k : Int) = r := by omega
                have hrl : r ≤ M.length := by omega
                clear hr
                go_wp2_with (refine wpList_cut rfl (.tmp 93) (.tmp 94) rfl b off M.length cap q rfl rfl hql l1 ?_)
                intro oc HO
                go_wp2_with fail
                refine (C4.out _ HO.out _ HW.out).mono ?_
                rintro e' w' ⟨rfl, m, rfl⟩
                clear C4 HO
                skip
                have BD : Hid (Below w3.heap.size w3 (w3.drewN m)) := below_drewN (Below.refl _ _) _
                have HWn := Lib.hid (HW.out.trans (BD.out.mono (Nat.le_of_lt H0.out.lt)))
                have H0n := Lib.hid (H0.out.kept BD.out H0.out.lt)
                have H1n := Lib.hid (H1.out.kept BD.out H1.out.lt)
                have H2n := Lib.hid (H2.out.kept BD.out H2.out.lt)
                have HZn : Hid ((w3.drewN m).heap.size = N + 3) := HZ.out
                clear BD HW HZ H0 H1 H2
                generalize w3.drewN m = w4 at *
                have HW := HWn
                have HZ := HZn
                have H0 := H0n
                have H1 := H1n
                have H2 := H2n
                clear HWn HZn H0n H1n H2n
                clear z0 z1 z2 z3 z4 z5 h0 h1 h2 h3 h4 h5 ld
                obtain ⟨z0, z1, z2, z3, z4, z5, h0, h1, h2, h3, h4, h5, ld⟩ := H2.out.rc
                dsimp only at z0 z1 z2 z3 z4 z5
                go_upto_region 28 with fail
                have HE : Hid (Exc (some (N + 2)) w4 (w4.setCell ⟨N + 2, 4, none⟩ (.string s))) := exc_set
                have H0n := Lib.hid (H0.out.exc HE.out (by omega))
                have H1n := Lib.hid (H1.out.exc HE.out (by omega))
                have H2n := Lib.hid (H2.out.s4 s)
                have HWn := Lib.hid (HW.out.trans (HE.out.below (Nat.le_of_lt H0.out.lt) (fun k h => by injection h with h; omega)))
                have HZn : Hid ((w4.setCell ⟨N + 2, 4, none⟩ (.string s)).heap.size = N + 3) := by have := HZ.out; unfold Hid; simpa using this
                dsimp only at H2n
                clear HE HW HZ H0 H1 H2 z0 z1 z2 z3 z4 z5 h0 h1 h2 h3 h4 h5 ld
                generalize w4.setCell ⟨N + 2, 4, none⟩ (.string s) = w5 at *
                have HW := HWn
                have HZ := HZn
                have H0 := H0n
                have H1 := H1n
                have H2 := H2n
                clear HWn HZn H0n H1n H2n
                go_upto_region 29 with fail
                clear hri hj0 hj1 hk hql
                have C6 : Hid (∀ oc, oc = cutO b off cap r → ∀ W, Below N w W → Calls Tryd.prog 61 #[.slice oc (M.length - r) (cap - r)] W fun e w' => e = gsV (gs 0 (M.drop r)) ∧ ∃ m, w' = W.drewN m) := fun oc ho W bw => by subst ho; unfold cutO; rw [← (List.length_drop : (M.drop r).length = M.length - r)]; exact SS.out _ _ _ _ ((HB.out W bw).cut hrl)
                have hj0 : (0 : Int) ≤ r := by omega
                have hj1 : (r : Int) ≤ M.length := by omega
                have HRt : Hid (getR M = refT M ⟨t, n, 2, 0, s⟩ 0 r) := HR1
                unfold refT at HRt
                cases hg : gs 0 (M.drop r) with
                | error z =>
                  have hz := gs_err _ _ _ hg
                  have hz2 : ((z : Int) != 0) = true := by rw [bne_iff_ne]; omega
                  rw [hg] at C6 HRt
                  unfold gsV at C6
                  dsimp only at C6 HRt
                  clear hg hz
                  go_wp2_with (refine wpList_cut rfl (.tmp 111) (.tmp 112) rfl b off M.length cap r rfl rfl hrl l1 ?_)
                  intro oc HO
                  go_wp2_with fail
                  refine (C6.out _ HO.out _ HW.out).mono ?_
                  rintro e' w' ⟨rfl, m, rfl⟩
                  clear C6 HO
                  skip
                  have BD : Hid (Below w5.heap.size w5 (w5.drewN m)) := below_drewN (Below.refl _ _) _
                  have HWn := Lib.hid (HW.out.trans (BD.out.mono (Nat.le_of_lt H0.out.lt)))
                  have H0n := Lib.hid (H0.out.kept BD.out H0.out.lt)
                  have H1n := Lib.hid (H1.out.kept BD.out H1.out.lt)
                  have H2n := Lib.hid (H2.out.kept BD.out H2.out.lt)
                  have HZn : Hid ((w5.drewN m).heap.size = N + 3) := HZ.out
                  clear BD HW HZ H0 H1 H2
                  generalize w5.drewN m = w8 at *
                  have HW := HWn
                  have HZ := HZn
                  have H0 := H0n
                  have H1 := H1n
                  have H2 := H2n
                  clear HWn HZn H0n H1n H2n
                  obtain ⟨x0, x1, x2, x3, x4, x5, f0, f1, f2, f3, f4, f5, lb⟩ := H0.out.rc
                  obtain ⟨y0, y1, y2, y3, y4, y5, -⟩ := H1.out.rc
                  dsimp only at x0 x1 x2 x3 x4 x5 y0 y1 y2 y3 y4 y5
                  go_wp2_with fail
                  have HE : Hid (Exc (some N) w8 ((((((w8.setCell ⟨N, 0, none⟩ (.string ⟨#[]⟩)).setCell ⟨N, 1, none⟩ (.string ⟨#[]⟩)).setCell ⟨N, 2, none⟩ (.int .i64 0)).setCell ⟨N, 3, none⟩ (.int .i64 0)).setCell ⟨N, 4, none⟩ (.string ⟨#[]⟩)).setCell ⟨N, 5, none⟩ (.int .u32 0))) := (((((exc_set.trans exc_set).trans exc_set).trans exc_set).trans exc_set).trans exc_set)
                  have HL : Hid (Lk ((((((w8.setCell ⟨N, 0, none⟩ (.string ⟨#[]⟩)).setCell ⟨N, 1, none⟩ (.string ⟨#[]⟩)).setCell ⟨N, 2, none⟩ (.int .i64 0)).setCell ⟨N, 3, none⟩ (.int .i64 0)).setCell ⟨N, 4, none⟩ (.string ⟨#[]⟩)).setCell ⟨N, 5, none⟩ (.int .u32 0)) N ⟨⟨⟨#[]⟩, ⟨#[]⟩, 0, 0, ⟨#[]⟩⟩, 0⟩) := (((((H0.out.s0 ⟨#[]⟩).s1 ⟨#[]⟩).s2 0).s3 0).s4 ⟨#[]⟩).s5 0
                  generalize ((((((w8.setCell ⟨N, 0, none⟩ (.string ⟨#[]⟩)).setCell ⟨N, 1, none⟩ (.string ⟨#[]⟩)).setCell ⟨N, 2, none⟩ (.int .i64 0)).setCell ⟨N, 3, none⟩ (.int .i64 0)).setCell ⟨N, 4, none⟩ (.string ⟨#[]⟩)).setCell ⟨N, 5, none⟩ (.int .u32 0)) = u1 at *
                  clear x0 x1 x2 x3 x4 x5 f0 f1 f2 f3 f4 f5 lb y0 y1 y2 y3 y4 y5
                  obtain ⟨p0, p1, p2, p3, p4, p5, -⟩ := HL.out.rc
                  dsimp only at p0 p1 p2 p3 p4 p5
                  refine bodyPost_ret (v := .tuple #[kv ⟨⟨⟨#[]⟩, ⟨#[]⟩, 0, 0, ⟨#[]⟩⟩, 0⟩, .int .i64 0, .int .i64 (z : Nat)]) (by simp [results, Tryd.results36, go_sem, p0, p1, p2, p3, p4, p5]) rfl ?_
                  have HB9 := HW.out.trans (HE.out.below (Nat.le_of_lt H0.out.lt) (fun k h => by injection h with h; omega))
                  rw [HN.out] at HB9
                  rw [HRt.out]
                  exact ⟨rfl, HB9⟩
                | ok q =>
                  obtain ⟨x, j⟩ := q
                  have hjl := (gs_ok hg).1
                  rw [List.length_drop] at hjl
                  rw [hg] at C6 HRt
                  unfold gsV at C6
                  dsimp only at C6 HRt
                  clear hg
                  obtain ⟨v, hv⟩ : ∃ v, r + j = v := ⟨_, rfl⟩
                  rw [hv] at HRt
                  have hvi : (r : Int) + (j : Int) = v := by omega
                  have HV := Lib.hid hvi
                  have hvl : v ≤ M.length := by omega
                  clear hv hvi hjl
                  go_wp2_with (refine wpList_cut rfl (.tmp 111) (.tmp 112) rfl b off M.length cap r rfl rfl hrl l1 ?_)
                  intro oc HO
                  go_wp2_with fail
                  refine (C6.out _ HO.out _ HW.out).mono ?_
                  rintro e' w' ⟨rfl, m, rfl⟩
                  clear C6 HO
                  skip
                  have BD : Hid (Below w5.heap.size w5 (w5.drewN m)) := below_drewN (Below.refl _ _) _
                  have HWn := Lib.hid (HW.out.trans (BD.out.mono (Nat.le_of_lt H0.out.lt)))
                  have H0n := Lib.hid (H0.out.kept BD.out H0.out.lt)
                  have H1n := Lib.hid (H1.out.kept BD.out H1.out.lt)
                  have H2n := Lib.hid (H2.out.kept BD.out H2.out.lt)
                  have HZn : Hid ((w5.drewN m).heap.size = N + 3) := HZ.out
                  clear BD HW HZ H0 H1 H2
                  generalize w5.drewN m = w8 at *
                  have HW := HWn
                  have HZ := HZn
                  have H0 := H0n
                  have H1 := H1n
                  have H2 := H2n
                  clear HWn HZn H0n H1n H2n
                  clear hj0 hj1
                  go_upto_region 32 with fail
                  by_cases hb3 : 4294967295 < x
                  · have hb4 : (4294967295 : Int) < x := by omega
                    rw [if_pos (Or.inr hb3)] at HRt
                    obtain ⟨x0, x1, x2, x3, x4, x5, f0, f1, f2, f3, f4, f5, lb⟩ := H0.out.rc
                    obtain ⟨y0, y1, y2, y3, y4, y5, -⟩ := H1.out.rc
                    dsimp only at x0 x1 x2 x3 x4 x5 y0 y1 y2 y3 y4 y5
                    go_wp2_with fail
                    have HE : Hid (Exc (some N) w8 ((((((w8.setCell ⟨N, 0, none⟩ (.string ⟨#[]⟩)).setCell ⟨N, 1, none⟩ (.string ⟨#[]⟩)).setCell ⟨N, 2, none⟩ (.int .i64 0)).setCell ⟨N, 3, none⟩ (.int .i64 0)).setCell ⟨N, 4, none⟩ (.string ⟨#[]⟩)).setCell ⟨N, 5, none⟩ (.int .u32 0))) := (((((exc_set.trans exc_set).trans exc_set).trans exc_set).trans exc_set).trans exc_set)
                    have HL : Hid (Lk ((((((w8.setCell ⟨N, 0, none⟩ (.string ⟨#[]⟩)).setCell ⟨N, 1, none⟩ (.string ⟨#[]⟩)).setCell ⟨N, 2, none⟩ (.int .i64 0)).setCell ⟨N, 3, none⟩ (.int .i64 0)).setCell ⟨N, 4, none⟩ (.string ⟨#[]⟩)).setCell ⟨N, 5, none⟩ (.int .u32 0)) N ⟨⟨⟨#[]⟩, ⟨#[]⟩, 0, 0, ⟨#[]⟩⟩, 0⟩) := (((((H0.out.s0 ⟨#[]⟩).s1 ⟨#[]⟩).s2 0).s3 0).s4 ⟨#[]⟩).s5 0
                    generalize ((((((w8.setCell ⟨N, 0, none⟩ (.string ⟨#[]⟩)).setCell ⟨N, 1, none⟩ (.string ⟨#[]⟩)).setCell ⟨N, 2, none⟩ (.int .i64 0)).setCell ⟨N, 3, none⟩ (.int .i64 0)).setCell ⟨N, 4, none⟩ (.string ⟨#[]⟩)).setCell ⟨N, 5, none⟩ (.int .u32 0)) = u1 at *
                    clear x0 x1 x2 x3 x4 x5 f0 f1 f2 f3 f4 f5 lb y0 y1 y2 y3 y4 y5
                    obtain ⟨p0, p1, p2, p3, p4, p5, -⟩ := HL.out.rc
                    dsimp only at p0 p1 p2 p3 p4 p5
                    refine bodyPost_ret (v := .tuple #[kv ⟨⟨⟨#[]⟩, ⟨#[]⟩, 0, 0, ⟨#[]⟩⟩, 0⟩, .int .i64 0, .int .i64 4]) (by simp [results, Tryd.results36, go_sem, p0, p1, p2, p3, p4, p5]) rfl ?_
                    have HB9 := HW.out.trans (HE.out.below (Nat.le_of_lt H0.out.lt) (fun k h => by injection h with h; omega))
                    rw [HN.out] at HB9
                    rw [HRt.out]
                    exact ⟨rfl, HB9⟩
                  · rw [if_neg (by omega)] at HRt
                    have hx32 : (x : Int) % 4294967296 = x := by omega
                    have hx5 : ¬ (4294967295 : Int) < x := by omega
                    have hsm : Sm ⟨t, n, 2, 0, s⟩ := ⟨by dsimp only; omega, by dsimp only; omega, by dsimp only; omega⟩
                    have CK := Lib.hid (fun W => rcheckK_any ⟨⟨t, n, 2, 0, s⟩, (x : Nat)⟩ W hsm)
                    clear hsm
                    obtain ⟨z0, z1, z2, z3, z4, z5, h0, h1, h2, h3, h4, h5, ld⟩ := H2.out.rc
                    dsimp only at z0 z1 z2 z3 z4 z5
                    go_upto_region 35 with fail
                    have HE : Hid (Exc (some (N + 2)) w8 (w8.setCell ⟨N + 2, 3, none⟩ (.int .i64 0))) := exc_set
                    have H0n := Lib.hid (H0.out.exc HE.out (by omega))
                    have H1n := Lib.hid (H1.out.exc HE.out (by omega))
                    have H2n := Lib.hid (H2.out.s3 0)
                    have HWn := Lib.hid (HW.out.trans (HE.out.below (Nat.le_of_lt H0.out.lt) (fun k h => by injection h with h; omega)))
                    have HZn : Hid ((w8.setCell ⟨N + 2, 3, none⟩ (.int .i64 0)).heap.size = N + 3) := by have := HZ.out; unfold Hid; simpa using this
                    dsimp only at H2n
                    clear HE HW HZ H0 H1 H2 z0 z1 z2 z3 z4 z5 h0 h1 h2 h3 h4 h5 ld
                    generalize w8.setCell ⟨N + 2, 3, none⟩ (.int .i64 0) = w9 at *
                    have HW := HWn
                    have HZ := HZn
                    have H0 := H0n
                    have H1 := H1n
                    have H2 := H2n
                    clear HWn HZn H0n H1n H2n
                    obtain ⟨z0, z1, z2, z3, z4, z5, h0, h1, h2, h3, h4, h5, ld⟩ := H2.out.rc
                    dsimp only at z0 z1 z2 z3 z4 z5
                    go_upto_region 36 with fail
                    have HE : Hid (Exc (some (N + 2)) w9 (w9.setCell ⟨N + 2, 5, none⟩ (.int .u32 (x : Nat)))) := exc_set
                    have H0n := Lib.hid (H0.out.exc HE.out (by omega))
                    have H1n := Lib.hid (H1.out.exc HE.out (by omega))
                    have H2n := Lib.hid (H2.out.s5 (x : Nat))
                    have HWn := Lib.hid (HW.out.trans (HE.out.below (Nat.le_of_lt H0.out.lt) (fun k h => by injection h with h; omega)))
                    have HZn : Hid ((w9.setCell ⟨N + 2, 5, none⟩ (.int .u32 (x : Nat))).heap.size = N + 3) := by have := HZ.out; unfold Hid; simpa using this
                    dsimp only at H2n
                    clear HE HW HZ H0 H1 H2 z0 z1 z2 z3 z4 z5 h0 h1 h2 h3 h4 h5 ld
                    generalize w9.setCell ⟨N + 2, 5, none⟩ (.int .u32 (x : Nat)) = w10 at *
                    have HW := HWn
                    have HZ := HZn
                    have H0 := H0n
                    have H1 := H1n
                    have H2 := H2n
                    clear HWn HZn H0n H1n H2n
                    obtain ⟨z0, z1, z2, z3, z4, z5, h0, h1, h2, h3, h4, h5, ld⟩ := H2.out.rc
                    dsimp only at z0 z1 z2 z3 z4 z5
                    go_wp2_with fail
                    refine (CK.out _).mono ?_
                    rintro e' w11 ⟨rfl, bq⟩
                    have HWn := Lib.hid (HW.out.trans (bq.mono (Nat.le_of_lt H0.out.lt)))
                    have H0n := Lib.hid (H0.out.kept bq H0.out.lt)
                    have H1n := Lib.hid (H1.out.kept bq H1.out.lt)
                    have H2n := Lib.hid (H2.out.kept bq H2.out.lt)
                    clear HW H0 H1 H2 bq CK z0 z1 z2 z3 z4 z5 h0 h1 h2 h3 h4 h5 ld
                    have HW := HWn
                    have H0 := H0n
                    have H1 := H1n
                    have H2 := H2n
                    clear HWn H0n H1n H2n
                    cases hc : checkKB ⟨⟨t, n, 2, 0, s⟩, (x : Nat)⟩ with
                    | false =>
                      rw [hc, if_neg (by simp)] at HRt
                      clear hc
                      obtain ⟨x0, x1, x2, x3, x4, x5, f0, f1, f2, f3, f4, f5, lb⟩ := H0.out.rc
                      obtain ⟨y0, y1, y2, y3, y4, y5, -⟩ := H1.out.rc
                      dsimp only at x0 x1 x2 x3 x4 x5 y0 y1 y2 y3 y4 y5
                      go_wp2_with fail
                      have HE : Hid (Exc (some N) w11 ((((((w11.setCell ⟨N, 0, none⟩ (.string ⟨#[]⟩)).setCell ⟨N, 1, none⟩ (.string ⟨#[]⟩)).setCell ⟨N, 2, none⟩ (.int .i64 0)).setCell ⟨N, 3, none⟩ (.int .i64 0)).setCell ⟨N, 4, none⟩ (.string ⟨#[]⟩)).setCell ⟨N, 5, none⟩ (.int .u32 0))) := (((((exc_set.trans exc_set).trans exc_set).trans exc_set).trans exc_set).trans exc_set)
                      have HL : Hid (Lk ((((((w11.setCell ⟨N, 0, none⟩ (.string ⟨#[]⟩)).setCell ⟨N, 1, none⟩ (.string ⟨#[]⟩)).setCell ⟨N, 2, none⟩ (.int .i64 0)).setCell ⟨N, 3, none⟩ (.int .i64 0)).setCell ⟨N, 4, none⟩ (.string ⟨#[]⟩)).setCell ⟨N, 5, none⟩ (.int .u32 0)) N ⟨⟨⟨#[]⟩, ⟨#[]⟩, 0, 0, ⟨#[]⟩⟩, 0⟩) := (((((H0.out.s0 ⟨#[]⟩).s1 ⟨#[]⟩).s2 0).s3 0).s4 ⟨#[]⟩).s5 0
                      generalize ((((((w11.setCell ⟨N, 0, none⟩ (.string ⟨#[]⟩)).setCell ⟨N, 1, none⟩ (.string ⟨#[]⟩)).setCell ⟨N, 2, none⟩ (.int .i64 0)).setCell ⟨N, 3, none⟩ (.int .i64 0)).setCell ⟨N, 4, none⟩ (.string ⟨#[]⟩)).setCell ⟨N, 5, none⟩ (.int .u32 0)) = u1 at *
                      clear x0 x1 x2 x3 x4 x5 f0 f1 f2 f3 f4 f5 lb y0 y1 y2 y3 y4 y5
                      obtain ⟨p0, p1, p2, p3, p4, p5, -⟩ := HL.out.rc
                      dsimp only at p0 p1 p2 p3 p4 p5
                      refine bodyPost_ret (v := .tuple #[kv ⟨⟨⟨#[]⟩, ⟨#[]⟩, 0, 0, ⟨#[]⟩⟩, 0⟩, .int .i64 0, .int .i64 4]) (by simp [results, Tryd.results36, go_sem, p0, p1, p2, p3, p4, p5]) rfl ?_
                      have HB9 := HW.out.trans (HE.out.below (Nat.le_of_lt H0.out.lt) (fun k h => by injection h with h; omega))
                      rw [HN.out] at HB9
                      rw [HRt.out]
                      exact ⟨rfl, HB9⟩
                    | true =>
                      rw [hc, if_pos rfl] at HRt
                      clear hc
                      have hvi := HV.out
                      have hvw : wrap64 (v : Int) = v := by unfold wrap64; omega
                      obtain ⟨x0, x1, x2, x3, x4, x5, f0, f1, f2, f3, f4, f5, lb⟩ := H0.out.rc
                      obtain ⟨y0, y1, y2, y3, y4, y5, -⟩ := H2.out.rc
                      dsimp only at x0 x1 x2 x3 x4 x5 y0 y1 y2 y3 y4 y5
                      go_wp2_with fail
                      have HE : Hid (Exc (some N) w11 ((((((w11.setCell ⟨N, 0, none⟩ (.string t)).setCell ⟨N, 1, none⟩ (.string n)).setCell ⟨N, 2, none⟩ (.int .i64 2)).setCell ⟨N, 3, none⟩ (.int .i64 0)).setCell ⟨N, 4, none⟩ (.string s)).setCell ⟨N, 5, none⟩ (.int .u32 (x : Nat)))) := (((((exc_set.trans exc_set).trans exc_set).trans exc_set).trans exc_set).trans exc_set)
                      have HL : Hid (Lk ((((((w11.setCell ⟨N, 0, none⟩ (.string t)).setCell ⟨N, 1, none⟩ (.string n)).setCell ⟨N, 2, none⟩ (.int .i64 2)).setCell ⟨N, 3, none⟩ (.int .i64 0)).setCell ⟨N, 4, none⟩ (.string s)).setCell ⟨N, 5, none⟩ (.int .u32 (x : Nat))) N ⟨⟨t, n, 2, 0, s⟩, (x : Nat)⟩) := (((((H0.out.s0 t).s1 n).s2 2).s3 0).s4 s).s5 (x : Nat)
                      generalize ((((((w11.setCell ⟨N, 0, none⟩ (.string t)).setCell ⟨N, 1, none⟩ (.string n)).setCell ⟨N, 2, none⟩ (.int .i64 2)).setCell ⟨N, 3, none⟩ (.int .i64 0)).setCell ⟨N, 4, none⟩ (.string s)).setCell ⟨N, 5, none⟩ (.int .u32 (x : Nat))) = u1 at *
                      clear x0 x1 x2 x3 x4 x5 f0 f1 f2 f3 f4 f5 lb y0 y1 y2 y3 y4 y5
                      obtain ⟨p0, p1, p2, p3, p4, p5, -⟩ := HL.out.rc
                      dsimp only at p0 p1 p2 p3 p4 p5
                      refine bodyPost_ret (v := .tuple #[kv ⟨⟨t, n, 2, 0, s⟩, (x : Nat)⟩, .int .i64 (v : Nat), .int .i64 0]) (by simp [results, Tryd.results36, go_sem, p0, p1, p2, p3, p4, p5, hvw]) rfl ?_
                      have HB9 := HW.out.trans (HE.out.below (Nat.le_of_lt H0.out.lt) (fun k h => by injection h with h; omega))
                      rw [HN.out] at HB9
                      rw [HRt.out]
                      exact ⟨rfl, HB9⟩
            · skip
              exfalso
              have h9 := HKD.out
              rw [HK1.out] at h9
              omega
end Go.Proofs.YtakoghdkllfhlaaDoor
