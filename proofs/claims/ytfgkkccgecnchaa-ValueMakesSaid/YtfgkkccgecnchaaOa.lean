/- orderOfElements. -/
import Derived.Test.YtfgkkccgecnchaaZ
import Derived.Test.YtfgkkccgecnchaaTe
namespace Go.Proofs.Ytfgkkccgecnchaa
open Go.RowKit

/-- the order of two rows of elements, from place j on -/
def ordEls (m : Bool) (ka kb : Nat → ByteArray) : Nat → List (Val → Int) → List Val → Int
  | _, [], [] => 0
  | _, [], _ :: _ => -1
  | _, _ :: _, [] => 1
  | j, f :: fs, Y :: ys => if m = true ∧ ka j ≠ kb j then cmpS (ka j) (kb j) else if f Y ≠ 0 then f Y else ordEls m ka kb (j + 1) fs ys
/-- the order of values -/
def ord (A B : Val) : Int :=
  if A.k ≠ B.k then cmpI A.k B.k else if A.k = 1 ∨ A.k = 2 then cmpI A.i B.i else if A.k = 3 then cmpS A.s B.s else
  if A.k = 4 ∨ A.k = 5 then ordEls (decide (A.k = 5)) (kk A.ks) (kk B.ks) 0 ((els A).attach.map fun x => fun Y => ord x.1 Y) (els B) else
  if A.k = 6 then cmpI (Typ.code (A.tk, A.to)) (Typ.code (B.tk, B.to)) else 0
termination_by SizeOf.sizeOf A
decreasing_by exact sizeOf_mem_l (els_mem x.2)
def ordE (A B : Val) : Int := ordEls (decide (A.k = 5)) (kk A.ks) (kk B.ks) 0 ((els A).map ord) (els B)
theorem ord_eq (A B : Val) : ord A B = if A.k ≠ B.k then cmpI A.k B.k else if A.k = 1 ∨ A.k = 2 then cmpI A.i B.i else if A.k = 3 then cmpS A.s B.s else
  if A.k = 4 ∨ A.k = 5 then ordE A B else if A.k = 6 then cmpI (Typ.code (A.tk, A.to)) (Typ.code (B.tk, B.to)) else 0 := by
  rw [ord]
  have : ((els A).attach.map fun x => fun Y => ord x.1 Y) = (els A).map ord := by
    rw [show (fun x : { x // x ∈ els A } => fun Y => ord x.1 Y) = fun x => ord x.1 from rfl]
    simp
  unfold ordE
  rw [this]
/-- what is still to come from place j on -/
def ordR (A B : Val) (j : Nat) : Int := ordEls (decide (A.k = 5)) (kk A.ks) (kk B.ks) j (((els A).map ord).drop j) ((els B).drop j)
theorem ordR_at {A B X Y : Val} {j : Nat} (hX : (els A)[j]? = some X) (hY : (els B)[j]? = some Y) : ordR A B j = if A.k = 5 ∧ kk A.ks j ≠ kk B.ks j then cmpS (kk A.ks j) (kk B.ks j) else if ord X Y ≠ 0 then ord X Y else ordR A B (j + 1) := by
  obtain ⟨h1, e1⟩ := List.getElem?_eq_some_iff.1 hX
  obtain ⟨h2, e2⟩ := List.getElem?_eq_some_iff.1 hY
  unfold ordR
  rw [List.drop_eq_getElem_cons (l := els B) h2, List.drop_eq_getElem_cons (l := (els A).map ord) (by simpa using h1), ordEls]
  simp only [List.getElem_map, e1, e2, decide_eq_true_eq]
theorem ordR_end {A B : Val} {j : Nat} (h : j = min (cnt A) (cnt B)) : ordR A B j = cmpI (cnt A) (cnt B) := by
  unfold ordR cmpI
  by_cases h1 : cnt A < cnt B
  · have e1 : ((els A).map ord).drop j = [] := by rw [List.drop_eq_nil_iff]; simp [els_len]; omega
    have h2 : j < (els B).length := by rw [els_len]; omega
    rw [e1, List.drop_eq_getElem_cons h2, ordEls, if_pos (by omega)]
  · by_cases h2 : cnt B < cnt A
    · have e1 : (els B).drop j = [] := by rw [List.drop_eq_nil_iff, els_len]; omega
      have h3 : j < ((els A).map ord).length := by rw [List.length_map, els_len]; omega
      rw [e1, List.drop_eq_getElem_cons h3, ordEls, if_neg (by omega), if_pos (by omega)]
    · have e1 : ((els A).map ord).drop j = [] := by rw [List.drop_eq_nil_iff]; simp [els_len]; omega
      have e2 : (els B).drop j = [] := by rw [List.drop_eq_nil_iff, els_len]; omega
      rw [e1, e2, ordEls, if_neg (by omega), if_neg (by omega)]
theorem cmp_81' (a b : ByteArray) (w : World) : Calls Try.prog 81 #[.string a, .string b] w fun e w' => e = .returned (.int .i64 (cmpS a b)) ∧ w' = w := (cmp_81 a b w).mono fun _ _ h => ⟨h.1, h.2.symm⟩
theorem els_some' {V : Val} {j : Nat} {X : Val} (hX : V.l[j]? = some X) (h : j < cnt V) : (els V)[j]? = some X := by
  unfold els; rw [List.getElem?_take_of_lt h]; exact hX
set_option maxRecDepth 100000 in
set_option maxHeartbeats 4000000 in
theorem ordEl_any (N : Nat) (hf : ∀ (n : Nat) (A B : Val) (a b : Value) (w : World), sz A + sz B ≤ N → Lies n w A a → Lies n w B b → n ≤ w.heap.size → Calls Try.prog 57 #[a, b] w fun e w' => e = .returned (.int .i64 (ord A B)) ∧ Below w.heap.size w w') :
    ∀ (n : Nat) (A B : Val) (a b : Value) (w : World), sz A + sz B ≤ N + 1 → A.k = B.k → Lies n w A a → Lies n w B b → n ≤ w.heap.size → Calls Try.prog 82 #[a, b] w fun e w' => e = .returned (.int .i64 (ordE A B)) ∧ Below w.heap.size w w' := by
  intro n A B a b w hs hk ha hb hn
  obtain ⟨oL, oK, cL, cK, c, rfl, O⟩ := ha.inv
  obtain ⟨oL', oK', cL', cK', c', rfl, O'⟩ := hb.inv
  obtain ⟨R, hR⟩ : ∃ R, R = ordE A B := ⟨_, rfl⟩
  rw [← hR]
  have HR : Hid (R = ordR A B 0) := hR
  have HF := Lib.hid hf
  have hcA := cnt_le A
  have hcB := cnt_le B
  have hlA := sz_l A
  have hlB := sz_l B
  have HB := Lib.hid ((Hd.made w A (.slice oL A.l.length cL) (.slice oK A.ks.length cK)).kept ((Below.refl (w.heap.size + 1) _).alloc (by simp) (bx B oL' oK' cL' cK')) (Nat.lt_succ_self _))
  have HB' : Hid (Hd ((w.alloc (bx A oL oK cL cK)).alloc (bx B oL' oK' cL' cK')) (w.heap.size + 1) B (.slice oL' B.l.length cL') (.slice oK' B.ks.length cK')) := by have := Hd.made (w.alloc (bx A oL oK cL cK)) B (.slice oL' B.l.length cL') (.slice oK' B.ks.length cK'); rw [World.size_alloc] at this; exact this
  have HW := Lib.hid (((Below.refl w.heap.size w).alloc (Nat.le_refl _) (bx A oL oK cL cK)).alloc (by simp) (bx B oL' oK' cL' cK'))
  have HZ : Hid (((w.alloc (bx A oL oK cL cK)).alloc (bx B oL' oK' cL' cK')).heap.size = w.heap.size + 2) := by simp [Hid]
  have H := Lib.hid (And.intro (O.kept (HW.out.mono hn)) (O'.kept (HW.out.mono hn)))
  have HK := Lib.hid hk
  clear ha hb O O' hR hf hk
  go_enter Try.func82, Try.ntmps82
  go_wp2_with fail
  generalize (w.alloc _).alloc _ = w0 at *
  with_reducible refine (held_any H.out.1 (by have := HZ.out; omega)).mono ?_
  rintro e w1 ⟨oL2, oK2, cL2, cK2, rfl, rL, rK, b1⟩
  have hz := HZ.out
  obtain ⟨x8, x0, x1, x2, x3, x4, x5, x6, x7⟩ := HB'.out.kept b1 (by omega)
  have B1 := Lib.hid b1
  have R1 := Lib.hid (And.intro rL rK)
  have sz1 := b1.size
  have RM := rL.2.1
  have RC := rL.1
  unfold maxLen at RM
  clear b1 rL rK
  go_wp2_with fail
  with_reducible refine (held_any (H.out.2.kept (B1.out.mono (by omega))) (by omega)).mono ?_
  rintro e w2 ⟨oL3, oK3, cL3, cK3, rfl, rL, rK, b2⟩
  have B2 := Lib.hid (B1.out.trans (b2.mono B1.out.size))
  have R2 := Lib.hid (And.intro (And.intro (R1.out.1.below (b2.mono (by omega))) (R1.out.2.below (b2.mono (by omega)))) (And.intro rL rK))
  have H2 := Lib.hid (And.intro (H.out.1.kept (B2.out.mono (by omega))) (H.out.2.kept (B2.out.mono (by omega))))
  have HA2 := Lib.hid (HB.out.kept B2.out (by omega))
  have sz2 := b2.size
  have RM2 := rL.2.1
  have RC2 := rL.1
  unfold maxLen at RM2
  clear b2 rL rK x8 x0 x1 x2 x3 x4 x5 x6 x7
  rcases Nat.lt_or_ge (cnt B) (cnt A) with hm | hm
  · have HM : Hid (cnt B = min (cnt A) (cnt B)) := by unfold Hid; omega
    go_wp2_with fail
    go_loopw [26] (fun i wr => ∃ j : Nat, j ≤ cnt B ∧ i = .int .i64 j ∧ Hid (R = ordR A B j) ∧ Hid (Below w2.heap.size w2 wr)) (fun i _ => cnt B - (intOf i).toNat)
    case atStart => exact ⟨0, Nat.zero_le _, rfl, HR, Below.refl _ _⟩
    case round =>
      obtain ⟨j, hj, rfl, hrel, hbr⟩ := hrel
      have hsz := hbr.out.size
      by_cases hlt : j < cnt B
      · have hjA : j < cnt A := by omega
        have hjB : j < cnt B := by omega
        obtain ⟨x8, x0, x1, x2, x3, x4, x5, x6, x7⟩ := HA2.out.kept hbr.out (by omega)
        have BN := Lib.hid (hbr.out.mono (show n ≤ w2.heap.size by omega))
        obtain ⟨X, hX⟩ : ∃ X, A.l[j]? = some X := ⟨_, List.getElem?_eq_getElem (by omega)⟩
        obtain ⟨Y, hY⟩ : ∃ Y, B.l[j]? = some Y := ⟨_, List.getElem?_eq_getElem (by omega)⟩
        obtain ⟨b1, off, oL4, oK4, cL4, cK4, c4, e1, hb1, ⟨y0, y1, y2, y3, y4, y5, y6, y7⟩, OX⟩ := (R2.out.1.1.below BN.out).elv hjA ((H2.out.1.kept BN.out).el j X hX)
        obtain ⟨b2, off', oL5, oK5, cL5, cK5, c5, e2, hb2, ⟨u0, u1, u2, u3, u4, u5, u6, u7⟩, OY⟩ := (R2.out.2.1.below BN.out).elv hjB ((H2.out.2.kept BN.out).el j Y hY)
        have hm1 := sz_mem (List.mem_of_getElem? hX)
        have hm2 := sz_mem (List.mem_of_getElem? hY)
        have HX := Lib.hid (ordR_at (els_some' hX hjA) (els_some' hY hjB))
        have OX2 := Lib.hid (And.intro OX OY)
        subst e1 e2
        clear hX hY OX OY
        by_cases h5 : A.k = 5
        · have hKA : j < cntK A := by unfold cntK; rw [if_pos h5]; omega
          have hKB : j < cntK B := by unfold cntK; rw [if_pos (by have := HK.out; omega)]; omega
          obtain ⟨b3, off3, e3, _, v0⟩ := (R2.out.1.2.below BN.out).el1 hKA
          obtain ⟨b4, off4, e4, _, v1⟩ := (R2.out.2.2.below BN.out).el1 hKB
          change wr.cell? _ = some (.string (kk A.ks j)) at v0
          change wr.cell? _ = some (.string (kk B.ks j)) at v1
          have H5 := Lib.hid h5
          have g5 : (A.k == 5) = true := by rw [h5]; rfl
          subst e3 e4
          clear h5
          by_cases he : kk A.ks j = kk B.ks j
          · obtain ⟨g1, g2⟩ := str_eq he
            have HE := Lib.hid he
            clear he
            have HBR := hbr
            clear hbr
            go_wp2_with fail
            go_quiet (fail)
            go_wp2_with fail
            generalize hwd : World.drewN wr _ = wd
            have hcl : ∀ b o, wd.cell? ⟨b, o, none⟩ = wr.cell? ⟨b, o, none⟩ := fun _ _ => by rw [← hwd]; rfl
            have HBD : Hid (Below w2.heap.size w2 wd) := by unfold Hid; rw [← hwd]; exact below_drewN HBR.out _
            have OX3 : Hid (OpnP (fun b => b < n) wd X oL4 oK4 cL4 cK4 c4 ∧ OpnP (fun b => b < n) wd Y oL5 oK5 cL5 cK5 c5) := by unfold Hid; rw [← hwd]; exact ⟨OX2.out.1.kept (below_drewN (Below.refl n wr) _), OX2.out.2.kept (below_drewN (Below.refl n wr) _)⟩
            clear hwd
            go_still_tail 8, (by kernel_rfl)
            change wpList _ _ _ _ _ wd.drew
            go_wp2_with fail
            have hszd := HBD.out.size
            with_reducible refine (HF.out n X Y _ _ _ (by omega) (OX3.out.1.kept ((Below.refl n wd).drew)).lies (OX3.out.2.kept ((Below.refl n wd).drew)).lies (by simp; omega)).mono ?_
            rintro e w4 ⟨rfl, b4⟩
            have B4 := Lib.hid (HBD.out.drew.trans (b4.mono (by simp; omega)))
            clear b4 hcl
            by_cases hc : ord X Y = 0
            · have HC : Hid (R = ordR A B (j + 1)) := by unfold Hid; rw [hrel.out, HX.out, if_neg (fun h => h.2 HE.out), if_neg (by rw [hc]; simp)]
              have HC0 := Lib.hid hc
              generalize ord X Y = oxy at *
              subst hc
              go_wp2_with fail
              go_roundw
              case rel => exact ⟨j + 1, by omega, by go_num, HC, B4⟩
              case measure => simp [intOf]; omega
            · have HC : Hid (R = ord X Y) := by unfold Hid; rw [hrel.out, HX.out, if_neg (fun h => h.2 HE.out), if_pos hc]
              have hc1 : (ord X Y != 0) = true := by simpa using hc
              clear hc
              go_wp2_with fail
              go_ret
              exact ⟨(ret_int HC.out.symm : Ending.returned (.int .i64 _) = _), HW.out.trans ((B2.out.trans (B4.out.mono B2.out.size)).mono (by omega))⟩
          · obtain ⟨g1, g2⟩ := str_ne he
            have HE := Lib.hid he
            have HBR := hbr
            clear he hbr
            go_wp2_with fail
            go_quiet (fail)
            go_wp2_with fail
            generalize hwd : World.drewN wr _ = wd
            have hcl : ∀ b o, wd.cell? ⟨b, o, none⟩ = wr.cell? ⟨b, o, none⟩ := fun _ _ => by rw [← hwd]; rfl
            have HBD : Hid (Below w2.heap.size w2 wd) := by unfold Hid; rw [← hwd]; exact below_drewN HBR.out _
            clear hwd
            go_quiet ((go_at_call 81; exact Calls.quiet_of_same (cmp_81' _ _ _)))
            go_wp2_with fail
            go_ret
            exact ⟨(ret_int (by rw [hrel.out, HX.out, if_pos ⟨H5.out, HE.out⟩]) : Ending.returned (.int .i64 _) = _), HW.out.trans ((B2.out.trans ((below_drewN HBD.out _).mono B2.out.size)).mono (by omega))⟩
        · have g5 : (A.k == 5) = false := by rw [beq_eq_false_iff_ne]; exact h5
          have H5 := Lib.hid h5
          clear h5
          have HBR := hbr
          clear hbr
          go_wp2_with fail
          go_quiet (fail)
          go_wp2_with fail
          generalize hwd : World.drewN wr _ = wd
          have hcl : ∀ b o, wd.cell? ⟨b, o, none⟩ = wr.cell? ⟨b, o, none⟩ := fun _ _ => by rw [← hwd]; rfl
          have HBD : Hid (Below w2.heap.size w2 wd) := by unfold Hid; rw [← hwd]; exact below_drewN HBR.out _
          have OX3 : Hid (OpnP (fun b => b < n) wd X oL4 oK4 cL4 cK4 c4 ∧ OpnP (fun b => b < n) wd Y oL5 oK5 cL5 cK5 c5) := by unfold Hid; rw [← hwd]; exact ⟨OX2.out.1.kept (below_drewN (Below.refl n wr) _), OX2.out.2.kept (below_drewN (Below.refl n wr) _)⟩
          clear hwd
          go_still_tail 8, (by kernel_rfl)
          change wpList _ _ _ _ _ wd.drew
          go_wp2_with fail
          have hszd := HBD.out.size
          with_reducible refine (HF.out n X Y _ _ _ (by omega) (OX3.out.1.kept ((Below.refl n wd).drew)).lies (OX3.out.2.kept ((Below.refl n wd).drew)).lies (by simp; omega)).mono ?_
          rintro e w4 ⟨rfl, b4⟩
          have B4 := Lib.hid (HBD.out.drew.trans (b4.mono (by simp; omega)))
          clear b4 hcl
          by_cases hc : ord X Y = 0
          · have HC : Hid (R = ordR A B (j + 1)) := by unfold Hid; rw [hrel.out, HX.out, if_neg (fun h => H5.out h.1), if_neg (by rw [hc]; simp)]
            have HC0 := Lib.hid hc
            generalize ord X Y = oxy at *
            subst hc
            go_wp2_with fail
            go_roundw
            case rel => exact ⟨j + 1, by omega, by go_num, HC, B4⟩
            case measure => simp [intOf]; omega
          · have HC : Hid (R = ord X Y) := by unfold Hid; rw [hrel.out, HX.out, if_neg (fun h => H5.out h.1), if_pos hc]
            have hc1 : (ord X Y != 0) = true := by simpa using hc
            clear hc
            go_wp2_with fail
            go_ret
            exact ⟨(ret_int HC.out.symm : Ending.returned (.int .i64 _) = _), HW.out.trans ((B2.out.trans (B4.out.mono B2.out.size)).mono (by omega))⟩
      · have HX := Lib.hid (ordR_end (A := A) (B := B) (j := j) (by omega))
        have HBR := hbr
        clear hbr
        go_wp2_with (go_at_call 79; refine (cmp_79 _ _ _).mono ?_; rintro e w' ⟨rfl, rfl⟩)
        go_ret
        exact ⟨(ret_int (by rw [hrel.out, HX.out]) : Ending.returned (.int .i64 _) = _), HW.out.trans ((B2.out.trans (HBR.out.mono B2.out.size)).mono (by omega))⟩
  · have HM : Hid (cnt A = min (cnt A) (cnt B)) := by unfold Hid; omega
    go_wp2_with fail
    go_loopw [26] (fun i wr => ∃ j : Nat, j ≤ cnt A ∧ i = .int .i64 j ∧ Hid (R = ordR A B j) ∧ Hid (Below w2.heap.size w2 wr)) (fun i _ => cnt A - (intOf i).toNat)
    case atStart => exact ⟨0, Nat.zero_le _, rfl, HR, Below.refl _ _⟩
    case round =>
      obtain ⟨j, hj, rfl, hrel, hbr⟩ := hrel
      have hsz := hbr.out.size
      by_cases hlt : j < cnt A
      · have hjA : j < cnt A := by omega
        have hjB : j < cnt B := by omega
        obtain ⟨x8, x0, x1, x2, x3, x4, x5, x6, x7⟩ := HA2.out.kept hbr.out (by omega)
        have BN := Lib.hid (hbr.out.mono (show n ≤ w2.heap.size by omega))
        obtain ⟨X, hX⟩ : ∃ X, A.l[j]? = some X := ⟨_, List.getElem?_eq_getElem (by omega)⟩
        obtain ⟨Y, hY⟩ : ∃ Y, B.l[j]? = some Y := ⟨_, List.getElem?_eq_getElem (by omega)⟩
        obtain ⟨b1, off, oL4, oK4, cL4, cK4, c4, e1, hb1, ⟨y0, y1, y2, y3, y4, y5, y6, y7⟩, OX⟩ := (R2.out.1.1.below BN.out).elv hjA ((H2.out.1.kept BN.out).el j X hX)
        obtain ⟨b2, off', oL5, oK5, cL5, cK5, c5, e2, hb2, ⟨u0, u1, u2, u3, u4, u5, u6, u7⟩, OY⟩ := (R2.out.2.1.below BN.out).elv hjB ((H2.out.2.kept BN.out).el j Y hY)
        have hm1 := sz_mem (List.mem_of_getElem? hX)
        have hm2 := sz_mem (List.mem_of_getElem? hY)
        have HX := Lib.hid (ordR_at (els_some' hX hjA) (els_some' hY hjB))
        have OX2 := Lib.hid (And.intro OX OY)
        subst e1 e2
        clear hX hY OX OY
        by_cases h5 : A.k = 5
        · have hKA : j < cntK A := by unfold cntK; rw [if_pos h5]; omega
          have hKB : j < cntK B := by unfold cntK; rw [if_pos (by have := HK.out; omega)]; omega
          obtain ⟨b3, off3, e3, _, v0⟩ := (R2.out.1.2.below BN.out).el1 hKA
          obtain ⟨b4, off4, e4, _, v1⟩ := (R2.out.2.2.below BN.out).el1 hKB
          change wr.cell? _ = some (.string (kk A.ks j)) at v0
          change wr.cell? _ = some (.string (kk B.ks j)) at v1
          have H5 := Lib.hid h5
          have g5 : (A.k == 5) = true := by rw [h5]; rfl
          subst e3 e4
          clear h5
          by_cases he : kk A.ks j = kk B.ks j
          · obtain ⟨g1, g2⟩ := str_eq he
            have HE := Lib.hid he
            clear he
            have HBR := hbr
            clear hbr
            go_wp2_with fail
            go_quiet (fail)
            go_wp2_with fail
            generalize hwd : World.drewN wr _ = wd
            have hcl : ∀ b o, wd.cell? ⟨b, o, none⟩ = wr.cell? ⟨b, o, none⟩ := fun _ _ => by rw [← hwd]; rfl
            have HBD : Hid (Below w2.heap.size w2 wd) := by unfold Hid; rw [← hwd]; exact below_drewN HBR.out _
            have OX3 : Hid (OpnP (fun b => b < n) wd X oL4 oK4 cL4 cK4 c4 ∧ OpnP (fun b => b < n) wd Y oL5 oK5 cL5 cK5 c5) := by unfold Hid; rw [← hwd]; exact ⟨OX2.out.1.kept (below_drewN (Below.refl n wr) _), OX2.out.2.kept (below_drewN (Below.refl n wr) _)⟩
            clear hwd
            go_still_tail 8, (by kernel_rfl)
            change wpList _ _ _ _ _ wd.drew
            go_wp2_with fail
            have hszd := HBD.out.size
            with_reducible refine (HF.out n X Y _ _ _ (by omega) (OX3.out.1.kept ((Below.refl n wd).drew)).lies (OX3.out.2.kept ((Below.refl n wd).drew)).lies (by simp; omega)).mono ?_
            rintro e w4 ⟨rfl, b4⟩
            have B4 := Lib.hid (HBD.out.drew.trans (b4.mono (by simp; omega)))
            clear b4 hcl
            by_cases hc : ord X Y = 0
            · have HC : Hid (R = ordR A B (j + 1)) := by unfold Hid; rw [hrel.out, HX.out, if_neg (fun h => h.2 HE.out), if_neg (by rw [hc]; simp)]
              have HC0 := Lib.hid hc
              generalize ord X Y = oxy at *
              subst hc
              go_wp2_with fail
              go_roundw
              case rel => exact ⟨j + 1, by omega, by go_num, HC, B4⟩
              case measure => simp [intOf]; omega
            · have HC : Hid (R = ord X Y) := by unfold Hid; rw [hrel.out, HX.out, if_neg (fun h => h.2 HE.out), if_pos hc]
              have hc1 : (ord X Y != 0) = true := by simpa using hc
              clear hc
              go_wp2_with fail
              go_ret
              exact ⟨(ret_int HC.out.symm : Ending.returned (.int .i64 _) = _), HW.out.trans ((B2.out.trans (B4.out.mono B2.out.size)).mono (by omega))⟩
          · obtain ⟨g1, g2⟩ := str_ne he
            have HE := Lib.hid he
            have HBR := hbr
            clear he hbr
            go_wp2_with fail
            go_quiet (fail)
            go_wp2_with fail
            generalize hwd : World.drewN wr _ = wd
            have hcl : ∀ b o, wd.cell? ⟨b, o, none⟩ = wr.cell? ⟨b, o, none⟩ := fun _ _ => by rw [← hwd]; rfl
            have HBD : Hid (Below w2.heap.size w2 wd) := by unfold Hid; rw [← hwd]; exact below_drewN HBR.out _
            clear hwd
            go_quiet ((go_at_call 81; exact Calls.quiet_of_same (cmp_81' _ _ _)))
            go_wp2_with fail
            go_ret
            exact ⟨(ret_int (by rw [hrel.out, HX.out, if_pos ⟨H5.out, HE.out⟩]) : Ending.returned (.int .i64 _) = _), HW.out.trans ((B2.out.trans ((below_drewN HBD.out _).mono B2.out.size)).mono (by omega))⟩
        · have g5 : (A.k == 5) = false := by rw [beq_eq_false_iff_ne]; exact h5
          have H5 := Lib.hid h5
          clear h5
          have HBR := hbr
          clear hbr
          go_wp2_with fail
          go_quiet (fail)
          go_wp2_with fail
          generalize hwd : World.drewN wr _ = wd
          have hcl : ∀ b o, wd.cell? ⟨b, o, none⟩ = wr.cell? ⟨b, o, none⟩ := fun _ _ => by rw [← hwd]; rfl
          have HBD : Hid (Below w2.heap.size w2 wd) := by unfold Hid; rw [← hwd]; exact below_drewN HBR.out _
          have OX3 : Hid (OpnP (fun b => b < n) wd X oL4 oK4 cL4 cK4 c4 ∧ OpnP (fun b => b < n) wd Y oL5 oK5 cL5 cK5 c5) := by unfold Hid; rw [← hwd]; exact ⟨OX2.out.1.kept (below_drewN (Below.refl n wr) _), OX2.out.2.kept (below_drewN (Below.refl n wr) _)⟩
          clear hwd
          go_still_tail 8, (by kernel_rfl)
          change wpList _ _ _ _ _ wd.drew
          go_wp2_with fail
          have hszd := HBD.out.size
          with_reducible refine (HF.out n X Y _ _ _ (by omega) (OX3.out.1.kept ((Below.refl n wd).drew)).lies (OX3.out.2.kept ((Below.refl n wd).drew)).lies (by simp; omega)).mono ?_
          rintro e w4 ⟨rfl, b4⟩
          have B4 := Lib.hid (HBD.out.drew.trans (b4.mono (by simp; omega)))
          clear b4 hcl
          by_cases hc : ord X Y = 0
          · have HC : Hid (R = ordR A B (j + 1)) := by unfold Hid; rw [hrel.out, HX.out, if_neg (fun h => H5.out h.1), if_neg (by rw [hc]; simp)]
            have HC0 := Lib.hid hc
            generalize ord X Y = oxy at *
            subst hc
            go_wp2_with fail
            go_roundw
            case rel => exact ⟨j + 1, by omega, by go_num, HC, B4⟩
            case measure => simp [intOf]; omega
          · have HC : Hid (R = ord X Y) := by unfold Hid; rw [hrel.out, HX.out, if_neg (fun h => H5.out h.1), if_pos hc]
            have hc1 : (ord X Y != 0) = true := by simpa using hc
            clear hc
            go_wp2_with fail
            go_ret
            exact ⟨(ret_int HC.out.symm : Ending.returned (.int .i64 _) = _), HW.out.trans ((B2.out.trans (B4.out.mono B2.out.size)).mono (by omega))⟩
      · have HX := Lib.hid (ordR_end (A := A) (B := B) (j := j) (by omega))
        have HBR := hbr
        clear hbr
        go_wp2_with (go_at_call 79; refine (cmp_79 _ _ _).mono ?_; rintro e w' ⟨rfl, rfl⟩)
        go_ret
        exact ⟨(ret_int (by rw [hrel.out, HX.out]) : Ending.returned (.int .i64 _) = _), HW.out.trans ((B2.out.trans (HBR.out.mono B2.out.size)).mono (by omega))⟩
end Go.Proofs.Ytfgkkccgecnchaa
