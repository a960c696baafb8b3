/- CodeBack: the law's walk. -/
import Derived.Test.YtpmdkekjoocplaaIb
import Derived.Test.YtpmdkekjoocplaaUc
import Derived.Test.YtpmdkekjoocplaaV
import Derived.Test.YtpmdkekjoocplaaS
import Derived.Test.YtpmdkekjoocplaaHh
import Derived.Deep.Cut
import Derived.Deep.RegionHeld3
namespace Go.Proofs.Ytpmdkekjoocplaa
open Go.RowKit

/-- what a drawn region holds on to -/
def Held (N : Nat) (W0 W1 : World) : Prop := (∀ b o, b < N → W1.cell? ⟨b, o, none⟩ = W0.cell? ⟨b, o, none⟩) ∧ Hid (Below N W0 W1) ∧ Hid (N ≤ W1.heap.size)
/-- what may be, and how long its form is -/
def Fine8 (V : Val) : Prop := Fine tok 8 V ∧ (enc V).length ≤ 660000
set_option maxRecDepth 100000 in
set_option maxHeartbeats 8000000 in
theorem lback_any {n : Nat} {A B : Val} {vA vB : Value} {w : World} {sp : Option Addr} {cap : Nat} {M : List Nat} (hM : Bts n w sp cap M) (hA : Lies n w A vA) (hB : Lies n w B vB) (hn : n ≤ w.heap.size) : Calls Try.prog 4 #[vA, vB, .slice sp M.length cap] w fun e w' => e = .returned (.bool true) ∧ Below w.heap.size w w' := by
  obtain ⟨oLA, oKA, cLA, cKA, cA, rfl, OA⟩ := hA.inv
  obtain ⟨oLB, oKB, cLB, cKB, cB, rfl, OB⟩ := hB.inv
  have HW : Hid (Below w.heap.size w ((w.alloc (bx A oLA oKA cLA cKA)).alloc (bx B oLB oKB cLB cKB))) := (((Below.refl w.heap.size w).alloc (Nat.le_refl _) (bx A oLA oKA cLA cKA)).alloc (by simp only [World.size_alloc]; omega) (bx B oLB oKB cLB cKB))
  have HZ : Hid (((w.alloc (bx A oLA oKA cLA cKA)).alloc (bx B oLB oKB cLB cKB)).heap.size = w.heap.size + 2) := by simp [Hid]
  have HXA : Hid (Hd ((w.alloc (bx A oLA oKA cLA cKA)).alloc (bx B oLB oKB cLB cKB)) (w.heap.size + 0) A (.slice oLA A.l.length cLA) (.slice oKA A.ks.length cKA)) := by
    have h0 := Hd.made w A (.slice oLA A.l.length cLA) (.slice oKA A.ks.length cKA)
    exact h0.kept ((Below.refl (w.heap.size + 1) _).alloc (by simp only [World.size_alloc]; omega) (bx B oLB oKB cLB cKB)) (by omega)
  have HXB : Hid (Hd ((w.alloc (bx A oLA oKA cLA cKA)).alloc (bx B oLB oKB cLB cKB)) (w.heap.size + 1) B (.slice oLB B.l.length cLB) (.slice oKB B.ks.length cKB)) := by
    have h0 := Hd.made (w.alloc (bx A oLA oKA cLA cKA)) B (.slice oLB B.l.length cLB) (.slice oKB B.ks.length cKB)
    simp only [World.size_alloc] at h0
    exact h0
  have HOA := Lib.hid (OA.kept (HW.out.mono hn))
  have HOB := Lib.hid (OB.kept (HW.out.mono hn))
  have HMB := Lib.hid (hM.kept (HW.out.mono hn))
  have hM1 := hM.row.1
  have hM2 := hM.row.2.1
  unfold maxLen at hM2
  clear hM
  clear hA OA hB OB
  go_enter Try.func4, Try.ntmps4
  go_upto_region 1 with fail
  generalize World.alloc (World.alloc w _) _ = w0 at *
  simp only [Nat.add_zero] at HXA
  have LA : Hid (∀ W, Below w0.heap.size w0 W → Lies n W A (vv A.k A.i A.s (.slice oLA A.l.length cLA) (.slice oKA A.ks.length cKA) A.tk A.to A.x) ∧ n ≤ W.heap.size) := fun W b => ⟨(HOA.out.kept (b.mono (by have := HZ.out; omega))).lies, by have := b.size; have := HZ.out; omega⟩
  have LB : Hid (∀ W, Below w0.heap.size w0 W → Lies n W B (vv B.k B.i B.s (.slice oLB B.l.length cLB) (.slice oKB B.ks.length cKB) B.tk B.to B.x) ∧ n ≤ W.heap.size) := fun W b => ⟨(HOB.out.kept (b.mono (by have := HZ.out; omega))).lies, by have := b.size; have := HZ.out; omega⟩
  have B0 := Lib.hid (Below.refl w0.heap.size w0)
  obtain ⟨x8, x0, x1, x2, x3, x4, x5, x6, x7⟩ := HXA.out.kept B0.out (by have := HZ.out; omega)
  obtain ⟨y8, y0, y1, y2, y3, y4, y5, y6, y7⟩ := HXB.out.kept B0.out (by have := HZ.out; omega)
  go_wp2_with fail
  refine (Great_any (LA.out _ B0.out).1 (LA.out _ B0.out).2).mono ?_
  rintro e w_1 ⟨g_1, rfl, hs_1, b_1⟩
  have B1 := Lib.hid (B0.out.trans (b_1.mono B0.out.size))
  clear b_1
  clear x8 x0 x1 x2 x3 x4 x5 x6 x7 y8 y0 y1 y2 y3 y4 y5 y6 y7
  obtain ⟨x8, x0, x1, x2, x3, x4, x5, x6, x7⟩ := HXA.out.kept B1.out (by have := HZ.out; omega)
  obtain ⟨y8, y0, y1, y2, y3, y4, y5, y6, y7⟩ := HXB.out.kept B1.out (by have := HZ.out; omega)
  cases g_1 with
  | true =>
    clear hs_1
    go_wp2_with fail
    refine (awake_any _).mono ?_
    rintro e wz ⟨rfl, bz⟩
    have BZ := Lib.hid (HW.out.trans ((B1.out.trans (bz.mono B1.out.size)).mono HW.out.size))
    clear bz
    go_wp2_with fail
    go_ret
    exact ⟨rfl, BZ.out⟩
  | false =>
    have hzA := hs_1 rfl
    clear hs_1
    go_wp2_with fail
    refine (Great_any (LB.out _ B1.out).1 (LB.out _ B1.out).2).mono ?_
    rintro e w_2 ⟨g_2, rfl, hs_2, b_2⟩
    have B2 := Lib.hid (B1.out.trans (b_2.mono B1.out.size))
    clear b_2
    clear x8 x0 x1 x2 x3 x4 x5 x6 x7 y8 y0 y1 y2 y3 y4 y5 y6 y7
    obtain ⟨x8, x0, x1, x2, x3, x4, x5, x6, x7⟩ := HXA.out.kept B2.out (by have := HZ.out; omega)
    obtain ⟨y8, y0, y1, y2, y3, y4, y5, y6, y7⟩ := HXB.out.kept B2.out (by have := HZ.out; omega)
    cases g_2 with
    | true =>
      clear hs_2
      go_wp2_with fail
      refine (awake_any _).mono ?_
      rintro e wz ⟨rfl, bz⟩
      have BZ := Lib.hid (HW.out.trans ((B2.out.trans (bz.mono B2.out.size)).mono HW.out.size))
      clear bz
      go_wp2_with fail
      go_ret
      exact ⟨rfl, BZ.out⟩
    | false =>
      have hzB := hs_2 rfl
      clear hs_2
      cases hcA : chk A with
      | false =>
        have C := fun W (b : Below w0.heap.size w0 W) => rCheck_any n A _ W (by omega) (LA.out W b).1 (LA.out W b).2
        rw [hcA] at C
        have HC := Lib.hid C
        clear C hcA
        go_wp2_with fail
        refine (HC.out _ B2.out).mono ?_
        rintro e w_3 ⟨rfl, b_3⟩
        have B3 := Lib.hid (B2.out.trans (b_3.mono B2.out.size))
        clear b_3
        clear x8 x0 x1 x2 x3 x4 x5 x6 x7 y8 y0 y1 y2 y3 y4 y5 y6 y7
        obtain ⟨x8, x0, x1, x2, x3, x4, x5, x6, x7⟩ := HXA.out.kept B3.out (by have := HZ.out; omega)
        obtain ⟨y8, y0, y1, y2, y3, y4, y5, y6, y7⟩ := HXB.out.kept B3.out (by have := HZ.out; omega)
        go_wp2_with fail
        refine (awake_any _).mono ?_
        rintro e wz ⟨rfl, bz⟩
        have BZ := Lib.hid (HW.out.trans ((B3.out.trans (bz.mono B3.out.size)).mono HW.out.size))
        clear bz
        go_wp2_with fail
        go_ret
        exact ⟨rfl, BZ.out⟩
      | true =>
        have HCA := Lib.hid hcA
        have C := fun W (b : Below w0.heap.size w0 W) => rCheck_any n A _ W (by omega) (LA.out W b).1 (LA.out W b).2
        rw [hcA] at C
        have HC := Lib.hid C
        clear C hcA
        go_wp2_with fail
        refine (HC.out _ B2.out).mono ?_
        rintro e w_3 ⟨rfl, b_3⟩
        have B3 := Lib.hid (B2.out.trans (b_3.mono B2.out.size))
        clear b_3
        clear x8 x0 x1 x2 x3 x4 x5 x6 x7 y8 y0 y1 y2 y3 y4 y5 y6 y7
        obtain ⟨x8, x0, x1, x2, x3, x4, x5, x6, x7⟩ := HXA.out.kept B3.out (by have := HZ.out; omega)
        obtain ⟨y8, y0, y1, y2, y3, y4, y5, y6, y7⟩ := HXB.out.kept B3.out (by have := HZ.out; omega)
        clear HC
        cases hcB : chk B with
        | false =>
          have C := fun W (b : Below w0.heap.size w0 W) => rCheck_any n B _ W (by omega) (LB.out W b).1 (LB.out W b).2
          rw [hcB] at C
          have HC := Lib.hid C
          clear C hcB
          go_wp2_with fail
          refine (HC.out _ B3.out).mono ?_
          rintro e w_4 ⟨rfl, b_4⟩
          have B4 := Lib.hid (B3.out.trans (b_4.mono B3.out.size))
          clear b_4
          clear x8 x0 x1 x2 x3 x4 x5 x6 x7 y8 y0 y1 y2 y3 y4 y5 y6 y7
          obtain ⟨x8, x0, x1, x2, x3, x4, x5, x6, x7⟩ := HXA.out.kept B4.out (by have := HZ.out; omega)
          obtain ⟨y8, y0, y1, y2, y3, y4, y5, y6, y7⟩ := HXB.out.kept B4.out (by have := HZ.out; omega)
          go_wp2_with fail
          refine (awake_any _).mono ?_
          rintro e wz ⟨rfl, bz⟩
          have BZ := Lib.hid (HW.out.trans ((B4.out.trans (bz.mono B4.out.size)).mono HW.out.size))
          clear bz
          go_wp2_with fail
          go_ret
          exact ⟨rfl, BZ.out⟩
        | true =>
          have HCB := Lib.hid hcB
          have C := fun W (b : Below w0.heap.size w0 W) => rCheck_any n B _ W (by omega) (LB.out W b).1 (LB.out W b).2
          rw [hcB] at C
          have HC := Lib.hid C
          clear C hcB
          go_wp2_with fail
          refine (HC.out _ B3.out).mono ?_
          rintro e w_4 ⟨rfl, b_4⟩
          have B4 := Lib.hid (B3.out.trans (b_4.mono B3.out.size))
          clear b_4
          clear x8 x0 x1 x2 x3 x4 x5 x6 x7 y8 y0 y1 y2 y3 y4 y5 y6 y7
          obtain ⟨x8, x0, x1, x2, x3, x4, x5, x6, x7⟩ := HXA.out.kept B4.out (by have := HZ.out; omega)
          obtain ⟨y8, y0, y1, y2, y3, y4, y5, y6, y7⟩ := HXB.out.kept B4.out (by have := HZ.out; omega)
          clear HC
          by_cases hlen : 500 < M.length
          · skip
            go_wp2_with fail
            refine (awake_any _).mono ?_
            rintro e wz ⟨rfl, bz⟩
            have BZ := Lib.hid (HW.out.trans ((B4.out.trans (bz.mono B4.out.size)).mono HW.out.size))
            clear bz
            go_wp2_with fail
            go_ret
            exact ⟨rfl, BZ.out⟩
          have hlen2 : ¬ 500 < (M.length : Int) := by omega
          go_upto_region 3 with fail
          obtain ⟨N, hN⟩ : ∃ N, N = w_4.heap.size := ⟨_, rfl⟩
          have S0 := held_at hN
          have lA : w.heap.size < N := by have := B4.out.size; have := HZ.out; omega
          have lB : w.heap.size + 1 < N := by have := B4.out.size; have := HZ.out; omega
          have HN := Lib.hid hN
          clear hN
          have LW : Hid (∀ W, Held N w_4 W → Below w0.heap.size w0 W) := fun W h => B4.out.trans (h.2.1.out.mono (by rw [HN.out]; exact B4.out.size))
          have CA : Hid (∀ W, Held N w_4 W → Calls Try.prog 13 #[.slice none 0 0, vv A.k A.i A.s (.slice oLA A.l.length cLA) (.slice oKA A.ks.length cKA) A.tk A.to A.x] W (PB A W)) := fun W h => (put_bts (LA.out W (LW.out W h)).1 (LA.out W (LW.out W h)).2 hzA HCA.out).2.2
          have FA : Hid (Fine8 A) := ⟨(put_bts (LA.out w0 (Below.refl _ _)).1 (LA.out w0 (Below.refl _ _)).2 hzA HCA.out).1, (put_bts (LA.out w0 (Below.refl _ _)).1 (LA.out w0 (Below.refl _ _)).2 hzA HCA.out).2.1⟩
          have CB : Hid (∀ W, Held N w_4 W → Calls Try.prog 13 #[.slice none 0 0, vv B.k B.i B.s (.slice oLB B.l.length cLB) (.slice oKB B.ks.length cKB) B.tk B.to B.x] W (PB B W)) := fun W h => (put_bts (LB.out W (LW.out W h)).1 (LB.out W (LW.out W h)).2 hzB HCB.out).2.2
          have FB : Hid (Fine8 B) := ⟨(put_bts (LB.out w0 (Below.refl _ _)).1 (LB.out w0 (Below.refl _ _)).2 hzB HCB.out).1, (put_bts (LB.out w0 (Below.refl _ _)).1 (LB.out w0 (Below.refl _ _)).2 hzB HCB.out).2.1⟩
          refine wp_region_noPanic ?_
          refine wp_region_held_drew (S := (fun W => (∀ b o, b < N → W.cell? ⟨b, o, none⟩ = w_4.cell? ⟨b, o, none⟩) ∧ Hid (Below N w_4 W) ∧ Hid (N ≤ W.heap.size))) (by kernel_rfl) ?_ (fun hH => ?_)
          · exact S0
          refine wpAnyH_take (i := 0) (oi := { dst := some 35, op := Op.load 30 (Operand.tmp 3), type := 30, pos := "law.go:46", after := #[], guard := none }) (v := ?_) rfl (by kernel_rfl) (by kernel_rfl) (by kernel_rfl) (fun _ _ _ h => h) (Or.inl ⟨by rfl, ?_⟩) (by assumption) ?_
          rotate_left
          · (intro w hSw; (try dsimp only at hSw); go_simp; try with_reducible rfl)
          try simp only [Act.put, List.setIfInBounds_toArray, List.set_cons_zero, List.set_cons_succ]
          refine wpAnyH_take (i := 2) (oi := { dst := some 37, op := Op.load 30 (Operand.tmp 4), type := 30, pos := "law.go:46", after := #[], guard := none }) (v := ?_) rfl (by kernel_rfl) (by kernel_rfl) (by kernel_rfl) (fun _ _ _ h => h) (Or.inl ⟨by rfl, ?_⟩) (by assumption) ?_
          rotate_left
          · (intro w hSw; (try dsimp only at hSw); go_simp; try with_reducible rfl)
          try simp only [Act.put, List.setIfInBounds_toArray, List.set_cons_zero, List.set_cons_succ]
          refine wpAnyH_ready (rs := [1]) (by kernel_rfl) (by simp) ?_
          refine AllReadyH.cons (o := { dst := some 36, op := Op.call { callee := Callee.value (Operand.func 13), args := #[Operand.const (Value.slice none 0 0), Operand.tmp 35], argTypes := #[22, 30] }, type := 22, pos := "law.go:46", after := #[{ on := 0, ground := Ground.data }], guard := none }) rfl (fun K hK => ?_) AllReadyH.nil
          go_simp
          refine (CA.out _ hH).mono ?_
          rintro e W_0 ⟨oa, ca, rfl, ta, b⟩
          refine hK.out _ _ ?_ (fun hH' => ?_)
          · exact held_next (by assumption) hH
          have TA := Lib.hid ta
          clear ta
          clear hK K hH
          have hH := hH'
          clear hH'
          try simp only [Act.put, List.setIfInBounds_toArray, List.set_cons_zero, List.set_cons_succ]
          refine wpAnyH_ready (rs := [3]) (by kernel_rfl) (by simp) ?_
          refine AllReadyH.cons (o := { dst := some 38, op := Op.call { callee := Callee.value (Operand.func 13), args := #[Operand.const (Value.slice none 0 0), Operand.tmp 37], argTypes := #[22, 30] }, type := 22, pos := "law.go:46", after := #[{ on := 2, ground := Ground.data }, { on := 1, ground := Ground.chain }], guard := none }) rfl (fun K hK => ?_) AllReadyH.nil
          go_simp
          refine (CB.out _ hH).mono ?_
          rintro e W_1 ⟨ob, cb, rfl, tb, b⟩
          refine hK.out _ _ ?_ (fun hH' => ?_)
          · exact held_next (by assumption) hH
          have TB := Lib.hid tb
          have TA2 := Lib.hid (TA.out.kept b)
          have TAS := Lib.hid b.size
          have TAB := Lib.hid b
          clear tb
          clear hK K hH
          have hH := hH'
          clear hH'
          try simp only [Act.put, List.setIfInBounds_toArray, List.set_cons_zero, List.set_cons_succ]
          refine wpAnyH_take (i := 4) (oi := { dst := some 7, op := Op.assign (Operand.tmp 36), type := 22, pos := "law.go:46", after := #[{ on := 1, ground := Ground.data }, { on := 3, ground := Ground.chain }, { on := 0, ground := Ground.phase }, { on := 1, ground := Ground.phase }, { on := 2, ground := Ground.textOnly Departure.lateStores }, { on := 3, ground := Ground.textOnly Departure.lateStoresUnsure }], guard := none }) (v := ?_) rfl (by kernel_rfl) (by kernel_rfl) (by kernel_rfl) (fun _ _ _ h => h) (Or.inl ⟨by rfl, ?_⟩) (by assumption) ?_
          rotate_left
          · (intro w hSw; (try dsimp only at hSw); go_simp; try with_reducible rfl)
          try simp only [Act.put, List.setIfInBounds_toArray, List.set_cons_zero, List.set_cons_succ]
          refine wpAnyH_take (i := 5) (oi := { dst := some 8, op := Op.assign (Operand.tmp 38), type := 22, pos := "law.go:46", after := #[{ on := 3, ground := Ground.data }, { on := 4, ground := Ground.chain }, { on := 0, ground := Ground.phase }, { on := 1, ground := Ground.phase }, { on := 2, ground := Ground.phase }, { on := 3, ground := Ground.phase }, { on := 4, ground := Ground.phase }], guard := none }) (v := ?_) rfl (by kernel_rfl) (by kernel_rfl) (by kernel_rfl) (fun _ _ _ h => h) (Or.inl ⟨by rfl, ?_⟩) (by assumption) ?_
          rotate_left
          · (intro w hSw; (try dsimp only at hSw); go_simp; try with_reducible rfl)
          try simp only [Act.put, List.setIfInBounds_toArray, List.set_cons_zero, List.set_cons_succ]
          refine wpAnyH_done (by kernel_rfl) ?_ _
          refine NoPanic.normal ?_
          clear S0
          have BW1 := Lib.hid (LW.out _ hH)
          have EA := Lib.hid (enc_facts 8 A FA.out.1)
          have EB := Lib.hid (enc_facts 8 B FB.out.1)
          clear hH lA lB CA CB hlen x8 x0 x1 x2 x3 x4 x5 x6 x7 y8 y0 y1 y2 y3 y4 y5 y6 y7
          have HO := Lib.hid (World.ownsRow_made W_1 #[] 0 (base := W_1.heap.size) (e := 5) (size := 1) (Nat.le_refl _) (Nat.zero_le _) rfl)
          have AL := Lib.hid ((Below.refl W_1.heap.size W_1).alloc (Nat.le_refl _) (.cells #[] 5))
          have TAL := Lib.hid (TA.out.kept ((TAB.out).trans (AL.out.mono TAS.out)))
          have hEA := FA.out.2
          have hEB := FB.out.2
          go_wp2_with (at_builtin; go_must (refine app_bts rfl (.tmp 40) (.tmp 41) rfl (base := W_1.heap.size) (N := []) (M := enc A) rfl rfl HO.out TAL.out (by simp; omega) (by simp) ?_))
          intro v1 w1 hown1 hb1 hs1
          have ON1 := Lib.hid hown1
          have BE1 := Lib.hid (AL.out.trans hb1)
          have ZE1 : Hid (W_1.heap.size ≤ w1.heap.size) := by unfold Hid; omega
          clear hown1 hb1 hs1
          have BM1 := Lib.hid (HMB.out.kept ((BW1.out.mono (by have := HZ.out; omega)).trans (BE1.out.mono (by have := BW1.out.size; have := HZ.out; omega))))
          go_wp2_with (at_builtin; go_must (refine app_bts rfl (.tmp 42) (.tmp 43) rfl (base := W_1.heap.size) (N := enc A) (M := M) rfl rfl ON1.out BM1.out (by omega) ZE1.out ?_))
          intro v2 w2 hown2 hb2 hs2
          rw [← List.length_append] at hown2
          obtain ⟨o2, c2, rfl, t2⟩ := bts_of_own hown2 (fun c hc => (List.mem_append.1 hc).elim (EA.out.1 c) (HMB.out.b c))
          have T2 := Lib.hid t2
          have BE2 := Lib.hid (BE1.out.trans hb2)
          have ZE2 := Lib.hid (Nat.le_trans ZE1.out hs2)
          clear t2 hown2 hb2 hs2
          have HG : Hid (getR (enc A ++ M) = .ok (A, (enc A).length)) := getR_enc FA.out.1 HCA.out M
          have GET : Hid (Calls Try.prog 7 #[.slice o2 ((enc A).length + M.length) c2] w2 (GetPost (enc A ++ M) w2)) := by
            have h := get_any T2.out (Nat.le_refl _)
            rw [List.length_append] at h
            exact h
          rw [List.length_append]
          go_wp2_with fail
          refine GET.out.mono ?_
          rintro e w3 ⟨hb3, hp⟩
          rw [HG.out] at hp
          obtain ⟨v3, rfl, hl3⟩ := hp
          obtain ⟨oX, kX, cX, dX, xX, rfl, OX0⟩ := (hl3.mono (P' := fun b => b < w3.heap.size) fun b hb => hb.2).inv
          have BE3 := Lib.hid (BE2.out.trans (hb3.mono ZE2.out))
          have ZE3 := Lib.hid (Nat.le_trans ZE2.out hb3.size)
          have OX : Hid (Opn w3.heap.size w3 A oX kX cX dX xX) := OX0
          clear hl3 OX0 hb3
          have HX3 := Lib.hid (Hd.made w3 A (.slice oX A.l.length cX) (.slice kX A.ks.length dX))
          have AX3 := Lib.hid ((Below.refl w3.heap.size w3).alloc (Nat.le_refl _) (bx A oX kX cX dX))
          have ZX3 : Hid ((w3.alloc (bx A oX kX cX dX)).heap.size = w3.heap.size + 1) := by simp [Hid]
          go_upto_region 5 with fail
          generalize w3.alloc _ = w4 at *
          have BE4 := Lib.hid (BE3.out.trans (AX3.out.mono ZE3.out))
          have BW4 : Hid (Below w0.heap.size w0 w4) := BW1.out.trans (BE4.out.mono BW1.out.size)
          obtain ⟨x8, x0, x1, x2, x3, x4, x5, x6, x7⟩ := HXA.out.kept BW4.out (by have := HZ.out; omega)
          obtain ⟨z8, z0, z1, z2, z3, z4, z5, z6, z7⟩ := HX3.out
          have SM : Hid (Calls Try.prog 9 #[vv A.k A.i A.s (.slice oX A.l.length cX) (.slice kX A.ks.length dX) A.tk A.to A.x, vv A.k A.i A.s (.slice oLA A.l.length cLA) (.slice oKA A.ks.length cKA) A.tk A.to A.x, .bool true] w4 fun e w' => e = .returned (.bool true) ∧ Below w4.heap.size w4 w') := rsame_any 60000 (Nat.le_refl _) w4.heap.size A _ _ w4 (by omega) ((OX.out.kept AX3.out).lies.mono fun b hb => by have := AX3.out.size; omega) ((LA.out w4 BW4.out).1.mono fun b hb => by have := (LA.out w4 BW4.out).2; omega) (Nat.le_refl _)
          go_wp2_with fail
          refine SM.out.mono ?_
          rintro e w5 ⟨rfl, b5⟩
          have BE5 := Lib.hid (BE4.out.trans (b5.mono BE4.out.size))
          have BW5 := Lib.hid (BW4.out.trans (b5.mono BW4.out.size))
          clear b5 x8 x0 x1 x2 x3 x4 x5 x6 x7 z8 z0 z1 z2 z3 z4 z5 z6 z7
          have TA5 := Lib.hid (TA2.out.kept (BE5.out.mono TAS.out))
          have TB5 := Lib.hid (TB.out.kept BE5.out)
          have hcb := TB5.out.row.1
          have hcb2 := TB5.out.row.2.1
          unfold maxLen at hcb2
          by_cases hle : (enc A).length ≤ (enc B).length
          · have SS : Hid (Calls Try.prog 14 #[.slice oa (enc A).length ca, .slice ob (enc A).length cb] w5 fun e w' => e = .returned (.bool (decide (enc A = (enc B).take (enc A).length))) ∧ ∃ m, w' = w5.drewN m) := by
              have h := same_any TA5.out (TB5.out.take (enc A).length hle)
              rw [show ((enc B).take (enc A).length).length = (enc A).length by rw [List.length_take]; omega] at h
              exact h
            obtain ⟨st, hst⟩ : ∃ st, decide (enc A = (enc B).take (enc A).length) = st := ⟨_, rfl⟩
            rw [hst] at SS
            have HST : Hid (st = true ↔ A = B) := by unfold Hid; rw [← starts_iff FA.out.1 FB.out.1, ← hst]; simp [hle]
            clear hst
            obtain ⟨bb, off, rfl, -, -⟩ := TB5.out.at (j := 0) (by rw [enc_eq]; simp)
            go_wp2_with fail
            refine SS.out.mono ?_
            rintro e w6 ⟨rfl, m6, rfl⟩
            have BW6 : Hid (Below w0.heap.size w0 (w5.drewN m6)) := BW5.out.trans (below_drewN (Below.refl _ _) m6)
            generalize w5.drewN m6 = w6 at *
            obtain ⟨x8, x0, x1, x2, x3, x4, x5, x6, x7⟩ := HXA.out.kept BW6.out (by have := HZ.out; omega)
            obtain ⟨y8, y0, y1, y2, y3, y4, y5, y6, y7⟩ := HXB.out.kept BW6.out (by have := HZ.out; omega)
            go_wp2_with fail
            refine (rsame_of 60000 (Nat.le_refl _) n A B _ _ w6 (by omega) (LA.out w6 BW6.out).1 (LB.out w6 BW6.out).1 (LA.out w6 BW6.out).2).mono ?_
            rintro e w7 ⟨r, rfl, hr, b7⟩
            have hrs : r = st := by
              have h5 := HST.out
              rw [← hr] at h5
              cases r <;> cases st <;> simp_all
            subst hrs
            have BW7 := Lib.hid (BW6.out.trans (b7.mono BW6.out.size))
            clear b7 hr
            cases r
            all_goals
              go_wp2_with fail
              refine (awake_any _).mono ?_
              rintro e wz ⟨rfl, bz⟩
              have BZ := Lib.hid (HW.out.trans ((BW7.out.trans (bz.mono BW7.out.size)).mono HW.out.size))
              clear bz
              go_wp2_with fail
              go_ret
              exact ⟨rfl, BZ.out⟩
          · have HST : Hid (false = true ↔ A = B) := by unfold Hid; rw [← starts_iff FA.out.1 FB.out.1]; simp [hle]
            have hle2 : ¬ ((enc A).length : Int) ≤ (enc B).length := by omega
            clear hle
            go_upto_region 8 with fail
            have BW6 := BW5
            generalize w5 = w6 at *
            obtain ⟨x8, x0, x1, x2, x3, x4, x5, x6, x7⟩ := HXA.out.kept BW6.out (by have := HZ.out; omega)
            obtain ⟨y8, y0, y1, y2, y3, y4, y5, y6, y7⟩ := HXB.out.kept BW6.out (by have := HZ.out; omega)
            go_wp2_with fail
            refine (rsame_of 60000 (Nat.le_refl _) n A B _ _ w6 (by omega) (LA.out w6 BW6.out).1 (LB.out w6 BW6.out).1 (LA.out w6 BW6.out).2).mono ?_
            rintro e w7 ⟨r, rfl, hr, b7⟩
            have hrs : r = false := by
              have h5 := HST.out
              rw [← hr] at h5
              cases r <;> simp_all
            subst hrs
            have BW7 := Lib.hid (BW6.out.trans (b7.mono BW6.out.size))
            clear b7 hr
            go_wp2_with fail
            refine (awake_any _).mono ?_
            rintro e wz ⟨rfl, bz⟩
            have BZ := Lib.hid (HW.out.trans ((BW7.out.trans (bz.mono BW7.out.size)).mono HW.out.size))
            clear bz
            go_wp2_with fail
            go_ret
            exact ⟨rfl, BZ.out⟩
end Go.Proofs.Ytpmdkekjoocplaa
