/- ValueRefines: the law's walk. -/
import Derived.Test.YtfgkkccgecnchaaLp
import Derived.Test.YtfgkkccgecnchaaLa
import Derived.Test.YtfgkkccgecnchaaRr
import Derived.Deep.Cut
namespace Go.Proofs.Ytfgkkccgecnchaa
open Go.RowKit

set_option maxRecDepth 100000 in
set_option maxHeartbeats 8000000 in
theorem lrefines_any {n : Nat} {A B : Val} {vA vB : Value} {w : World} (hA : Lies n w A vA) (hB : Lies n w B vB) (hn : n ≤ w.heap.size) : Calls Try.prog 5 #[vA, vB] w fun e w' => e = .returned (.bool true) ∧ Below w.heap.size w w' := by
  obtain ⟨oLA, oKA, cLA, cKA, cA, rfl, OA⟩ := hA.inv
  obtain ⟨oLB, oKB, cLB, cKB, cB, rfl, OB⟩ := hB.inv
  have HW : Hid (Below w.heap.size w ((w.alloc (bx A oLA oKA cLA cKA)).alloc (bx B oLB oKB cLB cKB))) := (((Below.refl w.heap.size w).alloc (Nat.le_refl _) (bx A oLA oKA cLA cKA)).alloc (by simp only [World.size_alloc]; omega) (bx B oLB oKB cLB cKB))
  have HZ : Hid (((w.alloc (bx A oLA oKA cLA cKA)).alloc (bx B oLB oKB cLB cKB)).heap.size = w.heap.size + 2) := by simp [Hid]
  have HXA : Hid (Hd ((w.alloc (bx A oLA oKA cLA cKA)).alloc (bx B oLB oKB cLB cKB)) (w.heap.size + 0) A (.slice oLA A.l.length cLA) (.slice oKA A.ks.length cKA)) := by
    have h0 := Hd.made w A (.slice oLA A.l.length cLA) (.slice oKA A.ks.length cKA)
    exact h0.kept ((Below.refl (w.heap.size + 1) _).alloc (by simp only [World.size_alloc]; omega) (bx B oLB oKB cLB cKB)) (by omega)
  have HXB : Hid (Hd ((w.alloc (bx A oLA oKA cLA cKA)).alloc (bx B oLB oKB cLB cKB)) (w.heap.size + 1) B (.slice oLB B.l.length cLB) (.slice oKB B.ks.length cKB)) := by
    have h0 := Hd.made (w.alloc (bx A oLA oKA cLA cKA)) B (.slice oLB B.l.length cLB) (.slice oKB B.ks.length cKB)
    simp only [World.size_alloc] at h0
    exact h0
  have HOA := Lib.hid (OA.kept (HW.out.mono hn))
  have HOB := Lib.hid (OB.kept (HW.out.mono hn))
  clear hA OA hB OB
  go_enter Try.func5, Try.ntmps5
  go_upto_region 1 with fail
  generalize World.alloc (World.alloc w _) _ = w0 at *
  simp only [Nat.add_zero] at HXA
  have LA : Hid (∀ W, Below w0.heap.size w0 W → Lies n W A (vv A.k A.i A.s (.slice oLA A.l.length cLA) (.slice oKA A.ks.length cKA) A.tk A.to A.x) ∧ n ≤ W.heap.size) := fun W b => ⟨(HOA.out.kept (b.mono (by have := HZ.out; omega))).lies, by have := b.size; have := HZ.out; omega⟩
  have LB : Hid (∀ W, Below w0.heap.size w0 W → Lies n W B (vv B.k B.i B.s (.slice oLB B.l.length cLB) (.slice oKB B.ks.length cKB) B.tk B.to B.x) ∧ n ≤ W.heap.size) := fun W b => ⟨(HOB.out.kept (b.mono (by have := HZ.out; omega))).lies, by have := b.size; have := HZ.out; omega⟩
  have B0 := Lib.hid (Below.refl w0.heap.size w0)
  obtain ⟨x8, x0, x1, x2, x3, x4, x5, x6, x7⟩ := HXA.out.kept B0.out (by have := HZ.out; omega)
  obtain ⟨y8, y0, y1, y2, y3, y4, y5, y6, y7⟩ := HXB.out.kept B0.out (by have := HZ.out; omega)
  go_wp2_with fail
  refine (Great_any (LA.out _ B0.out).1 (LA.out _ B0.out).2).mono ?_
  rintro e w_1 ⟨g_1, rfl, hs_1, b_1⟩
  have B1 := Lib.hid (B0.out.trans (b_1.mono B0.out.size))
  clear b_1
  clear x8 x0 x1 x2 x3 x4 x5 x6 x7 y8 y0 y1 y2 y3 y4 y5 y6 y7
  obtain ⟨x8, x0, x1, x2, x3, x4, x5, x6, x7⟩ := HXA.out.kept B1.out (by have := HZ.out; omega)
  obtain ⟨y8, y0, y1, y2, y3, y4, y5, y6, y7⟩ := HXB.out.kept B1.out (by have := HZ.out; omega)
  cases g_1 with
  | true =>
    clear hs_1
    go_wp2_with fail
    refine (awake_any _).mono ?_
    rintro e wz ⟨rfl, bz⟩
    have BZ := Lib.hid (HW.out.trans ((B1.out.trans (bz.mono B1.out.size)).mono HW.out.size))
    clear bz
    go_wp2_with fail
    go_ret
    exact ⟨rfl, BZ.out⟩
  | false =>
    have hzA := hs_1 rfl
    clear hs_1
    go_wp2_with fail
    refine (Great_any (LB.out _ B1.out).1 (LB.out _ B1.out).2).mono ?_
    rintro e w_2 ⟨g_2, rfl, hs_2, b_2⟩
    have B2 := Lib.hid (B1.out.trans (b_2.mono B1.out.size))
    clear b_2
    clear x8 x0 x1 x2 x3 x4 x5 x6 x7 y8 y0 y1 y2 y3 y4 y5 y6 y7
    obtain ⟨x8, x0, x1, x2, x3, x4, x5, x6, x7⟩ := HXA.out.kept B2.out (by have := HZ.out; omega)
    obtain ⟨y8, y0, y1, y2, y3, y4, y5, y6, y7⟩ := HXB.out.kept B2.out (by have := HZ.out; omega)
    cases g_2 with
    | true =>
      clear hs_2
      go_wp2_with fail
      refine (awake_any _).mono ?_
      rintro e wz ⟨rfl, bz⟩
      have BZ := Lib.hid (HW.out.trans ((B2.out.trans (bz.mono B2.out.size)).mono HW.out.size))
      clear bz
      go_wp2_with fail
      go_ret
      exact ⟨rfl, BZ.out⟩
    | false =>
      have hzB := hs_2 rfl
      clear hs_2
      cases hcA : chk A with
      | false =>
        have C := fun W (b : Below w0.heap.size w0 W) => rCheck_any n A _ W (by omega) (LA.out W b).1 (LA.out W b).2
        rw [hcA] at C
        have HC := Lib.hid C
        clear C hcA
        go_wp2_with fail
        refine (HC.out _ B2.out).mono ?_
        rintro e w_3 ⟨rfl, b_3⟩
        have B3 := Lib.hid (B2.out.trans (b_3.mono B2.out.size))
        clear b_3
        clear x8 x0 x1 x2 x3 x4 x5 x6 x7 y8 y0 y1 y2 y3 y4 y5 y6 y7
        obtain ⟨x8, x0, x1, x2, x3, x4, x5, x6, x7⟩ := HXA.out.kept B3.out (by have := HZ.out; omega)
        obtain ⟨y8, y0, y1, y2, y3, y4, y5, y6, y7⟩ := HXB.out.kept B3.out (by have := HZ.out; omega)
        go_wp2_with fail
        refine (awake_any _).mono ?_
        rintro e wz ⟨rfl, bz⟩
        have BZ := Lib.hid (HW.out.trans ((B3.out.trans (bz.mono B3.out.size)).mono HW.out.size))
        clear bz
        go_wp2_with fail
        go_ret
        exact ⟨rfl, BZ.out⟩
      | true =>
        have HCA := Lib.hid hcA
        have C := fun W (b : Below w0.heap.size w0 W) => rCheck_any n A _ W (by omega) (LA.out W b).1 (LA.out W b).2
        rw [hcA] at C
        have HC := Lib.hid C
        clear C hcA
        go_wp2_with fail
        refine (HC.out _ B2.out).mono ?_
        rintro e w_3 ⟨rfl, b_3⟩
        have B3 := Lib.hid (B2.out.trans (b_3.mono B2.out.size))
        clear b_3
        clear x8 x0 x1 x2 x3 x4 x5 x6 x7 y8 y0 y1 y2 y3 y4 y5 y6 y7
        obtain ⟨x8, x0, x1, x2, x3, x4, x5, x6, x7⟩ := HXA.out.kept B3.out (by have := HZ.out; omega)
        obtain ⟨y8, y0, y1, y2, y3, y4, y5, y6, y7⟩ := HXB.out.kept B3.out (by have := HZ.out; omega)
        clear HC
        cases hcB : chk B with
        | false =>
          have C := fun W (b : Below w0.heap.size w0 W) => rCheck_any n B _ W (by omega) (LB.out W b).1 (LB.out W b).2
          rw [hcB] at C
          have HC := Lib.hid C
          clear C hcB
          go_wp2_with fail
          refine (HC.out _ B3.out).mono ?_
          rintro e w_4 ⟨rfl, b_4⟩
          have B4 := Lib.hid (B3.out.trans (b_4.mono B3.out.size))
          clear b_4
          clear x8 x0 x1 x2 x3 x4 x5 x6 x7 y8 y0 y1 y2 y3 y4 y5 y6 y7
          obtain ⟨x8, x0, x1, x2, x3, x4, x5, x6, x7⟩ := HXA.out.kept B4.out (by have := HZ.out; omega)
          obtain ⟨y8, y0, y1, y2, y3, y4, y5, y6, y7⟩ := HXB.out.kept B4.out (by have := HZ.out; omega)
          go_wp2_with fail
          refine (awake_any _).mono ?_
          rintro e wz ⟨rfl, bz⟩
          have BZ := Lib.hid (HW.out.trans ((B4.out.trans (bz.mono B4.out.size)).mono HW.out.size))
          clear bz
          go_wp2_with fail
          go_ret
          exact ⟨rfl, BZ.out⟩
        | true =>
          have HCB := Lib.hid hcB
          have C := fun W (b : Below w0.heap.size w0 W) => rCheck_any n B _ W (by omega) (LB.out W b).1 (LB.out W b).2
          rw [hcB] at C
          have HC := Lib.hid C
          clear C hcB
          go_wp2_with fail
          refine (HC.out _ B3.out).mono ?_
          rintro e w_4 ⟨rfl, b_4⟩
          have B4 := Lib.hid (B3.out.trans (b_4.mono B3.out.size))
          clear b_4
          clear x8 x0 x1 x2 x3 x4 x5 x6 x7 y8 y0 y1 y2 y3 y4 y5 y6 y7
          obtain ⟨x8, x0, x1, x2, x3, x4, x5, x6, x7⟩ := HXA.out.kept B4.out (by have := HZ.out; omega)
          obtain ⟨y8, y0, y1, y2, y3, y4, y5, y6, y7⟩ := HXB.out.kept B4.out (by have := HZ.out; omega)
          clear HC
          go_upto_region 3 with fail
          obtain ⟨N, hN⟩ : ∃ N, N = w_4.heap.size := ⟨_, rfl⟩
          have S0 := held_at hN
          have lA : w.heap.size < N := by have := B4.out.size; have := HZ.out; omega
          have lB : w.heap.size + 1 < N := by have := B4.out.size; have := HZ.out; omega
          have HN := Lib.hid hN
          clear hN
          have LW : Hid (∀ W, Held N w_4 W → Below w0.heap.size w0 W) := fun W h => B4.out.trans (h.2.1.out.mono (by rw [HN.out]; exact B4.out.size))
          have OKs : Hid (okT 8 A = true ∧ okT 8 B = true) := by
            have e1 := HCA.out
            have e2 := HCB.out
            unfold chk at e1 e2
            rw [Bool.and_eq_true] at e1 e2
            exact ⟨e1.2, e2.2⟩
          obtain ⟨R, hR⟩ : ∃ R, R = refV A B := ⟨_, rfl⟩
          have CAB : Hid (∀ W, Held N w_4 W → Calls Try.prog 24 #[vv A.k A.i A.s (.slice oLA A.l.length cLA) (.slice oKA A.ks.length cKA) A.tk A.to A.x, vv B.k B.i B.s (.slice oLB B.l.length cLB) (.slice oKB B.ks.length cKB) B.tk B.to B.x] W fun e w' => e = .returned ((.bool R)) ∧ Below W.heap.size W w') := fun W h => by
            rw [hR]
            exact refines_any 1300 n A B _ _ W (by omega) (LA.out W (LW.out W h)).1 (LB.out W (LW.out W h)).1 (LA.out W (LW.out W h)).2
          have CRR : Hid (∀ W, Held N w_4 W → Calls Try.prog 25 #[vv A.k A.i A.s (.slice oLA A.l.length cLA) (.slice oKA A.ks.length cKA) A.tk A.to A.x, vv B.k B.i B.s (.slice oLB B.l.length cLB) (.slice oKB B.ks.length cKB) B.tk B.to B.x] W fun e w' => e = .returned ((.bool R)) ∧ Below W.heap.size W w') := fun W h => by
            rw [hR]
            exact rrefines_any 1300 n A B _ _ W 8 8 OKs.out.1 OKs.out.2 (by omega) (LA.out W (LW.out W h)).1 (LB.out W (LW.out W h)).1 (LA.out W (LW.out W h)).2
          have CAA : Hid (∀ W, Held N w_4 W → Calls Try.prog 24 #[vv A.k A.i A.s (.slice oLA A.l.length cLA) (.slice oKA A.ks.length cKA) A.tk A.to A.x, vv A.k A.i A.s (.slice oLA A.l.length cLA) (.slice oKA A.ks.length cKA) A.tk A.to A.x] W fun e w' => e = .returned ((.bool true)) ∧ Below W.heap.size W w') := fun W h => by
            have c := refines_any 1300 n A A _ _ W (by omega) (LA.out W (LW.out W h)).1 (LA.out W (LW.out W h)).1 (LA.out W (LW.out W h)).2
            rw [ref_self A 8 OKs.out.1] at c
            exact c
          obtain ⟨T, hT⟩ : ∃ T, T = typeOf A := ⟨_, rfl⟩
          obtain ⟨ta, tb⟩ := T
          have hOK : Typ.okB ta tb = true := by have := ok_typeOf A 8 OKs.out.1; rw [← hT] at this; exact this
          have hFT : refV A (unk ta tb) = true := by rw [ref_unk]; have := fits_typeOf A 8 OKs.out.1; rw [← hT] at this; exact this
          have hF0 : refV A (unk 0 0) = true := by rw [ref_unk, fits_eq, if_pos rfl]
          have CTY : Hid (∀ W, Held N w_4 W → Calls Try.prog 27 #[vv A.k A.i A.s (.slice oLA A.l.length cLA) (.slice oKA A.ks.length cKA) A.tk A.to A.x] W fun e w' => e = .returned (Typ.ty ta tb) ∧ Below W.heap.size W w') := fun W h => by
            have c := typeOf_any 1300 n A _ W (by omega) (LA.out W (LW.out W h)).1 (LA.out W (LW.out W h)).2
            rw [← hT] at c
            exact c
          have CUN : Hid (∀ W, Held N w_4 W → Calls Try.prog 26 #[Typ.ty ta tb] W fun e w' => e = .returned (vv 6 0 ⟨#[]⟩ (.slice none 0 0) (.slice none 0 0) ta tb false) ∧ Below W.heap.size W w') := fun W h => by
            exact unk_any ta tb W
          have CU0 : Hid (∀ W, Held N w_4 W → Calls Try.prog 26 #[Typ.ty 0 0] W fun e w' => e = .returned (vv 6 0 ⟨#[]⟩ (.slice none 0 0) (.slice none 0 0) 0 0 false) ∧ Below W.heap.size W w') := fun W h => by
            exact unk_any 0 0 W
          have CAU : Hid (∀ W, Held N w_4 W → Calls Try.prog 24 #[vv A.k A.i A.s (.slice oLA A.l.length cLA) (.slice oKA A.ks.length cKA) A.tk A.to A.x, vv 6 0 ⟨#[]⟩ (.slice none 0 0) (.slice none 0 0) ta tb false] W fun e w' => e = .returned ((.bool true)) ∧ Below W.heap.size W w') := fun W h => by
            have c := refines_any 1300 n A (unk ta tb) _ _ W (by rw [sz_unk]; omega) (LA.out W (LW.out W h)).1 (unk_lies n W hOK) (LA.out W (LW.out W h)).2
            rw [hFT] at c
            exact c
          have CA0 : Hid (∀ W, Held N w_4 W → Calls Try.prog 24 #[vv A.k A.i A.s (.slice oLA A.l.length cLA) (.slice oKA A.ks.length cKA) A.tk A.to A.x, vv 6 0 ⟨#[]⟩ (.slice none 0 0) (.slice none 0 0) 0 0 false] W fun e w' => e = .returned ((.bool true)) ∧ Below W.heap.size W w') := fun W h => by
            have c := refines_any 1300 n A (unk 0 0) _ _ W (by rw [sz_unk]; omega) (LA.out W (LW.out W h)).1 (unk_lies n W (by decide)) (LA.out W (LW.out W h)).2
            rw [hF0] at c
            exact c
          clear hOK hFT hF0 hT hR
          cases R with
          | true =>
            skip
            refine wp_region_noPanic ?_
            refine wp_region_held_drew (S := (fun W => (∀ b o, b < N → W.cell? ⟨b, o, none⟩ = w_4.cell? ⟨b, o, none⟩) ∧ Hid (Below N w_4 W) ∧ Hid (N ≤ W.heap.size))) (by kernel_rfl) ?_ (fun hH => ?_)
            · exact S0
            refine wpAnyH_take (i := 0) (oi := { dst := some 22, op := Op.load 27 (Operand.tmp 2), type := 27, pos := "law.go:89", after := #[], guard := none }) (v := ?_) rfl (by kernel_rfl) (by kernel_rfl) (by kernel_rfl) (fun _ _ _ h => h) (Or.inl ⟨by rfl, ?_⟩) (by assumption) ?_
            rotate_left
            · (intro w hSw; (try dsimp only at hSw); go_simp; try with_reducible rfl)
            try simp only [Act.put, List.setIfInBounds_toArray, List.set_cons_zero, List.set_cons_succ]
            refine wpAnyH_take (i := 1) (oi := { dst := some 23, op := Op.load 27 (Operand.tmp 3), type := 27, pos := "law.go:89", after := #[], guard := none }) (v := ?_) rfl (by kernel_rfl) (by kernel_rfl) (by kernel_rfl) (fun _ _ _ h => h) (Or.inl ⟨by rfl, ?_⟩) (by assumption) ?_
            rotate_left
            · (intro w hSw; (try dsimp only at hSw); go_simp; try with_reducible rfl)
            try simp only [Act.put, List.setIfInBounds_toArray, List.set_cons_zero, List.set_cons_succ]
            refine wpAnyH_take (i := 3) (oi := { dst := some 25, op := Op.load 27 (Operand.tmp 2), type := 27, pos := "law.go:89", after := #[], guard := none }) (v := ?_) rfl (by kernel_rfl) (by kernel_rfl) (by kernel_rfl) (fun _ _ _ h => h) (Or.inl ⟨by rfl, ?_⟩) (by assumption) ?_
            rotate_left
            · (intro w hSw; (try dsimp only at hSw); go_simp; try with_reducible rfl)
            try simp only [Act.put, List.setIfInBounds_toArray, List.set_cons_zero, List.set_cons_succ]
            refine wpAnyH_take (i := 4) (oi := { dst := some 26, op := Op.load 27 (Operand.tmp 3), type := 27, pos := "law.go:89", after := #[], guard := none }) (v := ?_) rfl (by kernel_rfl) (by kernel_rfl) (by kernel_rfl) (fun _ _ _ h => h) (Or.inl ⟨by rfl, ?_⟩) (by assumption) ?_
            rotate_left
            · (intro w hSw; (try dsimp only at hSw); go_simp; try with_reducible rfl)
            try simp only [Act.put, List.setIfInBounds_toArray, List.set_cons_zero, List.set_cons_succ]
            refine wpAnyH_ready (rs := [2]) (by kernel_rfl) (by simp) ?_
            refine AllReadyH.cons (o := { dst := some 24, op := Op.call { callee := Callee.value (Operand.func 24), args := #[Operand.tmp 22, Operand.tmp 23], argTypes := #[27, 27] }, type := 4, pos := "law.go:89", after := #[{ on := 0, ground := Ground.data }, { on := 1, ground := Ground.data }], guard := none }) rfl (fun K hK => ?_) AllReadyH.nil
            go_simp
            refine (CAB.out _ hH).mono ?_
            rintro e W_0 ⟨rfl, b⟩
            refine hK.out _ _ ?_ (fun hH' => ?_)
            · exact held_next (by assumption) hH
            clear hK K hH
            have hH := hH'
            clear hH'
            try simp only [Act.put, List.setIfInBounds_toArray, List.set_cons_zero, List.set_cons_succ]
            refine wpAnyH_ready (rs := [5]) (by kernel_rfl) (by simp) ?_
            refine AllReadyH.cons (o := { dst := some 27, op := Op.call { callee := Callee.value (Operand.func 25), args := #[Operand.tmp 25, Operand.tmp 26], argTypes := #[27, 27] }, type := 4, pos := "law.go:89", after := #[{ on := 3, ground := Ground.data }, { on := 4, ground := Ground.data }, { on := 2, ground := Ground.chain }], guard := none }) rfl (fun K hK => ?_) AllReadyH.nil
            go_simp
            refine (CRR.out _ hH).mono ?_
            rintro e W_1 ⟨rfl, b⟩
            refine hK.out _ _ ?_ (fun hH' => ?_)
            · exact held_next (by assumption) hH
            clear hK K hH
            have hH := hH'
            clear hH'
            try simp only [Act.put, List.setIfInBounds_toArray, List.set_cons_zero, List.set_cons_succ]
            refine wpAnyH_take (i := 6) (oi := { dst := some 28, op := Op.binOp BinOp.eql 4 (Operand.tmp 24) (Operand.tmp 27) 4, type := 4, pos := "law.go:89", after := #[{ on := 2, ground := Ground.data }, { on := 5, ground := Ground.data }], guard := none }) (v := ?_) rfl (by kernel_rfl) (by kernel_rfl) (by kernel_rfl) (fun _ _ _ h => h) (Or.inl ⟨by rfl, ?_⟩) (by assumption) ?_
            rotate_left
            · (intro w hSw; (try dsimp only at hSw); go_simp; try with_reducible rfl)
            try simp only [Act.put, List.setIfInBounds_toArray, List.set_cons_zero, List.set_cons_succ]
            refine wpAnyH_take (i := 7) (oi := { dst := some 29, op := Op.move (Operand.tmp 28), type := 4, pos := "law.go:89", after := #[{ on := 6, ground := Ground.data }, { on := 5, ground := Ground.chain }], guard := none }) (v := ?_) rfl (by kernel_rfl) (by kernel_rfl) (by kernel_rfl) (fun _ _ _ h => h) (Or.inl ⟨by rfl, ?_⟩) (by assumption) ?_
            rotate_left
            · (intro w hSw; (try dsimp only at hSw); go_simp; try with_reducible rfl)
            try simp only [Act.put, List.setIfInBounds_toArray, List.set_cons_zero, List.set_cons_succ]
            refine wpAnyH_take (i := 8) (oi := { dst := some 30, op := Op.load 27 (Operand.tmp 2), type := 27, pos := "law.go:89", after := #[{ on := 7, ground := Ground.guard }], guard := some (7, true) }) (v := ?_) rfl (by kernel_rfl) (by kernel_rfl) (by kernel_rfl) (fun _ _ _ h => h) (Or.inl ⟨by rfl, ?_⟩) (by assumption) ?_
            rotate_left
            · (intro w hSw; (try dsimp only at hSw); go_simp; try with_reducible rfl)
            try simp only [Act.put, List.setIfInBounds_toArray, List.set_cons_zero, List.set_cons_succ]
            refine wpAnyH_take (i := 9) (oi := { dst := some 31, op := Op.load 27 (Operand.tmp 2), type := 27, pos := "law.go:89", after := #[{ on := 7, ground := Ground.guard }], guard := some (7, true) }) (v := ?_) rfl (by kernel_rfl) (by kernel_rfl) (by kernel_rfl) (fun _ _ _ h => h) (Or.inl ⟨by rfl, ?_⟩) (by assumption) ?_
            rotate_left
            · (intro w hSw; (try dsimp only at hSw); go_simp; try with_reducible rfl)
            try simp only [Act.put, List.setIfInBounds_toArray, List.set_cons_zero, List.set_cons_succ]
            refine wpAnyH_ready (rs := [10]) (by kernel_rfl) (by simp) ?_
            refine AllReadyH.cons (o := { dst := some 32, op := Op.call { callee := Callee.value (Operand.func 24), args := #[Operand.tmp 30, Operand.tmp 31], argTypes := #[27, 27] }, type := 4, pos := "law.go:89", after := #[{ on := 8, ground := Ground.data }, { on := 9, ground := Ground.data }, { on := 7, ground := Ground.chain }, { on := 7, ground := Ground.guard }], guard := some (7, true) }) rfl (fun K hK => ?_) AllReadyH.nil
            go_simp
            refine (CAA.out _ hH).mono ?_
            rintro e W_2 ⟨rfl, b⟩
            refine hK.out _ _ ?_ (fun hH' => ?_)
            · exact held_next (by assumption) hH
            clear hK K hH
            have hH := hH'
            clear hH'
            try simp only [Act.put, List.setIfInBounds_toArray, List.set_cons_zero, List.set_cons_succ]
            refine wpAnyH_take (i := 11) (oi := { dst := some 33, op := Op.pick (Operand.tmp 29) (Operand.tmp 32) (Operand.const (Value.bool false)), type := 4, pos := "law.go:89", after := #[{ on := 7, ground := Ground.data }, { on := 10, ground := Ground.data }], guard := none }) (v := ?_) rfl (by kernel_rfl) (by kernel_rfl) (by kernel_rfl) (fun _ _ _ h => h) (Or.inl ⟨by rfl, ?_⟩) (by assumption) ?_
            rotate_left
            · (intro w hSw; (try dsimp only at hSw); go_simp; try with_reducible rfl)
            try simp only [Act.put, List.setIfInBounds_toArray, List.set_cons_zero, List.set_cons_succ]
            refine wpAnyH_take (i := 12) (oi := { dst := some 34, op := Op.move (Operand.tmp 33), type := 4, pos := "law.go:89", after := #[{ on := 11, ground := Ground.data }, { on := 10, ground := Ground.chain }], guard := none }) (v := ?_) rfl (by kernel_rfl) (by kernel_rfl) (by kernel_rfl) (fun _ _ _ h => h) (Or.inl ⟨by rfl, ?_⟩) (by assumption) ?_
            rotate_left
            · (intro w hSw; (try dsimp only at hSw); go_simp; try with_reducible rfl)
            try simp only [Act.put, List.setIfInBounds_toArray, List.set_cons_zero, List.set_cons_succ]
            refine wpAnyH_take (i := 13) (oi := { dst := some 35, op := Op.load 27 (Operand.tmp 2), type := 27, pos := "law.go:89", after := #[{ on := 12, ground := Ground.guard }], guard := some (12, true) }) (v := ?_) rfl (by kernel_rfl) (by kernel_rfl) (by kernel_rfl) (fun _ _ _ h => h) (Or.inl ⟨by rfl, ?_⟩) (by assumption) ?_
            rotate_left
            · (intro w hSw; (try dsimp only at hSw); go_simp; try with_reducible rfl)
            try simp only [Act.put, List.setIfInBounds_toArray, List.set_cons_zero, List.set_cons_succ]
            refine wpAnyH_take (i := 14) (oi := { dst := some 36, op := Op.load 27 (Operand.tmp 2), type := 27, pos := "law.go:89", after := #[{ on := 12, ground := Ground.guard }], guard := some (12, true) }) (v := ?_) rfl (by kernel_rfl) (by kernel_rfl) (by kernel_rfl) (fun _ _ _ h => h) (Or.inl ⟨by rfl, ?_⟩) (by assumption) ?_
            rotate_left
            · (intro w hSw; (try dsimp only at hSw); go_simp; try with_reducible rfl)
            try simp only [Act.put, List.setIfInBounds_toArray, List.set_cons_zero, List.set_cons_succ]
            refine wpAnyH_ready (rs := [15]) (by kernel_rfl) (by simp) ?_
            refine AllReadyH.cons (o := { dst := some 37, op := Op.call { callee := Callee.value (Operand.func 27), args := #[Operand.tmp 36], argTypes := #[27] }, type := 25, pos := "law.go:89", after := #[{ on := 14, ground := Ground.data }, { on := 12, ground := Ground.chain }, { on := 12, ground := Ground.guard }], guard := some (12, true) }) rfl (fun K hK => ?_) AllReadyH.nil
            go_simp
            refine (CTY.out _ hH).mono ?_
            rintro e W_3 ⟨rfl, b⟩
            refine hK.out _ _ ?_ (fun hH' => ?_)
            · exact held_next (by assumption) hH
            clear hK K hH
            have hH := hH'
            clear hH'
            try simp only [Act.put, List.setIfInBounds_toArray, List.set_cons_zero, List.set_cons_succ]
            refine wpAnyH_ready (rs := [16]) (by kernel_rfl) (by simp) ?_
            refine AllReadyH.cons (o := { dst := some 38, op := Op.call { callee := Callee.value (Operand.func 26), args := #[Operand.tmp 37], argTypes := #[25] }, type := 27, pos := "law.go:89", after := #[{ on := 15, ground := Ground.data }, { on := 15, ground := Ground.chain }, { on := 12, ground := Ground.guard }], guard := some (12, true) }) rfl (fun K hK => ?_) AllReadyH.nil
            go_simp
            refine (CUN.out _ hH).mono ?_
            rintro e W_4 ⟨rfl, b⟩
            refine hK.out _ _ ?_ (fun hH' => ?_)
            · exact held_next (by assumption) hH
            clear hK K hH
            have hH := hH'
            clear hH'
            try simp only [Act.put, List.setIfInBounds_toArray, List.set_cons_zero, List.set_cons_succ]
            refine wpAnyH_ready (rs := [17]) (by kernel_rfl) (by simp) ?_
            refine AllReadyH.cons (o := { dst := some 39, op := Op.call { callee := Callee.value (Operand.func 24), args := #[Operand.tmp 35, Operand.tmp 38], argTypes := #[27, 27] }, type := 4, pos := "law.go:89", after := #[{ on := 13, ground := Ground.data }, { on := 16, ground := Ground.data }, { on := 16, ground := Ground.chain }, { on := 12, ground := Ground.guard }], guard := some (12, true) }) rfl (fun K hK => ?_) AllReadyH.nil
            go_simp
            refine (CAU.out _ hH).mono ?_
            rintro e W_5 ⟨rfl, b⟩
            refine hK.out _ _ ?_ (fun hH' => ?_)
            · exact held_next (by assumption) hH
            clear hK K hH
            have hH := hH'
            clear hH'
            try simp only [Act.put, List.setIfInBounds_toArray, List.set_cons_zero, List.set_cons_succ]
            refine wpAnyH_take (i := 18) (oi := { dst := some 40, op := Op.pick (Operand.tmp 34) (Operand.tmp 39) (Operand.const (Value.bool false)), type := 4, pos := "law.go:89", after := #[{ on := 12, ground := Ground.data }, { on := 17, ground := Ground.data }], guard := none }) (v := ?_) rfl (by kernel_rfl) (by kernel_rfl) (by kernel_rfl) (fun _ _ _ h => h) (Or.inl ⟨by rfl, ?_⟩) (by assumption) ?_
            rotate_left
            · (intro w hSw; (try dsimp only at hSw); go_simp; try with_reducible rfl)
            try simp only [Act.put, List.setIfInBounds_toArray, List.set_cons_zero, List.set_cons_succ]
            refine wpAnyH_take (i := 19) (oi := { dst := some 41, op := Op.move (Operand.tmp 40), type := 4, pos := "law.go:89", after := #[{ on := 18, ground := Ground.data }, { on := 17, ground := Ground.chain }], guard := none }) (v := ?_) rfl (by kernel_rfl) (by kernel_rfl) (by kernel_rfl) (fun _ _ _ h => h) (Or.inl ⟨by rfl, ?_⟩) (by assumption) ?_
            rotate_left
            · (intro w hSw; (try dsimp only at hSw); go_simp; try with_reducible rfl)
            try simp only [Act.put, List.setIfInBounds_toArray, List.set_cons_zero, List.set_cons_succ]
            refine wpAnyH_take (i := 20) (oi := { dst := some 42, op := Op.load 27 (Operand.tmp 2), type := 27, pos := "law.go:89", after := #[{ on := 19, ground := Ground.guard }], guard := some (19, true) }) (v := ?_) rfl (by kernel_rfl) (by kernel_rfl) (by kernel_rfl) (fun _ _ _ h => h) (Or.inl ⟨by rfl, ?_⟩) (by assumption) ?_
            rotate_left
            · (intro w hSw; (try dsimp only at hSw); go_simp; try with_reducible rfl)
            try simp only [Act.put, List.setIfInBounds_toArray, List.set_cons_zero, List.set_cons_succ]
            refine wpAnyH_take (i := 21) (oi := { dst := some 43, op := Op.build 25 #[], type := 25, pos := "law.go:89", after := #[{ on := 19, ground := Ground.guard }], guard := some (19, true) }) (v := ?_) rfl (by kernel_rfl) (by kernel_rfl) (by kernel_rfl) (fun _ _ _ h => h) (Or.inl ⟨by rfl, ?_⟩) (by assumption) ?_
            rotate_left
            · (intro w hSw; (try dsimp only at hSw); go_simp; try with_reducible rfl)
            try simp only [Act.put, List.setIfInBounds_toArray, List.set_cons_zero, List.set_cons_succ]
            refine wpAnyH_ready (rs := [22]) (by kernel_rfl) (by simp) ?_
            refine AllReadyH.cons (o := { dst := some 44, op := Op.call { callee := Callee.value (Operand.func 26), args := #[Operand.tmp 43], argTypes := #[25] }, type := 27, pos := "law.go:89", after := #[{ on := 21, ground := Ground.data }, { on := 19, ground := Ground.chain }, { on := 19, ground := Ground.guard }], guard := some (19, true) }) rfl (fun K hK => ?_) AllReadyH.nil
            go_simp
            refine (CU0.out _ hH).mono ?_
            rintro e W_6 ⟨rfl, b⟩
            refine hK.out _ _ ?_ (fun hH' => ?_)
            · exact held_next (by assumption) hH
            clear hK K hH
            have hH := hH'
            clear hH'
            try simp only [Act.put, List.setIfInBounds_toArray, List.set_cons_zero, List.set_cons_succ]
            refine wpAnyH_ready (rs := [23]) (by kernel_rfl) (by simp) ?_
            refine AllReadyH.cons (o := { dst := some 45, op := Op.call { callee := Callee.value (Operand.func 24), args := #[Operand.tmp 42, Operand.tmp 44], argTypes := #[27, 27] }, type := 4, pos := "law.go:89", after := #[{ on := 20, ground := Ground.data }, { on := 22, ground := Ground.data }, { on := 22, ground := Ground.chain }, { on := 19, ground := Ground.guard }], guard := some (19, true) }) rfl (fun K hK => ?_) AllReadyH.nil
            go_simp
            refine (CA0.out _ hH).mono ?_
            rintro e W_7 ⟨rfl, b⟩
            refine hK.out _ _ ?_ (fun hH' => ?_)
            · exact held_next (by assumption) hH
            clear hK K hH
            have hH := hH'
            clear hH'
            try simp only [Act.put, List.setIfInBounds_toArray, List.set_cons_zero, List.set_cons_succ]
            refine wpAnyH_take (i := 24) (oi := { dst := some 46, op := Op.pick (Operand.tmp 41) (Operand.tmp 45) (Operand.const (Value.bool false)), type := 4, pos := "law.go:89", after := #[{ on := 19, ground := Ground.data }, { on := 23, ground := Ground.data }], guard := none }) (v := ?_) rfl (by kernel_rfl) (by kernel_rfl) (by kernel_rfl) (fun _ _ _ h => h) (Or.inl ⟨by rfl, ?_⟩) (by assumption) ?_
            rotate_left
            · (intro w hSw; (try dsimp only at hSw); go_simp; try with_reducible rfl)
            try simp only [Act.put, List.setIfInBounds_toArray, List.set_cons_zero, List.set_cons_succ]
            refine wpAnyH_take (i := 25) (oi := { dst := some 47, op := Op.move (Operand.tmp 46), type := 4, pos := "law.go:89", after := #[{ on := 24, ground := Ground.data }, { on := 23, ground := Ground.chain }], guard := none }) (v := ?_) rfl (by kernel_rfl) (by kernel_rfl) (by kernel_rfl) (fun _ _ _ h => h) (Or.inl ⟨by rfl, ?_⟩) (by assumption) ?_
            rotate_left
            · (intro w hSw; (try dsimp only at hSw); go_simp; try with_reducible rfl)
            try simp only [Act.put, List.setIfInBounds_toArray, List.set_cons_zero, List.set_cons_succ]
            refine wpAnyH_ready (rs := [26]) (by kernel_rfl) (by simp) ?_
            refine AllReadyH.cons (o := { dst := some 48, op := Op.call { callee := Callee.value (Operand.func 11), args := #[], argTypes := #[] }, type := 4, pos := "law.go:89", after := #[{ on := 25, ground := Ground.chain }, { on := 25, ground := Ground.guard }], guard := some (25, true) }) rfl (fun K hK => ?_) AllReadyH.nil
            go_simp
            refine (awake_any _).mono ?_
            rintro e W_8 ⟨rfl, b⟩
            refine hK.out _ _ ?_ (fun hH' => ?_)
            · exact held_next (by assumption) hH
            clear hK K hH
            have hH := hH'
            clear hH'
            try simp only [Act.put, List.setIfInBounds_toArray, List.set_cons_zero, List.set_cons_succ]
            refine wpAnyH_take (i := 27) (oi := { dst := some 49, op := Op.pick (Operand.tmp 47) (Operand.tmp 48) (Operand.const (Value.bool false)), type := 4, pos := "law.go:89", after := #[{ on := 25, ground := Ground.data }, { on := 26, ground := Ground.data }], guard := none }) (v := ?_) rfl (by kernel_rfl) (by kernel_rfl) (by kernel_rfl) (fun _ _ _ h => h) (Or.inl ⟨by rfl, ?_⟩) (by assumption) ?_
            rotate_left
            · (intro w hSw; (try dsimp only at hSw); go_simp; try with_reducible rfl)
            try simp only [Act.put, List.setIfInBounds_toArray, List.set_cons_zero, List.set_cons_succ]
            refine wpAnyH_take (i := 28) (oi := { dst := some 4, op := Op.assign (Operand.tmp 49), type := 4, pos := "law.go:89", after := #[{ on := 27, ground := Ground.data }, { on := 26, ground := Ground.chain }, { on := 0, ground := Ground.phase }, { on := 1, ground := Ground.phase }, { on := 2, ground := Ground.phase }, { on := 3, ground := Ground.phase }, { on := 4, ground := Ground.phase }, { on := 5, ground := Ground.phase }, { on := 6, ground := Ground.phase }, { on := 7, ground := Ground.phase }, { on := 8, ground := Ground.phase }, { on := 9, ground := Ground.phase }, { on := 10, ground := Ground.phase }, { on := 11, ground := Ground.phase }, { on := 12, ground := Ground.phase }, { on := 13, ground := Ground.phase }, { on := 14, ground := Ground.phase }, { on := 15, ground := Ground.phase }, { on := 16, ground := Ground.phase }, { on := 17, ground := Ground.phase }, { on := 18, ground := Ground.phase }, { on := 19, ground := Ground.phase }, { on := 20, ground := Ground.phase }, { on := 21, ground := Ground.phase }, { on := 22, ground := Ground.phase }, { on := 23, ground := Ground.phase }, { on := 24, ground := Ground.phase }, { on := 25, ground := Ground.phase }, { on := 26, ground := Ground.phase }, { on := 27, ground := Ground.phase }], guard := none }) (v := ?_) rfl (by kernel_rfl) (by kernel_rfl) (by kernel_rfl) (fun _ _ _ h => h) (Or.inl ⟨by rfl, ?_⟩) (by assumption) ?_
            rotate_left
            · (intro w hSw; (try dsimp only at hSw); go_simp; try with_reducible rfl)
            try simp only [Act.put, List.setIfInBounds_toArray, List.set_cons_zero, List.set_cons_succ]
            refine wpAnyH_done (by kernel_rfl) ?_ _
            refine NoPanic.normal ?_
            have BZ := Lib.hid (HW.out.trans ((LW.out _ hH).mono HW.out.size))
            clear S0 hH
            go_wp2_with fail
            go_ret
            exact ⟨rfl, BZ.out⟩
          | false =>
            skip
            refine wp_region_noPanic ?_
            refine wp_region_held_drew (S := (fun W => (∀ b o, b < N → W.cell? ⟨b, o, none⟩ = w_4.cell? ⟨b, o, none⟩) ∧ Hid (Below N w_4 W) ∧ Hid (N ≤ W.heap.size))) (by kernel_rfl) ?_ (fun hH => ?_)
            · exact S0
            refine wpAnyH_take (i := 0) (oi := { dst := some 22, op := Op.load 27 (Operand.tmp 2), type := 27, pos := "law.go:89", after := #[], guard := none }) (v := ?_) rfl (by kernel_rfl) (by kernel_rfl) (by kernel_rfl) (fun _ _ _ h => h) (Or.inl ⟨by rfl, ?_⟩) (by assumption) ?_
            rotate_left
            · (intro w hSw; (try dsimp only at hSw); go_simp; try with_reducible rfl)
            try simp only [Act.put, List.setIfInBounds_toArray, List.set_cons_zero, List.set_cons_succ]
            refine wpAnyH_take (i := 1) (oi := { dst := some 23, op := Op.load 27 (Operand.tmp 3), type := 27, pos := "law.go:89", after := #[], guard := none }) (v := ?_) rfl (by kernel_rfl) (by kernel_rfl) (by kernel_rfl) (fun _ _ _ h => h) (Or.inl ⟨by rfl, ?_⟩) (by assumption) ?_
            rotate_left
            · (intro w hSw; (try dsimp only at hSw); go_simp; try with_reducible rfl)
            try simp only [Act.put, List.setIfInBounds_toArray, List.set_cons_zero, List.set_cons_succ]
            refine wpAnyH_take (i := 3) (oi := { dst := some 25, op := Op.load 27 (Operand.tmp 2), type := 27, pos := "law.go:89", after := #[], guard := none }) (v := ?_) rfl (by kernel_rfl) (by kernel_rfl) (by kernel_rfl) (fun _ _ _ h => h) (Or.inl ⟨by rfl, ?_⟩) (by assumption) ?_
            rotate_left
            · (intro w hSw; (try dsimp only at hSw); go_simp; try with_reducible rfl)
            try simp only [Act.put, List.setIfInBounds_toArray, List.set_cons_zero, List.set_cons_succ]
            refine wpAnyH_take (i := 4) (oi := { dst := some 26, op := Op.load 27 (Operand.tmp 3), type := 27, pos := "law.go:89", after := #[], guard := none }) (v := ?_) rfl (by kernel_rfl) (by kernel_rfl) (by kernel_rfl) (fun _ _ _ h => h) (Or.inl ⟨by rfl, ?_⟩) (by assumption) ?_
            rotate_left
            · (intro w hSw; (try dsimp only at hSw); go_simp; try with_reducible rfl)
            try simp only [Act.put, List.setIfInBounds_toArray, List.set_cons_zero, List.set_cons_succ]
            refine wpAnyH_ready (rs := [2]) (by kernel_rfl) (by simp) ?_
            refine AllReadyH.cons (o := { dst := some 24, op := Op.call { callee := Callee.value (Operand.func 24), args := #[Operand.tmp 22, Operand.tmp 23], argTypes := #[27, 27] }, type := 4, pos := "law.go:89", after := #[{ on := 0, ground := Ground.data }, { on := 1, ground := Ground.data }], guard := none }) rfl (fun K hK => ?_) AllReadyH.nil
            go_simp
            refine (CAB.out _ hH).mono ?_
            rintro e W_0 ⟨rfl, b⟩
            refine hK.out _ _ ?_ (fun hH' => ?_)
            · exact held_next (by assumption) hH
            clear hK K hH
            have hH := hH'
            clear hH'
            try simp only [Act.put, List.setIfInBounds_toArray, List.set_cons_zero, List.set_cons_succ]
            refine wpAnyH_ready (rs := [5]) (by kernel_rfl) (by simp) ?_
            refine AllReadyH.cons (o := { dst := some 27, op := Op.call { callee := Callee.value (Operand.func 25), args := #[Operand.tmp 25, Operand.tmp 26], argTypes := #[27, 27] }, type := 4, pos := "law.go:89", after := #[{ on := 3, ground := Ground.data }, { on := 4, ground := Ground.data }, { on := 2, ground := Ground.chain }], guard := none }) rfl (fun K hK => ?_) AllReadyH.nil
            go_simp
            refine (CRR.out _ hH).mono ?_
            rintro e W_1 ⟨rfl, b⟩
            refine hK.out _ _ ?_ (fun hH' => ?_)
            · exact held_next (by assumption) hH
            clear hK K hH
            have hH := hH'
            clear hH'
            try simp only [Act.put, List.setIfInBounds_toArray, List.set_cons_zero, List.set_cons_succ]
            refine wpAnyH_take (i := 6) (oi := { dst := some 28, op := Op.binOp BinOp.eql 4 (Operand.tmp 24) (Operand.tmp 27) 4, type := 4, pos := "law.go:89", after := #[{ on := 2, ground := Ground.data }, { on := 5, ground := Ground.data }], guard := none }) (v := ?_) rfl (by kernel_rfl) (by kernel_rfl) (by kernel_rfl) (fun _ _ _ h => h) (Or.inl ⟨by rfl, ?_⟩) (by assumption) ?_
            rotate_left
            · (intro w hSw; (try dsimp only at hSw); go_simp; try with_reducible rfl)
            try simp only [Act.put, List.setIfInBounds_toArray, List.set_cons_zero, List.set_cons_succ]
            refine wpAnyH_take (i := 7) (oi := { dst := some 29, op := Op.move (Operand.tmp 28), type := 4, pos := "law.go:89", after := #[{ on := 6, ground := Ground.data }, { on := 5, ground := Ground.chain }], guard := none }) (v := ?_) rfl (by kernel_rfl) (by kernel_rfl) (by kernel_rfl) (fun _ _ _ h => h) (Or.inl ⟨by rfl, ?_⟩) (by assumption) ?_
            rotate_left
            · (intro w hSw; (try dsimp only at hSw); go_simp; try with_reducible rfl)
            try simp only [Act.put, List.setIfInBounds_toArray, List.set_cons_zero, List.set_cons_succ]
            refine wpAnyH_take (i := 8) (oi := { dst := some 30, op := Op.load 27 (Operand.tmp 2), type := 27, pos := "law.go:89", after := #[{ on := 7, ground := Ground.guard }], guard := some (7, true) }) (v := ?_) rfl (by kernel_rfl) (by kernel_rfl) (by kernel_rfl) (fun _ _ _ h => h) (Or.inl ⟨by rfl, ?_⟩) (by assumption) ?_
            rotate_left
            · (intro w hSw; (try dsimp only at hSw); go_simp; try with_reducible rfl)
            try simp only [Act.put, List.setIfInBounds_toArray, List.set_cons_zero, List.set_cons_succ]
            refine wpAnyH_take (i := 9) (oi := { dst := some 31, op := Op.load 27 (Operand.tmp 2), type := 27, pos := "law.go:89", after := #[{ on := 7, ground := Ground.guard }], guard := some (7, true) }) (v := ?_) rfl (by kernel_rfl) (by kernel_rfl) (by kernel_rfl) (fun _ _ _ h => h) (Or.inl ⟨by rfl, ?_⟩) (by assumption) ?_
            rotate_left
            · (intro w hSw; (try dsimp only at hSw); go_simp; try with_reducible rfl)
            try simp only [Act.put, List.setIfInBounds_toArray, List.set_cons_zero, List.set_cons_succ]
            refine wpAnyH_ready (rs := [10]) (by kernel_rfl) (by simp) ?_
            refine AllReadyH.cons (o := { dst := some 32, op := Op.call { callee := Callee.value (Operand.func 24), args := #[Operand.tmp 30, Operand.tmp 31], argTypes := #[27, 27] }, type := 4, pos := "law.go:89", after := #[{ on := 8, ground := Ground.data }, { on := 9, ground := Ground.data }, { on := 7, ground := Ground.chain }, { on := 7, ground := Ground.guard }], guard := some (7, true) }) rfl (fun K hK => ?_) AllReadyH.nil
            go_simp
            refine (CAA.out _ hH).mono ?_
            rintro e W_2 ⟨rfl, b⟩
            refine hK.out _ _ ?_ (fun hH' => ?_)
            · exact held_next (by assumption) hH
            clear hK K hH
            have hH := hH'
            clear hH'
            try simp only [Act.put, List.setIfInBounds_toArray, List.set_cons_zero, List.set_cons_succ]
            refine wpAnyH_take (i := 11) (oi := { dst := some 33, op := Op.pick (Operand.tmp 29) (Operand.tmp 32) (Operand.const (Value.bool false)), type := 4, pos := "law.go:89", after := #[{ on := 7, ground := Ground.data }, { on := 10, ground := Ground.data }], guard := none }) (v := ?_) rfl (by kernel_rfl) (by kernel_rfl) (by kernel_rfl) (fun _ _ _ h => h) (Or.inl ⟨by rfl, ?_⟩) (by assumption) ?_
            rotate_left
            · (intro w hSw; (try dsimp only at hSw); go_simp; try with_reducible rfl)
            try simp only [Act.put, List.setIfInBounds_toArray, List.set_cons_zero, List.set_cons_succ]
            refine wpAnyH_take (i := 12) (oi := { dst := some 34, op := Op.move (Operand.tmp 33), type := 4, pos := "law.go:89", after := #[{ on := 11, ground := Ground.data }, { on := 10, ground := Ground.chain }], guard := none }) (v := ?_) rfl (by kernel_rfl) (by kernel_rfl) (by kernel_rfl) (fun _ _ _ h => h) (Or.inl ⟨by rfl, ?_⟩) (by assumption) ?_
            rotate_left
            · (intro w hSw; (try dsimp only at hSw); go_simp; try with_reducible rfl)
            try simp only [Act.put, List.setIfInBounds_toArray, List.set_cons_zero, List.set_cons_succ]
            refine wpAnyH_take (i := 13) (oi := { dst := some 35, op := Op.load 27 (Operand.tmp 2), type := 27, pos := "law.go:89", after := #[{ on := 12, ground := Ground.guard }], guard := some (12, true) }) (v := ?_) rfl (by kernel_rfl) (by kernel_rfl) (by kernel_rfl) (fun _ _ _ h => h) (Or.inl ⟨by rfl, ?_⟩) (by assumption) ?_
            rotate_left
            · (intro w hSw; (try dsimp only at hSw); go_simp; try with_reducible rfl)
            try simp only [Act.put, List.setIfInBounds_toArray, List.set_cons_zero, List.set_cons_succ]
            refine wpAnyH_take (i := 14) (oi := { dst := some 36, op := Op.load 27 (Operand.tmp 2), type := 27, pos := "law.go:89", after := #[{ on := 12, ground := Ground.guard }], guard := some (12, true) }) (v := ?_) rfl (by kernel_rfl) (by kernel_rfl) (by kernel_rfl) (fun _ _ _ h => h) (Or.inl ⟨by rfl, ?_⟩) (by assumption) ?_
            rotate_left
            · (intro w hSw; (try dsimp only at hSw); go_simp; try with_reducible rfl)
            try simp only [Act.put, List.setIfInBounds_toArray, List.set_cons_zero, List.set_cons_succ]
            refine wpAnyH_ready (rs := [15]) (by kernel_rfl) (by simp) ?_
            refine AllReadyH.cons (o := { dst := some 37, op := Op.call { callee := Callee.value (Operand.func 27), args := #[Operand.tmp 36], argTypes := #[27] }, type := 25, pos := "law.go:89", after := #[{ on := 14, ground := Ground.data }, { on := 12, ground := Ground.chain }, { on := 12, ground := Ground.guard }], guard := some (12, true) }) rfl (fun K hK => ?_) AllReadyH.nil
            go_simp
            refine (CTY.out _ hH).mono ?_
            rintro e W_3 ⟨rfl, b⟩
            refine hK.out _ _ ?_ (fun hH' => ?_)
            · exact held_next (by assumption) hH
            clear hK K hH
            have hH := hH'
            clear hH'
            try simp only [Act.put, List.setIfInBounds_toArray, List.set_cons_zero, List.set_cons_succ]
            refine wpAnyH_ready (rs := [16]) (by kernel_rfl) (by simp) ?_
            refine AllReadyH.cons (o := { dst := some 38, op := Op.call { callee := Callee.value (Operand.func 26), args := #[Operand.tmp 37], argTypes := #[25] }, type := 27, pos := "law.go:89", after := #[{ on := 15, ground := Ground.data }, { on := 15, ground := Ground.chain }, { on := 12, ground := Ground.guard }], guard := some (12, true) }) rfl (fun K hK => ?_) AllReadyH.nil
            go_simp
            refine (CUN.out _ hH).mono ?_
            rintro e W_4 ⟨rfl, b⟩
            refine hK.out _ _ ?_ (fun hH' => ?_)
            · exact held_next (by assumption) hH
            clear hK K hH
            have hH := hH'
            clear hH'
            try simp only [Act.put, List.setIfInBounds_toArray, List.set_cons_zero, List.set_cons_succ]
            refine wpAnyH_ready (rs := [17]) (by kernel_rfl) (by simp) ?_
            refine AllReadyH.cons (o := { dst := some 39, op := Op.call { callee := Callee.value (Operand.func 24), args := #[Operand.tmp 35, Operand.tmp 38], argTypes := #[27, 27] }, type := 4, pos := "law.go:89", after := #[{ on := 13, ground := Ground.data }, { on := 16, ground := Ground.data }, { on := 16, ground := Ground.chain }, { on := 12, ground := Ground.guard }], guard := some (12, true) }) rfl (fun K hK => ?_) AllReadyH.nil
            go_simp
            refine (CAU.out _ hH).mono ?_
            rintro e W_5 ⟨rfl, b⟩
            refine hK.out _ _ ?_ (fun hH' => ?_)
            · exact held_next (by assumption) hH
            clear hK K hH
            have hH := hH'
            clear hH'
            try simp only [Act.put, List.setIfInBounds_toArray, List.set_cons_zero, List.set_cons_succ]
            refine wpAnyH_take (i := 18) (oi := { dst := some 40, op := Op.pick (Operand.tmp 34) (Operand.tmp 39) (Operand.const (Value.bool false)), type := 4, pos := "law.go:89", after := #[{ on := 12, ground := Ground.data }, { on := 17, ground := Ground.data }], guard := none }) (v := ?_) rfl (by kernel_rfl) (by kernel_rfl) (by kernel_rfl) (fun _ _ _ h => h) (Or.inl ⟨by rfl, ?_⟩) (by assumption) ?_
            rotate_left
            · (intro w hSw; (try dsimp only at hSw); go_simp; try with_reducible rfl)
            try simp only [Act.put, List.setIfInBounds_toArray, List.set_cons_zero, List.set_cons_succ]
            refine wpAnyH_take (i := 19) (oi := { dst := some 41, op := Op.move (Operand.tmp 40), type := 4, pos := "law.go:89", after := #[{ on := 18, ground := Ground.data }, { on := 17, ground := Ground.chain }], guard := none }) (v := ?_) rfl (by kernel_rfl) (by kernel_rfl) (by kernel_rfl) (fun _ _ _ h => h) (Or.inl ⟨by rfl, ?_⟩) (by assumption) ?_
            rotate_left
            · (intro w hSw; (try dsimp only at hSw); go_simp; try with_reducible rfl)
            try simp only [Act.put, List.setIfInBounds_toArray, List.set_cons_zero, List.set_cons_succ]
            refine wpAnyH_take (i := 20) (oi := { dst := some 42, op := Op.load 27 (Operand.tmp 2), type := 27, pos := "law.go:89", after := #[{ on := 19, ground := Ground.guard }], guard := some (19, true) }) (v := ?_) rfl (by kernel_rfl) (by kernel_rfl) (by kernel_rfl) (fun _ _ _ h => h) (Or.inl ⟨by rfl, ?_⟩) (by assumption) ?_
            rotate_left
            · (intro w hSw; (try dsimp only at hSw); go_simp; try with_reducible rfl)
            try simp only [Act.put, List.setIfInBounds_toArray, List.set_cons_zero, List.set_cons_succ]
            refine wpAnyH_take (i := 21) (oi := { dst := some 43, op := Op.build 25 #[], type := 25, pos := "law.go:89", after := #[{ on := 19, ground := Ground.guard }], guard := some (19, true) }) (v := ?_) rfl (by kernel_rfl) (by kernel_rfl) (by kernel_rfl) (fun _ _ _ h => h) (Or.inl ⟨by rfl, ?_⟩) (by assumption) ?_
            rotate_left
            · (intro w hSw; (try dsimp only at hSw); go_simp; try with_reducible rfl)
            try simp only [Act.put, List.setIfInBounds_toArray, List.set_cons_zero, List.set_cons_succ]
            refine wpAnyH_ready (rs := [22]) (by kernel_rfl) (by simp) ?_
            refine AllReadyH.cons (o := { dst := some 44, op := Op.call { callee := Callee.value (Operand.func 26), args := #[Operand.tmp 43], argTypes := #[25] }, type := 27, pos := "law.go:89", after := #[{ on := 21, ground := Ground.data }, { on := 19, ground := Ground.chain }, { on := 19, ground := Ground.guard }], guard := some (19, true) }) rfl (fun K hK => ?_) AllReadyH.nil
            go_simp
            refine (CU0.out _ hH).mono ?_
            rintro e W_6 ⟨rfl, b⟩
            refine hK.out _ _ ?_ (fun hH' => ?_)
            · exact held_next (by assumption) hH
            clear hK K hH
            have hH := hH'
            clear hH'
            try simp only [Act.put, List.setIfInBounds_toArray, List.set_cons_zero, List.set_cons_succ]
            refine wpAnyH_ready (rs := [23]) (by kernel_rfl) (by simp) ?_
            refine AllReadyH.cons (o := { dst := some 45, op := Op.call { callee := Callee.value (Operand.func 24), args := #[Operand.tmp 42, Operand.tmp 44], argTypes := #[27, 27] }, type := 4, pos := "law.go:89", after := #[{ on := 20, ground := Ground.data }, { on := 22, ground := Ground.data }, { on := 22, ground := Ground.chain }, { on := 19, ground := Ground.guard }], guard := some (19, true) }) rfl (fun K hK => ?_) AllReadyH.nil
            go_simp
            refine (CA0.out _ hH).mono ?_
            rintro e W_7 ⟨rfl, b⟩
            refine hK.out _ _ ?_ (fun hH' => ?_)
            · exact held_next (by assumption) hH
            clear hK K hH
            have hH := hH'
            clear hH'
            try simp only [Act.put, List.setIfInBounds_toArray, List.set_cons_zero, List.set_cons_succ]
            refine wpAnyH_take (i := 24) (oi := { dst := some 46, op := Op.pick (Operand.tmp 41) (Operand.tmp 45) (Operand.const (Value.bool false)), type := 4, pos := "law.go:89", after := #[{ on := 19, ground := Ground.data }, { on := 23, ground := Ground.data }], guard := none }) (v := ?_) rfl (by kernel_rfl) (by kernel_rfl) (by kernel_rfl) (fun _ _ _ h => h) (Or.inl ⟨by rfl, ?_⟩) (by assumption) ?_
            rotate_left
            · (intro w hSw; (try dsimp only at hSw); go_simp; try with_reducible rfl)
            try simp only [Act.put, List.setIfInBounds_toArray, List.set_cons_zero, List.set_cons_succ]
            refine wpAnyH_take (i := 25) (oi := { dst := some 47, op := Op.move (Operand.tmp 46), type := 4, pos := "law.go:89", after := #[{ on := 24, ground := Ground.data }, { on := 23, ground := Ground.chain }], guard := none }) (v := ?_) rfl (by kernel_rfl) (by kernel_rfl) (by kernel_rfl) (fun _ _ _ h => h) (Or.inl ⟨by rfl, ?_⟩) (by assumption) ?_
            rotate_left
            · (intro w hSw; (try dsimp only at hSw); go_simp; try with_reducible rfl)
            try simp only [Act.put, List.setIfInBounds_toArray, List.set_cons_zero, List.set_cons_succ]
            refine wpAnyH_ready (rs := [26]) (by kernel_rfl) (by simp) ?_
            refine AllReadyH.cons (o := { dst := some 48, op := Op.call { callee := Callee.value (Operand.func 11), args := #[], argTypes := #[] }, type := 4, pos := "law.go:89", after := #[{ on := 25, ground := Ground.chain }, { on := 25, ground := Ground.guard }], guard := some (25, true) }) rfl (fun K hK => ?_) AllReadyH.nil
            go_simp
            refine (awake_any _).mono ?_
            rintro e W_8 ⟨rfl, b⟩
            refine hK.out _ _ ?_ (fun hH' => ?_)
            · exact held_next (by assumption) hH
            clear hK K hH
            have hH := hH'
            clear hH'
            try simp only [Act.put, List.setIfInBounds_toArray, List.set_cons_zero, List.set_cons_succ]
            refine wpAnyH_take (i := 27) (oi := { dst := some 49, op := Op.pick (Operand.tmp 47) (Operand.tmp 48) (Operand.const (Value.bool false)), type := 4, pos := "law.go:89", after := #[{ on := 25, ground := Ground.data }, { on := 26, ground := Ground.data }], guard := none }) (v := ?_) rfl (by kernel_rfl) (by kernel_rfl) (by kernel_rfl) (fun _ _ _ h => h) (Or.inl ⟨by rfl, ?_⟩) (by assumption) ?_
            rotate_left
            · (intro w hSw; (try dsimp only at hSw); go_simp; try with_reducible rfl)
            try simp only [Act.put, List.setIfInBounds_toArray, List.set_cons_zero, List.set_cons_succ]
            refine wpAnyH_take (i := 28) (oi := { dst := some 4, op := Op.assign (Operand.tmp 49), type := 4, pos := "law.go:89", after := #[{ on := 27, ground := Ground.data }, { on := 26, ground := Ground.chain }, { on := 0, ground := Ground.phase }, { on := 1, ground := Ground.phase }, { on := 2, ground := Ground.phase }, { on := 3, ground := Ground.phase }, { on := 4, ground := Ground.phase }, { on := 5, ground := Ground.phase }, { on := 6, ground := Ground.phase }, { on := 7, ground := Ground.phase }, { on := 8, ground := Ground.phase }, { on := 9, ground := Ground.phase }, { on := 10, ground := Ground.phase }, { on := 11, ground := Ground.phase }, { on := 12, ground := Ground.phase }, { on := 13, ground := Ground.phase }, { on := 14, ground := Ground.phase }, { on := 15, ground := Ground.phase }, { on := 16, ground := Ground.phase }, { on := 17, ground := Ground.phase }, { on := 18, ground := Ground.phase }, { on := 19, ground := Ground.phase }, { on := 20, ground := Ground.phase }, { on := 21, ground := Ground.phase }, { on := 22, ground := Ground.phase }, { on := 23, ground := Ground.phase }, { on := 24, ground := Ground.phase }, { on := 25, ground := Ground.phase }, { on := 26, ground := Ground.phase }, { on := 27, ground := Ground.phase }], guard := none }) (v := ?_) rfl (by kernel_rfl) (by kernel_rfl) (by kernel_rfl) (fun _ _ _ h => h) (Or.inl ⟨by rfl, ?_⟩) (by assumption) ?_
            rotate_left
            · (intro w hSw; (try dsimp only at hSw); go_simp; try with_reducible rfl)
            try simp only [Act.put, List.setIfInBounds_toArray, List.set_cons_zero, List.set_cons_succ]
            refine wpAnyH_done (by kernel_rfl) ?_ _
            refine NoPanic.normal ?_
            have BZ := Lib.hid (HW.out.trans ((LW.out _ hH).mono HW.out.size))
            clear S0 hH
            go_wp2_with fail
            go_ret
            exact ⟨rfl, BZ.out⟩
end Go.Proofs.Ytfgkkccgecnchaa
