/- ValueLess: the law's walk, if the reference's order is told. -/
import Derived.Test.YtfgkkccgecnchaaLs
import Derived.Test.YtfgkkccgecnchaaLa
import Derived.Deep.Cut
namespace Go.Proofs.Ytfgkkccgecnchaa
open Go.RowKit

set_option maxRecDepth 100000 in
set_option maxHeartbeats 8000000 in
theorem lless_of (h64 : Hid (∀ (n : Nat) (A B : Val) (a b : Value) (w : World) (m m' : Nat), okT m A = true → okT m' B = true → sz A + sz B ≤ 1300 → Lies n w A a → Lies n w B b → n ≤ w.heap.size → Calls Try.prog 64 #[a, b] w fun e w' => e = .returned (.int .i64 (ord A B)) ∧ Below w.heap.size w w')) {n : Nat} {A B : Val} {vA vB : Value} {w : World} (hA : Lies n w A vA) (hB : Lies n w B vB) (hn : n ≤ w.heap.size) : Calls Try.prog 7 #[vA, vB] w fun e w' => e = .returned (.bool true) ∧ Below w.heap.size w w' := by
  obtain ⟨oLA, oKA, cLA, cKA, cA, rfl, OA⟩ := hA.inv
  obtain ⟨oLB, oKB, cLB, cKB, cB, rfl, OB⟩ := hB.inv
  have HW : Hid (Below w.heap.size w ((w.alloc (bx A oLA oKA cLA cKA)).alloc (bx B oLB oKB cLB cKB))) := (((Below.refl w.heap.size w).alloc (Nat.le_refl _) (bx A oLA oKA cLA cKA)).alloc (by simp only [World.size_alloc]; omega) (bx B oLB oKB cLB cKB))
  have HZ : Hid (((w.alloc (bx A oLA oKA cLA cKA)).alloc (bx B oLB oKB cLB cKB)).heap.size = w.heap.size + 2) := by simp [Hid]
  have HXA : Hid (Hd ((w.alloc (bx A oLA oKA cLA cKA)).alloc (bx B oLB oKB cLB cKB)) (w.heap.size + 0) A (.slice oLA A.l.length cLA) (.slice oKA A.ks.length cKA)) := by
    have h0 := Hd.made w A (.slice oLA A.l.length cLA) (.slice oKA A.ks.length cKA)
    exact h0.kept ((Below.refl (w.heap.size + 1) _).alloc (by simp only [World.size_alloc]; omega) (bx B oLB oKB cLB cKB)) (by omega)
  have HXB : Hid (Hd ((w.alloc (bx A oLA oKA cLA cKA)).alloc (bx B oLB oKB cLB cKB)) (w.heap.size + 1) B (.slice oLB B.l.length cLB) (.slice oKB B.ks.length cKB)) := by
    have h0 := Hd.made (w.alloc (bx A oLA oKA cLA cKA)) B (.slice oLB B.l.length cLB) (.slice oKB B.ks.length cKB)
    simp only [World.size_alloc] at h0
    exact h0
  have HOA := Lib.hid (OA.kept (HW.out.mono hn))
  have HOB := Lib.hid (OB.kept (HW.out.mono hn))
  clear hA OA hB OB
  go_enter Try.func7, Try.ntmps7
  go_upto_region 1 with fail
  generalize World.alloc (World.alloc w _) _ = w0 at *
  simp only [Nat.add_zero] at HXA
  have LA : Hid (∀ W, Below w0.heap.size w0 W → Lies n W A (vv A.k A.i A.s (.slice oLA A.l.length cLA) (.slice oKA A.ks.length cKA) A.tk A.to A.x) ∧ n ≤ W.heap.size) := fun W b => ⟨(HOA.out.kept (b.mono (by have := HZ.out; omega))).lies, by have := b.size; have := HZ.out; omega⟩
  have LB : Hid (∀ W, Below w0.heap.size w0 W → Lies n W B (vv B.k B.i B.s (.slice oLB B.l.length cLB) (.slice oKB B.ks.length cKB) B.tk B.to B.x) ∧ n ≤ W.heap.size) := fun W b => ⟨(HOB.out.kept (b.mono (by have := HZ.out; omega))).lies, by have := b.size; have := HZ.out; omega⟩
  have B0 := Lib.hid (Below.refl w0.heap.size w0)
  obtain ⟨x8, x0, x1, x2, x3, x4, x5, x6, x7⟩ := HXA.out.kept B0.out (by have := HZ.out; omega)
  obtain ⟨y8, y0, y1, y2, y3, y4, y5, y6, y7⟩ := HXB.out.kept B0.out (by have := HZ.out; omega)
  go_wp2_with fail
  refine (Great_any (LA.out _ B0.out).1 (LA.out _ B0.out).2).mono ?_
  rintro e w_1 ⟨g_1, rfl, hs_1, b_1⟩
  have B1 := Lib.hid (B0.out.trans (b_1.mono B0.out.size))
  clear b_1
  clear x8 x0 x1 x2 x3 x4 x5 x6 x7 y8 y0 y1 y2 y3 y4 y5 y6 y7
  obtain ⟨x8, x0, x1, x2, x3, x4, x5, x6, x7⟩ := HXA.out.kept B1.out (by have := HZ.out; omega)
  obtain ⟨y8, y0, y1, y2, y3, y4, y5, y6, y7⟩ := HXB.out.kept B1.out (by have := HZ.out; omega)
  cases g_1 with
  | true =>
    clear hs_1
    go_wp2_with fail
    refine (awake_any _).mono ?_
    rintro e wz ⟨rfl, bz⟩
    have BZ := Lib.hid (HW.out.trans ((B1.out.trans (bz.mono B1.out.size)).mono HW.out.size))
    clear bz
    go_wp2_with fail
    go_ret
    exact ⟨rfl, BZ.out⟩
  | false =>
    have hzA := hs_1 rfl
    clear hs_1
    go_wp2_with fail
    refine (Great_any (LB.out _ B1.out).1 (LB.out _ B1.out).2).mono ?_
    rintro e w_2 ⟨g_2, rfl, hs_2, b_2⟩
    have B2 := Lib.hid (B1.out.trans (b_2.mono B1.out.size))
    clear b_2
    clear x8 x0 x1 x2 x3 x4 x5 x6 x7 y8 y0 y1 y2 y3 y4 y5 y6 y7
    obtain ⟨x8, x0, x1, x2, x3, x4, x5, x6, x7⟩ := HXA.out.kept B2.out (by have := HZ.out; omega)
    obtain ⟨y8, y0, y1, y2, y3, y4, y5, y6, y7⟩ := HXB.out.kept B2.out (by have := HZ.out; omega)
    cases g_2 with
    | true =>
      clear hs_2
      go_wp2_with fail
      refine (awake_any _).mono ?_
      rintro e wz ⟨rfl, bz⟩
      have BZ := Lib.hid (HW.out.trans ((B2.out.trans (bz.mono B2.out.size)).mono HW.out.size))
      clear bz
      go_wp2_with fail
      go_ret
      exact ⟨rfl, BZ.out⟩
    | false =>
      have hzB := hs_2 rfl
      clear hs_2
      cases hcA : chk A with
      | false =>
        have C := fun W (b : Below w0.heap.size w0 W) => rCheck_any n A _ W (by omega) (LA.out W b).1 (LA.out W b).2
        rw [hcA] at C
        have HC := Lib.hid C
        clear C hcA
        go_wp2_with fail
        refine (HC.out _ B2.out).mono ?_
        rintro e w_3 ⟨rfl, b_3⟩
        have B3 := Lib.hid (B2.out.trans (b_3.mono B2.out.size))
        clear b_3
        clear x8 x0 x1 x2 x3 x4 x5 x6 x7 y8 y0 y1 y2 y3 y4 y5 y6 y7
        obtain ⟨x8, x0, x1, x2, x3, x4, x5, x6, x7⟩ := HXA.out.kept B3.out (by have := HZ.out; omega)
        obtain ⟨y8, y0, y1, y2, y3, y4, y5, y6, y7⟩ := HXB.out.kept B3.out (by have := HZ.out; omega)
        go_wp2_with fail
        refine (awake_any _).mono ?_
        rintro e wz ⟨rfl, bz⟩
        have BZ := Lib.hid (HW.out.trans ((B3.out.trans (bz.mono B3.out.size)).mono HW.out.size))
        clear bz
        go_wp2_with fail
        go_ret
        exact ⟨rfl, BZ.out⟩
      | true =>
        have HCA := Lib.hid hcA
        have C := fun W (b : Below w0.heap.size w0 W) => rCheck_any n A _ W (by omega) (LA.out W b).1 (LA.out W b).2
        rw [hcA] at C
        have HC := Lib.hid C
        clear C hcA
        go_wp2_with fail
        refine (HC.out _ B2.out).mono ?_
        rintro e w_3 ⟨rfl, b_3⟩
        have B3 := Lib.hid (B2.out.trans (b_3.mono B2.out.size))
        clear b_3
        clear x8 x0 x1 x2 x3 x4 x5 x6 x7 y8 y0 y1 y2 y3 y4 y5 y6 y7
        obtain ⟨x8, x0, x1, x2, x3, x4, x5, x6, x7⟩ := HXA.out.kept B3.out (by have := HZ.out; omega)
        obtain ⟨y8, y0, y1, y2, y3, y4, y5, y6, y7⟩ := HXB.out.kept B3.out (by have := HZ.out; omega)
        clear HC
        cases hcB : chk B with
        | false =>
          have C := fun W (b : Below w0.heap.size w0 W) => rCheck_any n B _ W (by omega) (LB.out W b).1 (LB.out W b).2
          rw [hcB] at C
          have HC := Lib.hid C
          clear C hcB
          go_wp2_with fail
          refine (HC.out _ B3.out).mono ?_
          rintro e w_4 ⟨rfl, b_4⟩
          have B4 := Lib.hid (B3.out.trans (b_4.mono B3.out.size))
          clear b_4
          clear x8 x0 x1 x2 x3 x4 x5 x6 x7 y8 y0 y1 y2 y3 y4 y5 y6 y7
          obtain ⟨x8, x0, x1, x2, x3, x4, x5, x6, x7⟩ := HXA.out.kept B4.out (by have := HZ.out; omega)
          obtain ⟨y8, y0, y1, y2, y3, y4, y5, y6, y7⟩ := HXB.out.kept B4.out (by have := HZ.out; omega)
          go_wp2_with fail
          refine (awake_any _).mono ?_
          rintro e wz ⟨rfl, bz⟩
          have BZ := Lib.hid (HW.out.trans ((B4.out.trans (bz.mono B4.out.size)).mono HW.out.size))
          clear bz
          go_wp2_with fail
          go_ret
          exact ⟨rfl, BZ.out⟩
        | true =>
          have HCB := Lib.hid hcB
          have C := fun W (b : Below w0.heap.size w0 W) => rCheck_any n B _ W (by omega) (LB.out W b).1 (LB.out W b).2
          rw [hcB] at C
          have HC := Lib.hid C
          clear C hcB
          go_wp2_with fail
          refine (HC.out _ B3.out).mono ?_
          rintro e w_4 ⟨rfl, b_4⟩
          have B4 := Lib.hid (B3.out.trans (b_4.mono B3.out.size))
          clear b_4
          clear x8 x0 x1 x2 x3 x4 x5 x6 x7 y8 y0 y1 y2 y3 y4 y5 y6 y7
          obtain ⟨x8, x0, x1, x2, x3, x4, x5, x6, x7⟩ := HXA.out.kept B4.out (by have := HZ.out; omega)
          obtain ⟨y8, y0, y1, y2, y3, y4, y5, y6, y7⟩ := HXB.out.kept B4.out (by have := HZ.out; omega)
          clear HC
          go_upto_region 3 with fail
          have OKs : Hid (okT 8 A = true ∧ okT 8 B = true) := by
            have e1 := HCA.out
            have e2 := HCB.out
            unfold chk at e1 e2
            rw [Bool.and_eq_true] at e1 e2
            exact ⟨e1.2, e2.2⟩
          obtain ⟨P, hP⟩ : ∃ P, P = decide (ord A B < 0) := ⟨_, rfl⟩
          obtain ⟨Q, hQ⟩ : ∃ Q, Q = decide (ord B A < 0) := ⟨_, rfl⟩
          obtain ⟨K, hK⟩ : ∃ K, K = likeV A B := ⟨_, rfl⟩
          have hPQ : (P = true ∧ Q = false ∧ K = false) ∨ (P = false ∧ Q = true ∧ K = false) ∨ (P = false ∧ Q = false ∧ K = true) := by
            have e1 := ord_neg A B
            have e2 := ord_like A B 8 8 OKs.out.1 OKs.out.2
            rw [hP, hQ, hK, e1]
            by_cases h0 : ord A B = 0
            · rw [e2.1 h0, h0]; exact .inr (.inr ⟨by decide, by decide, rfl⟩)
            · have e3 : likeV A B = false := Bool.eq_false_iff.2 fun e => h0 (e2.2 e)
              rw [e3]
              by_cases h1 : ord A B < 0
              · exact .inl ⟨by simp [h1], by simp; omega, rfl⟩
              · exact .inr (.inl ⟨by simp; omega, by simp; omega, rfl⟩)
          have C1 : Hid (∀ W, Below w0.heap.size w0 W → Calls Try.prog 30 #[vv A.k A.i A.s (.slice oLA A.l.length cLA) (.slice oKA A.ks.length cKA) A.tk A.to A.x, vv B.k B.i B.s (.slice oLB B.l.length cLB) (.slice oKB B.ks.length cKB) B.tk B.to B.x] W fun e w' => e = .returned ((.bool P)) ∧ Below W.heap.size W w') := fun W b => by
            rw [hP]
            exact less_any (N := 1300) (by omega) (LA.out W b).1 (LB.out W b).1 (LA.out W b).2
          have C2 : Hid (∀ W, Below w0.heap.size w0 W → Calls Try.prog 30 #[vv B.k B.i B.s (.slice oLB B.l.length cLB) (.slice oKB B.ks.length cKB) B.tk B.to B.x, vv A.k A.i A.s (.slice oLA A.l.length cLA) (.slice oKA A.ks.length cKA) A.tk A.to A.x] W fun e w' => e = .returned ((.bool Q)) ∧ Below W.heap.size W w') := fun W b => by
            rw [hQ]
            exact less_any (N := 1300) (by omega) (LB.out W b).1 (LA.out W b).1 (LA.out W b).2
          have C3 : Hid (∀ W, Below w0.heap.size w0 W → Calls Try.prog 31 #[vv A.k A.i A.s (.slice oLA A.l.length cLA) (.slice oKA A.ks.length cKA) A.tk A.to A.x, vv B.k B.i B.s (.slice oLB B.l.length cLB) (.slice oKB B.ks.length cKB) B.tk B.to B.x] W fun e w' => e = .returned ((.bool P)) ∧ Below W.heap.size W w') := fun W b => by
            rw [hP]
            exact rless_of (fun W1 b1 => h64.out n A B _ _ W1 8 8 OKs.out.1 OKs.out.2 (by omega) ((LA.out W b).1.kept (b1.mono (LA.out W b).2)) ((LB.out W b).1.kept (b1.mono (LA.out W b).2)) (by have := (LA.out W b).2; have := b1.size; omega)) (LA.out W b).1 (LB.out W b).1 (LA.out W b).2
          have C4 : Hid (∀ W, Below w0.heap.size w0 W → Calls Try.prog 31 #[vv B.k B.i B.s (.slice oLB B.l.length cLB) (.slice oKB B.ks.length cKB) B.tk B.to B.x, vv A.k A.i A.s (.slice oLA A.l.length cLA) (.slice oKA A.ks.length cKA) A.tk A.to A.x] W fun e w' => e = .returned ((.bool Q)) ∧ Below W.heap.size W w') := fun W b => by
            rw [hQ]
            exact rless_of (fun W1 b1 => h64.out n B A _ _ W1 8 8 OKs.out.2 OKs.out.1 (by omega) ((LB.out W b).1.kept (b1.mono (LB.out W b).2)) ((LA.out W b).1.kept (b1.mono (LB.out W b).2)) (by have := (LB.out W b).2; have := b1.size; omega)) (LB.out W b).1 (LA.out W b).1 (LA.out W b).2
          have C5 : Hid (∀ W, Below w0.heap.size w0 W → Calls Try.prog 28 #[vv A.k A.i A.s (.slice oLA A.l.length cLA) (.slice oKA A.ks.length cKA) A.tk A.to A.x, vv B.k B.i B.s (.slice oLB B.l.length cLB) (.slice oKB B.ks.length cKB) B.tk B.to B.x] W fun e w' => e = .returned ((.bool K)) ∧ Below W.heap.size W w') := fun W b => by
            rw [hK]
            exact like_any 1300 n A B _ _ W (by omega) (LA.out W b).1 (LB.out W b).1 (LA.out W b).2
          clear hP hQ hK h64
          rcases hPQ with ⟨rfl, rfl, rfl⟩ | ⟨rfl, rfl, rfl⟩ | ⟨rfl, rfl, rfl⟩
          · skip
            obtain ⟨Na, hNa⟩ : ∃ N, N = w_4.heap.size := ⟨_, rfl⟩
            have S0 := held_at hNa
            have lA : w.heap.size < Na := by have := B4.out.size; have := HZ.out; omega
            have lB : w.heap.size + 1 < Na := by have := B4.out.size; have := HZ.out; omega
            have HNa := Lib.hid hNa
            clear hNa
            have LWa : Hid (∀ W, Held Na w_4 W → Below w0.heap.size w0 W) := fun W h => B4.out.trans (h.2.1.out.mono (by rw [HNa.out]; exact B4.out.size))
            refine wp_region_noPanic ?_
            refine wp_region_held_drew (S := (fun W => (∀ b o, b < Na → W.cell? ⟨b, o, none⟩ = w_4.cell? ⟨b, o, none⟩) ∧ Hid (Below Na w_4 W) ∧ Hid (Na ≤ W.heap.size))) (by kernel_rfl) ?_ (fun hH => ?_)
            · exact S0
            refine wpAnyH_take (i := 0) (oi := { dst := some 24, op := Op.load 27 (Operand.tmp 2), type := 27, pos := "law.go:109", after := #[], guard := none }) (v := ?_) rfl (by kernel_rfl) (by kernel_rfl) (by kernel_rfl) (fun _ _ _ h => h) (Or.inl ⟨by rfl, ?_⟩) (by assumption) ?_
            rotate_left
            · (intro w hSw; (try dsimp only at hSw); go_simp; try with_reducible rfl)
            try simp only [Act.put, List.setIfInBounds_toArray, List.set_cons_zero, List.set_cons_succ]
            refine wpAnyH_take (i := 1) (oi := { dst := some 25, op := Op.load 27 (Operand.tmp 3), type := 27, pos := "law.go:109", after := #[], guard := none }) (v := ?_) rfl (by kernel_rfl) (by kernel_rfl) (by kernel_rfl) (fun _ _ _ h => h) (Or.inl ⟨by rfl, ?_⟩) (by assumption) ?_
            rotate_left
            · (intro w hSw; (try dsimp only at hSw); go_simp; try with_reducible rfl)
            try simp only [Act.put, List.setIfInBounds_toArray, List.set_cons_zero, List.set_cons_succ]
            refine wpAnyH_take (i := 3) (oi := { dst := some 27, op := Op.load 27 (Operand.tmp 3), type := 27, pos := "law.go:109", after := #[], guard := none }) (v := ?_) rfl (by kernel_rfl) (by kernel_rfl) (by kernel_rfl) (fun _ _ _ h => h) (Or.inl ⟨by rfl, ?_⟩) (by assumption) ?_
            rotate_left
            · (intro w hSw; (try dsimp only at hSw); go_simp; try with_reducible rfl)
            try simp only [Act.put, List.setIfInBounds_toArray, List.set_cons_zero, List.set_cons_succ]
            refine wpAnyH_take (i := 4) (oi := { dst := some 28, op := Op.load 27 (Operand.tmp 2), type := 27, pos := "law.go:109", after := #[], guard := none }) (v := ?_) rfl (by kernel_rfl) (by kernel_rfl) (by kernel_rfl) (fun _ _ _ h => h) (Or.inl ⟨by rfl, ?_⟩) (by assumption) ?_
            rotate_left
            · (intro w hSw; (try dsimp only at hSw); go_simp; try with_reducible rfl)
            try simp only [Act.put, List.setIfInBounds_toArray, List.set_cons_zero, List.set_cons_succ]
            refine wpAnyH_ready (rs := [2]) (by kernel_rfl) (by simp) ?_
            refine AllReadyH.cons (o := { dst := some 26, op := Op.call { callee := Callee.value (Operand.func 30), args := #[Operand.tmp 24, Operand.tmp 25], argTypes := #[27, 27] }, type := 4, pos := "law.go:109", after := #[{ on := 0, ground := Ground.data }, { on := 1, ground := Ground.data }], guard := none }) rfl (fun K hK => ?_) AllReadyH.nil
            go_simp
            refine (C1.out _ (LWa.out _ hH)).mono ?_
            rintro e W_0 ⟨rfl, b⟩
            refine hK.out _ _ ?_ (fun hH' => ?_)
            · exact held_next (by assumption) hH
            clear hK K hH
            have hH := hH'
            clear hH'
            try simp only [Act.put, List.setIfInBounds_toArray, List.set_cons_zero, List.set_cons_succ]
            refine wpAnyH_ready (rs := [5]) (by kernel_rfl) (by simp) ?_
            refine AllReadyH.cons (o := { dst := some 29, op := Op.call { callee := Callee.value (Operand.func 30), args := #[Operand.tmp 27, Operand.tmp 28], argTypes := #[27, 27] }, type := 4, pos := "law.go:109", after := #[{ on := 3, ground := Ground.data }, { on := 4, ground := Ground.data }, { on := 2, ground := Ground.chain }], guard := none }) rfl (fun K hK => ?_) AllReadyH.nil
            go_simp
            refine (C2.out _ (LWa.out _ hH)).mono ?_
            rintro e W_1 ⟨rfl, b⟩
            refine hK.out _ _ ?_ (fun hH' => ?_)
            · exact held_next (by assumption) hH
            clear hK K hH
            have hH := hH'
            clear hH'
            try simp only [Act.put, List.setIfInBounds_toArray, List.set_cons_zero, List.set_cons_succ]
            refine wpAnyH_take (i := 6) (oi := { dst := some 5, op := Op.assign (Operand.tmp 26), type := 4, pos := "law.go:109", after := #[{ on := 2, ground := Ground.data }, { on := 5, ground := Ground.chain }, { on := 0, ground := Ground.phase }, { on := 1, ground := Ground.phase }, { on := 2, ground := Ground.phase }, { on := 3, ground := Ground.textOnly Departure.lateStores }, { on := 4, ground := Ground.textOnly Departure.lateStores }, { on := 5, ground := Ground.textOnly Departure.lateStoresUnsure }], guard := none }) (v := ?_) rfl (by kernel_rfl) (by kernel_rfl) (by kernel_rfl) (fun _ _ _ h => h) (Or.inl ⟨by rfl, ?_⟩) (by assumption) ?_
            rotate_left
            · (intro w hSw; (try dsimp only at hSw); go_simp; try with_reducible rfl)
            try simp only [Act.put, List.setIfInBounds_toArray, List.set_cons_zero, List.set_cons_succ]
            refine wpAnyH_take (i := 7) (oi := { dst := some 6, op := Op.assign (Operand.tmp 29), type := 4, pos := "law.go:109", after := #[{ on := 5, ground := Ground.data }, { on := 6, ground := Ground.chain }, { on := 0, ground := Ground.phase }, { on := 1, ground := Ground.phase }, { on := 2, ground := Ground.phase }, { on := 3, ground := Ground.phase }, { on := 4, ground := Ground.phase }, { on := 5, ground := Ground.phase }, { on := 6, ground := Ground.phase }], guard := none }) (v := ?_) rfl (by kernel_rfl) (by kernel_rfl) (by kernel_rfl) (fun _ _ _ h => h) (Or.inl ⟨by rfl, ?_⟩) (by assumption) ?_
            rotate_left
            · (intro w hSw; (try dsimp only at hSw); go_simp; try with_reducible rfl)
            try simp only [Act.put, List.setIfInBounds_toArray, List.set_cons_zero, List.set_cons_succ]
            refine wpAnyH_done (by kernel_rfl) ?_ _
            refine NoPanic.normal ?_
            have B5 := Lib.hid (LWa.out _ hH)
            clear x8 x0 x1 x2 x3 x4 x5 x6 x7 y8 y0 y1 y2 y3 y4 y5 y6 y7
            clear S0 hH lA lB
            obtain ⟨x8, x0, x1, x2, x3, x4, x5, x6, x7⟩ := HXA.out.kept B5.out (by have := HZ.out; omega)
            obtain ⟨y8, y0, y1, y2, y3, y4, y5, y6, y7⟩ := HXB.out.kept B5.out (by have := HZ.out; omega)
            go_wp2_with fail
            refine (C3.out _ B5.out).mono ?_
            rintro e w_6 ⟨rfl, b_6⟩
            have B6 := Lib.hid (B5.out.trans (b_6.mono B5.out.size))
            clear b_6
            clear x8 x0 x1 x2 x3 x4 x5 x6 x7 y8 y0 y1 y2 y3 y4 y5 y6 y7
            obtain ⟨x8, x0, x1, x2, x3, x4, x5, x6, x7⟩ := HXA.out.kept B6.out (by have := HZ.out; omega)
            obtain ⟨y8, y0, y1, y2, y3, y4, y5, y6, y7⟩ := HXB.out.kept B6.out (by have := HZ.out; omega)
            go_wp2_with fail
            refine (C4.out _ B6.out).mono ?_
            rintro e w_7 ⟨rfl, b_7⟩
            have B7 := Lib.hid (B6.out.trans (b_7.mono B6.out.size))
            clear b_7
            clear x8 x0 x1 x2 x3 x4 x5 x6 x7 y8 y0 y1 y2 y3 y4 y5 y6 y7
            obtain ⟨x8, x0, x1, x2, x3, x4, x5, x6, x7⟩ := HXA.out.kept B7.out (by have := HZ.out; omega)
            obtain ⟨y8, y0, y1, y2, y3, y4, y5, y6, y7⟩ := HXB.out.kept B7.out (by have := HZ.out; omega)
            go_wp2_with fail
            refine (C5.out _ B7.out).mono ?_
            rintro e w_8 ⟨rfl, b_8⟩
            have B8 := Lib.hid (B7.out.trans (b_8.mono B7.out.size))
            clear b_8
            clear x8 x0 x1 x2 x3 x4 x5 x6 x7 y8 y0 y1 y2 y3 y4 y5 y6 y7
            obtain ⟨x8, x0, x1, x2, x3, x4, x5, x6, x7⟩ := HXA.out.kept B8.out (by have := HZ.out; omega)
            obtain ⟨y8, y0, y1, y2, y3, y4, y5, y6, y7⟩ := HXB.out.kept B8.out (by have := HZ.out; omega)
            go_wp2_with fail
            refine (awake_any _).mono ?_
            rintro e wz ⟨rfl, bz⟩
            have BZ := Lib.hid (HW.out.trans ((B8.out.trans (bz.mono B8.out.size)).mono HW.out.size))
            clear bz
            go_wp2_with fail
            go_ret
            exact ⟨rfl, BZ.out⟩
          · skip
            obtain ⟨Na, hNa⟩ : ∃ N, N = w_4.heap.size := ⟨_, rfl⟩
            have S0 := held_at hNa
            have lA : w.heap.size < Na := by have := B4.out.size; have := HZ.out; omega
            have lB : w.heap.size + 1 < Na := by have := B4.out.size; have := HZ.out; omega
            have HNa := Lib.hid hNa
            clear hNa
            have LWa : Hid (∀ W, Held Na w_4 W → Below w0.heap.size w0 W) := fun W h => B4.out.trans (h.2.1.out.mono (by rw [HNa.out]; exact B4.out.size))
            refine wp_region_noPanic ?_
            refine wp_region_held_drew (S := (fun W => (∀ b o, b < Na → W.cell? ⟨b, o, none⟩ = w_4.cell? ⟨b, o, none⟩) ∧ Hid (Below Na w_4 W) ∧ Hid (Na ≤ W.heap.size))) (by kernel_rfl) ?_ (fun hH => ?_)
            · exact S0
            refine wpAnyH_take (i := 0) (oi := { dst := some 24, op := Op.load 27 (Operand.tmp 2), type := 27, pos := "law.go:109", after := #[], guard := none }) (v := ?_) rfl (by kernel_rfl) (by kernel_rfl) (by kernel_rfl) (fun _ _ _ h => h) (Or.inl ⟨by rfl, ?_⟩) (by assumption) ?_
            rotate_left
            · (intro w hSw; (try dsimp only at hSw); go_simp; try with_reducible rfl)
            try simp only [Act.put, List.setIfInBounds_toArray, List.set_cons_zero, List.set_cons_succ]
            refine wpAnyH_take (i := 1) (oi := { dst := some 25, op := Op.load 27 (Operand.tmp 3), type := 27, pos := "law.go:109", after := #[], guard := none }) (v := ?_) rfl (by kernel_rfl) (by kernel_rfl) (by kernel_rfl) (fun _ _ _ h => h) (Or.inl ⟨by rfl, ?_⟩) (by assumption) ?_
            rotate_left
            · (intro w hSw; (try dsimp only at hSw); go_simp; try with_reducible rfl)
            try simp only [Act.put, List.setIfInBounds_toArray, List.set_cons_zero, List.set_cons_succ]
            refine wpAnyH_take (i := 3) (oi := { dst := some 27, op := Op.load 27 (Operand.tmp 3), type := 27, pos := "law.go:109", after := #[], guard := none }) (v := ?_) rfl (by kernel_rfl) (by kernel_rfl) (by kernel_rfl) (fun _ _ _ h => h) (Or.inl ⟨by rfl, ?_⟩) (by assumption) ?_
            rotate_left
            · (intro w hSw; (try dsimp only at hSw); go_simp; try with_reducible rfl)
            try simp only [Act.put, List.setIfInBounds_toArray, List.set_cons_zero, List.set_cons_succ]
            refine wpAnyH_take (i := 4) (oi := { dst := some 28, op := Op.load 27 (Operand.tmp 2), type := 27, pos := "law.go:109", after := #[], guard := none }) (v := ?_) rfl (by kernel_rfl) (by kernel_rfl) (by kernel_rfl) (fun _ _ _ h => h) (Or.inl ⟨by rfl, ?_⟩) (by assumption) ?_
            rotate_left
            · (intro w hSw; (try dsimp only at hSw); go_simp; try with_reducible rfl)
            try simp only [Act.put, List.setIfInBounds_toArray, List.set_cons_zero, List.set_cons_succ]
            refine wpAnyH_ready (rs := [2]) (by kernel_rfl) (by simp) ?_
            refine AllReadyH.cons (o := { dst := some 26, op := Op.call { callee := Callee.value (Operand.func 30), args := #[Operand.tmp 24, Operand.tmp 25], argTypes := #[27, 27] }, type := 4, pos := "law.go:109", after := #[{ on := 0, ground := Ground.data }, { on := 1, ground := Ground.data }], guard := none }) rfl (fun K hK => ?_) AllReadyH.nil
            go_simp
            refine (C1.out _ (LWa.out _ hH)).mono ?_
            rintro e W_0 ⟨rfl, b⟩
            refine hK.out _ _ ?_ (fun hH' => ?_)
            · exact held_next (by assumption) hH
            clear hK K hH
            have hH := hH'
            clear hH'
            try simp only [Act.put, List.setIfInBounds_toArray, List.set_cons_zero, List.set_cons_succ]
            refine wpAnyH_ready (rs := [5]) (by kernel_rfl) (by simp) ?_
            refine AllReadyH.cons (o := { dst := some 29, op := Op.call { callee := Callee.value (Operand.func 30), args := #[Operand.tmp 27, Operand.tmp 28], argTypes := #[27, 27] }, type := 4, pos := "law.go:109", after := #[{ on := 3, ground := Ground.data }, { on := 4, ground := Ground.data }, { on := 2, ground := Ground.chain }], guard := none }) rfl (fun K hK => ?_) AllReadyH.nil
            go_simp
            refine (C2.out _ (LWa.out _ hH)).mono ?_
            rintro e W_1 ⟨rfl, b⟩
            refine hK.out _ _ ?_ (fun hH' => ?_)
            · exact held_next (by assumption) hH
            clear hK K hH
            have hH := hH'
            clear hH'
            try simp only [Act.put, List.setIfInBounds_toArray, List.set_cons_zero, List.set_cons_succ]
            refine wpAnyH_take (i := 6) (oi := { dst := some 5, op := Op.assign (Operand.tmp 26), type := 4, pos := "law.go:109", after := #[{ on := 2, ground := Ground.data }, { on := 5, ground := Ground.chain }, { on := 0, ground := Ground.phase }, { on := 1, ground := Ground.phase }, { on := 2, ground := Ground.phase }, { on := 3, ground := Ground.textOnly Departure.lateStores }, { on := 4, ground := Ground.textOnly Departure.lateStores }, { on := 5, ground := Ground.textOnly Departure.lateStoresUnsure }], guard := none }) (v := ?_) rfl (by kernel_rfl) (by kernel_rfl) (by kernel_rfl) (fun _ _ _ h => h) (Or.inl ⟨by rfl, ?_⟩) (by assumption) ?_
            rotate_left
            · (intro w hSw; (try dsimp only at hSw); go_simp; try with_reducible rfl)
            try simp only [Act.put, List.setIfInBounds_toArray, List.set_cons_zero, List.set_cons_succ]
            refine wpAnyH_take (i := 7) (oi := { dst := some 6, op := Op.assign (Operand.tmp 29), type := 4, pos := "law.go:109", after := #[{ on := 5, ground := Ground.data }, { on := 6, ground := Ground.chain }, { on := 0, ground := Ground.phase }, { on := 1, ground := Ground.phase }, { on := 2, ground := Ground.phase }, { on := 3, ground := Ground.phase }, { on := 4, ground := Ground.phase }, { on := 5, ground := Ground.phase }, { on := 6, ground := Ground.phase }], guard := none }) (v := ?_) rfl (by kernel_rfl) (by kernel_rfl) (by kernel_rfl) (fun _ _ _ h => h) (Or.inl ⟨by rfl, ?_⟩) (by assumption) ?_
            rotate_left
            · (intro w hSw; (try dsimp only at hSw); go_simp; try with_reducible rfl)
            try simp only [Act.put, List.setIfInBounds_toArray, List.set_cons_zero, List.set_cons_succ]
            refine wpAnyH_done (by kernel_rfl) ?_ _
            refine NoPanic.normal ?_
            have B9 := Lib.hid (LWa.out _ hH)
            clear x8 x0 x1 x2 x3 x4 x5 x6 x7 y8 y0 y1 y2 y3 y4 y5 y6 y7
            clear S0 hH lA lB
            obtain ⟨x8, x0, x1, x2, x3, x4, x5, x6, x7⟩ := HXA.out.kept B9.out (by have := HZ.out; omega)
            obtain ⟨y8, y0, y1, y2, y3, y4, y5, y6, y7⟩ := HXB.out.kept B9.out (by have := HZ.out; omega)
            go_wp2_with fail
            refine (C3.out _ B9.out).mono ?_
            rintro e w_10 ⟨rfl, b_10⟩
            have B10 := Lib.hid (B9.out.trans (b_10.mono B9.out.size))
            clear b_10
            clear x8 x0 x1 x2 x3 x4 x5 x6 x7 y8 y0 y1 y2 y3 y4 y5 y6 y7
            obtain ⟨x8, x0, x1, x2, x3, x4, x5, x6, x7⟩ := HXA.out.kept B10.out (by have := HZ.out; omega)
            obtain ⟨y8, y0, y1, y2, y3, y4, y5, y6, y7⟩ := HXB.out.kept B10.out (by have := HZ.out; omega)
            go_wp2_with fail
            refine (C4.out _ B10.out).mono ?_
            rintro e w_11 ⟨rfl, b_11⟩
            have B11 := Lib.hid (B10.out.trans (b_11.mono B10.out.size))
            clear b_11
            clear x8 x0 x1 x2 x3 x4 x5 x6 x7 y8 y0 y1 y2 y3 y4 y5 y6 y7
            obtain ⟨x8, x0, x1, x2, x3, x4, x5, x6, x7⟩ := HXA.out.kept B11.out (by have := HZ.out; omega)
            obtain ⟨y8, y0, y1, y2, y3, y4, y5, y6, y7⟩ := HXB.out.kept B11.out (by have := HZ.out; omega)
            go_wp2_with fail
            refine (C5.out _ B11.out).mono ?_
            rintro e w_12 ⟨rfl, b_12⟩
            have B12 := Lib.hid (B11.out.trans (b_12.mono B11.out.size))
            clear b_12
            clear x8 x0 x1 x2 x3 x4 x5 x6 x7 y8 y0 y1 y2 y3 y4 y5 y6 y7
            obtain ⟨x8, x0, x1, x2, x3, x4, x5, x6, x7⟩ := HXA.out.kept B12.out (by have := HZ.out; omega)
            obtain ⟨y8, y0, y1, y2, y3, y4, y5, y6, y7⟩ := HXB.out.kept B12.out (by have := HZ.out; omega)
            go_wp2_with fail
            refine (awake_any _).mono ?_
            rintro e wz ⟨rfl, bz⟩
            have BZ := Lib.hid (HW.out.trans ((B12.out.trans (bz.mono B12.out.size)).mono HW.out.size))
            clear bz
            go_wp2_with fail
            go_ret
            exact ⟨rfl, BZ.out⟩
          · skip
            obtain ⟨Na, hNa⟩ : ∃ N, N = w_4.heap.size := ⟨_, rfl⟩
            have S0 := held_at hNa
            have lA : w.heap.size < Na := by have := B4.out.size; have := HZ.out; omega
            have lB : w.heap.size + 1 < Na := by have := B4.out.size; have := HZ.out; omega
            have HNa := Lib.hid hNa
            clear hNa
            have LWa : Hid (∀ W, Held Na w_4 W → Below w0.heap.size w0 W) := fun W h => B4.out.trans (h.2.1.out.mono (by rw [HNa.out]; exact B4.out.size))
            refine wp_region_noPanic ?_
            refine wp_region_held_drew (S := (fun W => (∀ b o, b < Na → W.cell? ⟨b, o, none⟩ = w_4.cell? ⟨b, o, none⟩) ∧ Hid (Below Na w_4 W) ∧ Hid (Na ≤ W.heap.size))) (by kernel_rfl) ?_ (fun hH => ?_)
            · exact S0
            refine wpAnyH_take (i := 0) (oi := { dst := some 24, op := Op.load 27 (Operand.tmp 2), type := 27, pos := "law.go:109", after := #[], guard := none }) (v := ?_) rfl (by kernel_rfl) (by kernel_rfl) (by kernel_rfl) (fun _ _ _ h => h) (Or.inl ⟨by rfl, ?_⟩) (by assumption) ?_
            rotate_left
            · (intro w hSw; (try dsimp only at hSw); go_simp; try with_reducible rfl)
            try simp only [Act.put, List.setIfInBounds_toArray, List.set_cons_zero, List.set_cons_succ]
            refine wpAnyH_take (i := 1) (oi := { dst := some 25, op := Op.load 27 (Operand.tmp 3), type := 27, pos := "law.go:109", after := #[], guard := none }) (v := ?_) rfl (by kernel_rfl) (by kernel_rfl) (by kernel_rfl) (fun _ _ _ h => h) (Or.inl ⟨by rfl, ?_⟩) (by assumption) ?_
            rotate_left
            · (intro w hSw; (try dsimp only at hSw); go_simp; try with_reducible rfl)
            try simp only [Act.put, List.setIfInBounds_toArray, List.set_cons_zero, List.set_cons_succ]
            refine wpAnyH_take (i := 3) (oi := { dst := some 27, op := Op.load 27 (Operand.tmp 3), type := 27, pos := "law.go:109", after := #[], guard := none }) (v := ?_) rfl (by kernel_rfl) (by kernel_rfl) (by kernel_rfl) (fun _ _ _ h => h) (Or.inl ⟨by rfl, ?_⟩) (by assumption) ?_
            rotate_left
            · (intro w hSw; (try dsimp only at hSw); go_simp; try with_reducible rfl)
            try simp only [Act.put, List.setIfInBounds_toArray, List.set_cons_zero, List.set_cons_succ]
            refine wpAnyH_take (i := 4) (oi := { dst := some 28, op := Op.load 27 (Operand.tmp 2), type := 27, pos := "law.go:109", after := #[], guard := none }) (v := ?_) rfl (by kernel_rfl) (by kernel_rfl) (by kernel_rfl) (fun _ _ _ h => h) (Or.inl ⟨by rfl, ?_⟩) (by assumption) ?_
            rotate_left
            · (intro w hSw; (try dsimp only at hSw); go_simp; try with_reducible rfl)
            try simp only [Act.put, List.setIfInBounds_toArray, List.set_cons_zero, List.set_cons_succ]
            refine wpAnyH_ready (rs := [2]) (by kernel_rfl) (by simp) ?_
            refine AllReadyH.cons (o := { dst := some 26, op := Op.call { callee := Callee.value (Operand.func 30), args := #[Operand.tmp 24, Operand.tmp 25], argTypes := #[27, 27] }, type := 4, pos := "law.go:109", after := #[{ on := 0, ground := Ground.data }, { on := 1, ground := Ground.data }], guard := none }) rfl (fun K hK => ?_) AllReadyH.nil
            go_simp
            refine (C1.out _ (LWa.out _ hH)).mono ?_
            rintro e W_0 ⟨rfl, b⟩
            refine hK.out _ _ ?_ (fun hH' => ?_)
            · exact held_next (by assumption) hH
            clear hK K hH
            have hH := hH'
            clear hH'
            try simp only [Act.put, List.setIfInBounds_toArray, List.set_cons_zero, List.set_cons_succ]
            refine wpAnyH_ready (rs := [5]) (by kernel_rfl) (by simp) ?_
            refine AllReadyH.cons (o := { dst := some 29, op := Op.call { callee := Callee.value (Operand.func 30), args := #[Operand.tmp 27, Operand.tmp 28], argTypes := #[27, 27] }, type := 4, pos := "law.go:109", after := #[{ on := 3, ground := Ground.data }, { on := 4, ground := Ground.data }, { on := 2, ground := Ground.chain }], guard := none }) rfl (fun K hK => ?_) AllReadyH.nil
            go_simp
            refine (C2.out _ (LWa.out _ hH)).mono ?_
            rintro e W_1 ⟨rfl, b⟩
            refine hK.out _ _ ?_ (fun hH' => ?_)
            · exact held_next (by assumption) hH
            clear hK K hH
            have hH := hH'
            clear hH'
            try simp only [Act.put, List.setIfInBounds_toArray, List.set_cons_zero, List.set_cons_succ]
            refine wpAnyH_take (i := 6) (oi := { dst := some 5, op := Op.assign (Operand.tmp 26), type := 4, pos := "law.go:109", after := #[{ on := 2, ground := Ground.data }, { on := 5, ground := Ground.chain }, { on := 0, ground := Ground.phase }, { on := 1, ground := Ground.phase }, { on := 2, ground := Ground.phase }, { on := 3, ground := Ground.textOnly Departure.lateStores }, { on := 4, ground := Ground.textOnly Departure.lateStores }, { on := 5, ground := Ground.textOnly Departure.lateStoresUnsure }], guard := none }) (v := ?_) rfl (by kernel_rfl) (by kernel_rfl) (by kernel_rfl) (fun _ _ _ h => h) (Or.inl ⟨by rfl, ?_⟩) (by assumption) ?_
            rotate_left
            · (intro w hSw; (try dsimp only at hSw); go_simp; try with_reducible rfl)
            try simp only [Act.put, List.setIfInBounds_toArray, List.set_cons_zero, List.set_cons_succ]
            refine wpAnyH_take (i := 7) (oi := { dst := some 6, op := Op.assign (Operand.tmp 29), type := 4, pos := "law.go:109", after := #[{ on := 5, ground := Ground.data }, { on := 6, ground := Ground.chain }, { on := 0, ground := Ground.phase }, { on := 1, ground := Ground.phase }, { on := 2, ground := Ground.phase }, { on := 3, ground := Ground.phase }, { on := 4, ground := Ground.phase }, { on := 5, ground := Ground.phase }, { on := 6, ground := Ground.phase }], guard := none }) (v := ?_) rfl (by kernel_rfl) (by kernel_rfl) (by kernel_rfl) (fun _ _ _ h => h) (Or.inl ⟨by rfl, ?_⟩) (by assumption) ?_
            rotate_left
            · (intro w hSw; (try dsimp only at hSw); go_simp; try with_reducible rfl)
            try simp only [Act.put, List.setIfInBounds_toArray, List.set_cons_zero, List.set_cons_succ]
            refine wpAnyH_done (by kernel_rfl) ?_ _
            refine NoPanic.normal ?_
            have B13 := Lib.hid (LWa.out _ hH)
            clear x8 x0 x1 x2 x3 x4 x5 x6 x7 y8 y0 y1 y2 y3 y4 y5 y6 y7
            clear S0 hH lA lB
            obtain ⟨x8, x0, x1, x2, x3, x4, x5, x6, x7⟩ := HXA.out.kept B13.out (by have := HZ.out; omega)
            obtain ⟨y8, y0, y1, y2, y3, y4, y5, y6, y7⟩ := HXB.out.kept B13.out (by have := HZ.out; omega)
            go_wp2_with fail
            refine (C3.out _ B13.out).mono ?_
            rintro e w_14 ⟨rfl, b_14⟩
            have B14 := Lib.hid (B13.out.trans (b_14.mono B13.out.size))
            clear b_14
            clear x8 x0 x1 x2 x3 x4 x5 x6 x7 y8 y0 y1 y2 y3 y4 y5 y6 y7
            obtain ⟨x8, x0, x1, x2, x3, x4, x5, x6, x7⟩ := HXA.out.kept B14.out (by have := HZ.out; omega)
            obtain ⟨y8, y0, y1, y2, y3, y4, y5, y6, y7⟩ := HXB.out.kept B14.out (by have := HZ.out; omega)
            go_wp2_with fail
            refine (C4.out _ B14.out).mono ?_
            rintro e w_15 ⟨rfl, b_15⟩
            have B15 := Lib.hid (B14.out.trans (b_15.mono B14.out.size))
            clear b_15
            clear x8 x0 x1 x2 x3 x4 x5 x6 x7 y8 y0 y1 y2 y3 y4 y5 y6 y7
            obtain ⟨x8, x0, x1, x2, x3, x4, x5, x6, x7⟩ := HXA.out.kept B15.out (by have := HZ.out; omega)
            obtain ⟨y8, y0, y1, y2, y3, y4, y5, y6, y7⟩ := HXB.out.kept B15.out (by have := HZ.out; omega)
            go_wp2_with fail
            refine (C5.out _ B15.out).mono ?_
            rintro e w_16 ⟨rfl, b_16⟩
            have B16 := Lib.hid (B15.out.trans (b_16.mono B15.out.size))
            clear b_16
            clear x8 x0 x1 x2 x3 x4 x5 x6 x7 y8 y0 y1 y2 y3 y4 y5 y6 y7
            obtain ⟨x8, x0, x1, x2, x3, x4, x5, x6, x7⟩ := HXA.out.kept B16.out (by have := HZ.out; omega)
            obtain ⟨y8, y0, y1, y2, y3, y4, y5, y6, y7⟩ := HXB.out.kept B16.out (by have := HZ.out; omega)
            go_wp2_with fail
            refine (awake_any _).mono ?_
            rintro e wz ⟨rfl, bz⟩
            have BZ := Lib.hid (HW.out.trans ((B16.out.trans (bz.mono B16.out.size)).mono HW.out.size))
            clear bz
            go_wp2_with fail
            go_ret
            exact ⟨rfl, BZ.out⟩
end Go.Proofs.Ytfgkkccgecnchaa
